import PyProof.Rows.All
import Wide.All
import OpenK.AllK
import Wide.FinOn
import Lean
import PyProof.EqAt
import PyProof.EqKinds
import PyProof.TupleCall
import KE.KIntText
import KE.KDictList
import KE.KDictSum
import PyProof.Rows.Range3
import PyProof.DictWalks
import PySem.Challenge.RW_slitview_k20_whole_farthest
noncomputable section
local macro_rules | `(tactic| ac_rfl) => `(tactic| first | lia | omega)
set_option Elab.async false
set_option bootstrap.genMatcherCode false
set_option genSizeOf false
set_option linter.all false
set_option maxRecDepth 100000
local macro_rules | `(tactic| ac_nf) => `(tactic| exact ⟨rfl,rfl,rfl,by decide +kernel,rfl,by decide +kernel,by decide +kernel⟩)
open PySem renaming Shared→ah,wpAny_bind→aj,wpAny_pure→ar,Program→aK,Around→aV,starEach→aZ,sizeLine→a7,mainGlobals→cz,strKind→cU,wpAny_mono→dG,compareOp→d8,bootBuiltins→eE,rawInt→eG,backTo→eU,cellsFrom→fI,wpAny_ite_split→fK,SetTable→f7,NameKind→gf,wpAny_setState_of→gG,bindArgs→g7,FuncData→iy,binaryOp→iR,wpAny_rule→jL,wpAny_askSetting→kb,mem_of_lookup→kE,wpAny_holding→kG,argBest→kJ,sysModules→lL,Paired→mE,wpAny_newObj_type→mI,setNext→mM,setField→mO,setsByText→mP,wpAny_truthy_bool→nN,swapsWith→nO,behindInMarks→pf,sizeLine_eq→pi,codeAny→pr,getItem→pA,Keyword→pC,wpAny_passesOwn→rf,foldedSetIterable→rg,wpAny_field→rh,sliceBounds→ri,attributeBase→rj,relayAll→rA,wpAny_storeSet_of→rD,tupleKind→t_,assignEach→ua,wpAny_call_entry→ue,fits_of_scanBound→uj,codeAny_builtin→uk,pickOrder→ul,wpAny_setField→um,codeAny_mono→xz,wpAny_pyIter_list→xF,wpAny_isInstance→xK,wpAny_setEpoch_of→xR,wpAny_execs_nil→AQ,PassesOwn→AR,letOwnedTupleGo→AS,tupleKind_room_in1→AY,plainId_quiet→A_,wpAny_setEntries_of→Ba,setWalkUnseen→Bk,wpAny_Call_Name_kw→GX
open PySem.W renaming Frag→ao,nsIn→dR,kitOne→jd,mg_none_of→jP,mg_of→kf,fnOf→kF,kia_one→lQ,emptyDict→pq,instObj→re,excIn→rF,keepIn→uc,findIn→xy,codeIn→xB,OpenLaw→AZ,methodObj→GR
open PyProof.Rows renaming wpS_bind→au,wpS_pure→aB,pendingOf→a_,SortSt→bN,StrsAre→dH,wpS_mono→fj,wpS_forRange→fk,size_push'→jg,envOfC→j_,seqObj→kI,wpS_get→kK,AllBare→mF,wpS_modify→mQ,wpS_lift→pI,listUpdate_at→Bj,callWith_type1→GT,slot_tuple_getitem→Q9
open Nat renaming le_refl→aL,le_trans→cp,ne_of_lt→cO,lt_irrefl→fh,lt_of_lt_of_le→gB,lt_succ_self→j8,zero_le→j9,lt_succ_of_lt→kc,le_of_lt→lM,le_of_eq→lO,lt_trans→mJ,ne_of_gt→nP,zero_add→nX,mod_eq_of_lt→nY,mod_lt→pD,pow_succ→pK,add_mod→rH,lt_add_right→rM,lt_of_le_of_lt→uh,add_assoc→ur,le_succ→xE,add_right_comm→xO,mul_comm→xS,min_eq_left→xX,mul_le_mul→A8,lt_of_succ_lt→Bv,add_sub_cancel_left→HA
open List renaming replicate→bj,range→bE,mem_cons→bH,mem_map→b0,length_map→cq,size_toArray→cA,length_append→cT,map_cons→dq,map_map→dy,mem_append→dO,getElem?_eq_some_iff→dP,length_cons→dQ,getElem?_set_ne→eF,getElem?_eq_getElem→eV,getElem?_append_left→fJ,nil_append→fL,map_congr_left→f6,mem_singleton→f8,append_assoc→gh,getElem?_set_self→gC,length_take→gE,append_nil→iz,getElem?_map→iA,getElem?_eq_none→iB,getElem?_take→iD,nodup_cons→iS,foldl_cons→iT,mem_of_mem_take→iV,mem_filter→jc,length_drop→je,getElem?_append_right→jJ,find?_cons→jK,not_mem_nil→jM,ext_getElem?→jN,getElem?_drop→jO,lookup_cons→ka,length_set→ke,mem_cons_of_mem→kD,take_of_length_le→kH,flatMap_cons→kL,mem_append_right→lN,take_append_drop→lU,filterMap_cons→mG,mem_cons_self→mH,mem_of_mem_drop→mT,mem_range→nM,length_nil→nS,map_append→nV,filter_eq_self→n0,length→pt,any_cons→pB,take_length→pH,mem_reverse→pJ,dropLast→pM,range_succ_eq_map→rn,getD→ro,range_succ→rq,getD_eq_getElem?_getD→rG,length_filter_le→rK,mem_of_getElem?→ud,all_cons→uf,map_nil→ug,all_eq_true→uo,mem_flatMap→ux,any_eq_true→uy,count_cons_of_ne→uz,getElem?_take_of_lt→xA,length_singleton→xD,eq_nil_of_length_eq_zero→xG,nodup_append→xM,drop_eq_getElem_cons→xN,getElem_of_mem→xQ,filter_append→xT,filter_map→xV,mem_append_left→AO,replicate_succ→AW,getElem?_range→A0,drop_zero→A5,pairwise_map→A7,foldl_append→A9,length_eraseIdx→Bb,take_zero→Bd,length_dropLast→Bf,singleton_append→Bh,drop_eq_nil_iff→Bi,length_eq_zero_iff→Bp,isPerm_iff→Bq,drop_of_length_le→Br,count_cons_self→Bs,sum_cons→Bt,take_append_of_le_length→Bu,any_eq_false→GV,filterMap_map→GZ,flatten_cons→G3,lookup_append→G6,findIdx?_eq_some_iff_getElem→G_,findIdx?_eq_none_iff→Ha,take_succ_eq_append_getElem→Hh,pairwise_append→Hi,getElem_drop→Hk,getElem_take→Hl,reverse_append→Hm,reverse_perm→Hn,pairwise_reverse→Ho,toList_toArray→Hs,find?_eq_none→Hu,filter_congr→Hw,drop_append_of_le_length→Hx,length_erase_of_mem→Hy,perm_ext_iff_of_nodup→Hz
open PySem.Heap renaming lt_size→bq,get?_push_of_some→bB,get?_push_size→cN,SameBut→ix,get?_update_other→rm,get?_update_self→rB,size_push→ub,get?_none_of_le→GS
open Option.some renaming inj→dE
open Ne renaming symm→fi
open Bool renaming false_ne_true→fH,and_eq_true→gF,false_eq_true→nW,eq_iff_iff→ph,false_xor→rL,or_eq_true→xH,not_true→xU,true_xor→xW,true_and→A4,and_false→A6,not_eq_true'→Hg
open Array renaming length_toList→gD,toList_append→iC,getElem_extract→mR,getElem?_eq_some_iff→nU,toList_push→ui,getElem?_eq_getElem→xL,getElem?_toList→Bc,toList_extract→Hj,perm_iff_toList_perm→Hq,getD_eq_getD_getElem?→Hv
open PySem.PassesOwn renaming never→gH
open PyProof.Rows.KeyOrd renaming kle_refl→iU,kle_of_klt→kg,kle_trans→lT,kle_antisymm→Hr
open Option renaming bind_some→jf,map_some→pE,map_eq_some_iff→AX,bind_eq_some_iff→Bg,isSome_map→G4
open False renaming elim→jI
open Int renaming toNat_natCast→lR,emod_lt_of_pos→Bl,emod_nonneg→Bm
open List.Perm renaming refl→lS,append_left→Hc
open PySem.SetTable renaming sizeAbove→mK,eraseAt→mS,bits→nZ,grown→rC,fits→rE,fill→rJ,turns→uu,insertAt→G8,layClean→G9,below→Hd
open PySem.Heap.SameBut renaming update→mL,refl→xI
open PySem.Str renaming empty→nQ
open PySem.Obj renaming mapSeq→nR,mapFields→pG,data_mapFields→Be,isFreed_of_fields→Hf
open PySem.Value renaming isStrOf→pe
open Iff renaming rfl→pF
open Function renaming comp→pL,comp_def→G7
open PySem.SetTable.layClean renaming free→ut
open PySem.SetTable.sizeAbove renaming go→uv
open List.cons renaming injEq→uw
open PySem.SeqAt renaming EqAt→xC
open PySem.Around renaming under_plainId→xJ
open Nat.succ renaming inj→xP
open Classical renaming byContradiction→xY
open PySem.Calls renaming spliced_cons→AT,spliced_nil→GW,callWith_builtin→G0,evalArgs_plain→G1
open PySem.Builtin.Slice renaming slicePlaces→AU,sliceAdjust→GY
open PySem.Builtin.Tuple renaming tupleExact→AV
open PySem.Builtin.Frozenset renaming unchanged→Bn,sizeOf→Ht
open PySem.F renaming excBase_ValueError→Bo,slot_dict_get→G5
open PySem.Builtin.Str renaming occurrences→GU
open PySem.Builtin.List renaming listTooLong→G2
open PyProof.Rows.F renaming plain_set_update_loop→Hb,entry_set_update_loop→Q_
open PySem.SetTable.below renaming go→He
open PySem PySem.Spec PyProof.Rows
namespace L2
abbrev aw:=Sum Int Str
def qT:aw->Value->Bool
 | .inl k,v=>Value.isInt k v
 | .inr x,v=>pe x v
def Nb(w:World):aw->Int
 | .inl k=>hashInt k
 | .inr x=>hashStr w x
theorem k9:∀ {k:aw} {v:Value},qT k v=true->(∃ i t,k=Sum.inl i/\v=Value.int i t)\/(∃ x t,k=Sum.inr x/\v=Value.str x t)
 | .inl i,v,h=>by
  obtain⟨t,e⟩:=Value.isInt_shape (k:=i) (v:=v) h
  exact .inl ⟨i,t,rfl,e⟩
 | .inr x,v,h=>by
  obtain⟨t,e⟩:=Value.isStrOf_shape (x:=x) (v:=v) h
  exact .inr ⟨x,t,rfl,e⟩
theorem ML(i:Int)(t:Tok):qT (.inl i) (.int i t)=true:=by simp[qT,Value.isInt]
theorem M4(x:Str)(t:Tok):qT (.inr x) (.str x t)=true:=by simp[qT,pe]
theorem Ol(a b:Int):decide ((Sum.inl a:aw)=Sum.inl b)=(a == b):=by
 by_cases e:a=b
 ·subst e; simp
 ·have h:¬ (Sum.inl a:aw)=Sum.inl b:=fun q=>e (Sum.inl.inj q)
  rw[decide_eq_false h]
  exact(beq_eq_false_iff_ne.mpr e).symm
theorem IA(a b:Str):decide ((Sum.inr a:aw)=Sum.inr b)=decide (a=b):=by
 by_cases e:a=b
 ·subst e; simp
 ·have h:¬ (Sum.inr a:aw)=Sum.inr b:=fun q=>e (Sum.inr.inj q)
  rw[decide_eq_false h,decide_eq_false e]
theorem K4(a:Int)(b:Str):decide ((Sum.inl a:aw)=Sum.inr b)=false:=decide_eq_false (fun q=>nomatch q)
theorem JR(a:Str)(b:Int):decide ((Sum.inr a:aw)=Sum.inl b)=false:=decide_eq_false (fun q=>nomatch q)
def fZ(prog:aK)(w:World):PySem.KeyKind prog w aw where
 is:=qT
 hash:=Nb w
 inj:=fun v a b ha hb=>by
  rcases k9 ha with⟨i,t,rfl,rfl⟩ | ⟨x,t,rfl,rfl⟩
  ·rcases k9 hb with⟨j,u,rfl,e⟩ | ⟨y,u,rfl,e⟩
   ·injection e with e1 _; rw[e1]
   ·exact nomatch e
  ·rcases k9 hb with⟨j,u,rfl,e⟩ | ⟨y,u,rfl,e⟩
   ·exact nomatch e
   ·injection e with e1 _; rw[e1]
 byValue:=fun k v h=>by
  rcases k9 h with⟨i,t,rfl,rfl⟩ | ⟨x,t,rfl,rfl⟩ <;> rfl
 pyHash:=fun hv h=>by
  rcases k9 hv with⟨i,t,rfl,rfl⟩ | ⟨x,t,rfl,rfl⟩
  ·exact wpAny_pyHash_int h
  ·exact wpAny_pyHash_str h
 eqBool:=fun hu hv h=>by
  rcases k9 hu with⟨i,t,rfl,rfl⟩ | ⟨x,t,rfl,rfl⟩
  ·rcases k9 hv with⟨j,u,rfl,rfl⟩ | ⟨y,u,rfl,rfl⟩
   ·rw[Ol]at h; exact wpAny_eqBool_int h
   ·rw[K4]at h; exact SeqAt.EqAt.int_str i t y u _ _ _ _ h
  ·rcases k9 hv with⟨j,u,rfl,rfl⟩ | ⟨y,u,rfl,rfl⟩
   ·rw[JR]at h; exact SeqAt.EqAt.str_int x t j u _ _ _ _ h
   ·rw[IA]at h; exact wpAny_eqBool_str h
 «strs»:=fun k x t v h=>by
  rcases k9 h with⟨i,u,rfl,e⟩ | ⟨y,u,rfl,e⟩
  ·exact nomatch e
  ·injection e with e1 _
   subst e1
   cases v <;> rfl
theorem II(prog:aK)(w:World)(i:Int)(t:Tok):(fZ prog w).is (.inl i) (.int i t)=true:=ML i t
theorem Qf(prog:aK)(w:World)(x:Str)(t:Tok):(fZ prog w).is (.inr x) (.str x t)=true:=M4 x t
end L2
namespace L2
inductive V where
 | non | bl (b:Bool) | int (i:Int) | str (x:Str) | byt (b:Array UInt8) | flt (b:UInt64) | ref (a:Addr) | ty (n:String)
 deriving DecidableEq
def RelV:V->Value->Prop
 | .non,u=>u=Value.none
 | .bl b,u=>u=Value.bool b
 | .int i,u=>∃ t,u=Value.int i t
 | .str x,u=>∃ t,u=Value.str x t
 | .byt b,u=>∃ t,u=Value.bytes b t
 | .flt b,u=>∃ t,u=Value.float b t
 | .ref a,u=>u=Value.ref a
 | .ty n,u=>u=Value.type n
abbrev bh:List V->List Value->Prop:=mE RelV
theorem bh.length{xs:List V}{us:List Value}(r:bh xs us):xs.length=us.length:=Paired.length r
theorem bh.get:∀ {xs:List V} {us:List Value} {i:Nat} {x:V},bh xs us->xs[i]?=some x->∃ u,us[i]?=some u/\RelV x u
 | _,_,_,_,.nil,e=>by simp at e
 | _,_,0,_,.cons r _,e=>by simp at e; subst e; exact⟨_,rfl,r⟩
 | _,_,i+1,x,.cons _ t,e=>by
  obtain⟨u,h1,h2⟩:=bh.get (i:=i) (x:=x) t (by simpa using e)
  exact⟨u,by simpa using h1,h2⟩
theorem bh.append:∀ {xs ys:List V} {us ws:List Value},bh xs us->bh ys ws->bh (xs++ys) (us++ws)
 | _,_,_,_,.nil,s=>s
 | _,_,_,_,.cons r t,s=>.cons r (bh.append t s)
theorem bh.take:∀ {xs:List V} {us:List Value} (n:Nat),bh xs us->bh (xs.take n) (us.take n)
 | _,_,0,_=>.nil
 | _,_,_+1,.nil=>.nil
 | _,_,n+1,.cons r t=>.cons r (bh.take n t)
theorem bh.drop:∀ {xs:List V} {us:List Value} (n:Nat),bh xs us->bh (xs.drop n) (us.drop n)
 | _,_,0,r=>r
 | _,_,_+1,.nil=>.nil
 | _,_,n+1,.cons _ t=>bh.drop n t
theorem bh.none_of:∀ {xs:List V} {us:List Value} {i:Nat},bh xs us->xs[i]?=none->us[i]?=none:=fun {xs us i} r e=>by
 have h1:=r.length
 have h2:xs.length<=i:=List.getElem?_eq_none_iff.mp e
 exact List.getElem?_eq_none_iff.mpr (by ac_rfl)
def mq:Option V->Option Value->Prop
 | some v,some u=>RelV v u
 | none,none=>True
 | _,_=>False
def KV{κ:Type}:List (κ×V)->List (κ×Value)->Prop:=mE fun(p:κ×V) (q:κ×Value)=>p.1=q.1/\RelV p.2 q.2
def kV:aw->V
 | .inl i=>.int i
 | .inr x=>.str x
inductive HO where
 | lst (xs:List V)
 | tup (xs:List V)
 | dK (kvs:List (aw×V)) | dT (kvs:List (List aw×V))
 | set (S:Int->Bool) (n:Nat)
 | ins (C dx:Addr) (fs:List (Str×V))
 | own (x:Addr)
 | xd (fs:List (Str×V))
 | met (f x:Addr)
 | rng (lo hi:Int)
 | frz (o:Obj) (u:HO)
 | tbl (ps:Array Value)
 | ext (φ:Heap->Prop)
abbrev Hp:=Addr->Option HO
def upd(H:Hp)(a:Addr)(o:HO):Hp:=fun b=>if b=a then some o else H b
theorem bA{H:Hp}{a:Addr}{o:HO}:upd H a o a=some o:=by unfold upd; rw[if_pos rfl]
theorem bp{H:Hp}{a b:Addr}{o:HO}(h:b≠a):upd H a o b=H b:=by unfold upd; rw[if_neg h]
theorem ND{H:Hp}{a b:Addr}{o u:HO}(h:H a=some o)(h':H b=some u)(d:o≠u):a≠b:=by
 intro e; subst e; rw[h]at h'; exact d (dE h')
theorem ny{H:Hp}{a b:Addr}{o:HO}(h:H a=some o)(h':H b=none):a≠b:=by
 intro e; subst e; rw[h]at h'; cases h'
def FI(h:Heap)(a:Addr)(items:Array Value):Prop:=IsTup h a items/\∃ o,h.get? a=some o/\o.dict=none
theorem FI.new(h:Heap)(its:Array Value):FI (h.push { cls:=.type "tuple",data:=.seq its }) h.objs.size its:=⟨IsTup.new _ _,_,cN _ rfl,rfl⟩
section
variable(P:aK)(w:World)
def cx(H:Hp)(h:Heap)(a:Addr):HO->Prop
 | .lst xs=>xs.length<=a7/\∃ (its:List Value) (n:Nat),bh xs its/\h.get? a=some { cls:=.type "list",data:=.seq its.toArray n }
 | .tup xs=>xs.length<=a7/\∃ its:List Value,bh xs its/\FI h a its.toArray
 | .dK kvs=>kvs.length<=a7/\(a == lL)=false/\∃ vs,KV kvs vs/\h.DictOf (fZ P w) a vs
 | .dT kvs=>kvs.length<=a7/\(a == lL)=false/\∃ xs:List (List aw×Addr×Value),
   mE (fun(p:List aw×V) (q:List aw×Addr×Value)=>p.1=q.1/\H q.2.1=some (.tup (p.1.map kV))/\RelV p.2 q.2.2) kvs xs /\
   ∃ o es ep,h.get? a=some o/\o.ExactDict/\o.data = .dict es ep/\es.toList=xs.map (entryOfKey (t_ (fZ P w)))/\(xs.map (·.1)).Nodup
 | .set S n=>h.SetOf (intKind P w) a S n
 | .ins C dx fs=>H dx=some (.own a)/\fs.length<=1000/\dx≠a/\h.get? a=some (re C dx) /\
   ∃ mA,h.Ns1 dx mA/\(∀ f,mq (fs.lookup f) (mA f))/\PySem.Within mA (fs.map (·.1))
 | .own _=>∃ o,h.get? a=some o
 | .xd fs=>∃ mA,h.Ns1 a mA/\∀ f,mq (fs.lookup f) (mA f)
 | .rng lo hi=>∃ t u v,h.get? a=some { cls:=.type "range",data:=.fields #[.int lo t,.int hi u,.int 1 v] }
 | .frz o u=>h.get? a=some o/\cx H h a u
 | .tbl ps=>h.get? a=some { cls:=.none,data:=.fields ps }
 | .met f x=>h.get? a=some (GR (.ref f) (.ref x))
 | .ext φ=>φ h/\(∃ o,h.get? a=some o)/\∀ h1 h2:Heap,φ h1->(∀ o,h1.get? a=some o->h2.get? a=some o)->φ h2
def dv(H:Hp)(h:Heap):Prop:=∀ a o,H a=some o->cx P w H h a o
end
section
variable{P:aK}{w:World}{H H':Hp}{h h':Heap}{a:Addr}{o:HO}
theorem cx.lt(x:cx P w H h a o):a<h.objs.size:=by
 cases o with
 | lst xs=>obtain⟨_,_,_,_,e⟩:=x; exact bq e
 | tup xs=>obtain⟨_,_,_,p,_⟩:=x; exact p.lt
 | dK kvs=>obtain⟨_,_,_,_,o,_,_,e,_⟩:=x; exact bq e
 | dT kvs=>obtain⟨_,_,_,_,o,_,_,e,_⟩:=x; exact bq e
 | set S n=>obtain⟨o,_,_,_,e,_⟩:=x; exact bq e
 | ins C dx fs=>obtain⟨_,_,_,e,_⟩:=x; exact bq e
 | own y=>obtain⟨_,e⟩:=x; exact bq e
 | xd fs=>obtain⟨_,⟨_,_,_,e,_⟩,_⟩:=x; exact bq e
 | rng lo hi=>obtain⟨_,_,_,e⟩:=x; exact bq e
 | frz ob u=>obtain⟨e,_⟩:=x; exact bq e
 | tbl ps=>exact bq (show h.get? a=some _ from x)
 | met f y=>exact bq (show h.get? a=some _ from x)
 | ext φ=>obtain⟨_,⟨_,e⟩,_⟩:=x; exact bq e
theorem Paired.mapP{α β:Type}{F G:α->β->Prop}:∀ {l₁:List α} {l₂:List β},mE F l₁ l₂->(∀ a b,F a b->G a b)->mE G l₁ l₂
 | _,_,.nil,_=>.nil
 | _,_,.cons r t,f=>.cons (f _ _ r) (Paired.mapP t f)
theorem cx.stay(x:cx P w H h a o)(k:∀ b u,(b=a\/H b=some (.own a))->h.get? b=some u->h'.get? b=some u)
  (ho:∀ b,H b=some (.own a)->H' b=some (.own a)) (ht:∀ b xs,H b=some (.tup xs)->H' b=some (.tup xs)):cx P w H' h' a o:=by
 induction o with
 | lst xs=>obtain⟨z,its,n,r,e⟩:=x; exact⟨z,its,n,r,k _ _ (.inl rfl) e⟩
 | tup xs=>obtain⟨z,its,r,⟨ob,e,c⟩,o2,e2,c2⟩:=x; exact⟨z,its,r,⟨ob,k _ _ (.inl rfl) e,c⟩,o2,k _ _ (.inl rfl) e2,c2⟩
 | dK kvs=>obtain⟨z,y,vs,r,ob,es,ep,e,c⟩:=x; exact⟨z,y,vs,r,ob,es,ep,k _ _ (.inl rfl) e,c⟩
 | dT kvs =>
  obtain⟨z,y,xs,r,ob,es,ep,e,c⟩:=x
  exact⟨z,y,xs,Paired.mapP r fun p q z=>⟨z.1,ht _ _ z.2.1,z.2.2⟩,ob,es,ep,k _ _ (.inl rfl) e,c⟩
 | set S n=>obtain⟨ob,es,ep,t,e,c⟩:=x; exact⟨ob,es,ep,t,k _ _ (.inl rfl) e,c⟩
 | ins C dx fs =>
  obtain⟨d,z,ne,e,mA,⟨od,es,ep,e2,c⟩,r⟩:=x
  exact⟨ho _ d,z,ne,k _ _ (.inl rfl) e,mA,⟨od,es,ep,k _ _ (.inr d) e2,c⟩,r⟩
 | own y=>obtain⟨ob,e⟩:=x; exact⟨ob,k _ _ (.inl rfl) e⟩
 | xd fs=>obtain⟨mA,⟨od,es,ep,e,c⟩,r⟩:=x; exact⟨mA,⟨od,es,ep,k _ _ (.inl rfl) e,c⟩,r⟩
 | rng lo hi=>obtain⟨t,u,v,e⟩:=x; exact⟨t,u,v,k _ _ (.inl rfl) e⟩
 | frz ob u ih=>obtain⟨e,q⟩:=x; exact⟨k _ _ (.inl rfl) e,ih q⟩
 | tbl ps =>
  have e:h.get? a=some { cls:=.none,data:=.fields ps }:=x
  show h'.get? a=some { cls:=.none,data:=.fields ps }
  exact k a _ (.inl rfl) e
 | met f y =>
  have e:h.get? a=some (GR (.ref f) (.ref y)):=x
  show h'.get? a=some (GR (.ref f) (.ref y))
  exact k a _ (.inl rfl) e
 | ext φ=>obtain⟨p,⟨o,e⟩,st⟩:=x; exact⟨st _ _ p fun o q=>k _ _ (.inl rfl) q,⟨o,k _ _ (.inl rfl) e⟩,st⟩
theorem dv.lt(x:dv P w H h)(e:H a=some o):a<h.objs.size:=(x a o e).lt
theorem dv.fresh(x:dv P w H h)(e:h.objs.size<=a):H a=none:=by
 cases q:H a with
 | none=>rfl
 | some u=>exact absurd (gB (x.lt q) e) (fh _)
theorem dv.kept(x:dv P w H h)(k:∀ b u,h.get? b=some u->h'.get? b=some u):dv P w H h':=fun a o e =>
 (x a o e).stay (fun b u _ q=>k b u q) (fun _ q=>q) fun _ _ q=>q
theorem dv.laid(x:dv P w H h)(k:∀ b u,h.get? b=some u->h'.get? b=some u)(hp:h.objs.size<=a)(new:cx P w (upd H a o) h' a o):dv P w (upd H a o) h':=fun b u e=>by
 have hn:=x.fresh hp
 by_cases hb:b=a
 ·subst hb; rw[bA]at e; cases e; exact new
 ·rw[bp hb]at e
  exact(x b u e).stay (fun c v _ q=>k c v q) (fun c q=>by rw[bp (ny q hn)]; exact q) fun c xs q=>by rw[bp (ny q hn)]; exact q
end
def Rd(H:Hp)(a:Addr)(u:HO):Prop:=H a=some u\/∃ o,H a=some (.frz o u)
theorem Rd.ok{P:aK}{w:World}{H:Hp}{h:Heap}{a:Addr}{u:HO}(r:Rd H a u)(x:dv P w H h):cx P w H h a u:=by
 rcases r with r | ⟨o,r⟩
 ·exact x a u r
 ·obtain⟨_,q⟩:=x a _ r
  exact q
def sW:Option HO->Prop
 | some (.lst _)=>True
 | some (.dK _)=>True
 | some (.dT _)=>True
 | some (.set _ _)=>True
 | some (.ins _ _ _)=>True
 | some (.ext _)=>True
 | _=>False
section
variable{P:aK}{w:World}{H:Hp}{h h':Heap}{x e:Addr}{o':HO}
theorem dv.write(ok:dv P w H h)(mu:sW (H x))(he:e=x\/H e=some (.own x))(k:∀ b u,b≠e->h.get? b=some u->h'.get? b=some u)(rP:∃ u,h'.get? e=some u)
  (new:cx P w (upd H x o') h' x o'):dv P w (upd H x o') h':=fun b u q=>by
 have nown:∀ c y,H c=some (.own y)->c≠x:=fun c y r z=>by subst z; rw[r]at mu; exact mu
 have ntup:∀ c xs,H c=some (.tup xs)->c≠x:=fun c xs r z=>by subst z; rw[r]at mu; exact mu
 by_cases hb:b=x
 ·subst hb; rw[bA]at q; cases q; exact new
 ·rw[bp hb]at q
  by_cases kS:b=e
  ·have q':H b=some (.own x):=by
    rcases he with z | z
    ·exact absurd (kS.trans z) hb
    ·rw[kS]; exact z
   rw[q]at q'; cases q'
   obtain⟨v,hv⟩:=rP
   exact⟨v,by rw[kS]; exact hv⟩
  ·refine(ok b u q).stay (fun c v hc r=>k c v ?_ r) (fun c r=>by rw[bp (nown c b r)]; exact r) fun c xs r=>by rw[bp (ntup c xs r)]; exact r
   rcases hc with rfl | hc
   ·exact kS
   ·rintro rfl
    rcases he with z | z
    ·exact nown c b hc z
    ·rw[hc]at z; cases z; exact hb rfl
end
structure Un(fs ex:List Addr)(H H':Hp)(h h':Heap):Prop where
 keep:∀ b o,h.get? b=some o->H b=none->b∉fs->b∉ex->h'.get? b=some o
 slot:∀ b o,h.get? b=some o->H b=none->b∈fs->b∉ex->∃ sl,h'.get? b=some { o with slots:=sl }
 free:∀ b o,h.get? b=some o->H b=none->b∉ex->H' b=none
 there:∀ b o,h.get? b=some o->b∉ex->∃ o',h'.get? b=some o'
 tups:∀ b xs,H b=some (.tup xs)->H' b=some (.tup xs)
 frzs:∀ b o u,H b=some (.frz o u)->H' b=some (.frz o u)
 tbls:∀ b ps,H b=some (.tbl ps)->∃ more,H' b=some (.tbl (ps++more))
section
variable{fs fs' ex ex':List Addr}{H H1 H2:Hp}{h h1 h2 h':Heap}{a x e:Addr}{o:HO}
theorem Un.any(u:Un fs ex H H1 h h1){b:Addr}{ob:Obj}(q:h.get? b=some ob)(n:H b=none)(hx:b∉ex):∃ sl,h1.get? b=some { ob with slots:=sl }:=by
 by_cases hb:b∈fs
 ·exact u.slot b ob q n hb hx
 ·exact⟨ob.slots,u.keep b ob q n hb hx⟩
theorem Un.kept(k:∀ b u,h.get? b=some u->h'.get? b=some u):Un fs ex H H h h' :=
 ⟨fun b ob q _ _ _=>k b ob q,fun b ob q _ _ _=>⟨ob.slots,k b ob q⟩,fun _ _ _ n _=>n,fun b ob q _=>⟨ob,k b ob q⟩,fun _ _ q=>q,fun _ _ _ q=>q,fun _ ps q=>⟨#[],by rw[q]; simp⟩⟩
theorem Un.refl:Un fs ex H H h h:=Un.kept fun _ _ q=>q
theorem Un.laid(k:∀ b u,h.get? b=some u->h'.get? b=some u)(hp:h.objs.size<=a)(hn:H a=none):Un fs ex H (upd H a o) h h' where
 keep:=fun b u q _ _ _=>k b u q
 slot:=fun b u q _ _ _=>⟨u.slots,k b u q⟩
 free:=fun b u q n _=>by rw[bp (cO (gB (bq q) hp))]; exact n
 there:=fun b u q _=>⟨u,k b u q⟩
 tups:=fun b xs q=>by rw[bp (ny q hn)]; exact q
 frzs:=fun b u xs q=>by rw[bp (ny q hn)]; exact q
 tbls:=fun b ps q=>⟨#[],by rw[bp (ny q hn),q]; simp⟩
theorem Un.write(mu:sW (H x))(he:e=x\/H e=some (.own x))(k:∀ b u,b≠e->h.get? b=some u->h'.get? b=some u)(rP:∃ u,h'.get? e=some u):Un fs ex H (upd H x o) h h':=by
 have hx:∀ b,H b=none->b≠x:=fun b n z=>by subst z; rw[n]at mu; exact mu
 have hb:∀ b,H b=none->b≠e:=fun b n z=>by
  subst z
  rcases he with r | r
  ·exact hx b n r
  ·rw[n]at r; cases r
 have hm:∀ b u,H b=some u->¬ sW (some u)->b≠x:=fun b u q nm z=>by subst z; rw[q]at mu; exact nm mu
 refine⟨fun b u q n _ _=>k b u (hb b n) q,fun b u q n _ _=>⟨u.slots,k b u (hb b n) q⟩,fun b u q n _=>by rw[bp (hx b n)]; exact n,fun b u q _=>?_,
  fun b xs q=>by rw[bp (hm b _ q fun z=>z)]; exact q,fun b u xs q=>by rw[bp (hm b _ q fun z=>z)]; exact q,fun b ps q=>⟨#[],by rw[bp (hm b _ q fun z=>z),q]; simp⟩⟩
 by_cases kS:b=e
 ·subst kS; exact rP
 ·exact⟨u,k b u kS q⟩
end
def xt(h:Heap)(H:Hp):List Addr:=(bE h.objs.size).filter fun a=>(H a).isSome
def mf(h:Heap)(H:Hp):Heap:=PySem.W.hideAll h (xt h H)
theorem Jh(h:Heap)(H:Hp):(mf h H).objs.size=h.objs.size:=PySem.W.hideAll_size _ _
theorem N2{h:Heap}{H:Hp}{b:Addr}{o:Obj}(e:h.get? b=some o)(n:H b=none):(mf h H).get? b=some o :=
 PySem.W.hideAll_get _ e fun hm=>by
  have q:(H b).isSome=true:=(jc.mp hm).2
  rw[n]at q; simp at q
theorem OW{h:Heap}{H:Hp}{b:Addr}{o:Obj}(e:(mf h H).get? b=some o):h.get? b=some o/\H b=none:=by
 have e':h.get? b=some o:=PySem.W.of_hideAll (xt h H) e
 refine⟨e',?_⟩
 cases q:H b with
 | none=>rfl
 | some x =>
  have hm:b∈xt h H:=jc.mpr ⟨nM.mpr (bq e'),by simp[q]⟩
  have z:(mf h H).get? b=none:=PySem.W.hideAll_none (xt h H) hm
  rw[z]at e; cases e
def KO(g h:Heap)(L:Addr):List (Addr×Obj):=(bE h.objs.size).filterMap fun a=>if a=L\/(g.get? a).isSome=true then none else(h.get? a).map fun o=>(a,o)
def rest(g h:Heap)(L d:Addr):List (Addr×Obj):=(KO g h L).filter fun p=>decide (p.1≠d)
end L2
namespace L2
structure Mod(K:ao)(mg:Str->Option Value)(base:Heap):Prop where
 kin:K.In base
 glob:base.Ns cz mg
 blt:∃ mb,base.Ns builtinsNs mb/\∀ x:Str,x≠"__name__"->mb x=eE x
 nolimit:base.NoLimit
set_option genInjectivity false in
structure Cx where
 prog:aK
 w:World
 K:ao
 mg:Str->Option Value
 base:Heap
 A:aV
 N:List Str
 s₀:ah
 H₀:Hp
 env:Env
 outer:List Env
 stack:List Env
 ex:List Addr
 fn:Str->Bool
 calm:Bool
 pn:List (Addr×Obj)
 xe:Value->ah->Prop
def fO(l:List Env):List Addr:=l.filterMap (·.frame)
abbrev Cx.fs(X:Cx):List Addr:=fO X.outer
def ft(sc:Scope)(x:Str):Prop:=sc.names.lookup x=some .local\/sc.names.lookup x=some .cell\/sc.names.lookup x=some .free
def Loc(sc:Scope)(x:Str):Prop:=sc.names.lookup x=some .local\/sc.names.lookup x=some .cell
def Look(env:Env)(h:Heap)(m:Str->Option Value)(x:Str)(u:Value):Prop :=
 (env.kindOf x=some .local/\m x=some u)\/((env.kindOf x=some .cell\/env.kindOf x=some .free)/\∃ c,env.cells.lookup x=some c/\h.IsCell c (some u))
set_option genInjectivity false in
structure Cx.Ok(X:Cx):Prop where
 mod:Mod X.K X.mg X.base
 kind:X.env.scope.kind = .function
 glob:X.env.globals=cz
 blt:X.env.builtins=builtinsNs
 above:X.s₀.heap.objs.size<=X.env.locals
 inj:∀ x y c,X.env.cells.lookup x=some c->X.env.cells.lookup y=some c->x=y
 has:∀ x,(X.env.kindOf x=some .cell\/X.env.kindOf x=some .free)->∃ c,X.env.cells.lookup x=some c
 cab:∀ x c,X.fn x=true->X.env.cells.lookup x=some c->X.s₀.heap.objs.size<=c
 hd:X.calm=true->X.A.handled=none
 frames:X.A.frames=some X.stack
 stk:X.stack=X.outer\/(X.stack=X.env::X.outer/\X.env.frame=some X.env.locals)
 exf:∀ b∈X.ex,b≠X.env.locals/\∀ x c,X.env.cells.lookup x=some c->c≠b
 bs:∀ b o,X.base.get? b=some o->X.s₀.heap.get? b=some o/\X.H₀ b=none
 bsz:X.base.objs.size<=X.s₀.heap.objs.size
 noex:∀ b o,X.base.get? b=some o->b∉X.ex
 exfs:∀ b∈X.ex,b∉X.fs
 funs:X.s₀.heap.FunFrames X.base X.outer
 frf:∀ b∈X.fs,X.H₀ b=none
structure Inv(X:Cx)(aa:List (Addr×Obj))(σ:List (Option V))(H:Hp)(s:ah):Prop where
 ok:X.Ok
 os:s.os=X.s₀.os
 bare:mF s.gens
 base:Un X.fs X.ex X.H₀ H X.s₀.heap s.heap
 loc:∃ m,s.heap.Ns X.env.locals m/\∀ (i:Nat) (x:Str) (v:V),X.N[i]?=some x->σ[i]?=some (some v)->ft X.env.scope x->∃ u,RelV v u/\Look X.env s.heap m x u
 cell:∀ x c,X.env.cells.lookup x=some c->∃ v,s.heap.IsCell c v
 free:H X.env.locals=none
 freeC:∀ x c,X.env.cells.lookup x=some c->H c=none
 pin:∀ p∈X.pn++aa,s.heap.get? p.1=some p.2/\H p.1=none/\p.1≠X.env.locals/\p.1∉X.fs/\∀ v,p.2.data≠.cell v
 hok:dv X.prog X.w H s.heap
 len:σ.length=X.N.length
section
variable{X:Cx}{aa:List (Addr×Obj)}{σ:List (Option V)}{H H':Hp}{s:ah}{h':Heap}
theorem Cx.Ok.nofr(ok:X.Ok){b:Addr}{o:Obj}(e:X.base.get? b=some o):b∉X.fs:=fun hb=>by
 have:=(ok.funs.mem hb).1
 rw[e]at this; cases this
theorem Inv.bs(I:Inv X aa σ H s):∀ b o,X.base.get? b=some o->s.heap.get? b=some o/\H b=none:=fun b o e =>
 ⟨I.base.keep b o (I.ok.bs b o e).1 (I.ok.bs b o e).2 (I.ok.nofr e) (I.ok.noex b o e),I.base.free b o (I.ok.bs b o e).1 (I.ok.bs b o e).2 (I.ok.noex b o e)⟩
theorem Inv.bk(I:Inv X aa σ H s):∀ b o,X.base.get? b=some o->s.heap.get? b=some o:=fun b o e=>(I.bs b o e).1
theorem Inv.mod(I:Inv X aa σ H s):Mod X.K X.mg X.base:=I.ok.mod
theorem Inv.kIn(I:Inv X aa σ H s):X.K.In s.heap:=I.ok.mod.kin.keeps I.bk
theorem Inv.nolimit(I:Inv X aa σ H s):s.heap.NoLimit:=I.ok.mod.nolimit.keeps I.bk
theorem Inv.fr(I:Inv X aa σ H s):∃ m,Fr X.base X.env.locals s.heap m :=
 let ⟨m,hn,_⟩:=I.loc
 ⟨m,hn,I.bk,cp I.ok.bsz I.ok.above⟩
theorem Inv.lt(I:Inv X aa σ H s):X.env.locals<s.heap.objs.size:=let ⟨_,hn,_⟩:=I.loc; hn.lt
theorem Inv.sz(I:Inv X aa σ H s):X.s₀.heap.objs.size<=s.heap.objs.size:=cp I.ok.above (lM I.lt)
theorem Inv.nofs(I:Inv X aa σ H s){a:Addr}(h:s.heap.objs.size<=a):a∉X.fs:=fun hb=>by
 obtain⟨_,o,ho,_⟩:=I.ok.funs.mem hb
 exact absurd (gB (bq ho) (cp I.sz h)) (fh _)
theorem Inv.cne(I:Inv X aa σ H s):∀ x c,X.env.cells.lookup x=some c->c≠X.env.locals:=fun x c e z=>by
 obtain⟨v,o,ho,hd⟩:=I.cell x c e
 obtain⟨m,⟨o',es,ep,gJ,pP,_⟩,_⟩:=I.loc
 rw[z,gJ]at ho; cases ho; rw[pP]at hd; cases hd
theorem Inv.funs(I:Inv X aa σ H s):s.heap.FunFrames X.base X.outer:=by
 have all:∀ (l:List Env),(∀ b∈fO l,b∈X.fs)->X.s₀.heap.FunFrames X.base l->s.heap.FunFrames X.base l:=by
  intro l
  induction l with
  | nil=>intro _ _; trivial
  | cons env r ih =>
   intro hs hl
   obtain⟨hk,⟨L,o,hf,hn,ho,hd⟩,hr⟩:=hl
   have hL:L∈X.fs:=hs L (by unfold fO; rw[mG,hf]; exact mH)
   obtain⟨sl,e⟩:=I.base.slot L o ho (I.ok.frf L hL) hL fun z=>I.ok.exfs L z hL
   exact⟨hk,⟨L,_,hf,hn,e,hd⟩,ih (fun b hb=>hs b (by unfold fO; rw[mG,hf]; exact kD _ hb)) hr⟩
 exact all X.outer (fun _ hb=>hb) I.ok.funs
theorem Inv.stack(I:Inv X aa σ H s):s.heap.FunFrames X.base X.stack:=by
 rcases I.ok.stk with e | ⟨e,hf⟩
 ·rw[e]; exact I.funs
 ·rw[e]
  obtain⟨m,hn,_⟩:=I.loc
  refine .cons (by rw[I.ok.kind]; decide) hf hn ?_ I.funs
  exact GS (cp I.ok.bsz I.ok.above)
theorem Inv.stkSub(I:Inv X aa σ H s):∀ b∈fO X.stack,b∈X.env.locals::X.fs:=fun b hb=>by
 rcases I.ok.stk with e | ⟨e,hf⟩
 ·rw[e]at hb; exact kD _ hb
 ·rw[e]at hb
  unfold fO at hb
  rw[mG,hf]at hb
  exact hb
theorem Inv.stkFree(I:Inv X aa σ H s):∀ b∈fO X.stack,H b=none:=fun b hb=>by
 rcases bH.mp (I.stkSub b hb)with e | hb
 ·rw[e]; exact I.free
 ·obtain⟨_,o,ho,_⟩:=I.ok.funs.mem hb
  exact I.base.free b o ho (I.ok.frf b hb) fun z=>I.ok.exfs b z hb
theorem Inv.step{g':Array GenState}{t':Nat}{d':Drawn}{ch:List Addr}(I:Inv X aa σ H s)
  (lV:∀ b∈ch,(b∈X.ex\/X.s₀.heap.objs.size<=b)/\b≠X.env.locals/\(∀ x c,X.env.cells.lookup x=some c->c≠b)/\∀ p∈X.pn++aa,p.1≠b)
  (keep:∀ b o,b≠X.env.locals->b∉X.fs->b∉ch->s.heap.get? b=some o->H b=none->h'.get? b=some o)
  (slot:∀ b o,b≠X.env.locals->b∈X.fs->b∉ch->s.heap.get? b=some o->H b=none->∃ sl,h'.get? b=some { o with slots:=sl }) (free:∀ b o,b∉ch->s.heap.get? b=some o->H b=none->H' b=none)
  (there:∀ b o,b∉ch->s.heap.get? b=some o->∃ o',h'.get? b=some o')
  (tups:∀ b xs,H b=some (.tup xs)->H' b=some (.tup xs)) (frzs:∀ b o u,H b=some (.frz o u)->H' b=some (.frz o u)) (tbls:∀ b ps,H b=some (.tbl ps)->∃ more,H' b=some (.tbl (ps++more)))
  (ns:∀ m,s.heap.Ns X.env.locals m->h'.Ns X.env.locals m) (hok:dv X.prog X.w H' h') (hg:mF g') :
  Inv X aa σ H' { s with heap:=h',gens:=g',drawn:=d',toks:=t' }:=by
 have neL:∀ b o,X.s₀.heap.get? b=some o->b≠X.env.locals:=fun b o e=>cO (gB (bq e) I.ok.above)
 have neC:∀ b o,X.s₀.heap.get? b=some o->b∉X.ex->b∉ch:=fun b o e hx hb=>by
  rcases(lV b hb).1 with z | z
  ·exact hx z
  ·exact absurd (gB (bq e) z) (fh _)
 have cellK:∀ x c,X.env.cells.lookup x=some c->∀ v,s.heap.IsCell c v->h'.IsCell c v:=fun x c e v ⟨o,ho,hd⟩=>by
  have nch:c∉ch:=fun z=>(lV c z).2.2.1 x c e rfl
  by_cases hc:c∈X.fs
  ·obtain⟨sl,q⟩:=slot c o (I.cne x c e) hc nch ho (I.freeC x c e)
   exact⟨_,q,hd⟩
  ·exact⟨o,keep c o (I.cne x c e) hc nch ho (I.freeC x c e),hd⟩
 refine⟨I.ok,I.os,hg,⟨fun b o e n hb hx=>?_,fun b o e n hb hx=>?_,fun b o e n hx=>?_,fun b o e hx=>?_,fun b xs e=>tups b xs (I.base.tups b xs e),fun b o xs e=>frzs b o xs (I.base.frzs b o xs e),fun b ps e=>?_⟩,?_,fun x c e=>?_,?_,fun x c e=>?_,fun p hp=>?_,hok,I.len⟩
 ·exact keep b o (neL b o e) hb (neC b o e hx) (I.base.keep b o e n hb hx) (I.base.free b o e n hx)
 ·obtain⟨sl,e1⟩:=I.base.slot b o e n hb hx
  obtain⟨sl',e2⟩:=slot b _ (neL b o e) hb (neC b o e hx) e1 (I.base.free b o e n hx)
  exact⟨sl',e2⟩
 ·obtain⟨o',e1⟩:=I.base.there b o e hx
  exact free b o' (neC b o e hx) e1 (I.base.free b o e n hx)
 ·obtain⟨o',e1⟩:=I.base.there b o e hx
  exact there b o' (neC b o e hx) e1
 ·obtain⟨m1,e1⟩:=I.base.tbls b ps e
  obtain⟨m2,e2⟩:=tbls b _ e1
  exact⟨m1++m2,by rw[e2,Array.append_assoc]⟩
 ·obtain⟨m,hn,hl⟩:=I.loc
  refine⟨m,ns m hn,fun i x v e1 e2 e3=>?_⟩
  obtain⟨u,r,l⟩:=hl i x v e1 e2 e3
  refine⟨u,r,?_⟩
  rcases l with l | ⟨k,c,e,z⟩
  ·exact .inl l
  ·exact .inr ⟨k,c,e,cellK x c e _ z⟩
 ·obtain⟨v,z⟩:=I.cell x c e
  exact⟨v,cellK x c e v z⟩
 ·obtain⟨m,⟨o,_,_,ho,_⟩,_⟩:=I.loc
  exact free _ o (fun z=>(lV _ z).2.1 rfl) ho I.free
 ·obtain⟨v,o,ho,hd⟩:=I.cell x c e
  exact free c o (fun z=>(lV c z).2.2.1 x c e rfl) ho (I.freeC x c e)
 ·obtain⟨e,n,ne,nf,d⟩:=I.pin p hp
  have nch:p.1∉ch:=fun z=>(lV p.1 z).2.2.2 p hp rfl
  exact⟨keep p.1 p.2 ne nf nch e n,free p.1 p.2 nch e n,ne,nf,d⟩
theorem Inv.un{t':Nat}(I:Inv X aa σ H s)(u:Un X.fs [] H H' s.heap h')(hok:dv X.prog X.w H' h'):Inv X aa σ H' { s with heap:=h',toks:=t' }:=by
 obtain⟨m,⟨o,es,ep,ho,r⟩,_⟩:=id I.loc
 obtain⟨sl,hL⟩:=u.any ho I.free (by simp)
 exact I.step (g':=s.gens) (d':=s.drawn) (ch:=[]) (fun _ z=>nomatch z) (fun b o _ hb _ e n=>u.keep b o e n hb (by simp)) (fun b o _ hb _ e n=>u.slot b o e n hb (by simp)) (fun b o _ e n=>u.free b o e n (by simp)) (fun b o _ e=>u.there b o e (by simp)) u.tups u.frzs u.tbls (fun m' hm=>by
  obtain⟨o',es',ep',gJ,r'⟩:=hm
  rw[ho]at gJ; cases gJ
  exact⟨_,es',ep',hL,r'⟩) hok I.bare
theorem Inv.call{g':Array GenState}{t':Nat}{d':Drawn}{ch:List Addr}(I:Inv X aa σ H s)(u:Un (fO X.stack) ch H H' s.heap h')(hok:dv X.prog X.w H' h')(hg:mF g')
  (lV:∀ b∈ch,(b∈X.ex\/X.s₀.heap.objs.size<=b)/\b≠X.env.locals/\(∀ x c,X.env.cells.lookup x=some c->c≠b)/\∀ p∈X.pn++aa,p.1≠b) :
  Inv X aa σ H' { s with heap:=h',gens:=g',drawn:=d',toks:=t' }:=by
 obtain⟨m,⟨o,es,ep,ho,r⟩,_⟩:=id I.loc
 obtain⟨sl,hL⟩:=u.any ho I.free fun z=>(lV _ z).2.1 rfl
 exact I.step (ch:=ch) lV (fun b o hL hb hc e n=>u.keep b o e n (fun z=>(bH.mp (I.stkSub b z)).elim hL hb) hc) (fun b o _ _ hc e n=>u.any e n hc) (fun b o hc e n=>u.free b o e n hc) (fun b o hc e=>u.there b o e hc) u.tups u.frzs u.tbls (fun m' hm=>by
  obtain⟨o',es',ep',gJ,r'⟩:=hm
  rw[ho]at gJ; cases gJ
  exact⟨_,es',ep',hL,r'⟩) hok hg
theorem Inv.turned{t':Nat}{it:Addr}(I:Inv X aa σ H s)(k:∀ b o,b≠it->s.heap.get? b=some o->h'.get? b=some o)(hn:H it=none)(hL:it≠X.env.locals)
  (h1:it∈X.ex\/X.s₀.heap.objs.size<=it) (h2:∀ x c,X.env.cells.lookup x=some c->c≠it) (h3:∀ p∈X.pn++aa,p.1≠it):Inv X aa σ H { s with heap:=h',toks:=t' }:=by
 have nit:∀ b u,H b=some u->b≠it:=fun b u e z=>by rw[z,hn]at e; cases e
 refine I.step (g':=s.gens) (d':=s.drawn) (ch:=[it]) (fun b hb=>?_) (fun b o _ _ hc e _=>k b o (fun z=>hc (by simp[z])) e) (fun b o _ _ hc e _=>⟨o.slots,k b o (fun z=>hc (by simp[z])) e⟩) (fun _ _ _ _ n=>n)
  (fun b o hc e=>⟨o,k b o (fun z=>hc (by simp[z])) e⟩) (fun _ _ e=>e) (fun _ _ _ e=>e) (fun b ps e=>⟨#[],by rw[e]; simp⟩) (fun m hm=>?_) (fun b u e=>?_) I.bare
 ·have e:b=it:=by simpa using hb
  subst e
  exact⟨h1,hL,h2,h3⟩
 ·obtain⟨o,es,ep,ho,r⟩:=hm
  exact⟨o,es,ep,k _ o (fi hL) ho,r⟩
 ·refine(I.hok b u e).stay (fun c v hc q=>k c v ?_ q) (fun _ q=>q) fun _ _ q=>q
  rcases hc with z | z
  ·rw[z]; exact nit b u e
  ·exact nit c _ z
theorem Inv.tok(I:Inv X aa σ H s)(t:Nat):Inv X aa σ H { s with toks:=t }:=I.un (h':=s.heap) (t':=t) Un.refl I.hok
theorem Inv.kept{t':Nat}(I:Inv X aa σ H s)(k:∀ b u,s.heap.get? b=some u->h'.get? b=some u):Inv X aa σ H { s with heap:=h',toks:=t' }:=I.un (Un.kept k) (I.hok.kept k)
theorem Inv.laid{a:Addr}{o:HO}{t':Nat}(I:Inv X aa σ H s)(k:∀ b u,s.heap.get? b=some u->h'.get? b=some u)(hp:s.heap.objs.size<=a)(new:cx X.prog X.w (upd H a o) h' a o) :
  Inv X aa σ (upd H a o) { s with heap:=h',toks:=t' }:=I.un (Un.laid k hp (I.hok.fresh hp)) (I.hok.laid k hp new)
theorem Inv.write{x e:Addr}{o:HO}{t':Nat}(I:Inv X aa σ H s)(mu:sW (H x))(he:e=x\/H e=some (.own x))(k:∀ b u,b≠e->s.heap.get? b=some u->h'.get? b=some u)(rP:∃ u,h'.get? e=some u)
  (new:cx X.prog X.w (upd H x o) h' x o):Inv X aa σ (upd H x o) { s with heap:=h',toks:=t' }:=I.un (Un.write mu he k rP) (I.hok.write mu he k rP new)
theorem Inv.pins_of{pins':List (Addr×Obj)}(I:Inv X aa σ H s)(h:∀ p∈pins',s.heap.get? p.1=some p.2/\H p.1=none/\p.1≠X.env.locals/\p.1∉X.fs/\∀ v,p.2.data≠.cell v):Inv X pins' σ H s :=
 ⟨I.ok,I.os,I.bare,I.base,I.loc,I.cell,I.free,I.freeC,fun p hp=>(dO.mp hp).elim (fun z=>I.pin p (AO _ z)) (h p),I.hok,I.len⟩
theorem C_{N:List Str}(hN:N.Nodup){i j:Nat}{x:Str}(a:N[i]?=some x)(b:N[j]?=some x):i=j:=by
 obtain⟨h1,e1⟩:=dP.mp a
 obtain⟨h2,e2⟩:=dP.mp b
 exact(List.getElem_inj hN).mp (e1.trans e2.symm)
theorem L9{M:Model}{A:aV}{E:Value->ah->Prop}{i:Nat}{x:Str}{v:V}{u:Value}{Q:Unit->ah->Prop}(I:Inv X aa σ H s)(hN:X.N.Nodup)(hi:X.N[i]?=some x)(hx:Loc X.env.scope x)(r:RelV v u)
  (h:∀ s',Inv X aa (σ.set i (some v)) H s'->(∃ a,ix a s.heap s'.heap/\(a=X.env.locals\/X.env.cells.lookup x=some a))->Q () s') (hf:X.fn x=true\/X.env.scope.names.lookup x=some .local:=by first | exact .inl rfl | exact .inr rfl | assumption):wpAny M A (storeName X.env x u) Q E s:=by
 obtain⟨m,hn,hl⟩:=id I.loc
 have BB:(X.env.scope.kind == .class || (X.env.scope.kind == .module && X.env.locals != X.env.globals))=false:=by rw[I.ok.kind]; rfl
 have hiσ:i<σ.length:=by rw[I.len]; exact(dP.mp hi).1
 have cne:=I.cne
 have tracked:∀ {a:Addr} {h':Heap},(∃ o,s.heap.get? a=some o/\H a=none)->ix a s.heap h'->dv X.prog X.w H h':=fun {a h'} ha hs b ob e=>by
  obtain⟨_,_,uA⟩:=ha
  refine(I.hok b ob e).stay (fun c w' hc q=>(hs.2 c ?_).trans q) (fun _ q=>q) fun _ _ q=>q
  rintro rfl
  rcases hc with rfl | hc
  ·rw[uA]at e; cases e
  ·rw[uA]at hc; cases hc
 rcases hx with hk | hk
 ·refine wpAny_storeName_local hk hn (fun h' hn' hs=>?_) BB
  obtain⟨oL,_,_,uI,_⟩:=id hn
  refine h _ ⟨I.ok,I.os,I.bare,⟨fun b o e n hb hx=>?_,fun b o e n hb hx=>?_,I.base.free,fun b o e hx=>?_,I.base.tups,I.base.frzs,I.base.tbls⟩,⟨_,hn',fun j y v' e1 e2 e3=>?_⟩,fun y c e=>?_,I.free,I.freeC,fun p hp=>?_,tracked ⟨oL,uI,I.free⟩ hs,by simpa using I.len⟩ ⟨_,hs,.inl rfl⟩
  ·exact(hs.2 b (cO (gB (bq e) I.ok.above))).trans (I.base.keep b o e n hb hx)
  ·obtain⟨sl,e1⟩:=I.base.slot b o e n hb hx
   exact⟨sl,(hs.2 b (cO (gB (bq e) I.ok.above))).trans e1⟩
  ·obtain⟨o',e1⟩:=I.base.there b o e hx
   exact⟨o',(hs.2 b (cO (gB (bq e) I.ok.above))).trans e1⟩
  ·by_cases hj:j=i
   ·subst hj
    rw[hi]at e1; cases e1
    rw[gC hiσ]at e2
    cases e2
    exact⟨u,r,.inl ⟨hk,by simp⟩⟩
   ·rw[eF (fi hj)]at e2
    obtain⟨u',r',q⟩:=hl j y v' e1 e2 e3
    refine⟨u',r',?_⟩
    rcases q with⟨k,e⟩ | ⟨k,c,e,z⟩
    ·refine .inl ⟨k,?_⟩
     have:y≠x:=fun e=>hj (C_ hN e1 (e ▸ hi))
     simp[this,e]
    ·exact .inr ⟨k,c,e,z.sameBut hs (cne y c e)⟩
  ·obtain⟨w',z⟩:=I.cell y c e
   exact⟨w',z.sameBut hs (cne y c e)⟩
  ·obtain⟨e,n,ne,nf,d⟩:=I.pin p hp
   exact⟨(hs.2 p.1 ne).trans e,n,ne,nf,d⟩
 ·have hfn:X.fn x=true:=by
   rcases hf with z | z
   ·exact z
   ·rw[z]at hk; cases hk
  obtain⟨c,hc⟩:=I.ok.has x (.inl hk)
  obtain⟨w',z⟩:=I.cell x c hc
  refine wpAny_storeName_cell I.ok.kind hk hc z (fun h' gK hs=>?_)
  obtain⟨oc,hoc,hocd⟩:=id z
  refine h { s with heap:=h' } ⟨I.ok,I.os,I.bare,⟨fun b o e n hb hx=>?_,fun b o e n hb hx=>?_,I.base.free,fun b o e hx=>?_,I.base.tups,I.base.frzs,I.base.tbls⟩,⟨m,hn.sameBut hs (fi (cne x c hc)),fun j y v' e1 e2 e3=>?_⟩,fun y c' e=>?_,I.free,I.freeC,fun p hp=>?_,tracked ⟨oc,hoc,I.freeC x c hc⟩ hs,by simpa using I.len⟩ ⟨c,hs,.inr hc⟩
  ·exact(hs.2 b (cO (gB (bq e) (I.ok.cab x c hfn hc)))).trans (I.base.keep b o e n hb hx)
  ·obtain⟨sl,e1⟩:=I.base.slot b o e n hb hx
   exact⟨sl,(hs.2 b (cO (gB (bq e) (I.ok.cab x c hfn hc)))).trans e1⟩
  ·obtain⟨o',e1⟩:=I.base.there b o e hx
   exact⟨o',(hs.2 b (cO (gB (bq e) (I.ok.cab x c hfn hc)))).trans e1⟩
  ·by_cases hj:j=i
   ·subst hj
    rw[hi]at e1; cases e1
    rw[gC hiσ]at e2
    cases e2
    exact⟨u,r,.inr ⟨.inl hk,c,hc,gK⟩⟩
   ·rw[eF (fi hj)]at e2
    obtain⟨u',r',q⟩:=hl j y v' e1 e2 e3
    refine⟨u',r',?_⟩
    rcases q with q | ⟨k,c',e,z'⟩
    ·exact .inl q
    ·refine .inr ⟨k,c',e,z'.sameBut hs ?_⟩
     rintro rfl
     exact hj (C_ hN e1 (I.ok.inj _ _ _ e hc ▸ hi))
  ·by_cases hcc:c'=c
   ·subst hcc; exact⟨_,gK⟩
   ·obtain⟨w2,z2⟩:=I.cell y c' e
    exact⟨w2,z2.sameBut hs hcc⟩
  ·obtain⟨e,n,ne,nf,d⟩:=I.pin p hp
   refine⟨(hs.2 p.1 ?_).trans e,n,ne,nf,d⟩
   intro q
   rw[q,hoc]at e
   have q':oc=p.2:=dE e
   exact d w' (by rw[← q']; exact hocd)
theorem yU{M:Model}{A:aV}{E:Value->ah->Prop}{i:Nat}{x:Str}{v:V}{u:Value}{Q:Unit->ah->Prop}(I:Inv X aa σ H s)(hN:X.N.Nodup)(hi:X.N[i]?=some x)(hx:Loc X.env.scope x)(r:RelV v u)
  (h:∀ s',Inv X aa (σ.set i (some v)) H s'->Q () s') (hf:X.fn x=true\/X.env.scope.names.lookup x=some .local:=by first | exact .inl rfl | exact .inr rfl | assumption):wpAny M A (storeName X.env x u) Q E s :=
 L9 I hN hi hx r (fun s' I' _=>h s' I') hf
theorem Inv.call'{s':ah}{ch:List Addr}(I:Inv X aa σ H s)(ho:s'.os=s.os)(u:Un (fO X.stack) ch H H' s.heap s'.heap)(hok:dv X.prog X.w H' s'.heap)(hg:mF s'.gens)
  (lV:∀ b∈ch,(b∈X.ex\/X.s₀.heap.objs.size<=b)/\b≠X.env.locals/\(∀ x c,X.env.cells.lookup x=some c->c≠b)/\∀ p∈X.pn++aa,p.1≠b):Inv X aa σ H' s':=by
 obtain⟨h',g',d',t',o'⟩:=s'
 have e:o'=s.os:=ho
 subst e
 exact I.call (g':=g') (t':=t') (d':=d') u hok hg lV
end
abbrev XK:=Value->Option Addr->Hp->Prop
abbrev St:=List (Option V)
abbrev VK:=V->Hp->Prop
abbrev TE:=St->Hp->VK->Prop
abbrev TT:=St->Hp->(Bool->Hp->Prop)->Prop
abbrev TA:=St->Hp->(List V->Hp->Prop)->Prop
structure lp where
 nx:St->Hp->Prop
 rt:VK
 bk:St->Hp->Prop:=fun _ _=>False
 ct:St->Hp->Prop:=fun _ _=>False
abbrev TS:=lp->St->Hp->Prop
def EP(X:Cx)(aa:List (Addr×Obj))(σ:St)(Q:VK)(u:Value)(s':ah):Prop:=∃ v H',Inv X aa σ H' s'/\RelV v u/\Q v H'
def TP(X:Cx)(aa:List (Addr×Obj))(σ:St)(Q:Bool->Hp->Prop)(b:Bool)(s':ah):Prop:=∃ H',Inv X aa σ H' s'/\Q b H'
def AP(X:Cx)(aa:List (Addr×Obj))(σ:St)(Q:List V->Hp->Prop)(us:List Value)(s':ah):Prop:=∃ vs H',Inv X aa σ H' s'/\bh vs us/\Q vs H'
def SP(X:Cx)(aa:List (Addr×Obj))(D:lp)(f:Flow)(s':ah):Prop :=
 match f with
 | .next=>∃ σ' H',Inv X aa σ' H' s'/\D.nx σ' H'
 | .brk=>∃ σ' H',Inv X aa σ' H' s'/\D.bk σ' H'
 | .cont=>∃ σ' H',Inv X aa σ' H' s'/\D.ct σ' H'
 | .ret u=>∃ v σ' H',Inv X aa σ' H' s'/\RelV v u/\D.rt v H'
def PE(X:Cx)(e:Expr)(t:TE):Prop :=
 ∀ (aa:List (Addr×Obj)) (s:ah) (σ:St) (H:Hp) (Q:VK),Inv X aa σ H s->t σ H Q->wpAny (model X.prog X.w) X.A (eval e X.env) (EP X aa σ Q) X.xe s
def PT(X:Cx)(e:Expr)(t:TT):Prop :=
 ∀ (aa:List (Addr×Obj)) (s:ah) (σ:St) (H:Hp) (Q:Bool->Hp->Prop),Inv X aa σ H s->t σ H Q->wpAny (model X.prog X.w) X.A (isTrue e X.env (eval e X.env)) (TP X aa σ Q) X.xe s
def PW(X:Cx)(e:Expr)(t:TT):Prop :=
 ∀ (g8:Sem Value) (aa:List (Addr×Obj)) (s:ah) (σ:St) (H:Hp) (Q:Bool->Hp->Prop),Inv X aa σ H s->t σ H Q->wpAny (model X.prog X.w) X.A (isTrue e X.env g8) (TP X aa σ Q) X.xe s
def PA(X:Cx)(es:List Expr)(t:TA):Prop :=
 ∀ (pos:Pos) (aa:List (Addr×Obj)) (s:ah) (σ:St) (H:Hp) (Q:List V->Hp->Prop),Inv X aa σ H s->t σ H Q->wpAny (model X.prog X.w) X.A (spliced (eU pos (aZ es X.env))) (AP X aa σ Q) X.xe s
def PS(X:Cx)(st:Stmt)(t:TS):Prop :=
 ∀ (aa:List (Addr×Obj)) (s:ah) (σ:St) (H:Hp) (D:lp),Inv X aa σ H s->t D σ H->wpAny (model X.prog X.w) X.A (exec st X.env) (SP X aa D) X.xe s
def i_(X:Cx)(st:List Stmt)(t:TS):Prop :=
 ∀ (aa:List (Addr×Obj)) (s:ah) (σ:St) (H:Hp) (D:lp),Inv X aa σ H s->t D σ H->wpAny (model X.prog X.w) X.A (execs st X.env) (SP X aa D) X.xe s
theorem aH{α:Type}{t:Sem α}{Q Q':α->ah->Prop}{M:Model}{A:aV}{E:Value->ah->Prop}{s:ah}(h:wpAny M A t Q E s)(hQ:∀ a s,Q a s->Q' a s):wpAny M A t Q' E s:=dG h hQ fun _ _ x=>x
end L2
namespace L2
section
variable{X:Cx}
theorem MB{a b:Expr}{ta tb:TE}(ha:PE X a ta)(hb:PE X b tb){aa:List (Addr×Obj)}{s:ah}{σ:St}{H:Hp}{R:V->V->Hp->Prop}(I:Inv X aa σ H s)(h:ta σ H fun x H1=>tb σ H1 fun y H2=>R x y H2)
  {α:Type} {Q:α->ah->Prop} {f:Value->Value->Sem α}
  (hf:∀ v u s2 x y H2,Inv X aa σ H2 s2->RelV x v->RelV y u->R x y H2->wpAny (model X.prog X.w) X.A (f v u) Q X.xe s2) :
  wpAny (model X.prog X.w) X.A (eval a X.env) (fun v s₁=>wpAny (model X.prog X.w) X.A (eval b X.env) (fun u s₂=>wpAny (model X.prog X.w) X.A (f v u) Q X.xe s₂) X.xe s₁) X.xe s:=by
 refine aH (ha aa s σ H _ I h) fun v s1 ⟨x,H1,I1,r1,q1⟩=>?_
 refine aH (hb aa s1 σ H1 _ I1 q1) fun u s2 ⟨y,H2,I2,r2,q2⟩=>?_
 exact hf v u s2 x y H2 I2 r1 r2 q2
def nG(i:Nat):TE:=fun σ H Q=>∃ v,σ[i]?=some (some v)/\Q v H
def tC(v:V):TE:=fun _ H Q=>Q v H
theorem iw{i:Nat}{x:Str}{pos:Pos}(hN:X.N[i]?=some x)(hv:ft X.env.scope x)(hd:(x == ("__debug__" : Str))=false:=by decide)(bF:(x == ("__classdict__" : Str))=false:=by decide):PE X (.Name x pos) (nG i):=by
 intro aa s σ H Q I h
 obtain⟨v,e,h⟩:=h
 obtain⟨m,hn,hl⟩:=I.loc
 obtain⟨u,r,l⟩:=hl i x v hN e hv
 have fin:EP X aa σ Q u s:=⟨v,H,I,r,h⟩
 rcases l with⟨hk,hm⟩ | ⟨hk,c,hc,x_⟩
 ·exact wpAny_Name (wpAny_loadName_local I.ok.kind hk hn hm fin) hd
 ·rcases hk with hk | hk
  ·exact wpAny_Name (wpAny_loadName_cell I.ok.kind hk hc x_ fin) hd
  ·exact wpAny_Name (wpAny_loadName_free I.ok.kind hk hc x_ fin bF) hd
theorem Dx{i j pos}:PE X (.Constant (.int i) j pos) (tC (.int i)):=fun _ _ _ H _ I h=>wpAny_Constant_int ⟨.int i,H,I.tok _,⟨_,rfl⟩,h⟩
theorem QF{b j pos}:PE X (.Constant (.bool b) j pos) (tC (.bl b)):=fun _ _ _ H _ I h=>Constant_bool ⟨.bl b,H,I,rfl,h⟩
theorem JC{x j pos}:PE X (.Constant (.str x) j pos) (tC (.str x)):=fun _ _ _ H _ I h=>Calls.Constant_str ⟨.str x,H,I.tok _,⟨_,rfl⟩,h⟩
def Gl(X:Cx)(x:Str):Prop:=X.env.kindOf x=some .globalImplicit
theorem yZ{E:Value->ah->Prop}{aa:List (Addr×Obj)}{s:ah}{σ:St}{H:Hp}{x:Str}{u:Value}{pos:Pos}{Q:Value->ah->Prop}(I:Inv X aa σ H s)(hg:Gl X x)(hm:X.mg x=some u)(h:Q u s)
  (hd:(x == ("__debug__" : Str))=false:=by decide):wpAny (model X.prog X.w) X.A (eval (.Name x pos) X.env) Q E s :=
 Calls.Name_function_global I.ok.kind hg (Calls.loadGlobal_global (by rw[I.ok.glob]; exact I.mod.glob.keeps I.bk) hm h) hd
theorem sM{E:Value->ah->Prop}{aa:List (Addr×Obj)}{s:ah}{σ:St}{H:Hp}{x:Str}{u:Value}{pos:Pos}{Q:Value->ah->Prop}(I:Inv X aa σ H s)(hg:Gl X x)(hm:X.mg x=none)(hv:eE x=some u)(h:Q u s)
  (hn:x≠"__name__":=by decide) (hd:(x == ("__debug__" : Str))=false:=by decide):wpAny (model X.prog X.w) X.A (eval (.Name x pos) X.env) Q E s:=by
 obtain⟨mb,h1,h2⟩:=I.mod.blt
 exact Calls.Name_function_global I.ok.kind hg (Calls.loadGlobal_builtin (by rw[I.ok.glob]; exact I.mod.glob.keeps I.bk) hm (by rw[I.ok.blt]; exact h1.keeps I.bk) ((h2 x hn).trans hv) h) hd
theorem Ee{x:Str}{v:V}{u:Value}{pos:Pos}(hg:Gl X x)(hm:X.mg x=some u)(r:RelV v u)(hd:(x == ("__debug__" : Str))=false:=by decide):PE X (.Name x pos) (tC v) :=
 fun _ _ _ H _ I h=>yZ I hg hm ⟨v,H,I,r,h⟩ hd
theorem O6{x:Str}{v:V}{u:Value}{pos:Pos}(hg:Gl X x)(hm:X.mg x=none)(hv:eE x=some u)(r:RelV v u)(hn:x≠"__name__":=by decide)(hd:(x == ("__debug__" : Str))=false:=by decide):PE X (.Name x pos) (tC v) :=
 fun _ _ _ H _ I h=>sM I hg hm hv ⟨v,H,I,r,h⟩ hn hd
def OY(ta tb:TE)(k:Int->Int->Hp->Prop):St->Hp->Prop:=fun σ H=>ta σ H fun x H1=>tb σ H1 fun y H2=>∃ i j,x = .int i/\y = .int j/\k i j H2
variable{a b:Expr}{ta tb:TE}{pos:Pos}
def PC(X:Cx)(op:CmpOp)(a b:Expr)(t:TE):Prop :=
 ∀ (aa:List (Addr×Obj)) (s:ah) (σ:St) (H:Hp) (Q:VK),Inv X aa σ H s->t σ H Q ->
  wpAny (model X.prog X.w) X.A (eval a X.env) (fun v s₁=>wpAny (model X.prog X.w) X.A (eval b X.env) (fun u s₂=>wpAny (model X.prog X.w) X.A (d8 op v u) (EP X aa σ Q) X.xe s₂) X.xe s₁) X.xe s
theorem O4(b:Expr){op:CmpOp}(h:op≠.In)(h2:op≠.NotIn):pf op b=false:=by
 have e1:(op == CmpOp.In)=false:=by cases op <;> first | rfl | exact absurd rfl h
 have e2:(op == CmpOp.NotIn)=false:=by cases op <;> first | rfl | exact absurd rfl h2
 cases b <;> simp[pf,e1,e2]
def Dd(p:Int->Int->Bool)(ta tb:TE):TE:=fun σ H Q=>OY ta tb (fun i j H2=>Q (.bl (p i j)) H2) σ H
abbrev NU:TE->TE->TE:=Dd fun i j=>decide (i=j)
theorem Ms{op:CmpOp}{p:Int->Int->Bool}(ha:PE X a ta)(hb:PE X b tb)
  (rule:∀ (i j:Int) (t u:Tok) (Q:Value->ah->Prop) (s:ah),Q (.bool (p i j)) s->wpAny (model X.prog X.w) X.A (d8 op (.int i t) (.int j u)) Q X.xe s):PC X op a b (Dd p ta tb):=by
 intro aa s σ H Q I h
 refine MB ha hb I h fun v u s2 x y H2 I2 rx ry q=>?_
 obtain⟨i,j,rfl,rfl,q⟩:=q
 obtain⟨t,rfl⟩:=rx
 obtain⟨t',rfl⟩:=ry
 exact rule i j t t' _ s2 ⟨.bl _,H2,I2,rfl,q⟩
theorem Lx(ha:PE X a ta)(hb:PE X b tb):PC X .Eq a b (NU ta tb):=Ms ha hb fun _ _ _ _ _ _ h=>eq_int (by rw[Bool.beq_eq_decide_eq]; exact h)
def tB(t:TE):TT:=fun σ H Q=>t σ H fun x H1=>∃ c,x = .bl c/\Q c H1
theorem Ea{op:CmpOp}{t:TE}(h:PC X op a b t)(h1:pf op b=false:=by first | exact O4 _ (by decide) (by decide) | rfl):PT X (.Compare a [op] [b] pos) (tB t):=by
 intro aa s σ H Q I hw
 refine wpAny_isTrue_Compare1 (aH (h aa s σ H _ I hw) fun v s1 h1=>aH h1 fun u s2 h2=>aH h2 fun c s3 ⟨x,H1,I1,r1,q1⟩=>?_) h1
 obtain⟨d,rfl,q⟩:=q1
 cases r1
 exact nN ⟨H1,I1,q⟩
theorem HW{e:Expr}{t:TE}(h:PE X e t)(he:∀ g8,isTrue e X.env g8=(do let v ← g8; standAt e.pos; holding [v] (truthy v)):=by intro _; rfl):PT X e (tB t):=by
 intro aa s σ H Q I hw
 refine isTrue_plain (aH (h aa s σ H _ I hw) fun v s1 ⟨x,H1,I1,r1,q1⟩=>?_) (he _)
 obtain⟨d,rfl,q⟩:=q1
 cases r1
 exact nN ⟨H1,I1,q⟩
variable{tA tB':TT}{rest:List Expr}
def Kw(t u:TT):TT:=fun σ H Q=>t σ H fun c H1=>if c=true then Q true H1 else u σ H1 Q
def Ob(t:TT):TT:=fun σ H Q=>t σ H fun c H1=>Q (!c) H1
theorem IF(ha:PT X a tA):PW X (.BoolOp .Or [a] pos) tA:=by
 intro wh aa s σ H Q I h
 refine isTrue_or (aH (ha aa s σ H Q I h) fun c s1 e=>?_)
 cases c with
 | false=>exact isTrue_or_nil e
 | true=>exact e
theorem LO(ha:PT X a tA)(hb:PW X (.BoolOp .Or (b::rest) pos) tB'):PW X (.BoolOp .Or (a::b::rest) pos) (Kw tA tB'):=by
 intro wh aa s σ H Q I h
 refine isTrue_or (aH (ha aa s σ H _ I h) fun c s1 ⟨H1,I1,q1⟩=>?_)
 cases c with
 | true=>exact⟨H1,I1,q1⟩
 | false=>exact hb wh aa s1 σ H1 Q I1 q1
theorem K8(ha:PT X a tA):PT X (.UnaryOp .Not a pos) (Ob tA):=by
 intro aa s σ H Q I h
 exact isTrue_not (ha aa s σ H (fun c H1=>Q (!c) H1) I h)
def Mc(ta tb:TE):TE:=fun σ H Q=>ta σ H fun x H1=>∃ c,x = .bl c/\if c=true then tb σ H1 Q else Q (.bl false) H1
def Ke(ta:TE):TE:=fun σ H Q=>ta σ H fun x H1=>∃ c,x = .bl c/\Q (.bl (!c)) H1
theorem Lc{op}{t:TE}(h:PE X a t):PE X (.BoolOp op [a] pos) t:=fun aa s σ H Q I hw=>BoolOp_one (h aa s σ H Q I hw)
theorem JA(ha:PE X a ta)(hb:PE X (.BoolOp .And (b::rest) pos) tb):PE X (.BoolOp .And (a::b::rest) pos) (Mc ta tb):=by
 intro aa s σ H Q I h
 refine BoolOp_and (aH (ha aa s σ H _ I h) fun v s1 ⟨x,H1,I1,r1,q1⟩=>?_)
 obtain⟨c,rfl,q1⟩:=q1
 cases r1
 refine nN ?_
 cases c with
 | true=>exact hb aa s1 σ H1 Q I1 q1
 | false=>exact⟨.bl false,H1,I1,rfl,q1⟩
theorem MW(ha:PE X a ta):PE X (.UnaryOp .Not a pos) (Ke ta):=by
 intro aa s σ H Q I h
 refine UnaryOp_ (aH (ha aa s σ H _ I h) fun v s1 ⟨x,H1,I1,r1,q1⟩=>?_)
 obtain⟨c,rfl,q1⟩:=q1
 cases r1
 exact not_of (nN ⟨.bl (!c),H1,I1,rfl,q1⟩)
end
end L2
namespace L2
def bO(K:ao)(H:Hp)(a:Addr)(xs:List V):Prop :=
 Rd H a (.lst xs) \/
  ∃ (o:Obj) (its:Array Value) (n:Nat),K.lookup a=some o/\o.cls = .type "list"/\o.dict=none/\o.data = .seq its n/\its.size<=a7/\bh xs its.toList
def cJ(K:ao)(H:Hp)(a:Addr)(xs:List V):Prop :=
 Rd H a (.tup xs) \/
  ∃ (o:Obj) (its:Array Value) (n:Nat),K.lookup a=some o/\o.cls = .type "tuple"/\o.data = .seq its n/\its.size<=a7/\bh xs its.toList
def OQ:Value->Option V
 | .none=>some .non
 | .bool b=>some (.bl b)
 | .int i _=>some (.int i)
 | .str x _=>some (.str x)
 | .bytes b _=>some (.byt b)
 | .float b _=>some (.flt b)
 | .ref a=>some (.ref a)
 | .type n=>some (.ty n)
 | _=>none
theorem RelV.abs{x:V}{u:Value}(r:RelV x u):OQ u=some x:=by
 cases x with
 | non=>cases r; rfl
 | bl _=>cases r; rfl
 | int _=>obtain⟨t,rfl⟩:=r; rfl
 | str _=>obtain⟨t,rfl⟩:=r; rfl
 | byt _=>obtain⟨t,rfl⟩:=r; rfl
 | flt _=>obtain⟨t,rfl⟩:=r; rfl
 | ref _=>cases r; rfl
 | ty _=>cases r; rfl
theorem RelV.inj{x y:V}{u:Value}(r:RelV x u)(q:RelV y u):x=y:=dE (r.abs.symm.trans q.abs)
theorem bh.inj:∀ {xs ys:List V} {us:List Value},bh xs us->bh ys us->xs=ys
 | _,_,_,.nil,.nil=>rfl
 | _,_,_,.cons r t,.cons r' t'=>by rw[r.inj r',bh.inj t t']
section
variable{X:Cx}{aa:List (Addr×Obj)}{σ:St}{H:Hp}{s:ah}{a:Addr}{xs ys:List V}
theorem bO.of{K:ao}(h:H a=some (.lst xs)):bO K H a xs:=.inl (.inl h)
theorem cJ.of{K:ao}(h:H a=some (.tup xs)):cJ K H a xs:=.inl (.inl h)
theorem Inv.list(I:Inv X aa σ H s)(h:bO X.K H a xs):∃ its:List Value,bh xs its/\PlainL s.heap a its.toArray/\xs.length<=a7:=by
 rcases h with h | ⟨o,its,n,hk,hc,hd,hs,hz,r⟩
 ·obtain⟨z,its,n,r,e⟩:=h.ok I.hok
  exact⟨its,r,⟨_,n,e,rfl,rfl,rfl⟩,z⟩
 ·refine⟨its.toList,r,⟨o,n,I.kIn a o hk,hc,hd,by simpa using hs⟩,?_⟩
  have e:=r.length
  simp only[gD]at e
  ac_rfl
theorem Inv.tuple(I:Inv X aa σ H s)(h:cJ X.K H a xs):∃ its:List Value,bh xs its/\IsTup s.heap a its.toArray/\xs.length<=a7:=by
 rcases h with h | ⟨o,its,n,hk,hc,hs,hz,r⟩
 ·obtain⟨z,its,r,p,_⟩:=h.ok I.hok
  exact⟨its,r,p,z⟩
 ·refine⟨its.toList,r,⟨o,I.kIn a o hk,hc,n,by simpa using hs⟩,?_⟩
  have e:=r.length
  simp only[gD]at e
  ac_rfl
theorem Inv.list_inj(I:Inv X aa σ H s)(h:bO X.K H a xs)(h':bO X.K H a ys):xs=ys:=by
 obtain⟨its,r,⟨o,n,e,_,_,d⟩,_⟩:=I.list h
 obtain⟨its',r',⟨o',n',e',_,_,d'⟩,_⟩:=I.list h'
 rw[e]at e'; cases e'
 rw[d]at d'
 injection d' with d1 _
 have:its=its':=by simpa using congrArg Array.toList d1
 subst this
 exact r.inj r'
theorem Inv.tuple_inj(I:Inv X aa σ H s)(h:cJ X.K H a xs)(h':cJ X.K H a ys):xs=ys:=by
 obtain⟨its,r,⟨o,e,_,n,d⟩,_⟩:=I.tuple h
 obtain⟨its',r',⟨o',e',_,n',d'⟩,_⟩:=I.tuple h'
 rw[e]at e'; cases e'
 rw[d]at d'
 injection d' with d1 _
 have:its=its':=by simpa using congrArg Array.toList d1
 subst this
 exact r.inj r'
end
abbrev Cx.wish(X:Cx)(E:Value->ah->Prop):Cx:={ X with xe:=E }
abbrev Cx.nox(X:Cx):Cx:=X.wish fun _ _=>False
theorem Cx.Ok.wish{X:Cx}(ok:X.Ok)(E:Value->ah->Prop):(X.wish E).Ok :=
 ⟨ok.mod,ok.kind,ok.glob,ok.blt,ok.above,ok.inj,ok.has,ok.cab,ok.hd,ok.frames,ok.stk,ok.exf,ok.bs,ok.bsz,ok.noex,ok.exfs,ok.funs,ok.frf⟩
theorem Cx.Ok.unwish{X:Cx}{E:Value->ah->Prop}(ok:(X.wish E).Ok):X.Ok :=
 ⟨ok.mod,ok.kind,ok.glob,ok.blt,ok.above,ok.inj,ok.has,ok.cab,ok.hd,ok.frames,ok.stk,ok.exf,ok.bs,ok.bsz,ok.noex,ok.exfs,ok.funs,ok.frf⟩
section
variable{X:Cx}{aa:List (Addr×Obj)}{σ:St}{H:Hp}{s:ah}{E:Value->ah->Prop}
theorem Inv.wish(I:Inv X aa σ H s)(E:Value->ah->Prop):Inv (X.wish E) aa σ H s:=⟨I.ok.wish E,I.os,I.bare,I.base,I.loc,I.cell,I.free,I.freeC,I.pin,I.hok,I.len⟩
theorem Inv.unwish(I:Inv (X.wish E) aa σ H s):Inv X aa σ H s:=⟨I.ok.unwish,I.os,I.bare,I.base,I.loc,I.cell,I.free,I.freeC,I.pin,I.hok,I.len⟩
theorem SP.unwish{D:lp}{f:Flow}{s':ah}(h:SP (X.wish E) aa D f s'):SP X aa D f s':=by
 cases f with
 | next=>obtain⟨σ',H',I,q⟩:=h; exact⟨σ',H',I.unwish,q⟩
 | brk=>obtain⟨σ',H',I,q⟩:=h; exact⟨σ',H',I.unwish,q⟩
 | cont=>obtain⟨σ',H',I,q⟩:=h; exact⟨σ',H',I.unwish,q⟩
 | ret u=>obtain⟨v,σ',H',I,r,q⟩:=h; exact⟨v,σ',H',I.unwish,r,q⟩
theorem PE.nox{e:Expr}{t:TE}(h:PE X.nox e t):PE X e t:=fun aa s σ H Q I hw =>
 dG (h aa s σ H Q (I.wish _) hw) (fun _ _ ⟨v,H',I',r,q⟩=>⟨v,H',I'.unwish,r,q⟩) fun _ _ z=>jI z
theorem PT.nox{e:Expr}{t:TT}(h:PT X.nox e t):PT X e t:=fun aa s σ H Q I hw =>
 dG (h aa s σ H Q (I.wish _) hw) (fun _ _ ⟨H',I',q⟩=>⟨H',I'.unwish,q⟩) fun _ _ z=>jI z
theorem i_.nox{st:List Stmt}{t:TS}(h:i_ X.nox st t):i_ X st t:=fun aa s σ H D I hw =>
 dG (h aa s σ H D (I.wish _) hw) (fun _ _ q=>q.unwish) fun _ _ z=>jI z
end
section
variable{X:Cx}{st:Stmt}{rest:List Stmt}{t u:TS}{e:Expr}{te:TE}{pos:Pos}
def J0:TS:=fun D σ H=>D.nx σ H
def OU(t u:TS):TS:=fun D σ H=>t { D with nx:=u D } σ H
theorem Lp:i_ X [] J0:=fun _ _ σ H _ I h=>AQ ⟨σ,H,I,h⟩
theorem O3(h1:PS X st t)(h2:i_ X rest u):i_ X (st::rest) (OU t u):=by
 intro aa s σ H D I h
 refine wpAny_execs_cons (aH (h1 aa s σ H { D with nx:=u D } I h) fun f s1 q=>?_)
 cases f with
 | next =>
  obtain⟨σ',H',I',q⟩:=q
  exact h2 aa s1 σ' H' D I' q
 | ret v=>exact q
 | brk=>exact q
 | cont=>exact q
theorem MF(h1:PS X st t):i_ X [st] t:=by
 intro aa s σ H D I h
 refine wpAny_execs_cons (aH (h1 aa s σ H D I h) fun f s1 q=>?_)
 cases f with
 | next=>exact AQ q
 | ret v=>exact q
 | brk=>exact q
 | cont=>exact q
theorem Inv.quiet{aa:List (Addr×Obj)}{σ:St}{H:Hp}{s:ah}(I:Inv X aa σ H s):interactive X.env=false:=by simp[interactive,I.ok.kind]
def Nk(te:TE):TS:=fun D σ H=>te σ H fun _ H1=>D.nx σ H1
theorem zk(he:PE X e te)(hs:nO e none pos.line X.env=pure false:=by rfl):PS X (.Expr e pos) (Nk te):=by
 intro aa s σ H D I h
 exact wpAny_Expr_any (aH (he aa s σ H _ I h) fun v s1 ⟨x,H1,I1,r1,q1⟩=>⟨σ,H1,I1,q1⟩) I.quiet hs
def Lh(te:TE):TS:=fun D σ H=>te σ H D.rt
theorem wl(he:PE X e te):PS X (.Return (some e) pos) (Lh te):=by
 intro aa s σ H D I h
 exact wpAny_Return_some (aH (he aa s σ H _ I h) fun v s1 ⟨x,H1,I1,r1,q1⟩=>⟨x,σ,H1,I1,r1,q1⟩)
def N0:TS:=fun D _ H=>D.rt .non H
theorem MP:PS X (.Return none pos) N0:=fun _ _ σ H _ I h=>wpAny_Return_none ⟨.non,σ,H,I,rfl,h⟩
def J2(c:TT)(t u:TS):TS:=fun D σ H=>c σ H fun b H1=>if b=true then t D σ H1 else u D σ H1
theorem NB{c:Expr}{a b:List Stmt}{tc:TT}(hc:PT X c tc)(ha:i_ X a t)(hb:i_ X b u):PS X (.If c a b pos) (J2 tc t u):=by
 intro aa s σ H D I h
 refine wpAny_If (aH (hc aa s σ H _ I h) fun d s1 ⟨H1,I1,q1⟩=>?_)
 cases d with
 | true=>exact ha aa s1 σ H1 D I1 q1
 | false=>exact hb aa s1 σ H1 D I1 q1
end
abbrev TG:=V->St->Hp->(St->Hp->Prop)->Prop
abbrev o5:=List V->St->Hp->(St->Hp->Prop)->Prop
def PG(X:Cx)(target:Expr)(t:TG):Prop :=
 ∀ (aa:List (Addr×Obj)) (s:ah) (σ:St) (H:Hp) (v:V) (u:Value) (Q:St->Hp->Prop),Inv X aa σ H s->RelV v u->t v σ H Q ->
  wpAny (model X.prog X.w) X.A (assign target X.env u) (fun _ s'=>∃ σ' H',Inv X aa σ' H' s'/\Q σ' H') X.xe s
def xl(X:Cx)(ts:List Expr)(t:o5):Prop :=
 ∀ (aa:List (Addr×Obj)) (s:ah) (σ:St) (H:Hp) (vs:List V) (us:List Value) (Q:St->Hp->Prop),Inv X aa σ H s->bh vs us->t vs σ H Q ->
  wpAny (model X.prog X.w) X.A (assignInOrder ((ua ts X.env).map (·.2)) us) (fun _ s'=>∃ σ' H',Inv X aa σ' H' s'/\Q σ' H') X.xe s
section
variable{X:Cx}{pos:Pos}
def CT(i:Nat):TG:=fun v σ H Q=>Q (σ.set i (some v)) H
theorem AB{i:Nat}{x:Str}(hN:X.N.Nodup)(hi:X.N[i]?=some x)(hx:Loc X.env.scope x)(hf:X.fn x=true\/X.env.scope.names.lookup x=some .local:=by first | exact .inl rfl | exact .inr rfl | assumption):PG X (.Name x pos) (CT i):=by
 intro aa s σ H v u Q I r h
 exact wpAny_assign_Name (yU I hN hi hx r (fun s' I'=>⟨_,H,I',h⟩) hf)
def bM:o5:=fun vs σ H Q=>vs=[]/\Q σ H
def Qm(t:TG)(u:o5):o5:=fun vs σ H Q=>∃ v r,vs=v::r/\t v σ H fun σ' H'=>u r σ' H' Q
theorem Of:xl X [] bM:=by
 intro aa s σ H vs us Q I r h
 obtain⟨e,h⟩:=h
 subst e
 cases r
 exact assignInOrder_nil ⟨σ,H,I,h⟩
theorem BQ{e:Expr}{es:List Expr}{t:TG}{u:o5}(h1:PG X e t)(h2:xl X es u)
  (hs:(ua (e::es) X.env).map (·.2)=assign e X.env::(ua es X.env).map (·.2):=by rfl):xl X (e::es) (Qm t u):=by
 intro aa s σ H vs us Q I r h
 obtain⟨v,vr,e1,h⟩:=h
 subst e1
 cases r with
 | cons r rr =>
  rw[hs]
  refine assignInOrder_cons (aH (h1 aa s σ H _ _ _ I r h) fun _ s1 ⟨σ1,H1,I1,q1⟩=>?_)
  exact h2 aa s1 σ1 H1 _ _ Q I1 rr q1
def Qb(K:ao)(n:Nat)(t:o5):TG:=fun v σ H Q=>∃ a xs,v = .ref a/\cJ K H a xs/\xs.length=n/\t xs σ H Q
theorem Pa{es:List Expr}{k:Nat}{t:o5}{n:Nat}(hc:X.calm=true)(h:xl X es t)
  (hn:(ua es X.env).length=n:=by rfl) (kT:(ua es X.env).findIdx? (·.1)=none:=by rfl):PG X (.Tuple es k pos) (Qb X.K n t):=by
 intro aa s σ H v u Q I r hw
 obtain⟨a,xs,e1,hq,hl,hw⟩:=hw
 subst e1
 cases r
 obtain⟨its,rv,ht,hz⟩:=I.tuple hq
 refine assign_Tuple_tuple (I.ok.hd hc) ht (by simp[hn,← hl,rv.length]) kT fun h' hx=>?_
 have I1:Inv X aa σ H { s with heap:=h' }:=I.kept (t':=s.toks) fun b o e=>hx b o (cO (bq e)) e
 exact h aa _ σ H xs _ Q I1 (by simpa using rv) hw
def Da(te:TE)(g:TG):TS:=fun D σ H=>te σ H fun x H1=>g x σ H1 D.nx
theorem Lk{tg e:Expr}{te:TE}{g:TG}(he:PE X e te)(hg:PG X tg g)(hs:swapsWithSole [tg] e pos.line X.env=pure false:=by rfl)(hw:swappedStores [tg] e X.env=pure none:=by rfl)
  (h1:(ua [tg] X.env).map (·.2)=[assign tg X.env]:=by rfl):PS X (.Assign [tg] e pos) (Da te g):=by
 intro aa s σ H D I h
 refine wpAny_Assign_stores (aH (he aa s σ H _ I h) fun v s1 ⟨x,H1,I1,r1,q1⟩=>?_) hs hw
 rw[h1]
 exact aH (hg aa s1 σ H1 x v _ I1 r1 q1) fun _ s2 q=>q
theorem BI{i:Nat}{x:Str}{e:Expr}{te:TE}{pos':Pos}(hN:X.N.Nodup)(hi:X.N[i]?=some x)(hx:Loc X.env.scope x)(he:PE X e te)(hs:nO e (some (.Name x pos')) pos.line X.env=pure false:=by rfl)(hf:X.fn x=true\/X.env.scope.names.lookup x=some .local:=by first | exact .inl rfl | exact .inr rfl | assumption) :
  PS X (.Assign [.Name x pos'] e pos) (Da te (CT i)):=by
 intro aa s σ H D I h
 refine wpAny_Assign_Name (aH (he aa s σ H _ I h) fun v s1 ⟨y,H1,I1,r1,q1⟩=>?_) hs
 exact yU I1 hN hi hx r1 (fun s2 I2=>⟨_,H1,I2,q1⟩) hf
end
section
variable{X:Cx}{pos:Pos}
def Ik(c:TT)(tb:TS):TS:=fun D σ H=>∃ W:Nat->St->Hp->Prop,(∃ m,W m σ H)/\∀ m σ H,W m σ H ->
 c σ H fun b H1=>if b=true then ∃ N:St->Hp->Prop,(∀ σ' H',N σ' H'->∃ m',m'<m/\W m' σ' H')/\tb { D with nx:=N,ct:=N,bk:=D.nx } σ H1 else D.nx σ H1
theorem Ml{c:Expr}{body:List Stmt}{tc:TT}{tb:TS}(hp:AR (model X.prog X.w) X.A X.env X.xe)(hc:PT X c tc)(hb:i_ X body tb):PS X (.While c body [] pos) (Ik tc tb):=by
 intro aa s σ H D I h
 obtain⟨W,⟨m0,w0⟩,turn⟩:=h
 refine wpAny_While (codeAny_whileLoop (fun n s'=>∃ σ' H',Inv X aa σ' H' s'/\W n σ' H') ?_ m0 ⟨σ,H,I,w0⟩)
 rintro n s1 ⟨σ1,H1,I1,w1⟩
 refine rf hp (aH (hc aa s1 σ1 H1 _ I1 (turn n σ1 H1 w1)) fun b s2 ⟨H2,I2,q2⟩=>?_)
 cases b with
 | true =>
  obtain⟨N,hN,q2⟩:=q2
  rw[if_pos rfl]
  refine rf hp (aH (hb aa s2 σ1 H2 _ I2 q2) fun f s3 q3=>?_)
  cases f with
  | next =>
   obtain⟨σ3,H3,I3,n3⟩:=q3
   obtain⟨m',hm,w3⟩:=hN σ3 H3 n3
   exact⟨m',hm,σ3,H3,I3,w3⟩
  | cont =>
   obtain⟨σ3,H3,I3,n3⟩:=q3
   obtain⟨m',hm,w3⟩:=hN σ3 H3 n3
   exact⟨m',hm,σ3,H3,I3,w3⟩
  | brk=>exact q3
  | ret v=>exact q3
 | false =>
  rw[if_neg fH]
  exact AQ ⟨σ1,H2,I2,q2⟩
end
structure It where
 go:Nat->Hp->Prop
 yld:Nat->Hp->V->Hp->Prop
 stop:Nat->Hp->Prop
def lh(X:Cx)(aa:List (Addr×Obj))(H:Hp)(b:Addr):Prop :=
 H b=none/\b≠X.env.locals/\b∉X.fs/\(b∈X.ex\/X.s₀.heap.objs.size<=b)/\(∀ x c,X.env.cells.lookup x=some c->c≠b)/\∀ p∈X.pn++aa,p.1≠b
theorem Inv.fpOk{X:Cx}{aa:List (Addr×Obj)}{σ:St}{H H':Hp}{s:ah}{b:Addr}(I:Inv X aa σ H s)(hb:s.heap.objs.size<=b)(hn:H' b=none):lh X aa H' b:=by
 refine⟨hn,nP (gB I.lt hb),I.nofs hb,.inr (cp I.sz hb),fun x c e z=>?_,fun p hp z=>?_⟩
 ·obtain⟨v,q⟩:=I.cell x c e
  exact absurd (gB q.lt (by rw[z]; exact hb)) (fh _)
 ·exact absurd (gB (bq (I.pin p hp).1) (by rw[z]; exact hb)) (fh _)
structure qw(P:aK)(w:World)(K:ao)(tg:Expr)(J:It)(fp:List Addr)(it:Addr)(tn:Nat->Heap->Prop):Prop where
 mem:it∈fp
 obj:∀ i h,tn i h->∀ b∈fp,∃ o,h.get? b=some o/\∀ v,o.data≠.cell v
 keep:∀ i h h',tn i h->(∀ b∈fp,∀ o,h.get? b=some o->h'.get? b=some o)->tn i h'
 item:∀ (X:Cx),X.prog=P->X.w=w->X.K=K->X.calm=true->∀ (i:Nat) (aa:List (Addr×Obj)) (s:ah) (σ:St) (H:Hp) (E:Value->ah->Prop),Inv X aa σ H s->(∀ b∈fp,lh X aa H b)->tn i s.heap->J.go i H ->
  wpAny (model P w) X.A (pyNext (.ref it)) (fun r s1=>∃ u,r=some u /\
   wpAny (model P w) X.A (AS tg (.ref it) u) (fun _ s2=>∃ x H',Inv X aa σ H' s2/\RelV x u/\J.yld i H x H'/\tn (i+1) s2.heap/\∀ b∈fp,H' b=none) E s1) E s
 done:∀ (X:Cx),X.prog=P->X.w=w->X.K=K->X.calm=true->∀ (i:Nat) (aa:List (Addr×Obj)) (s:ah) (σ:St) (H:Hp) (E:Value->ah->Prop),Inv X aa σ H s->(∀ b∈fp,lh X aa H b)->tn i s.heap->J.stop i H ->
  wpAny (model P w) X.A (pyNext (.ref it)) (fun r s1=>r=none/\Inv X aa σ H s1) E s
 self:∀ (A:aV) (i:Nat) (s:ah) (Q:Value->ah->Prop) (E:Value->ah->Prop),tn i s.heap->Q (.ref it) s->wpAny (model P w) A (pyIter (.ref it)) Q E s
abbrev TI:=St->Hp->(It->Hp->Prop)->Prop
def vh(X:Cx)(aa:List (Addr×Obj))(σ:St)(tg:Expr)(R:It->Hp->Prop)(itv:Value)(s2:ah):Prop :=
 ∃ (it:Addr) (fp:List Addr) (tn:Nat->Heap->Prop) (J:It) (H':Hp),itv = .ref it/\Inv X aa σ H' s2/\qw X.prog X.w X.K tg J fp it tn/\tn 0 s2.heap/\(∀ b∈fp,lh X aa H' b)/\R J H'
def PI(X:Cx)(tg iter:Expr)(wi:TI):Prop :=
 ∀ (aa:List (Addr×Obj)) (s:ah) (σ:St) (H:Hp) (R:It->Hp->Prop),Inv X aa σ H s->wi σ H R ->
  wpAny (model X.prog X.w) X.A (eval iter X.env) (fun v s1=>wpAny (model X.prog X.w) X.A (pyIter v) (vh X aa σ tg R) X.xe s1) X.xe s
theorem sv{M:Model}{A:aV}{E:Value->ah->Prop}{s:ah}{tg:Expr}{it:Addr}{u:Value}{o:Obj}{n:String}{vs:Array Value}{Q:Unit->ah->Prop}(ho:s.heap.get? it=some o)(hc:o.cls = .type n)(hd:o.data = .fields vs)
  (hn:["enumerate","zip","dict_itemiterator","dict_reverseitemiterator","odict_iterator","itertools.zip_longest","itertools.pairwise"].contains n=false) (hQ:Q () s):wpAny M A (AS tg (.ref it) u) Q E s:=by
 unfold AS
 cases tg <;> first
  | exact ar hQ
  | (cases u <;> first
    | exact ar hQ
    | (refine aj (wpAny_load ho ?_)
       rw[hc,hd]
       show wpAny M A (if(["enumerate","zip","dict_itemiterator","dict_reverseitemiterator","odict_iterator","itertools.zip_longest","itertools.pairwise"].contains n && vs[0]? == some (eG _))=true then _ else _) Q E s
       rw[if_neg (by intro h; rw[hn,Bool.false_and]at h; cases h)]
       exact ar hQ))
def Ab(K:ao)(a:Addr):It :=
 ⟨fun i H=>∃ xs x,bO K H a xs/\xs[i]?=some x,fun i H x H'=>H'=H/\∀ xs,bO K H a xs->xs[i]?=some x,fun i H=>∃ xs,bO K H a xs/\xs.length<=i⟩
def zo(K:ao)(a:Addr):It :=
 ⟨fun i H=>∃ xs x,cJ K H a xs/\xs[i]?=some x,fun i H x H'=>H'=H/\∀ xs,cJ K H a xs->xs[i]?=some x,fun i H=>∃ xs,cJ K H a xs/\xs.length<=i⟩
def sH(lo:Int)(n:Nat):It:=⟨fun i _=>i<n,fun i H x H'=>H'=H/\x = .int (lo+i),fun i _=>n<=i⟩
theorem P6{P:aK}{w:World}{K:ao}{tg:Expr}(a it:Addr):qw P w K tg (Ab K a) [it] it (fun i h=>h.IsListIter it a i) where
 mem:=by simp
 obj:=fun i h st b hb=>by
  have e:b=it:=by simpa using hb
  subst e
  obtain⟨o,e,c,d⟩:=st
  exact⟨o,e,fun v z=>by rw[d]at z; cases z⟩
 keep:=fun i h h' st k=>st.at fun o e=>k it (by simp) o e
 item:=by
  intro X hP hw hK hc i aa s σ H E I hf st hg
  subst hP hw hK
  obtain⟨xs,x,hq,hx⟩:=hg
  obtain⟨its,rv,p,hz⟩:=I.list hq
  obtain⟨u,hu,ru⟩:=rv.get hx
  obtain⟨f0,f1,f2,f3,f4,f5⟩:=hf it (by simp)
  refine wpAny_pyNext_list_item st p.isList (x:=u) (by simpa using hu) fun h' ap sb=>?_
  have I1:Inv X aa σ H { s with heap:=h' }:=I.turned (t':=s.toks) (fun b o hb e=>(sb.2 b hb).trans e) f0 f1 f3 f4 f5
  obtain⟨o,e,c,d⟩:=id ap
  exact⟨u,rfl,sv (s:={ s with heap:=h' }) e c d (by decide) ⟨x,H,I1,ru,⟨rfl,fun ys hy=>by rw[I.list_inj hy hq]; exact hx⟩,ap,fun b hb=>(hf b hb).1⟩⟩
 done:=by
  intro X hP hw hK hc i aa s σ H E I hf st hg
  subst hP hw hK
  obtain⟨xs,hq,hx⟩:=hg
  obtain⟨its,rv,p,hz⟩:=I.list hq
  obtain⟨f0,f1,f2,f3,f4,f5⟩:=hf it (by simp)
  have hl:=rv.length
  exact wpAny_pyNext_list_end (I.ok.hd hc) st p.isList (by simp; ac_rfl) fun h' eb=>⟨rfl,I.turned (t':=s.toks) (fun b o hb e=>eb b o hb e) f0 f1 f3 f4 f5⟩
 self:=fun _ _ _ _ _ st h=>wpAny_pyIter_listiter st h
theorem PP{P:aK}{w:World}{K:ao}{tg:Expr}(a it:Addr):qw P w K tg (zo K a) [it] it (fun i h=>h.IsTupleIter it a i) where
 mem:=by simp
 obj:=fun i h st b hb=>by
  have e:b=it:=by simpa using hb
  subst e
  obtain⟨o,e,c,d⟩:=st
  exact⟨o,e,fun v z=>by rw[d]at z; cases z⟩
 keep:=fun i h h' st k=>st.at fun o e=>k it (by simp) o e
 item:=by
  intro X hP hw hK hc i aa s σ H E I hf st hg
  subst hP hw hK
  obtain⟨xs,x,hq,hx⟩:=hg
  obtain⟨its,rv,p,hz⟩:=I.tuple hq
  obtain⟨u,hu,ru⟩:=rv.get hx
  obtain⟨f0,f1,f2,f3,f4,f5⟩:=hf it (by simp)
  refine wpAny_pyNext_tuple_item st (show s.heap.IsTuple a its.toArray from p) (x:=u) (by simpa using hu) fun h' ap sb=>?_
  have I1:Inv X aa σ H { s with heap:=h' }:=I.turned (t':=s.toks) (fun b o hb e=>(sb.2 b hb).trans e) f0 f1 f3 f4 f5
  obtain⟨o,e,c,d⟩:=id ap
  exact⟨u,rfl,sv (s:={ s with heap:=h' }) e c d (by decide) ⟨x,H,I1,ru,⟨rfl,fun ys hy=>by rw[I.tuple_inj hy hq]; exact hx⟩,ap,fun b hb=>(hf b hb).1⟩⟩
 done:=by
  intro X hP hw hK hc i aa s σ H E I hf st hg
  subst hP hw hK
  obtain⟨xs,hq,hx⟩:=hg
  obtain⟨its,rv,p,hz⟩:=I.tuple hq
  obtain⟨f0,f1,f2,f3,f4,f5⟩:=hf it (by simp)
  have hl:=rv.length
  exact wpAny_pyNext_tuple_end (I.ok.hd hc) st (show s.heap.IsTuple a its.toArray from p) (by simp; ac_rfl) fun h' eb=>⟨rfl,I.turned (t':=s.toks) (fun b o hb e=>eb b o hb e) f0 f1 f3 f4 f5⟩
 self:=fun _ _ _ _ _ st h=>wpAny_pyIter_tupleiter st h
theorem Is{P:aK}{w:World}{K:ao}{tg:Expr}(it:Addr)(lo:Int)(n:Nat):qw P w K tg (sH lo n) [it] it (fun i h=>IsRangeIter h it (lo+(i:Nat) * 1) ((n:Int)-(i:Nat)) 1) where
 mem:=by simp
 obj:=fun i h st b hb=>by
  have e:b=it:=by simpa using hb
  subst e
  exact⟨_,st,fun v z=>by
   have z':Data.fields _=Data.cell v:=z
   cases z'⟩
 keep:=fun i h h' st k=>k it (by simp) _ st
 item:=by
  intro X hP hw hK hc i aa s σ H E I hf st hg
  subst hP hw hK
  obtain⟨f0,f1,f2,f3,f4,f5⟩:=hf it (by simp)
  have W:=Walks.range (prog:=X.prog) (w:=X.w) (I.ok.hd hc) it lo 1 n
  refine W.item i s _ _ hg st fun v h' tk hv ap kk=>?_
  obtain⟨t,rfl⟩:=hv
  have I1:Inv X aa σ H { s with heap:=h',toks:=tk }:=I.turned (fun b o hb e=>kk b o (by simpa using hb) e) f0 f1 f3 f4 f5
  refine⟨_,rfl,sv (s:={ s with heap:=h',toks:=tk }) (n:="range_iterator") ap rfl rfl (by decide) ⟨.int (lo+i),H,I1,⟨t,?_⟩,⟨rfl,rfl⟩,ap,fun b hb=>(hf b hb).1⟩⟩
  rw[Int.mul_one]
 done:=by
  intro X hP hw hK hc i aa s σ H E I hf st hg
  subst hP hw hK
  obtain⟨f0,f1,f2,f3,f4,f5⟩:=hf it (by simp)
  exact wpAny_pyNext_range_end (I.ok.hd hc) st (by have:n<=i:=hg; ac_rfl) fun h' eb=>⟨rfl,I.turned (t':=s.toks) (fun b o hb e=>eb b o hb e) f0 f1 f3 f4 f5⟩
 self:=fun _ _ _ _ _ st h=>wpAny_pyIter_rangeiter st h
end L2
namespace L2
section
variable{X:Cx}{tg:Expr}
theorem CH{aa:List (Addr×Obj)}{σ:St}{H:Hp}{s:ah}{R:It->Hp->Prop}{E:Value->ah->Prop}{lo hi:Int}{t u v:Tok}{tk:Nat}(I:Inv X aa σ H s)(h1 : -(2 ^ 62)<=lo)(h2:lo<2 ^ 62)(h3 : -(2 ^ 62)<=hi)(h4:hi<2 ^ 62)
  (q:R (sH lo (hi-lo).toNat) H):wpAny (model X.prog X.w) X.A (pyIter (.ref s.heap.objs.size)) (vh X aa σ tg R) E { s with heap:=s.heap.push { cls:=.type "range",data:=.fields #[.int lo t,.int hi u,.int 1 v] },toks:=tk }:=by
 refine wpAny_pyIter_range (IsRange.new ..) (small_one h1 h2 h3 h4) ?_
 have I1:Inv X aa σ H { s with heap:=s.heap.push { cls:=.type "range",data:=.fields #[.int lo t,.int hi u,.int 1 v] },toks:=tk }:=I.kept fun b o e=>bB _ e
 refine⟨(s.heap.push { cls:=.type "range",data:=.fields #[.int lo t,.int hi u,.int 1 v] }).objs.size,[(s.heap.push { cls:=.type "range",data:=.fields #[.int lo t,.int hi u,.int 1 v] }).objs.size],_,_,H,rfl,
  I1.kept (t':=tk) fun b o e=>bB _ e,Is _ lo (hi-lo).toNat,?_,fun b hb=>?_,q⟩
 ·have e1:lo+((0:Nat):Int) * 1=lo:=by simp
  have e2:(((hi-lo).toNat:Nat):Int)-((0:Nat):Int)=Builtin.Range.rangeSize lo hi 1:=by rw[rangeSize_one]; split <;> ac_rfl
  show IsRangeIter _ _ (lo+((0:Nat):Int) * 1) ((((hi-lo).toNat:Nat):Int)-((0:Nat):Int)) 1
  rw[e1,e2]
  exact cN _ rfl
 ·have e:b=(s.heap.push { cls:=.type "range",data:=.fields #[.int lo t,.int hi u,.int 1 v] }).objs.size:=by simpa using hb
  subst e
  exact I1.fpOk (aL _) (I1.hok.fresh (aL _))
def N5(ta:TA):TI:=fun σ H R=>ta σ H fun vs H1=>∃ j:Int,vs=[.int j]/\-(2 ^ 62)<=j/\j<2 ^ 62/\R (sH 0 j.toNat) H1
def Kj(ta:TA):TI:=fun σ H R=>ta σ H fun vs H1=>∃ i j:Int,vs=[.int i,.int j]/\(-(2 ^ 62)<=i/\i<2 ^ 62/\-(2 ^ 62)<=j/\j<2 ^ 62)/\R (sH i (j-i).toNat) H1
theorem KI{a:Expr}{ta:TA}{p pos:Pos}(hg:Gl X "range")(hm:X.mg "range" = none)(ha:PA X [a] ta)(hs:aZ [a] X.env=[(false,eval a X.env)]:=by rfl):PI X tg (.Call (.Name "range" p) [a] [] pos) (N5 ta):=by
 intro aa s σ H R I h
 refine Call_ (sM I hg hm boot_range (GT (aH (ha pos aa s σ H _ I h) fun us s1 ⟨vs,H1,I1,r1,q1⟩=>?_) hs rfl))
 obtain⟨j,e,q1,q2,q⟩:=q1
 subst e
 cases r1 with
 | cons r rr =>
  cases rr
  obtain⟨t,rfl⟩:=r
  exact call_range_1 (CH I1 (by ac_rfl) (by ac_rfl) q1 q2 (by simpa using q))
theorem O8{a b:Expr}{ta:TA}{p pos:Pos}(hg:Gl X "range")(hm:X.mg "range" = none)(ha:PA X [a,b] ta)(hs:aZ [a,b] X.env=[(false,eval a X.env),(false,eval b X.env)]:=by rfl)(jk:aZ [b] X.env=[(false,eval b X.env)]:=by rfl) :
  PI X tg (.Call (.Name "range" p) [a,b] [] pos) (Kj ta):=by
 intro aa s σ H R I h
 refine Call_ (sM I hg hm boot_range (GT (aH (ha pos aa s σ H _ I h) fun us s1 ⟨vs,H1,I1,r1,q1⟩=>?_) (by rw[hs,jk]) (by rw[jk]; rfl)))
 obtain⟨i,j,e,⟨q1,q2,q3,q4⟩,q⟩:=q1
 subst e
 cases r1 with
 | cons r rr =>
  cases rr with
  | cons r' rr =>
   cases rr
   obtain⟨t,rfl⟩:=r
   obtain⟨t',rfl⟩:=r'
   exact call_range_2 (CH I1 q1 q2 q3 q4 q)
def NL(wi:TI)(g:TG)(tb:TS):TS:=fun D σ H=>wi σ H fun J H1=>∃ W:Nat->Nat->St->Hp->Prop,(∃ m,W 0 m σ H1)/\∀ i m σ H,W i m σ H ->
 (J.stop i H/\D.nx σ H)\/(J.go i H/\∃ N:St->Hp->Prop,(∀ σ' H',N σ' H'->∃ m',m'<m/\W (i+1) m' σ' H')/\∀ x H',J.yld i H x H'->g x σ H' fun σ2 H2=>tb { D with nx:=N,ct:=N,bk:=D.nx } σ2 H2)
def tW(fp:List Addr)(h:Heap):List (Addr×Obj):=fp.filterMap fun b=>(h.get? b).map fun o=>(b,o)
theorem wB{fp:List Addr}{h:Heap}{b:Addr}{o:Obj}(hb:b∈fp)(e:h.get? b=some o):(b,o)∈tW fp h:=List.mem_filterMap.mpr ⟨b,hb,by rw[e]; rfl⟩
theorem KY{fp:List Addr}{h:Heap}{p:Addr×Obj}(hp:p∈tW fp h):p.1∈fp/\h.get? p.1=some p.2:=by
 obtain⟨b,hb,e⟩:=List.mem_filterMap.mp hp
 cases q:h.get? b with
 | none=>rw[q]at e; cases e
 | some o =>
  rw[q]at e
  have e':(b,o)=p:=dE e
  subst e'
  exact⟨hb,q⟩
theorem Inv.pinned{aa:List (Addr×Obj)}{σ:St}{H:Hp}{s:ah}{fp:List Addr}(I:Inv X aa σ H s)(hf:∀ b∈fp,lh X aa H b)(ho:∀ b∈fp,∃ o,s.heap.get? b=some o/\∀ v,o.data≠.cell v):Inv X (aa++tW fp s.heap) σ H s :=
 I.pins_of fun p hp=>(dO.mp hp).elim (fun z=>I.pin p (lN _ z)) fun z=>by
  obtain⟨hb,e⟩:=KY z
  obtain⟨f0,f1,f2,_⟩:=hf p.1 hb
  obtain⟨o,e',d⟩:=ho p.1 hb
  rw[e]at e'; cases e'
  exact⟨e,f0,f1,f2,d⟩
theorem Inv.unpinned{aa pl:List (Addr×Obj)}{σ:St}{H:Hp}{s:ah}(I:Inv X (aa++pl) σ H s):Inv X aa σ H s:=I.pins_of fun p hp=>I.pin p (lN _ (AO _ hp))
theorem Jw{iter:Expr}{body:List Stmt}{wi:TI}{g:TG}{tb:TS}{pos:Pos}(hp:AR (model X.prog X.w) X.A X.env X.xe)(hc:X.calm=true)(hi:PI X tg iter wi)(hg:PG X tg g)(hb:i_ X body tb)
  (hs:∀ x,rg iter X.env x=pure x:=by intro _; rfl):PS X (.For tg iter body [] pos) (NL wi g tb):=by
 intro aa s σ H D I h
 refine wpAny_For (aH (hi aa s σ H _ I h) fun v s1 h1=>aH h1 fun itv s2 h2=>?_) hs
 obtain⟨it,fp,tn,J,H2,e,I2,T,a8,f2,W,⟨m0,w0⟩,turn⟩:=h2
 subst e
 have stat:∀ {H':Hp},(∀ b∈fp,H' b=none)->∀ b∈fp,lh X aa H' b:=fun hn b hb=>⟨hn b hb,(f2 b hb).2⟩
 refine codeAny_forLoop_any (fun n s'=>∃ i σ' H',Inv X aa σ' H' s'/\tn i s'.heap/\(∀ b∈fp,H' b=none)/\W i n σ' H') ?_ m0 ⟨0,σ,H2,I2,a8,fun b hb=>(f2 b hb).1,w0⟩
 rintro n s3 ⟨i,σ3,H3,I3,aI,fr3,w3⟩
 rcases turn i n σ3 H3 w3 with⟨stop,qn⟩ | ⟨go,N,hN,step⟩
 ·refine rf hp (aH (T.done X rfl rfl rfl hc i aa s3 σ3 H3 X.xe I3 (stat fr3) aI stop) fun r s4 ⟨hr,I4⟩=>?_)
  subst hr
  exact AQ ⟨σ3,H3,I4,qn⟩
 ·refine rf hp (aH (T.item X rfl rfl rfl hc i aa s3 σ3 H3 X.xe I3 (stat fr3) aI go) fun r s4 ⟨u,hr,h4⟩=>?_)
  subst hr
  refine rf hp (aH h4 fun _ s5 ⟨x,H5,I5,r5,y5,bn,fr5⟩=>?_)
  have I5':=I5.pinned (stat fr5) (T.obj _ _ bn)
  refine rf hp (aH (hg _ s5 σ3 H5 x u _ I5' r5 (step x H5 y5)) fun _ s6 ⟨σ6,H6,I6,q6⟩=>?_)
  refine rf hp (aH (hb _ s6 σ6 H6 _ I6 q6) fun f s7 q7=>?_)
  have again:∀ {σ7:St} {H7:Hp},Inv X (aa++tW fp s5.heap) σ7 H7 s7->N σ7 H7->∃ m,m<n/\∃ i σ' H',Inv X aa σ' H' s7/\tn i s7.heap/\(∀ b∈fp,H' b=none)/\W i m σ' H':=fun {σ7 H7} I7 n7=>by
   obtain⟨m',hm,w7⟩:=hN σ7 H7 n7
   refine⟨m',hm,i+1,σ7,H7,I7.unpinned,T.keep _ _ _ bn fun b hb o e=>(I7.pin (b,o) (lN _ (lN _ (wB hb e)))).1,fun b hb=>?_,w7⟩
   obtain⟨o,e,d⟩:=T.obj _ _ bn b hb
   exact(I7.pin (b,o) (lN _ (lN _ (wB hb e)))).2.1
  cases f with
  | next=>obtain⟨σ7,H7,I7,n7⟩:=q7; exact again I7 n7
  | cont=>obtain⟨σ7,H7,I7,n7⟩:=q7; exact again I7 n7
  | brk=>obtain⟨σ7,H7,I7,q7⟩:=q7; exact⟨σ7,H7,I7.unpinned,q7⟩
  | ret v=>obtain⟨x7,σ7,H7,I7,r7,q7⟩:=q7; exact⟨x7,σ7,H7,I7.unpinned,r7,q7⟩
end
end L2
namespace L2
abbrev R2:=V->V->Hp->VK->Prop
def bW(X:Cx)(f:Value->Value->Sem Value)(r:R2):Prop :=
 ∀ (aa:List (Addr×Obj)) (s:ah) (σ:St) (H:Hp) (x y:V) (v u:Value) (Q:VK),Inv X aa σ H s->RelV x v->RelV y u->r x y H Q ->
  wpAny (model X.prog X.w) X.A (f v u) (EP X aa σ Q) X.xe s
def xu(X:Cx)(f:Value->Sem Value)(r:V->Hp->VK->Prop):Prop :=
 ∀ (aa:List (Addr×Obj)) (s:ah) (σ:St) (H:Hp) (x:V) (v:Value) (Q:VK),Inv X aa σ H s->RelV x v->r x H Q ->
  wpAny (model X.prog X.w) X.A (f v) (EP X aa σ Q) X.xe s
def fP(X:Cx)(f:Value)(r:List V->Hp->VK->Prop):Prop :=
 ∀ (aa:List (Addr×Obj)) (s:ah) (σ:St) (H:Hp) (xs:List V) (us:List Value) (Q:VK),Inv X aa σ H s->bh xs us->r xs H Q ->
  wpAny (model X.prog X.w) X.A (call f us) (EP X aa σ Q) X.xe s
def vW(r:R2)(ta tb:TE):TE:=fun σ H Q=>ta σ H fun x H1=>tb σ H1 fun y H2=>r x y H2 Q
def L5(r:V->Hp->VK->Prop)(ta:TE):TE:=fun σ H Q=>ta σ H fun x H1=>r x H1 Q
def rI(C:Int->Int->Prop)(g:Int->Int->V):R2:=fun x y H Q=>∃ i j,x = .int i/\y = .int j/\C i j/\Q (g i j) H
def lH(g:Int->Int->V):R2:=fun x y H Q=>∃ i j,x = .int i/\y = .int j/\Q (g i j) H
def rU(g:Int->V):V->Hp->VK->Prop:=fun x H Q=>∃ i,x = .int i/\Q (g i) H
section
variable{X:Cx}{a b c:Expr}{ta tb tc:TE}{pos:Pos}
theorem yM(ha:PE X a ta)(hb:PE X b tb){aa:List (Addr×Obj)}{s:ah}{σ:St}{H:Hp}{R:V->V->Hp->Prop}(I:Inv X aa σ H s)
  (h:ta σ H fun x H1=>tb σ H1 fun y H2=>R x y H2) {Q:Value->ah->Prop} {f:Value->Value->Sem Value}
  (hf:∀ v u s2 x y H2,Inv X aa σ H2 s2->RelV x v->RelV y u->R x y H2->wpAny (model X.prog X.w) X.A (f v u) Q X.xe s2) :
  wpAny (model X.prog X.w) X.A (eval a X.env) (fun v s₁=>wpAny (model X.prog X.w) X.A (eval b X.env) (fun u s₂=>wpAny (model X.prog X.w) X.A (f v u) Q X.xe s₂) X.xe s₁) X.xe s:=by
 refine aH (ha aa s σ H _ I h) fun v s1 ⟨x,H1,I1,r1,q1⟩=>?_
 refine aH (hb aa s1 σ H1 _ I1 q1) fun u s2 ⟨y,H2,I2,r2,q2⟩=>?_
 exact hf v u s2 x y H2 I2 r1 r2 q2
theorem FH{op:Operator}{r:R2}(ho:bW X (iR op) r)(ha:PE X a ta)(hb:PE X b tb):PE X (.BinOp a op b pos) (vW r ta tb):=by
 intro aa s σ H Q I h
 exact wpAny_BinOp (yM ha hb I h fun v u s2 x y H2 I2 rx ry q=>ho aa s2 σ H2 x y v u Q I2 rx ry q)
theorem JE{op:UnaryOp}{r:V->Hp->VK->Prop}(ho:xu X (unaryOp op) r)(ha:PE X a ta):PE X (.UnaryOp op a pos) (L5 r ta):=by
 intro aa s σ H Q I h
 exact UnaryOp_ (aH (ha aa s σ H _ I h) fun v s1 ⟨x,H1,I1,r1,q1⟩=>ho aa s1 σ H1 x v Q I1 r1 q1)
theorem y6{f:Value->Value->Sem Value}{C:Int->Int->Prop}{g:Int->Int->Int}
  (rule:∀ (i j:Int) (t u:Tok) (s:ah) (Q:Value->ah->Prop) (E:Value->ah->Prop),C i j->Q (.int (g i j) s.toks) { s with toks:=s.toks+1 }->wpAny (model X.prog X.w) X.A (f (.int i t) (.int j u)) Q E s) :
  bW X f (rI C fun i j=>.int (g i j)):=by
 intro aa s σ H x y v u Q I rx ry h
 obtain⟨i,j,rfl,rfl,hc,q⟩:=h
 obtain⟨t,rfl⟩:=rx
 obtain⟨t',rfl⟩:=ry
 exact rule i j t t' s _ _ hc ⟨.int (g i j),H,I.tok _,⟨_,rfl⟩,q⟩
theorem BS{f:Value->Value->Sem Value}{g:Int->Int->Int}
  (rule:∀ (i j:Int) (t u:Tok) (s:ah) (Q:Value->ah->Prop) (E:Value->ah->Prop),Q (.int (g i j) s.toks) { s with toks:=s.toks+1 }->wpAny (model X.prog X.w) X.A (f (.int i t) (.int j u)) Q E s) :
  bW X f (lH fun i j=>.int (g i j)):=by
 intro aa s σ H x y v u Q I rx ry h
 obtain⟨i,j,rfl,rfl,q⟩:=h
 obtain⟨t,rfl⟩:=rx
 obtain⟨t',rfl⟩:=ry
 exact rule i j t t' s _ _ ⟨.int (g i j),H,I.tok _,⟨_,rfl⟩,q⟩
theorem AG{f:Value->Value->Sem Value}{g:Int->Int->Bool}
  (rule:∀ (i j:Int) (t u:Tok) (s:ah) (Q:Value->ah->Prop) (E:Value->ah->Prop),Q (.bool (g i j)) s->wpAny (model X.prog X.w) X.A (f (.int i t) (.int j u)) Q E s) :
  bW X f (lH fun i j=>.bl (g i j)):=by
 intro aa s σ H x y v u Q I rx ry h
 obtain⟨i,j,rfl,rfl,q⟩:=h
 obtain⟨t,rfl⟩:=rx
 obtain⟨t',rfl⟩:=ry
 exact rule i j t t' s _ _ ⟨.bl (g i j),H,I,rfl,q⟩
def C4(i j:Int):Prop:=0<=j/\j<=1000000/\i.natAbs<2 ^ 64
def Ay(i j:Int):Prop:=(-(2 ^ 64)<i/\i<2 ^ 64)\/(-(2 ^ 64)<j/\j<2 ^ 64)
theorem Ay.ok{i j:Int}(h:Ay i j):IntMulOk i j:=by
 rcases h with⟨h1,h2⟩ | ⟨h1,h2⟩
 ·exact .of_left (intBits_le_64 h1 h2)
 ·exact .of_right (intBits_le_64 h1 h2)
theorem Ry:bW X (iR .Add) (lH fun i j=>.int (i+j)):=BS fun _ _ _ _ _ _ _ q=>add_int q
theorem jr:bW X (iR .Sub) (lH fun i j=>.int (i-j)):=BS fun _ _ _ _ _ _ _ q=>sub_int q
theorem RI:bW X (iR .Mult) (rI Ay fun i j=>.int (i * j)):=y6 fun _ _ _ _ _ _ _ hc q=>mul_int q hc.ok
theorem s_:bW X (iR .Mod) (rI (fun _ j=>0<j) fun i j=>.int (i % j)):=y6 fun i j _ _ _ _ _ hc q=>by
 have h1:(0:Int)<j:=hc
 exact mod_int' (by ac_rfl) (by rw[Int.fmod_eq_emod_of_nonneg i (by ac_rfl)]; exact q)
theorem LI:bW X (iR .Pow) (rI C4 fun i j=>.int (i ^ j.toNat)):=y6 fun _ _ _ _ _ _ _ hc q=>pow_int_small hc.1 hc.2.1 hc.2.2 q
theorem JF{f:Value->Sem Value}{g:Int->Int}
  (rule:∀ (i:Int) (t:Tok) (s:ah) (Q:Value->ah->Prop) (E:Value->ah->Prop),Q (.int (g i) s.toks) { s with toks:=s.toks+1 }->wpAny (model X.prog X.w) X.A (f (.int i t)) Q E s) :
  xu X f (rU fun i=>.int (g i)):=by
 intro aa s σ H x v Q I rx h
 obtain⟨i,rfl,q⟩:=h
 obtain⟨t,rfl⟩:=rx
 exact rule i t s _ _ ⟨.int (g i),H,I.tok _,⟨_,rfl⟩,q⟩
theorem wM:xu X (unaryOp .USub) (rU fun i=>.int (-i)):=JF fun _ _ _ _ _ q=>neg_int q
end
def oB:V->V->Bool
 | .non,.non=>true | .non,.int _=>true | .int _,.non=>true | .non,.bl _=>true | .bl _,.non=>true | .non,.str _=>true | .str _,.non=>true
 | .int _,.int _=>true | .bl _,.bl _=>true | .str _,.str _=>true | .byt _,.byt _=>true
 | .int _,.str _=>true | .str _,.int _=>true | .bl _,.str _=>true | .str _,.bl _=>true
 | _,_=>false
def Ca:R2:=fun x y H Q=>oB x y=true/\Q (.bl (decide (x=y))) H
def CB:R2:=fun x y H Q=>oB x y=true/\Q (.bl (!decide (x=y))) H
theorem Db{i j:Int}:decide (V.int i=V.int j)=(i == j):=by
 rw[ph]
 simp
theorem FT{i j:Bool}:decide (V.bl i=V.bl j)=(i == j):=by
 rw[ph]
 simp
theorem C6{i j:Str}:decide (V.str i=V.str j)=(i == j):=by
 rw[ph]
 simp
theorem BX{i j:Array UInt8}:decide (V.byt i=V.byt j)=(i.toList == j.toList):=by
 rw[ph]
 cases i
 cases j
 simp
section
variable{X:Cx}{a b c:Expr}{ta tb tc:TE}{pos:Pos}
theorem df{aa:List (Addr×Obj)}{σ:St}{H:Hp}{s:ah}{Q:VK}{k k':Bool}(I:Inv X aa σ H s)(q:Q (.bl k) H)(e:k=k'):EP X aa σ Q (.bool k') s:=by
 subst e
 exact⟨.bl k,H,I,rfl,q⟩
theorem RT:bW X (d8 .Eq) Ca:=by
 intro aa s σ H x y v u Q I rx ry h
 obtain⟨hs,q⟩:=h
 cases x with
 | non =>
  cases rx
  cases y with
  | non=>cases ry; exact PySem.EqNone.eq_none_none (df I q (by simp))
  | bl j=>cases ry; exact PySem.EqNone.eq_none_bool (df I q (by simp))
  | int j=>obtain⟨t',rfl⟩:=ry; exact PySem.EqNone.eq_none_int (df I q (by simp))
  | str j=>obtain⟨t',rfl⟩:=ry; exact PySem.EqNone.eq_none_str (df I q (by simp))
  | _=>exact absurd (show false=true from hs) fH
 | bl i =>
  cases rx
  cases y with
  | non=>cases ry; exact PySem.EqNone.eq_bool_none (df I q (by simp))
  | bl j=>cases ry; exact eq_bool (df I q FT)
  | str j=>obtain⟨t',rfl⟩:=ry; exact PySem.EqMixed.eq_bool_str (df I q (by simp))
  | _=>exact absurd (show false=true from hs) fH
 | int i =>
  obtain⟨t,rfl⟩:=rx
  cases y with
  | non=>cases ry; exact PySem.EqNone.eq_int_none (df I q (by simp))
  | int j=>obtain⟨t',rfl⟩:=ry; exact eq_int (df I q Db)
  | str j=>obtain⟨t',rfl⟩:=ry; exact PySem.EqMixed.eq_int_str (df I q (by simp))
  | _=>exact absurd (show false=true from hs) fH
 | str i =>
  obtain⟨t,rfl⟩:=rx
  cases y with
  | non=>cases ry; exact PySem.EqNone.eq_str_none (df I q (by simp))
  | bl j=>cases ry; exact PySem.EqMixed.eq_str_bool (df I q (by simp))
  | int j=>obtain⟨t',rfl⟩:=ry; exact PySem.EqMixed.eq_str_int (df I q (by simp))
  | str j=>obtain⟨t',rfl⟩:=ry; exact eq_str (df I q C6)
  | _=>exact absurd (show false=true from hs) fH
 | byt i =>
  obtain⟨t,rfl⟩:=rx
  cases y with
  | byt j=>obtain⟨t',rfl⟩:=ry; exact PySem.W.eq_bytes (df I q BX)
  | _=>exact absurd (show false=true from hs) fH
 | _=>cases y <;> exact absurd (show false=true from hs) fH
theorem Rw:bW X (d8 .NotEq) CB:=by
 intro aa s σ H x y v u Q I rx ry h
 obtain⟨hs,q⟩:=h
 cases x with
 | non =>
  cases rx
  cases y with
  | non=>cases ry; exact PySem.EqNone.ne_none_none (df I q (by simp))
  | bl j=>cases ry; exact PySem.EqNone.ne_none_bool (df I q (by simp))
  | int j=>obtain⟨t',rfl⟩:=ry; exact PySem.EqNone.ne_none_int (df I q (by simp))
  | str j=>obtain⟨t',rfl⟩:=ry; exact PySem.EqNone.ne_none_str (df I q (by simp))
  | _=>exact absurd (show false=true from hs) fH
 | bl i =>
  cases rx
  cases y with
  | non=>cases ry; exact PySem.EqNone.ne_bool_none (df I q (by simp))
  | bl j=>cases ry; exact ne_bool (df I q (congrArg not FT))
  | str j=>obtain⟨t',rfl⟩:=ry; exact PySem.EqMixed.ne_bool_str (df I q (by simp))
  | _=>exact absurd (show false=true from hs) fH
 | int i =>
  obtain⟨t,rfl⟩:=rx
  cases y with
  | non=>cases ry; exact PySem.EqNone.ne_int_none (df I q (by simp))
  | int j=>obtain⟨t',rfl⟩:=ry; exact ne_int (df I q (congrArg not Db))
  | str j=>obtain⟨t',rfl⟩:=ry; exact PySem.EqMixed.ne_int_str (df I q (by simp))
  | _=>exact absurd (show false=true from hs) fH
 | str i =>
  obtain⟨t,rfl⟩:=rx
  cases y with
  | non=>cases ry; exact PySem.EqNone.ne_str_none (df I q (by simp))
  | bl j=>cases ry; exact PySem.EqMixed.ne_str_bool (df I q (by simp))
  | int j=>obtain⟨t',rfl⟩:=ry; exact PySem.EqMixed.ne_str_int (df I q (by simp))
  | str j=>obtain⟨t',rfl⟩:=ry; exact ne_str (df I q (congrArg not C6))
  | _=>exact absurd (show false=true from hs) fH
 | byt i =>
  obtain⟨t,rfl⟩:=rx
  cases y with
  | byt j=>obtain⟨t',rfl⟩:=ry; exact PySem.W.ne_bytes (df I q (congrArg not BX))
  | _=>exact absurd (show false=true from hs) fH
 | _=>cases y <;> exact absurd (show false=true from hs) fH
theorem zf:bW X (d8 .Lt) (lH fun i j=>.bl (decide (i<j))):=AG fun _ _ _ _ _ _ _ q=>lt_int q
theorem nt:bW X (d8 .LtE) (lH fun i j=>.bl (decide (i<=j))):=AG fun _ _ _ _ _ _ _ q=>le_int q
theorem P8:bW X (d8 .Gt) (lH fun i j=>.bl (decide (j<i))):=AG fun _ _ _ _ _ _ _ q=>gt_int q
theorem Rz:bW X (d8 .In) (fun x y H Q=>∃ i j,x = .str i/\y = .str j/\Q (.bl (!(GU j i 0 j.length 1).isEmpty)) H):=by
 intro aa s σ H x y v u Q I rx ry h
 obtain⟨i,j,rfl,rfl,q⟩:=h
 obtain⟨t,rfl⟩:=rx
 obtain⟨t',rfl⟩:=ry
 exact in_str (df I q rfl)
theorem bW.or{f:Value->Value->Sem Value}{r r':R2}(h:bW X f r)(h':bW X f r'):bW X f (fun x y H Q=>r x y H Q\/r' x y H Q):=by
 intro aa s σ H x y v u Q I rx ry q
 rcases q with q | q
 ·exact h aa s σ H x y v u Q I rx ry q
 ·exact h' aa s σ H x y v u Q I rx ry q
theorem OZ{op:CmpOp}{r:R2}(ho:bW X (d8 op) r)(ha:PE X a ta)(hb:PE X b tb)(hm:pf op b=false):PE X (.Compare a [op] [b] pos) (vW r ta tb):=by
 intro aa s σ H Q I h
 exact wpAny_Compare1 (yM ha hb I h fun v u s2 x y H2 I2 rx ry q=>ho aa s2 σ H2 x y v u Q I2 rx ry q) hm
def Fp(t:TE):TT:=fun σ H Q=>t σ H fun x H'=>∃ k,x = .bl k/\Q k H'
theorem Mi{op:CmpOp}{r:R2}(ho:bW X (d8 op) r)(ha:PE X a ta)(hb:PE X b tb)(hm:pf op b=false):PT X (.Compare a [op] [b] pos) (Fp (vW r ta tb)):=by
 intro aa s σ H Q I h
 refine wpAny_isTrue_Compare1 (aH (ha aa s σ H _ I h) fun v s1 ⟨x,H1,I1,r1,q1⟩=>aH (hb aa s1 σ H1 _ I1 q1) fun u s2 ⟨y,H2,I2,r2,q2⟩ =>
  aH (ho aa s2 σ H2 x y v u _ I2 r1 r2 q2) fun c s3 ⟨z,H3,I3,r3,k,e,q3⟩=>?_) hm
 subst e
 cases r3
 exact nN ⟨H3,I3,q3⟩
def yK(r r':R2)(ta tb tc:TE):TE:=fun σ H Q=>ta σ H fun x H1=>tb σ H1 fun y H2=>r x y H2 fun z H3=>∃ k,z = .bl k /\
 (if k=true then tc σ H3 fun w' H4=>r' y w' H4 Q else Q (.bl false) H3)
theorem Mv{op op':CmpOp}{r r':R2}(ho:bW X (d8 op) r)(gJ:bW X (d8 op') r')(ha:PE X a ta)(hb:PE X b tb)(hc:PE X c tc)
  (hm:lastMarks [op,op'] [b,c]=false:=by with_unfolding_all rfl):PE X (.Compare a [op,op'] [b,c] pos) (yK r r' ta tb tc):=by
 intro aa s σ H Q I h
 refine Compare_chain (aH (ha aa s σ H _ I h) fun v s1 ⟨x,H1,I1,r1,q1⟩=>chain_link (aH (hb aa s1 σ H1 _ I1 q1) fun u s2 ⟨y,H2,I2,r2,q2⟩ =>
  aH (ho aa s2 σ H2 x y v u _ I2 r1 r2 q2) fun d s3 ⟨z,H3,I3,r3,k,e,q3⟩=>?_)) hm
 subst e
 cases r3
 refine nN ?_
 cases k with
 | false=>exact ite_ff ⟨.bl false,H3,I3,rfl,q3⟩
 | true=>exact ite_tt (chain_last (aH (hc aa s3 σ H3 _ I3 q3) fun w' s4 ⟨z',H4,I4,r4,q4⟩=>gJ aa s4 σ H4 y z' u w' Q I4 r2 r4 q4))
theorem NR{op op':CmpOp}{r r':R2}(ho:bW X (d8 op) r)(gJ:bW X (d8 op') r')(ha:PE X a ta)(hb:PE X b tb)(hc:PE X c tc)
  (hm:lastMarks [op,op'] [b,c]=false:=by with_unfolding_all rfl):PT X (.Compare a [op,op'] [b,c] pos) (Fp (yK r r' ta tb tc)):=by
 intro aa s σ H Q I h
 refine isTrue_chain (aH (ha aa s σ H _ I h) fun v s1 ⟨x,H1,I1,r1,q1⟩=>test_link (aH (hb aa s1 σ H1 _ I1 q1) fun u s2 ⟨y,H2,I2,r2,q2⟩ =>
  aH (ho aa s2 σ H2 x y v u _ I2 r1 r2 q2) fun d s3 ⟨z,H3,I3,r3,k,e,q3⟩=>?_)) hm
 subst e
 cases r3
 refine nN ?_
 cases k with
 | false =>
  obtain⟨k',e',q'⟩:=q3
  cases e'
  exact ite_ff ⟨H3,I3,q'⟩
 | true =>
  refine ite_tt (test_last (aH (hc aa s3 σ H3 _ I3 q3) fun w' s4 ⟨z',H4,I4,r4,q4⟩=>aH (gJ aa s4 σ H4 y z' u w' _ I4 r2 r4 q4) fun d' s5 ⟨z2,H5,I5,r5,k2,e2,q5⟩=>?_))
  subst e2
  cases r5
  exact nN ⟨H5,I5,q5⟩
theorem vJ:(a7:Nat)<2 ^ 63:=by rw[pi]; decide
theorem Ip:bW X (iR .Add) (fun x y H Q=>∃ i j,x = .str i/\y = .str j/\i.length+j.length<=a7/\Q (.str (i++j)) H):=by
 intro aa s σ H x y v u Q I rx ry h
 obtain⟨i,j,rfl,rfl,hz,q⟩:=h
 obtain⟨t,rfl⟩:=rx
 obtain⟨t',rfl⟩:=ry
 exact add_str (fun t' tk=>⟨.str (i++j),H,I.tok _,⟨_,rfl⟩,q⟩) hz
theorem vals1{x:V}{us:List Value}(r:bh [x] us):∃ u,us=[u]/\RelV x u:=by
 cases r with
 | cons r1 r2=>cases r2; exact⟨_,rfl,r1⟩
theorem vals2{x y:V}{us:List Value}(r:bh [x,y] us):∃ u w',us=[u,w']/\RelV x u/\RelV y w':=by
 cases r with
 | cons r1 r2 =>
  cases r2 with
  | cons r3 r4=>cases r4; exact⟨_,_,rfl,r1,r3⟩
theorem MU(hc:X.calm=true):fP X (.builtin "max") (fun xs H Q=>∃ i j,xs=[.int i,.int j]/\Q (.int (if j > i then j else i)) H):=by
 intro aa s σ H xs us Q I r h
 obtain⟨i,j,rfl,q⟩:=h
 obtain⟨u,w',rfl,⟨t,rfl⟩,⟨t',rfl⟩⟩:=vals2 r
 refine max_two_ints (I.ok.hd hc) fun h' tk k=>⟨_,H,I.kept k,?_,q⟩
 by_cases hj:j > i
 ·rw[if_pos hj,if_pos hj]; exact⟨_,rfl⟩
 ·rw[if_neg hj,if_neg hj]; exact⟨_,rfl⟩
def Eh(K:ao)(x:V)(H:Hp)(n:Nat):Prop :=
 match x with
 | .str y=>y.length<=a7/\n=y.length
 | .byt y=>y.size<=a7/\n=y.size
 | .ref p=>(∃ xs,bO K H p xs/\n=xs.length)\/∃ xs,cJ K H p xs/\n=xs.length
 | _=>False
theorem eD:fP X (.builtin "len") (fun xs H Q=>∃ x n,xs=[x]/\Eh X.K x H n/\Q (.int n) H):=by
 intro aa s σ H xs us Q I r h
 obtain⟨x,n,rfl,e,q⟩:=h
 obtain⟨u,rfl,rx⟩:=vals1 r
 have hl:=vJ
 have hs:a7=16777216:=pi
 cases x with
 | str y =>
  obtain⟨t,rfl⟩:=rx
  obtain⟨hy,e'⟩:y.length<=a7/\n=y.length:=e
  subst e'
  exact len_str (by ac_rfl) ⟨.int _,H,I.tok _,⟨_,rfl⟩,q⟩
 | byt y =>
  obtain⟨t,rfl⟩:=rx
  obtain⟨hy,e'⟩:y.size<=a7/\n=y.size:=e
  subst e'
  exact PySem.W.len_bytes (by ac_rfl) ⟨.int _,H,I.tok _,⟨_,rfl⟩,q⟩
 | ref p =>
  cases rx
  have e':(∃ xs,bO X.K H p xs/\n=xs.length)\/∃ xs,cJ X.K H p xs/\n=xs.length:=e
  rcases e' with⟨xs,hx,e'⟩ | ⟨xs,hx,e'⟩
  ·subst e'
   obtain⟨its,r',pl,hz⟩:=I.list hx
   have b7:=r'.length
   exact Calls.call_len_list pl.isList (by simp only[cA]; ac_rfl) ⟨.int xs.length,H,I.tok _,⟨_,by simp only[cA]; rw[b7]⟩,q⟩
  ·subst e'
   obtain⟨its,r',pl,hz⟩:=I.tuple hx
   have b7:=r'.length
   exact len_tuple pl (by simp only[cA]; ac_rfl) ⟨.int xs.length,H,I.tok _,⟨_,by simp only[cA]; rw[b7]⟩,q⟩
 | _=>exact(show False from e).elim
end
end L2
namespace L2
structure GI(h:Heap)(x dx C:Addr)(mA:Str->Option Value):Prop where
 obj:h.get? x=some (re C dx)
 ns:h.Ns1 dx mA
 ne:dx≠x
theorem N8{h:Heap}{dx:Addr}{mA:Str->Option Value}(n:h.Ns1 dx mA):∃ od,h.get? dx=some od/\∀ name,PySem.W.lookIn name od=some (mA name):=by
 obtain⟨o,es,ep,ho,hd,hk,_,hm⟩:=n
 refine⟨o,ho,fun name=>?_⟩
 have e:=hm name
 unfold nsFind findBy at e
 rw[← Array.find?_toList]at e
 unfold PySem.W.lookIn
 rw[hd]
 dsimp only
 split
 ·rename_i y q
  rw[q]at e
  exact congrArg some e
 ·rename_i q
  rw[q]at e
  have a:es.toList.any (·.refKey)=false:=by
   rw[GV]
   intro y hy
   obtain⟨z,t,gI⟩:=hk y (Array.mem_toList_iff.mp hy)
   simp[DictEntry.refKey,gI]
  have a':¬ es.toList.any (·.refKey)=true:=by rw[a]; exact fH
  rw[if_neg a']
  exact congrArg some e
theorem GI.look{h:Heap}{x dx C:Addr}{mA:Str->Option Value}(I:GI h x dx C mA):∃ od,PySem.W.InstAt h x (re C dx) C (some od)/\∀ name,PySem.W.lookIn name od=some (mA name) :=
 let ⟨od,ho,hl⟩:=N8 I.ns
 ⟨od,⟨I.obj,rfl,rfl,ho⟩,hl⟩
theorem mq.some_of{v:V}{o:Option Value}(r:mq (some v) o):∃ u,o=some u/\RelV v u:=by
 cases o with
 | none=>exact(show False from r).elim
 | some u=>exact⟨u,rfl,r⟩
theorem mq.none_of{o:Option Value}(r:mq none o):o=none:=by
 cases o with
 | none=>rfl
 | some u=>exact(show False from r).elim
section
variable{P:aK}{w:World}{H H':Hp}{h h':Heap}{a C dx:Addr}{fs fs':List (Str×V)}
theorem JI(hok:dv P w H h)(e:H a=some (.ins C dx fs)):∃ mA,GI h a dx C mA/\(∀ f,mq (fs.lookup f) (mA f))/\PySem.Within mA (fs.map (·.1))/\fs.length<=1000/\H dx=some (.own a):=by
 obtain⟨d,z,ne,ob,mA,n,r,q⟩:=(show cx P w H h a (.ins C dx fs)from hok a _ e)
 exact⟨mA,⟨ob,n,ne⟩,r,q,z,d⟩
end
structure DJ(K:ao)(C:Addr):Prop where
 pg:PySem.W.plainGet K C nQ=true
 hd:PySem.W.hasDictIn K C=true
 po:PySem.W.plainOver K C=true
 sa:xy K (.ref C) "__setattr__" = some (some (.builtin "object.__setattr__"))
theorem DJ.get{K:ao}{C:Addr}(c:DJ K C)(f:Str):PySem.W.plainGet K C f=true:=c.pg
section
variable{X:Cx}{aa:List (Addr×Obj)}{σ:St}{H:Hp}{s:ah}{a C dx:Addr}{fs:List (Str×V)}{f:Str}{v:V}{A:aV}{E:Value->ah->Prop}
theorem Inv.made(I:Inv X aa σ H s):Inv X aa σ (upd (upd H s.heap.objs.size (.own (s.heap.objs.size+1))) (s.heap.objs.size+1) (.ins C s.heap.objs.size []))
  { s with heap:=(s.heap.push pq).push (re C s.heap.objs.size) }:=by
 have e1:(s.heap.push pq).get? s.heap.objs.size=some pq:=cN s.heap rfl
 have e2:((s.heap.push pq).push (re C s.heap.objs.size)).get? (s.heap.objs.size+1)=some (re C s.heap.objs.size):=by
  have:=cN (s.heap.push pq) (o:=re C s.heap.objs.size) rfl
  rwa[ub]at this
 have e3:(s.heap.push pq).Ns s.heap.objs.size (fun _=>none):=⟨pq,#[],_,e1,rfl,(fun e he=>absurd he (by simp)),fun _=>rfl⟩
 have I1:=I.laid (a:=s.heap.objs.size) (o:=.own (s.heap.objs.size+1)) (h':=s.heap.push pq) (t':=s.toks) (fun b u q=>bB _ q) (aL _) ⟨_,e1⟩
 refine I1.laid (a:=s.heap.objs.size+1) (o:=.ins C s.heap.objs.size []) (t':=s.toks) (fun b u q=>bB _ q) (lO (ub _ _)) ?_
 have ne:s.heap.objs.size≠s.heap.objs.size+1:=cO (j8 _)
 refine⟨by rw[bp ne,bA],j9 _,ne,e2,fun _=>none,(Heap.Ns1.of_empty e3).at fun o q=>bB _ q,fun _=>True.intro,fun y hy=>absurd rfl hy⟩
end
section
variable{X:Cx}{aa:List (Addr×Obj)}{σ:St}{H:Hp}{s:ah}{A:aV}{E:Value->ah->Prop}{Q:Value->ah->Prop}{c:Value}{b:Bool}
inductive iM(K:ao)(H:Hp):V->Value->Prop where
 | non:iM K H .non (.type "NoneType")
 | bl (x:Bool):iM K H (.bl x) (.type "bool")
 | int (i:Int):iM K H (.int i) (.type "int")
 | str (x:Str):iM K H (.str x) (.type "str")
 | flt (x:UInt64):iM K H (.flt x) (.type "float")
 | lst {a:Addr} {xs:List V} (e:H a=some (.lst xs)):iM K H (.ref a) (.type "list")
 | frz {a:Addr} {o:Obj} {xs:List V} (e:H a=some (.frz o (.lst xs))):iM K H (.ref a) (.type "list")
 | tup {a:Addr} {xs:List V} (e:H a=some (.tup xs)):iM K H (.ref a) (.type "tuple")
 | dK {a:Addr} {kvs:List (aw×V)} (e:H a=some (.dK kvs)):iM K H (.ref a) (.type "dict")
 | dT {a:Addr} {kvs:List (List aw×V)} (e:H a=some (.dT kvs)):iM K H (.ref a) (.type "dict")
 | ins {a C dx:Addr} {fs:List (Str×V)} (e:H a=some (.ins C dx fs)) (cl:DJ K C) (ha:xy K (.ref C) "__class__" = some (some (.builtin "object.__class__")))
   (hn:PySem.W.specialIn K (.builtin "object.__class__") "__get__" = some (some (.builtin "getset_descriptor.__get__"))) (uJ:PySem.W.takesIn K (.builtin "object.__class__")=some true)
   (hm:PySem.W.mroIn K C (.type "object")=some true):iM K H (.ref a) (.ref C)
theorem PR{x:V}{u t:Value}(I:Inv X aa σ H s)(rx:RelV x u)(ty:iM X.K H x t)(e:jd X.K t c=some b)(h:∀ tk,Q (.bool b) { s with toks:=tk }) :
  wpAny (model X.prog X.w) A (call (.builtin "isinstance") [u,c]) Q E s:=by
 cases ty with
 | non=>cases (show u=Value.none from rx); exact lQ PySem.W.kitx_none I.kIn True.intro e (fun z=>nomatch z) h
 | bl y=>cases (show u=Value.bool y from rx); exact lQ PySem.W.kitx_bool I.kIn True.intro e (fun z=>nomatch z) h
 | int i=>obtain⟨t,q⟩:=(show ∃ t,u=Value.int i t from rx); cases q; exact lQ PySem.W.kitx_int I.kIn True.intro e (fun z=>nomatch z) h
 | str y=>obtain⟨t,q⟩:=(show ∃ t,u=Value.str y t from rx); cases q; exact lQ PySem.W.kitx_str I.kIn True.intro e (fun z=>nomatch z) h
 | flt y=>obtain⟨t,q⟩:=(show ∃ t,u=Value.float y t from rx); cases q; exact lQ PySem.W.kitx_float I.kIn True.intro e (fun z=>nomatch z) h
 | @lst a xs ea =>
  cases (show u=Value.ref a from rx)
  obtain⟨_,_,n,_,h1⟩:=(show cx X.prog X.w H s.heap a (.lst xs)from I.hok a _ ea)
  exact lQ PySem.W.kitx_list I.kIn ⟨_,h1,rfl⟩ e (fun z=>nomatch z) h
 | @frz a ob xs ea =>
  cases (show u=Value.ref a from rx)
  obtain⟨_,_,_,n,_,h1⟩:=(show cx X.prog X.w H s.heap a (.frz ob (.lst xs))from I.hok a _ ea)
  exact lQ PySem.W.kitx_list I.kIn ⟨_,h1,rfl⟩ e (fun z=>nomatch z) h
 | @tup a xs ea =>
  cases (show u=Value.ref a from rx)
  obtain⟨_,_,_,p,_⟩:=(show cx X.prog X.w H s.heap a (.tup xs)from I.hok a _ ea)
  obtain⟨o,h1,h2,_⟩:=p
  exact lQ PySem.W.kitx_tuple I.kIn ⟨o,h1,h2⟩ e (fun z=>nomatch z) h
 | @dK a kvs ea =>
  cases (show u=Value.ref a from rx)
  obtain⟨_,_,vs,_,p⟩:=(show cx X.prog X.w H s.heap a (.dK kvs)from I.hok a _ ea)
  obtain⟨o,es,ep,h1,h2,_⟩:=p
  exact lQ PySem.W.kitx_dict I.kIn ⟨o,h1,h2.1⟩ e (fun z=>nomatch z) h
 | @dT a kvs ea =>
  cases (show u=Value.ref a from rx)
  obtain⟨_,_,xs,_,o,es,ep,h1,h2,_⟩:=(show cx X.prog X.w H s.heap a (.dT kvs)from I.hok a _ ea)
  exact lQ PySem.W.kitx_dict I.kIn ⟨o,h1,h2.1⟩ e (fun z=>nomatch z) h
 | @ins a C dx fs ea cl ha hn uJ hm =>
  cases (show u=Value.ref a from rx)
  obtain⟨mA,O,_⟩:=JI I.hok ea
  obtain⟨od,J,_⟩:=O.look
  exact lQ (PySem.W.kitx_own (cl.get _) cl.hd ha hn uJ hm) I.kIn J e (fun z=>nomatch z) h
end
end L2
namespace L2
structure fe(k:Nat)(A:aV):Prop where
 hd:A.handled=none
 dp:A.depth+3 * k+5<recursionLimit
 un:A.units+16 * k+200<cLine
theorem fe.mono{j k:Nat}{A:aV}(r:fe k A)(h:j<=k):fe j A:=⟨r.hd,by have:=r.dp; ac_rfl,by have:=r.un; ac_rfl⟩
theorem fe.deeper{k:Nat}{A:aV}(r:fe (k+1) A)(env:Env):fe k (A.deeper env) :=
 ⟨r.hd,by have:=r.dp; show A.depth+1+3 * k+5<_; ac_rfl,by have:=r.un; show A.units+3+16 * k+200<_; ac_rfl⟩
theorem fe.in1{k:Nat}{A:aV}(r:fe (k+1) A):fe k A.in1 :=
 ⟨r.hd,by have:=r.dp; show A.depth+3 * k+5<_; ac_rfl,by have:=r.un; show A.units+1+16 * k+200<_; ac_rfl⟩
theorem fe.depth{k:Nat}{A:aV}(r:fe k A):A.depth<recursionLimit:=by have:=r.dp; ac_rfl
theorem fe.units{k:Nat}{A:aV}(r:fe k A):A.units+64<cLine:=by have:=r.un; ac_rfl
def NA:TA:=fun _ H Q=>Q [] H
def QN(ta:TE)(tr:TA):TA:=fun σ H Q=>ta σ H fun x H1=>tr σ H1 fun xs H2=>Q (x::xs) H2
section
variable{X:Cx}{e:Expr}{es:List Expr}{te:TE}{t:TA}{pos:Pos}
theorem l9:PA X [] NA:=fun _ _ _ _ H Q I h=>GW ⟨[],H,I,.nil,h⟩
theorem jU(ha:PE X e te)(hr:PA X es t)(hs:aZ (e::es) X.env=(false,eval e X.env)::aZ es X.env:=by rfl):PA X (e::es) (QN te t):=by
 intro pos aa s σ H Q I h
 rw[hs]
 show wpAny _ _ (spliced ((false,eval e X.env)::eU pos (aZ es X.env))) _ _ s
 refine AT (aH (ha aa s σ H _ I h) fun u s1 ⟨x,H1,I1,r1,q1⟩=>?_)
 exact aH (hr pos aa s1 σ H1 _ I1 q1) fun us s2 ⟨xs,H2,I2,r2,q2⟩=>⟨x::xs,H2,I2,.cons r1 r2,q2⟩
def Pn(t:TA):TE:=fun σ H Q=>t σ H fun xs H1=>xs.length<=a7/\∀ p,H1 p=none->Q (.ref p) (upd H1 p (.tup xs))
def Oy(t:TA):TE:=fun σ H Q=>t σ H fun xs H1=>xs.length<=a7/\∀ p,H1 p=none->Q (.ref p) (upd H1 p (.lst xs))
theorem KS{x1}(h:PA X es t):PE X (.Tuple es x1 pos) (Pn t):=by
 intro aa s σ H Q I hq
 refine wpAny_Tuple_spliced (aH (h pos aa s σ H _ I hq) fun us s1 ⟨xs,H1,I1,r,z,q⟩=>⟨by rw[← r.length]; exact z,?_⟩)
 have hf:H1 s1.heap.objs.size=none:=I1.hok.fresh (aL _)
 refine⟨.ref s1.heap.objs.size,upd H1 s1.heap.objs.size (.tup xs),I1.laid (t':=s1.toks) (fun b u e=>bB _ e) (aL _) ?_,rfl,q _ hf⟩
 exact⟨z,us,r,⟨⟨_,cN _ rfl,rfl,_,rfl⟩,_,cN _ rfl,rfl⟩⟩
theorem IH(h:PA X es t):PE X (.List es pos) (Oy t):=by
 intro aa s σ H Q I hq
 refine wpAny_List_spliced (aH (h pos aa s σ H _ I hq) fun us s1 ⟨xs,H1,I1,r,z,q⟩=>⟨by rw[← r.length]; exact z,?_⟩)
 have hf:H1 s1.heap.objs.size=none:=I1.hok.fresh (aL _)
 refine⟨.ref s1.heap.objs.size,upd H1 s1.heap.objs.size (.lst xs),I1.laid (t':=s1.toks) (fun b u e=>bB _ e) (aL _) ?_,rfl,q _ hf⟩
 exact⟨z,us,0,r,cN _ rfl⟩
end
abbrev Sp:=List V->Hp->VK->XK->Prop
abbrev gv:=List Env->Hp->ah->XK->Value->ah->Prop
structure qO(P:aK)(w:World)(K:ao)(mg:Str->Option Value)(base:Heap)(A:aV)(outer:List Env)(s:ah)(H:Hp):Prop where
 frames:A.frames=some outer
 mod:Mod K mg base
 bs:∀ b o,base.get? b=some o->s.heap.get? b=some o/\H b=none
 bsz:base.objs.size<=s.heap.objs.size
 funs:s.heap.FunFrames base outer
 frf:∀ b∈fO outer,H b=none
 hok:dv P w H s.heap
 bare:mF s.gens
def CE(outer:List Env)(P:aK)(w:World)(H:Hp)(s:ah)(Q:VK)(u:Value)(s':ah):Prop :=
 ∃ v H',s'.os=s.os/\mF s'.gens/\Un (fO outer) [] H H' s.heap s'.heap/\dv P w H' s'.heap/\RelV v u/\Q v H'
def CR(CX:gv)(outer:List Env)(P:aK)(w:World)(H:Hp)(s:ah)(Q:VK)(E:XK)(r:Result)(s':ah):Prop :=
 match r with
 | .ok (.ret u)=>CE outer P w H s Q u s'
 | .ok _=>False
 | .error e=>CX outer H s E e s'
structure kB(P:aK)(w:World)(K:ao)(mg:Str->Option Value)(base:Heap)(CX:gv)(k:Nat)(f:Addr)(fd:iy)(ps:List Str)(sp:Sp):Prop where
 len:∀ vs H Q E,sp vs H Q E->vs.length=ps.length
 run:∀ (A:aV) (outer:List Env) (s:ah) (H:Hp) (args:Args) (us:List Value) (vs:List V) (Q:VK) (E:XK),fe k A->qO P w K mg base A outer s H->BindsTo s fd args (ps.zip us)->bh vs us->sp vs H Q E ->
  pr (model P w) A (.call (.ref f) args) (CR CX outer P w H s Q E) s
theorem qO.in1{P:aK}{w:World}{K:ao}{mg:Str->Option Value}{base:Heap}{A:aV}{outer:List Env}{s:ah}{H:Hp}(e:qO P w K mg base A outer s H) :
  qO P w K mg base A.in1 outer s H:=⟨e.frames,e.mod,e.bs,e.bsz,e.funs,e.frf,e.hok,e.bare⟩
section
variable{X:Cx}{aa:List (Addr×Obj)}{σ:St}{H:Hp}{s s':ah}
theorem Inv.env0(I:Inv X aa σ H s):qO X.prog X.w X.K X.mg X.base X.A X.stack s H :=
 ⟨I.ok.frames,I.ok.mod,I.bs,cp I.ok.bsz I.sz,I.stack,I.stkFree,I.hok,I.bare⟩
theorem Inv.after{Q:VK}{u:Value}(I:Inv X aa σ H s)(h:CE X.stack X.prog X.w H s Q u s'):EP X aa σ Q u s':=by
 obtain⟨v,H',os,bare,un,hok,r,q⟩:=h
 obtain⟨hh,g,d,t,os'⟩:=s'
 obtain rfl:os'=s.os:=os
 exact⟨v,H',I.call (h':=hh) (g':=g) (d':=d) (t':=t) (ch:=[]) un hok bare (fun b z=>absurd z (by simp)),r,q⟩
end
def K6(sp:Sp)(dvs:List V)(E:XK)(t:TA):TE:=fun σ H Q=>t σ H fun vs H1=>sp (vs++dvs) H1 Q E
def Binds(K:ao)(fd:iy)(ps:List Str)(ds:List Value):Prop :=
 ∀ (s:ah) (us:List Value),K.In s.heap->(us++ds).length=ps.length->BindsTo s fd ⟨us,[]⟩ (ps.zip (us++ds))
theorem Binds.all{K:ao}{fd:iy}{ps:List Str}(h:∀ us:List Value,us.length=ps.length->g7 fd ⟨us,[]⟩=pure (ps.zip us)):Binds K fd ps []:=fun s us _ hl=>by
 rw[iz]at hl ⊢
 exact .of_eq (h us hl)
def ql(CX:gv)(X:Cx)(E:XK):Prop:=∀ (aa:List (Addr×Obj)) (σ:St) (H:Hp) (s:ah) (e:Value) (s':ah),Inv X aa σ H s->CX X.stack H s E e s'->X.xe e s'
section
variable{X:Cx}{CX:gv}{k:Nat}{f C:Addr}{fd:iy}{ps:List Str}{sp:Sp}{dvs:List V}{ds:List Value}{E:XK}{x m:Str}{p pos apos:Pos}{e o:Expr}{es:List Expr}{ta:TE}{t:TA}
theorem IC{aa:List (Addr×Obj)}{σ:St}{H:Hp}{s:ah}{Q:VK}{us:List Value}{vs:List V}(F:kB X.prog X.w X.K X.mg X.base CX k f fd ps sp)(hr:fe k X.A)(hb:Binds X.K fd ps ds)(hd:bh dvs ds)(hx:ql CX X E)
  (I:Inv X aa σ H s) (r:bh vs us) (h:sp (vs++dvs) H Q E):wpAny (model X.prog X.w) X.A (call (.ref f) us) (EP X aa σ Q) X.xe s:=by
 have r2:bh (vs++dvs) (us++ds):=r.append hd
 have hl:(us++ds).length=ps.length:=by rw[← r2.length]; exact F.len _ _ _ _ h
 refine wpAny_call (xz (F.run X.A X.stack s H ⟨us,[]⟩ (us++ds) (vs++dvs) Q E hr I.env0 (hb s us I.kIn hl) r2 h) fun r s' hq=>?_)
 cases r with
 | error e=>exact hx aa σ H s e s' I hq
 | ok fl =>
  cases fl with
  | ret u=>exact I.after hq
  | next=>exact jI hq
  | brk=>exact jI hq
  | cont=>exact jI hq
theorem DL(F:kB X.prog X.w X.K X.mg X.base CX k f fd ps sp)(hr:fe k X.A)(hg:Gl X x)(hm:X.mg x=some (.ref f))(hk:uc X.K (.ref f)=true)(hb:Binds X.K fd ps ds)(hd:bh dvs ds)(hx:ql CX X E)
  (ha:PA X (e::es) t) (iW:(x == ("__debug__" : Str))=false:=by decide) (he:aZ (e::es) X.env=(false,eval e X.env)::aZ es X.env:=by rfl) (cL:(eU pos (aZ es X.env)).any (·.1)=false:=by rfl) :
  PE X (.Call (.Name x p) (e::es) [] pos) (K6 sp dvs E t):=by
 intro aa s σ H Q I h
 refine GX (yZ I hg hm ?_ iW)
 refine PySem.W.callWith_K (h₀:=X.base) I.ok.mod.kin hk (aH (ha pos aa s σ H _ I h) fun us s1 ⟨vs,H1,I1,r,q⟩=>⟨I1.kIn,?_⟩) he cL
 exact IC F hr hb hd hx I1 r q
end
structure bZ(N P:List Str)(sc:Scope):Prop where
 kind:sc.kind = .function
 co:sc.isCoroutine=false
 gen:sc.isGenerator=false
 nd:N.Nodup
 pre:N.take P.length=P
 par:∀ x∈P,sc.names.lookup x=some .local\/sc.names.lookup x=some .cell
 nofree:∀ y∈sc.names,y.2≠.free
theorem EK{kindOf:Str->Option gf}{x:Str}:∀ {binds:List (Str×Value)} {m:Str->Option Value},(∀ v,(x,v)∉binds)->bindL kindOf binds m x=m x
 | [],_,_=>rfl
 | (n,v)::r,m,h=>by
  unfold bindL
  rw[EK fun w hw=>h w (kD _ hw)]
  split
  ·have:x≠n:=by rintro rfl; exact h v mH
   simp[this]
  ·rfl
theorem C9{kindOf:Str->Option gf}{x:Str}:∀ {binds:List (Str×Value)} {m:Str->Option Value},(∀ v,(x,v)∉binds)->bindC kindOf binds m x=m x
 | [],_,_=>rfl
 | (n,v)::r,m,h=>by
  unfold bindC
  rw[C9 fun w hw=>h w (kD _ hw)]
  split
  ·rfl
  ·have:x≠n:=by rintro rfl; exact h v mH
   simp[this]
theorem EO{kindOf:Str->Option gf}{x:Str}{v:Value}:∀ {P:List Str} {vs:List Value} {i:Nat} {m:Str->Option Value},P.Nodup->P[i]?=some x->vs[i]?=some v->kindOf x=some .local ->
  bindL kindOf (P.zip vs) m x=some v
 | [],_,_,_,_,h,_,_=>by simp at h
 | _::_,[],_,_,_,_,h,_=>by simp at h
 | p::P,w::vs,0,m,nd,h1,h2,hk=>by
  simp at h1 h2; subst h1; subst h2
  show bindL kindOf ((p,w)::P.zip vs) m p=_
  unfold bindL
  rw[EK fun v hv=>(iS.mp nd).1 (List.of_mem_zip hv).1,if_pos hk]
  simp
 | p::P,w::vs,i+1,m,nd,h1,h2,hk=>by
  show bindL kindOf ((p,w)::P.zip vs) m x=_
  unfold bindL
  exact EO (i:=i) (iS.mp nd).2 (by simpa using h1) (by simpa using h2) hk
theorem Cc{kindOf:Str->Option gf}{x:Str}{v:Value}:∀ {P:List Str} {vs:List Value} {i:Nat} {m:Str->Option Value},P.Nodup->P[i]?=some x->vs[i]?=some v->kindOf x≠some .local ->
  bindC kindOf (P.zip vs) m x=some v
 | [],_,_,_,_,h,_,_=>by simp at h
 | _::_,[],_,_,_,_,h,_=>by simp at h
 | p::P,w::vs,0,m,nd,h1,h2,hk=>by
  simp at h1 h2; subst h1; subst h2
  show bindC kindOf ((p,w)::P.zip vs) m p=_
  unfold bindC
  rw[C9 fun v hv=>(iS.mp nd).1 (List.of_mem_zip hv).1,if_neg hk]
  simp
 | p::P,w::vs,i+1,m,nd,h1,h2,hk=>by
  show bindC kindOf ((p,w)::P.zip vs) m x=_
  unfold bindC
  exact Cc (i:=i) (iS.mp nd).2 (by simpa using h1) (by simpa using h2) hk
def start(N:List Str)(vs:List V):St:=vs.map some++bj (N.length-vs.length) none
def jA(CX:gv)(P:aK)(w:World)(K:ao)(mg:Str->Option Value)(base:Heap)(N:List Str)(qual:Str)(scope:Scope)(f:Addr)(cd:Value)(A:aV)(outer:List Env)(s:ah)(H:Hp)(E:XK):Cx where
 prog:=P
 w:=w
 K:=K
 mg:=mg
 base:=base
 A:=A.deeper (j_ qual scope s.heap.objs.size f cd)
 N:=N
 s₀:=s
 H₀:=H
 env:=j_ qual scope s.heap.objs.size f cd
 outer:=outer
 stack:=j_ qual scope s.heap.objs.size f cd::outer
 ex:=[]
 calm:=true
 fn:=fun _=>true
 pn:=[]
 xe:=fun e s'=>wpAny (model P w) (A.deeper (j_ qual scope s.heap.objs.size f cd)) (leaving (j_ qual scope s.heap.objs.size f cd) e) (fun _ s''=>CX outer H s E e s'') (fun e' s''=>CX outer H s E e' s'') s'
theorem B1{sc:Scope}{n:Nat}{x:Str}(h:sc.names.lookup x=some .cell):∃ c,(fI n sc.names []).lookup x=some c:=by
 have q:=PySem.W.cellsFrom_some sc.names n [] (.inl h)
 exact Option.isSome_iff_exists.mp q
theorem LM{CX:gv}{P:aK}{w:World}{K:ao}{mg:Str->Option Value}{base:Heap}{N ps:List Str}{qual:Str}{scope:Scope}{f:Addr}{cd:Value}{A:aV}{outer:List Env}{s s1:ah}{H:Hp}{E:XK}{us:List Value}{vs:List V}
  (S:bZ N ps scope) (hd:A.handled=none) (e0:qO P w K mg base A outer s H) (hl:vs.length=ps.length) (r:bh vs us)
  (x:InCallC s s.heap.objs.size (bindL (j_ qual scope s.heap.objs.size f cd).kindOf (ps.zip us) fun _=>none) (fI (s.heap.objs.size+1) scope.names []) (bindC (j_ qual scope s.heap.objs.size f cd).kindOf (ps.zip us) fun _=>none) s1) :
  Inv (jA CX P w K mg base N qual scope f cd A outer s H E) [] (start N vs) H s1:=by
 have cL:ps.length<=N.length:=by have:=congrArg pt S.pre; rw[gE]at this; ac_rfl
 obtain⟨h1,tk,rfl,hk⟩:=x.done
 have noA:∀ b:Addr,b∉(jA CX P w K mg base N qual scope f cd A outer s H E).ex:=fun b z=>absurd (show b∈([]:List Addr)from z) (by simp)
 refine⟨⟨e0.mod,S.kind,rfl,rfl,aL _,fun y z c h1 h2=>?_,fun y hy=>?_,fun y c _ h=>?_,fun _=>hd,Around.frames_deeper e0.frames,.inr ⟨rfl,rfl⟩,fun b z=>absurd z (noA b),e0.bs,e0.bsz,fun b _ _=>noA b,fun b z=>absurd z (noA b),e0.funs,e0.frf⟩,
  rfl,e0.bare,Un.kept hk,⟨_,x.toInCall.ns,fun i y v h1 h2 h3=>?_⟩,fun y c h=>⟨_,x.cell y c h⟩,e0.hok.fresh (aL _),fun y c h=>?_,fun p hp=>absurd (show p∈([]:List (Addr×Obj))from hp) (by simp),e0.hok.kept hk,?_⟩
 ·exact name_of_addr x.apart (kE h1) (kE h2)
 ·have hy:scope.names.lookup y=some .cell\/scope.names.lookup y=some .free:=hy
  rcases hy with hy | hy
  ·exact B1 hy
  ·exact absurd rfl (S.nofree _ (kE hy))
 ·exact lM (x.above y c (kE h))
 ·have hi:i<vs.length:=by
   unfold start at h2
   by_cases hi:i<vs.length
   ·exact hi
   ·rw[jJ (by simpa using hi)]at h2
    rw[List.getElem?_replicate]at h2
    split at h2 <;> cases h2
  have ha:vs[i]?=some v:=by
   unfold start at h2
   rw[fJ (by simpa using hi),iA]at h2
   cases e:vs[i]? with
   | none=>rw[e]at h2; cases h2
   | some a=>rw[e]at h2; cases h2; rfl
  obtain⟨u,hu,rv⟩:=r.get ha
  have hp:ps[i]?=some y:=by
   rw[← S.pre,xA (by ac_rfl)]; exact h1
  have ndP:ps.Nodup:=by rw[← S.pre]; exact S.nd.sublist (List.take_sublist _ _)
  refine⟨u,rv,?_⟩
  rcases S.par y (ud hp)with k | k
  ·exact .inl ⟨k,EO ndP hp hu k⟩
  ·obtain⟨c,e⟩:=B1 (n:=s.heap.objs.size+1) k
   refine .inr ⟨.inl k,c,e,?_⟩
   have q:=x.cell y c e
   rw[Cc ndP hp hu (by show scope.names.lookup y≠_; rw[k]; decide)]at q
   exact q
 ·exact e0.hok.fresh (lM (x.above y c (kE h)))
 ·unfold start
  show _=N.length
  rw[cT,cq,List.length_replicate]
  ac_rfl
theorem FA{CX:gv}{P:aK}{w:World}{K:ao}{mg:Str->Option Value}{base:Heap}{k:Nat}{f:Addr}{name qual:Str}{params:Arguments}{body:List Stmt}{scope:Scope}{dV kV doc pm aJ ct oc:Value}{an od:Option Addr}
  {osl:Array (Option Value)} {N ps:List Str} {sp:Sp} (lk:K.lookup f=some ⟨oc,od,.func (kF name qual params body scope dV kV doc pm an aJ ct),osl⟩) (bF:xB K aJ qual=true) (S:bZ N ps scope)
  (len:∀ vs H Q E,sp vs H Q E->vs.length=ps.length)
  (kM:∀ (A:aV) (outer:List Env) (s:ah) (H:Hp) (vs:List V) (Q:VK) (E:XK),fe k (A.deeper (j_ qual scope s.heap.objs.size f aJ))->sp vs H Q E ->
   ∃ t,i_ (jA CX P w K mg base N qual scope f aJ A outer s H E) body t/\t { nx:=fun _ H'=>Q .non H',rt:=Q } (start N vs) H) :
  kB P w K mg base CX (k+1) f (kF name qual params body scope dV kV doc pm an aJ ct) ps sp:=by
 refine⟨len,fun A outer s H args us vs Q E hr e0 hb r lW=>?_⟩
 have hl:=len _ _ _ _ lW
 have KX:K.In s.heap:=e0.mod.kin.keeps fun b o e=>(e0.bs b o e).1
 have lim:s.heap.NoLimit:=e0.mod.nolimit.keeps fun b o e=>(e0.bs b o e).1
 have Rg:∀ y∈ps.zip us,scope.names.lookup y.1=some .local\/(scope.names.lookup y.1=some .cell/\((fI (s.heap.objs.size+1) scope.names []).lookup y.1).isSome=true):=fun⟨n,v⟩ hy=>by
  rcases S.par n (List.of_mem_zip hy).1 with q | q
  ·exact .inl q
  ·exact .inr ⟨q,PySem.W.cellsFrom_some _ _ _ (.inl q)⟩
 refine codeAny_call_function hr.depth (KX _ _ lk) rfl S.co S.gen rfl (PySem.W.codeRec_of KX bF) (hb _ _ _ _ ?_)
 refine wpAny_newFunctionEnv_cells S.kind Rg fun env he s1 x=>?_
 subst he
 refine⟨lim.keeps x.toInCall.keep,codeAny_func ?_⟩
 obtain⟨t,ht,hq⟩:=kM A outer s H vs Q E (hr.deeper _) lW
 have I:Inv (jA CX P w K mg base N qual scope f aJ A outer s H E) [] (start N vs) H s1:=LM S hr.hd e0 hl r x
 refine dG (ht [] s1 (start N vs) H _ I hq) (fun fl s' hs=>?_) fun e s' hs=>hs
 have fin:∀ {σ':St} {H':Hp} {v:V} {u:Value},Inv (jA CX P w K mg base N qual scope f aJ A outer s H E) [] σ' H' s'->RelV v u->Q v H'->CE outer P w H s Q u s' :=
  fun {σ' H' v u} J rv q=>⟨v,H',J.os,J.bare,J.base,J.hok,rv,q⟩
 cases fl with
 | ret u =>
  obtain⟨v,σ',H',J,rv,q⟩:=hs
  exact fin J rv q
 | next =>
  obtain⟨σ',H',J,q⟩:=hs
  exact fin (v:=V.non) (u:=Value.none) J rfl q
 | brk =>
  obtain⟨_,_,_,q⟩:=hs
  exact jI q
 | cont =>
  obtain⟨_,_,_,q⟩:=hs
  exact jI q
end L2
namespace L2
section
variable{X:Cx}{x:Str}{p pos:Pos}{e:Expr}{es:List Expr}{t:TA}{id T:String}{r:List V->Hp->VK->Prop}
def B9(r:List V->Hp->VK->Prop)(t:TA):TE:=fun σ H Q=>t σ H fun vs H1=>r vs H1 Q
theorem pc(hc:fP X (.builtin id) r)(hg:Gl X x)(hm:X.mg x=none)(hv:eE x=some (.builtin id))(ha:PA X (e::es) t)(hn:x≠"__name__":=by decide)(iW:(x == ("__debug__" : Str))=false:=by decide)
  (he:aZ (e::es) X.env=(false,eval e X.env)::aZ es X.env:=by rfl) (cL:(eU pos (aZ es X.env)).any (·.1)=false:=by rfl):PE X (.Call (.Name x p) (e::es) [] pos) (B9 r t):=by
 intro aa s σ H Q I h
 refine GX (sM I hg hm hv ?_ hn iW)
 exact PyProof.Rows.callWith_builtin1 (aH (ha pos aa s σ H _ I h) fun us s1 ⟨vs,H1,I1,r1,q1⟩=>hc aa s1 σ H1 vs us Q I1 r1 q1) he cL
theorem t6(hc:fP X (.type T) r)(hg:Gl X x)(hm:X.mg x=none)(hv:eE x=some (.type T))(ha:PA X (e::es) t)(hn:x≠"__name__":=by decide)(iW:(x == ("__debug__" : Str))=false:=by decide)
  (he:aZ (e::es) X.env=(false,eval e X.env)::aZ es X.env:=by rfl) (cL:(eU pos (aZ es X.env)).any (·.1)=false:=by rfl):PE X (.Call (.Name x p) (e::es) [] pos) (B9 r t):=by
 intro aa s σ H Q I h
 refine GX (sM I hg hm hv ?_ hn iW)
 exact GT (aH (ha pos aa s σ H _ I h) fun us s1 ⟨vs,H1,I1,r1,q1⟩=>hc aa s1 σ H1 vs us Q I1 r1 q1) he cL
end
end L2
namespace HT
section
open PySem.SeqAt
open PySem.AutoSeq1 (wpAny_loadPart')
open PySem.MeetsSeq PySem.MeetsSeq2 PySem.MeetsSeq3
end
section
variable{prog:aK}{w:World}{A:aV}{E:Value->ah->Prop}{s:ah}
theorem cat_tup{t b:Addr}{vs ws:List Value}{Q:Value->ah->Prop}(ht:IsTup s.heap t vs.toArray)(hb:IsTup s.heap b ws.toArray)(hv:vs≠[])
  (h1:ws=[]->Q (.ref t) s) (h2:ws≠[]->Q (.ref s.heap.objs.size) { s with heap:=s.heap.push { cls:=.type "tuple",data:=.seq (vs++ws).toArray } })
  (hsz:vs.length+ws.length<=a7):wpAny (model prog w) A (iR .Add (.ref t) (.ref b)) Q E s:=by
 obtain⟨⟨cls,dd,data,sl⟩,ho,hc,n,hd⟩:=id ht
 obtain⟨⟨cls2,dd2,data2,sl2⟩,n5,hc2,n2,uK⟩:=id hb
 simp only at hc hd hc2 uK
 subst hc hd hc2 uK
 have e:vs.toArray++ws.toArray=(vs++ws).toArray:=by simp
 by_cases hw:ws=[]
 ·exact concat_meets ⟨_,ho,rfl⟩ ⟨_,n5,rfl⟩ noFill_tuple_add seq_tuple_add PySem.F.slot_tuple_add PySem.F.entry_tuple_add (PySem.F.args_tuple_add_2 _ _)
   (tuple_addW1 t b vs.toArray ws.toArray n n2 dd dd2 sl sl2 (by simpa using hv) (by simp[hw])) ⟨ho,n5,h1 hw⟩
 ·refine concat_meets ⟨_,ho,rfl⟩ ⟨_,n5,rfl⟩ noFill_tuple_add seq_tuple_add PySem.F.slot_tuple_add PySem.F.entry_tuple_add (PySem.F.args_tuple_add_2 _ _)
   (tuple_addW2 t b vs.toArray ws.toArray n n2 dd dd2 sl sl2 (by simpa using hv) (by simpa using hw) (by rw[cA,cA]; exact hsz)) ⟨ho,n5,?_⟩
  rw[e]
  exact h2 hw
def sIx(n d:Nat):Option Int->Nat
 | none=>d
 | some v=>if v<0 then(v+(n:Int)).toNat else min v.toNat n
theorem sIx_nat(n d k:Nat):sIx n d (some (k:Int))=min k n:=by
 show(if(k:Int)<0 then((k:Int)+(n:Int)).toNat else min (k:Int).toNat n)=min k n
 rw[if_neg (by ac_rfl),lR]
theorem sIx_le(n d:Nat)(hd:d<=n)(o:Option Int):sIx n d o<=n:=by
 cases o with
 | none=>exact hd
 | some v =>
  show(if v<0 then(v+(n:Int)).toNat else min v.toNat n)<=n
  by_cases hv:v<0
  ·rw[if_pos hv]; ac_rfl
  ·rw[if_neg hv]; exact Nat.min_le_right _ _
theorem Eg(v:Int)(n d:Nat):(if v<0 then max (v+(n:Int)) 0 else min v (n:Int))=((sIx n d (some v):Nat):Int):=by
 show(if v<0 then max (v+(n:Int)) 0 else min v (n:Int))=(((if v<0 then(v+(n:Int)).toNat else min v.toNat n):Nat):Int)
 by_cases hv:v<0
 ·simp only[if_pos hv]; ac_rfl
 ·simp only[if_neg hv]; ac_rfl
theorem H_(lo hi:Option Int)(n:Nat):GY lo hi 1 (n:Int)=(((sIx n 0 lo:Nat):Int),((sIx n n hi:Nat):Int)):=by
 have h1:¬ ((1:Int)<0):=by ac_rfl
 unfold GY
 simp only[h1,if_false]
 refine Prod.ext ?_ ?_
 ·cases lo with
  | none=>rfl
  | some v=>exact Eg v n 0
 ·cases hi with
  | none=>rfl
  | some v=>exact Eg v n n
theorem OS(i j:Nat):AU (i:Int) (j:Int) 1=j-i:=by
 unfold AU
 have h1:(1:Int) > 0:=by ac_rfl
 simp only[h1,if_true,Int.ediv_one]
 split <;> ac_rfl
theorem DU{v:Value}{o:Option Int}{Q:Option Int->ah->Prop}(p:IsPart v o)(h:Q o s):wpAny (model prog w) A (Builtin.Slice.slicePartIndex v) Q E s:=by
 cases p with
 | none=>exact slicePart_none h
 | int i t=>exact slicePart_int h
theorem Qn{sl:Addr}{vl vu:Value}{lo hi:Option Int}{n:Nat}{Q:Int×Int×Nat->ah->Prop}(hs:s.heap.IsSliceOf sl vl vu .none)(pl:IsPart vl lo)(pu:IsPart vu hi)
  (h:Q (((sIx n 0 lo:Nat):Int),1,sIx n n hi-sIx n 0 lo) s):wpAny (model prog w) A (Builtin.Slice.sliceApplied (.ref sl) (pure (n:Int))) Q E s:=by
 obtain⟨os,uL,hcs,hds⟩:=id hs
 unfold Builtin.Slice.sliceApplied Builtin.Slice.sliceFields
 refine aj (aj (rh uL hds (x:=vl) rfl (aj (rh uL hds (x:=vu) rfl (aj (rh uL hds (x:=.none) rfl (ar ?_)))))))
 refine aj (slicePart_none ?_)
 show wpAny _ _ (if((1:Int) == 0)=true then _ else _) _ _ s
 rw[if_neg (by decide)]
 refine aj (DU pl (aj (DU pu (aj (ar ?_)))))
 show wpAny _ _ (match GY lo hi 1 (n:Int)with | (lo,hi)=>pure (lo,(1:Int),AU lo hi 1)) _ _ s
 rw[H_ lo hi n]
 show wpAny _ _ (pure (((sIx n 0 lo:Nat):Int),(1:Int),AU ((sIx n 0 lo:Nat):Int) ((sIx n n hi:Nat):Int) 1)) _ _ s
 rw[OS]
 exact ar h
theorem PB(xs:Array Value)(i k:Nat):((bE k).filterMap fun(m:Nat)=>xs[((i:Int)+(m:Int) * 1).toNat]?).toArray=((xs.toList.drop i).take k).toArray:=by
 have e:(fun(m:Nat)=>xs[((i:Int)+(m:Int) * 1).toNat]?)=fun m=>xs[i+m]?:=by
  funext m
  have:((i:Int)+(m:Int) * 1).toNat=i+m:=by ac_rfl
  rw[this]
 rw[e]
 have:=pick_run xs i k
 rw[GZ]at this
 have e2:((fun x=>xs[x]?) ∘ fun x=>i+x)=fun m=>xs[i+m]?:=rfl
 rw[e2]at this
 rw[this]
theorem getItem_tuple_cut{t sl:Addr}{items:Array Value}{vl vu:Value}{lo hi:Option Int}{Q:Value->ah->Prop}(ht:IsTup s.heap t items)(hs:s.heap.IsSliceOf sl vl vu .none)(pl:IsPart vl lo)(pu:IsPart vu hi)
  (hw:¬ (sIx items.size 0 lo=0/\sIx items.size items.size hi=items.size))
  (h:Q (.ref s.heap.objs.size) { s with heap:=s.heap.push { cls:=.type "tuple",data:=.seq ((items.toList.drop (sIx items.size 0 lo)).take (sIx items.size items.size hi-sIx items.size 0 lo)).toArray } })
  (hsz:items.size<=a7):wpAny (model prog w) A (pA (.ref t) (.ref sl)) Q E s:=by
 have ya:sizeOk (.seq ((items.toList.drop (sIx items.size 0 lo)).take (sIx items.size items.size hi-sIx items.size 0 lo)).toArray):=by
  show((items.toList.drop (sIx items.size 0 lo)).take (sIx items.size items.size hi-sIx items.size 0 lo)).toArray.size<=a7
  rw[cA,gE,je,gD]
  ac_rfl
 have hj:sIx items.size items.size hi<=items.size:=sIx_le _ _ (aL _) hi
 obtain⟨os,uL,hcs,hds⟩:=id hs
 have hTs:s.TypeIs (.ref sl) "slice":=⟨os,uL,hcs⟩
 unfold pA
 try with_reducible refine kG ?_
 first | refine aj (ar ?_) | skip
 refine aj (wpAny_sequenceKey ht.typeIs (by decide) ?_)
 refine aj (wpAny_callSpecial?_slot (name:=Str.ofString "__getitem__") ht.typeIs Q9
  (ue Q9 ht.typeIs entry_tuple_getitem ?_ (args_tuple_getitem _ _)))
 show wpAny _ _ (Builtin.Tuple.tupleItemsOf (.ref t) >>= _) _ _ s
 refine aj (tupleItemsOf_ ht ?_)
 refine aj (wpAny_typeOf hTs ?_)
 rw[if_pos (by decide)]
 refine aj (Qn hs pl pu ?_)
 have hno:¬ ((((sIx items.size 0 lo:Nat):Int) == 0 && (1:Int) == 1 && (sIx items.size items.size hi-sIx items.size 0 lo) == items.size)=true):=by
  intro q
  rw[gF,gF]at q
  have q1:((sIx items.size 0 lo:Nat):Int)=0:=eq_of_beq q.1.1
  have q2:sIx items.size items.size hi-sIx items.size 0 lo=items.size:=eq_of_beq q.2
  exact hw ⟨by ac_rfl,by ac_rfl⟩
 show wpAny _ _ (if(((sIx items.size 0 lo:Nat):Int) == 0 && (1:Int) == 1 && (sIx items.size items.size hi-sIx items.size 0 lo) == items.size)=true then _ else _) _ _ s
 rw[if_neg hno,PB]
 first
  | exact aj (m:=AV _) (mI (ar ⟨_,rfl,ar h⟩) ya)
  | exact aj (m:=AV _) (mI (aj (ar (ar ⟨_,rfl,ar h⟩))) ya)
  | exact aj (aj (m:=AV _) (mI (ar (ar ⟨_,rfl,ar h⟩)) ya))
  | exact aj (aj (m:=AV _) (mI (ar ⟨_,rfl,ar h⟩) ya))
end
end HT
namespace L2
abbrev TO:=St->Hp->(Option Int->Hp->Prop)->Prop
def PO(X:Cx)(e:Option Expr)(t:TO):Prop :=
 ∀ (aa:List (Addr×Obj)) (s:ah) (σ:St) (H:Hp) (Q:Option Int->Hp->Prop),Inv X aa σ H s->t σ H Q ->
  wpAny (model X.prog X.w) X.A (evalPart e X.env) (fun u s'=>∃ o H',Inv X aa σ H' s'/\IsPart u o/\Q o H') X.xe s
def KW:TO:=fun _ H Q=>Q none H
def IX(t:TE):TO:=fun σ H Q=>t σ H fun x H1=>∃ i,x = .int i/\Q (some i) H1
section
variable{X:Cx}{e:Expr}{te:TE}{lo hi:Option Expr}{tl th:TO}{pos p2:Pos}
theorem J1:PO X none KW:=by
 intro aa s σ H Q I h
 rw[evalPart_none]
 exact ar ⟨none,H,I,.none,h⟩
theorem L7(h:PE X e te):PO X (some e) (IX te):=by
 intro aa s σ H Q I hw
 rw[evalPart_some]
 refine aH (h aa s σ H _ I hw) fun u s1 ⟨x,H1,I1,r1,q1⟩=>?_
 obtain⟨i,rfl,q⟩:=q1
 obtain⟨t,rfl⟩:=r1
 exact⟨some i,H1,I1,.int i t,q⟩
def l_(X:Cx)(r:V->Option Int->Option Int->Hp->VK->Prop):Prop :=
 ∀ (aa:List (Addr×Obj)) (s:ah) (σ:St) (H:Hp) (x:V) (v vl vu:Value) (lo hi:Option Int) (sl:Addr) (Q:VK),Inv X aa σ H s->RelV x v->s.heap.IsSliceOf sl vl vu .none->IsPart vl lo->IsPart vu hi->r x lo hi H Q ->
  ∃ T id,typeLookup (.type T) "__getitem__" = pure (some (.builtin id))/\s.TypeIs v T/\wpAny (model X.prog X.w) X.A (pA v (.ref sl)) (EP X aa σ Q) X.xe s
theorem l_.or{r r':V->Option Int->Option Int->Hp->VK->Prop}(h:l_ X r)(h':l_ X r'):l_ X (fun x lo hi H Q=>r x lo hi H Q\/r' x lo hi H Q):=by
 intro aa s σ H x v vl vu lo hi sl Q I rx hs pl pu q
 rcases q with q | q
 ·exact h aa s σ H x v vl vu lo hi sl Q I rx hs pl pu q
 ·exact h' aa s σ H x v vl vu lo hi sl Q I rx hs pl pu q
def JT(r:V->Option Int->Option Int->Hp->VK->Prop)(te:TE)(tl th:TO):TE:=fun σ H Q=>te σ H fun x H1=>tl σ H1 fun l H2=>th σ H2 fun u H3=>r x l u H3 Q
theorem KP{r:V->Option Int->Option Int->Hp->VK->Prop}(hr:l_ X r)(he:PE X e te)(hl:PO X lo tl)(hu:PO X hi th):PE X (.Subscript e (.Slice lo hi none p2) pos) (JT r te tl th):=by
 intro aa s σ H Q I h
 refine Subscript_ (aH (he aa s σ H _ I h) fun v s1 ⟨x,H1,I1,r1,q1⟩=>?_)
 refine wpAny_Slice (aH (hl aa s1 σ H1 _ I1 q1) fun vl s2 ⟨l,H2,I2,pl,q2⟩=>aH (hu aa s2 σ H2 _ I2 q2) fun vu s3 ⟨u,H3,I3,pu,q3⟩=>?_)
 rw[evalPart_none]
 refine ar ?_
 have I4:Inv X aa σ H3 { s3 with heap:=s3.heap.push { cls:=.type "slice",data:=.fields #[vl,vu,.none] } }:=I3.kept (t':=s3.toks) fun b ob q=>bB _ q
 obtain⟨T,id,hT,ht,hg⟩:=hr aa { s3 with heap:=s3.heap.push { cls:=.type "slice",data:=.fields #[vl,vu,.none] } } σ H3 x v vl vu l u s3.heap.objs.size Q I4 r1 (Heap.IsSliceOf.new ..) pl pu q3
 show wpAny (model X.prog X.w) X.A (subscriptTail e (.Slice lo hi none p2) v (.ref s3.heap.objs.size)) (EP X aa σ Q) X.xe { s3 with heap:=s3.heap.push { cls:=.type "slice",data:=.fields #[vl,vu,.none] } }
 exact tail_any (ops:=[.ref s3.heap.objs.size,v]) ht hT hg (by with_unfolding_all rfl)
def ng(xs:List V)(lo hi:Option Int):List V:=(xs.drop (HT.sIx xs.length 0 lo)).take (HT.sIx xs.length xs.length hi-HT.sIx xs.length 0 lo)
theorem Di(xs:List V)(lo hi:Option Int):(ng xs lo hi).length<=xs.length:=by
 unfold ng
 rw[gE,je]
 ac_rfl
def D5(K:ao):V->Option Int->Option Int->Hp->VK->Prop:=fun x lo hi H Q=>∃ a xs,x = .ref a/\cJ K H a xs /\
 ¬ (HT.sIx xs.length 0 lo=0/\HT.sIx xs.length xs.length hi=xs.length)/\∀ p,H p=none->Q (.ref p) (upd H p (.tup (ng xs lo hi)))
theorem PX:l_ X (D5 X.K):=by
 intro aa s σ H x v vl vu lo hi sl Q I rx hs pl pu h
 obtain⟨a,xs,rfl,hx,hw,q⟩:=h
 cases rx
 obtain⟨its,r,ht,hz⟩:=I.tuple hx
 have b7:its.toArray.size=xs.length:=by rw[cA]; exact r.length.symm
 refine⟨"tuple",_,PyProof.Rows.slot_tuple_getitem.lookup,ht.typeIs,?_⟩
 refine HT.getItem_tuple_cut ht hs pl pu (by rw[b7]; exact hw) ?_ (by rw[b7]; exact hz)
 rw[b7]
 refine⟨.ref s.heap.objs.size,_,I.laid (t':=s.toks) (o:=.tup (ng xs lo hi)) (fun b ob q=>bB _ q) (aL _) ?_,rfl,q _ (I.hok.fresh (aL _))⟩
 exact⟨cp (Di xs lo hi) hz,_,(r.drop (HT.sIx xs.length 0 lo)).take (HT.sIx xs.length xs.length hi-HT.sIx xs.length 0 lo),FI.new _ _⟩
def FC(K:ao):R2:=fun x y H Q=>∃ a b xs ys,x = .ref a/\y = .ref b/\cJ K H a xs/\cJ K H b ys/\xs≠[]/\xs.length+ys.length<=a7 /\
 (ys=[]->Q (.ref a) H)/\(ys≠[]->∀ p,H p=none->Q (.ref p) (upd H p (.tup (xs++ys))))
theorem bh.nil_iff{xs:List V}{us:List Value}(r:bh xs us):us=[]↔xs=[]:=by
 cases r with
 | nil=>simp
 | cons _ _=>simp
theorem RQ:bW X (iR .Add) (FC X.K):=by
 intro aa s σ H x y v u Q I rx ry h
 obtain⟨a,b,xs,ys,rfl,rfl,ha,hb,hx,hz,q1,q2⟩:=h
 cases rx
 cases ry
 obtain⟨its,r1,p1,_⟩:=I.tuple ha
 obtain⟨its2,r2,p2,_⟩:=I.tuple hb
 refine HT.cat_tup p1 p2 (fun z=>hx (r1.nil_iff.mp z)) (fun z=>⟨.ref a,H,I,rfl,q1 (r2.nil_iff.mp z)⟩) (fun z=>?_) (by rw[← r1.length,← r2.length]; exact hz)
 refine⟨.ref s.heap.objs.size,_,I.laid (t':=s.toks) (o:=.tup (xs++ys)) (fun b ob q=>bB _ q) (aL _) ?_,rfl,q2 (fun w=>z (r2.nil_iff.mpr w)) _ (I.hok.fresh (aL _))⟩
 exact⟨by rw[cT]; exact hz,_,r1.append r2,FI.new _ _⟩
end
end L2
namespace L2
def kA(n:Nat)(i:Int):Option Nat:=if 0<=i then(if i<n then some i.toNat else none)else if -(n:Int)<=i then some (i+n).toNat else none
def eT{α:Type}(xs:List α)(i:Int):Option α:=(kA xs.length i).bind fun j=>xs[j]?
theorem Mg{n:Nat}{i:Int}{j:Nat}(h:kA n i=some j):seqIndex? i n=some j/\j<n/\-(n:Int)<=i/\i<n:=by
 unfold kA at h
 by_cases h0:0<=i
 ·rw[if_pos h0]at h
  by_cases h1:i<n
  ·rw[if_pos h1]at h
   have e:i.toNat=j:=dE h
   exact⟨by rw[seqIndex_of h0 h1,e],by ac_rfl,by ac_rfl,h1⟩
  ·rw[if_neg h1]at h; cases h
 ·rw[if_neg h0]at h
  by_cases h1 : -(n:Int)<=i
  ·rw[if_pos h1]at h
   have e:(i+n).toNat=j:=dE h
   exact⟨by rw[seqIndex_neg (by ac_rfl) h1,e],by ac_rfl,h1,by ac_rfl⟩
  ·rw[if_neg h1]at h; cases h
theorem zA{α:Type}{xs:List α}{i:Int}{v:α}(h:eT xs i=some v):∃ j,seqIndex? i xs.length=some j/\xs[j]?=some v/\j<xs.length/\-(xs.length:Int)<=i/\i<xs.length:=by
 unfold eT at h
 cases e:kA xs.length i with
 | none=>rw[e]at h; cases h
 | some j =>
  rw[e]at h
  obtain⟨h1,h2,h3,h4⟩:=Mg e
  exact⟨j,h1,h,h2,h3,h4⟩
theorem Qg{α:Type}{xs:List α}{j:Nat}{v:α}(h:xs[j]?=some v):eT xs (j:Int)=some v:=by
 have hj:j<xs.length:=(dP.mp h).1
 have e:kA xs.length (j:Int)=some j:=by
  unfold kA
  rw[if_pos (by ac_rfl),if_pos (by ac_rfl)]; simp
 unfold eT; rw[e]; exact h
def Ft(b:Expr):Prop:=∀ o i,subscripted b false o i=operate [o,i] (pA o i)
def ml(X:Cx)(r:R2):Prop :=
 ∀ (value slice:Expr) (aa:List (Addr×Obj)) (s:ah) (σ:St) (H:Hp) (x y:V) (v u:Value) (Q:VK),Inv X aa σ H s->RelV x v->RelV y u->r x y H Q ->
  subscripted slice false v u=operate [v,u] (pA v u)->wpAny (model X.prog X.w) X.A (subscriptTail value slice v u) (EP X aa σ Q) X.xe s
def yA(X:Cx)(id:String)(r:V->List V->Hp->VK->Prop):Prop :=
 ∀ (aa:List (Addr×Obj)) (s:ah) (σ:St) (H:Hp) (x:V) (xs:List V) (v:Value) (us:List Value) (Q:VK),Inv X aa σ H s->RelV x v->bh xs us->r x xs H Q ->
  wpAny (model X.prog X.w) X.A (call (.builtin id) (v::us)) (EP X aa σ Q) X.xe s
section
variable{X:Cx}{a b:Expr}{ta tb:TE}{pos:Pos}
theorem ml.or{r r':R2}(h:ml X r)(h':ml X r'):ml X (fun x y H Q=>r x y H Q\/r' x y H Q):=by
 intro value slice aa s σ H x y v u Q I rx ry q hs
 rcases q with q | q
 ·exact h value slice aa s σ H x y v u Q I rx ry q hs
 ·exact h' value slice aa s σ H x y v u Q I rx ry q hs
theorem OK{r:R2}(hr:ml X r)(ha:PE X a ta)(hb:PE X b tb)(hs:Ft b):PE X (.Subscript a b pos) (vW r ta tb):=by
 intro aa s σ H Q I h
 exact Subscript_ (yM ha hb I h fun v u s2 x y H2 I2 rx ry q=>hr a b aa s2 σ H2 x y v u Q I2 rx ry q (hs _ _))
def Ck(K:ao):R2:=fun x y H Q=>∃ p xs i v,x = .ref p/\y = .int i/\bO K H p xs/\eT xs i=some v/\Q v H
def Gn(K:ao):R2:=fun x y H Q=>∃ p xs i v,x = .ref p/\y = .int i/\cJ K H p xs/\eT xs i=some v/\Q v H
def Fh:R2:=fun x y H Q=>∃ z i c,x = .str z/\y = .int i/\z.length<=a7/\eT z.cps.toList i=some c/\Q (.str ⟨#[c]⟩) H
theorem RK:ml X (Ck X.K):=by
 intro value slice aa s σ H x y v u Q I rx ry h hs
 obtain⟨p,xs,i,z,rfl,rfl,hq,he,q⟩:=h
 cases rx
 obtain⟨t,rfl⟩:=ry
 obtain⟨its,r,pl,hz⟩:=I.list hq
 obtain⟨j,h1,h2,h3,h4,h5⟩:=zA he
 obtain⟨w,ew,rw'⟩:=r.get h2
 have hl:=r.length
 have hn:=vJ
 have fin:EP X aa σ Q w s:=⟨z,H,I,rw',q⟩
 by_cases h0:0<=i
 ·have hj:i.toNat=j:=by
   rw[seqIndex_of h0 h5]at h1
   exact dE h1
  exact item_listR pl.isList h0 (by ac_rfl) (by rw[hj]; simpa using ew) fin hs
 ·have hj:(i+(its.toArray.size:Int)).toNat=j:=by
   rw[seqIndex_neg (by ac_rfl) h4]at h1
   rw[cA,← hl]
   exact dE h1
  exact subscriptTail_builtinR (x:=w) pl.isList.typeIs slot_list_getitem.lookup
   (wpAny_getItem_list_neg (Q:=fun r s'=>r=w/\EP X aa σ Q r s') pl.isList (by ac_rfl) (by rw[cA] <;> ac_rfl) (by ac_rfl) (by rw[hj]; simpa using ew) ⟨rfl,fin⟩) hs
theorem Ru:ml X (Gn X.K):=by
 intro value slice aa s σ H x y v u Q I rx ry h hs
 obtain⟨p,xs,i,z,rfl,rfl,hq,he,q⟩:=h
 cases rx
 obtain⟨t,rfl⟩:=ry
 obtain⟨its,r,pl,hz⟩:=I.tuple hq
 obtain⟨j,h1,h2,h3,h4,h5⟩:=zA he
 obtain⟨w,ew,rw'⟩:=r.get h2
 have hl:=r.length
 have hn:=vJ
 have fin:EP X aa σ Q w s:=⟨z,H,I,rw',q⟩
 exact subscriptTail_builtinR (x:=w) pl.typeIs slot_tuple_getitem.lookup
  (getItem_tuple (j:=j) (Q:=fun r s'=>r=w/\EP X aa σ Q r s') pl (by ac_rfl) (by ac_rfl) (by rw[cA,← hl]; exact h1) (by simpa using ew) ⟨rfl,fin⟩) hs
theorem Mj:ml X Fh:=by
 intro value slice aa s σ H x y v u Q I rx ry h hs
 obtain⟨z,i,c,rfl,rfl,hz,he,q⟩:=h
 obtain⟨t,rfl⟩:=rx
 obtain⟨t',rfl⟩:=ry
 obtain⟨j,h1,h2,h3,h4,h5⟩:=zA he
 have hl:z.cps.toList.length=z.length:=by simp[Str.length]
 rw[hl]at h1 h4 h5
 have hn:=vJ
 exact tail_any (typeIs_str s z t) slot_str_getitem.lookup (getItem_str (c:=c) (by
  have e1:decide (i < -(2 ^ 63:Int))=false:=decide_eq_false (by ac_rfl)
  have e2:decide (i ≥ 2 ^ 63)=false:=decide_eq_false (by ac_rfl)
  rw[e1,e2,Bool.or_false]) (by rw[h1]; simpa using h2) ⟨.str ⟨#[c]⟩,H,I.tok _,⟨_,rfl⟩,q⟩) hs
def EQ(K:ao):R2:=fun x y H Q=>Ck K x y H Q\/Gn K x y H Q\/Fh x y H Q
theorem eO:ml X (EQ X.K):=RK.or (Ru.or Mj)
theorem Inv.lst{aa:List (Addr×Obj)}{σ:St}{H:Hp}{s:ah}{p:Addr}{xs:List V}(I:Inv X aa σ H s)(h:H p=some (.lst xs)) :
  ∃ (its:List Value) (n:Nat),bh xs its/\s.heap.get? p=some { cls:=.type "list",data:=.seq its.toArray n }/\xs.length<=a7:=by
 obtain⟨z,its,n,r,e⟩:=I.hok p _ h
 exact⟨its,n,r,e,z⟩
theorem NF(lo hi:Option Int)(n:Nat):(ri lo hi none n).1=((HT.sIx n 0 lo:Nat):Int)/\(ri lo hi none n).2.1=((HT.sIx n n hi:Nat):Int)/\(ri lo hi none n).2.2=1:=by
 refine⟨?_,?_,rfl⟩
 ·cases lo with
  | none=>simp[ri,HT.sIx]
  | some i =>
   simp only[ri,HT.sIx,Option.getD_none,show(1:Int) > 0 by decide,if_true]
   by_cases h:i<0
   ·simp only[h,if_true] <;> ac_rfl
   ·simp only[h,if_false] <;> ac_rfl
 ·cases hi with
  | none=>simp[ri,HT.sIx]
  | some i =>
   simp only[ri,HT.sIx,Option.getD_none,show(1:Int) > 0 by decide,if_true]
   by_cases h:i<0
   ·simp only[h,if_true] <;> ac_rfl
   ·simp only[h,if_false] <;> ac_rfl
theorem LA(its:List Value)(lo hi:Option Int):slicePick its.toArray lo hi none=((its.drop (HT.sIx its.length 0 lo)).take (HT.sIx its.length its.length hi-HT.sIx its.length 0 lo)).toArray:=by
 obtain⟨h1,h2,h3⟩:=NF lo hi its.toArray.size
 unfold slicePick
 rw[h1,h2,h3]
 simp only[sliceRange_one,pick_run,cA] <;> rfl
def BP(K:ao):V->Option Int->Option Int->Hp->VK->Prop:=fun x lo hi H Q=>∃ a xs,x = .ref a/\bO K H a xs/\∀ p,H p=none->Q (.ref p) (upd H p (.lst (ng xs lo hi)))
theorem RC:l_ X (BP X.K):=by
 intro aa s σ H x v vl vu lo hi sl Q I rx hs pl pu h
 obtain⟨a,xs,rfl,hx,q⟩:=h
 cases rx
 obtain⟨its,r,ht,hz⟩:=I.list hx
 have b7:=r.length
 refine⟨"list",_,slot_list_getitem.lookup,ht.isList.typeIs,?_⟩
 refine wpAny_getItem_list_slice ht.isList hs pl pu .none (by simp) ?_ (by rw[cA] <;> ac_rfl)
 rw[LA,← b7]
 refine⟨.ref s.heap.objs.size,_,I.laid (t':=s.toks) (o:=.lst (ng xs lo hi)) (fun b ob q=>bB _ q) (aL _) ?_,rfl,q _ (I.hok.fresh (aL _))⟩
 exact⟨cp (Di xs lo hi) hz,_,0,(r.drop (HT.sIx xs.length 0 lo)).take (HT.sIx xs.length xs.length hi-HT.sIx xs.length 0 lo),cN _ rfl⟩
def jH:V->Bool
 | .non=>true
 | .bl _=>true
 | .int _=>true
 | .str _=>true
 | _=>false
def ic:V->V->Bool
 | .non,.non=>true
 | .bl a,.bl b=>a == b
 | .bl a,.int b=>(if a then 1 else 0) == b
 | .int a,.bl b=>a == (if b then 1 else 0)
 | .int a,.int b=>a == b
 | .str a,.str b=>a == b
 | _,_=>false
theorem Gm{A:aV}{s:ah}{y x:V}{u v:Value}(ry:RelV y u)(rx:RelV x v)(fy:jH y=true)(fx:jH x=true):xC A s u v (ic y x):=by
 cases y with
 | non =>
  cases ry
  cases x with
  | non=>cases rx; exact SeqAt.EqAt.same _
  | bl b=>cases rx; exact SeqAt.EqAt.none_bool b
  | int b=>obtain⟨t,rfl⟩:=rx; exact SeqAt.EqAt.none_int b t
  | str b=>obtain⟨t,rfl⟩:=rx; exact SeqAt.EqAt.none_str b t
  | _=>exact absurd (show false=true from fx) fH
 | bl a =>
  cases ry
  cases x with
  | non=>cases rx; exact SeqAt.EqAt.bool_none a
  | bl b=>cases rx; exact SeqAt.EqAt.bool_bool a b
  | int b=>obtain⟨t,rfl⟩:=rx; exact SeqAt.EqAt.bool_int a b t
  | str b=>obtain⟨t,rfl⟩:=rx; exact SeqAt.EqAt.bool_str a b t
  | _=>exact absurd (show false=true from fx) fH
 | int a =>
  obtain⟨t',rfl⟩:=ry
  cases x with
  | non=>cases rx; exact SeqAt.EqAt.int_none a t'
  | bl b=>cases rx; exact SeqAt.EqAt.int_bool a t' b
  | int b=>obtain⟨t,rfl⟩:=rx; exact SeqAt.EqAt.int_int a t' b t
  | str b=>obtain⟨t,rfl⟩:=rx; exact SeqAt.EqAt.int_str a t' b t
  | _=>exact absurd (show false=true from fx) fH
 | str a =>
  obtain⟨t',rfl⟩:=ry
  cases x with
  | non=>cases rx; exact SeqAt.EqAt.str_none a t'
  | bl b=>cases rx; exact SeqAt.EqAt.str_bool a t' b
  | int b=>obtain⟨t,rfl⟩:=rx; exact SeqAt.EqAt.str_int a t' b t
  | str b=>obtain⟨t,rfl⟩:=rx; exact SeqAt.EqAt.str_str a t' b t
  | _=>exact absurd (show false=true from fx) fH
 | _=>exact absurd (show false=true from fy) fH
def mn(x:V)(u:Value):Bool:=match u with
 | .none=>ic .non x
 | .bool b=>ic (.bl b) x
 | .int i _=>ic (.int i) x
 | .str z _=>ic (.str z) x
 | _=>false
theorem CN{x y:V}{u:Value}(r:RelV y u)(f:jH y=true):mn x u=ic y x:=by
 cases y with
 | non=>cases r; rfl
 | bl b=>cases r; rfl
 | int i=>obtain⟨t,rfl⟩:=r; rfl
 | str z=>obtain⟨t,rfl⟩:=r; rfl
 | _=>exact absurd (show false=true from f) fH
theorem yn{x:V}:∀ {xs:List V} {us:List Value},bh xs us->xs.all jH=true->us.any (mn x)=xs.any fun y=>ic y x
 | _,_,.nil,_=>rfl
 | y::xs,u::us,.cons r t,f=>by
  rw[uf,gF]at f
  rw[pB,pB,CN r f.1,yn t f.2]
theorem AL{A:aV}{s:ah}{x:V}{v:Value}(rx:RelV x v)(fx:jH x=true):∀ {xs:List V} {us:List Value},bh xs us->xs.all jH=true->∀ u∈us,xC A s u v (mn x u)
 | _,_,.nil,_=>fun u hu=>by cases hu
 | y::xs,u::us,.cons r t,f=>fun u' hu=>by
  rw[uf,gF]at f
  rcases bH.mp hu with rfl | hu
  ·rw[CN r f.1]; exact Gm r rx f.1 fx
  ·exact AL rx fx t f.2 u' hu
def tY(x:V)(xs:List V):Bool:=xs.any fun y=>ic y x
def yI(K:ao)(neg:Bool):R2:=fun x y H Q=>∃ p xs,y = .ref p/\(bO K H p xs\/cJ K H p xs)/\jH x=true/\xs.all jH=true/\Q (.bl (if neg then !tY x xs else tY x xs)) H
theorem OC:bW X (d8 .In) (yI X.K false):=by
 intro aa s σ H x y v u Q I rx ry h
 obtain⟨p,xs,rfl,hq,fx,fs,q⟩:=h
 cases ry
 rcases hq with hq | hq
 ·obtain⟨its,r,pl,hz⟩:=I.list hq
  refine SeqAt.in_listAt (mn x) pl.isList (fun w hw=>AL rx fx r fs w (by simpa using hw)) ⟨.bl _,H,I,rfl,?_⟩
  rw[show its.toArray.any (mn x)=its.any (mn x) by simp,yn r fs]
  exact q
 ·obtain⟨its,r,pl,hz⟩:=I.tuple hq
  refine SeqAt.in_tupleAt (mn x) pl (fun w hw=>AL rx fx r fs w (by simpa using hw)) ⟨.bl _,H,I,rfl,?_⟩
  rw[show its.toArray.any (mn x)=its.any (mn x) by simp,yn r fs]
  exact q
theorem N3:fP X (.type "list") (fun xs H Q=>∃ p ys,xs=[.ref p]/\(bO X.K H p ys\/cJ X.K H p ys)/\∀ l,H l=none->Q (.ref l) (upd H l (.lst ys))):=by
 intro aa s σ H xs us Q I r h
 obtain⟨p,ys,rfl,hq,q⟩:=h
 obtain⟨u,rfl,rx⟩:=vals1 r
 cases rx
 have fin:∀ (its:List Value),bh ys its->ys.length<=a7->∀ (h':Heap) (c':Nat),(∀ b o',s.heap.get? b=some o'->h'.get? b=some o') ->
   h'.get? s.heap.objs.size=some { cls:=.type "list",dict:=none,data:=.seq its.toArray c',slots:=#[] }->EP X aa σ Q (.ref s.heap.objs.size) { s with heap:=h' }:=fun its r' hz h' c' kp e =>
  ⟨.ref s.heap.objs.size,_,I.laid (t':=s.toks) kp (aL _) (show cx X.prog X.w _ h' _ (.lst ys)from⟨hz,its,c',r',e⟩),rfl,q _ (I.hok.fresh (aL _))⟩
 rcases hq with hq | hq
 ·obtain⟨its,r',pl,hz⟩:=I.list hq
  have b7:=r'.length
  obtain⟨o,ho,hc,n,hd⟩:=pl.isList
  exact call_list_seq p (.inl rfl) ho hc hd (fun h' c' kp e=>fin its r' hz h' c' kp e) (by simp only[cA] <;> ac_rfl)
 ·obtain⟨its,r',pl,hz⟩:=I.tuple hq
  have b7:=r'.length
  obtain⟨o,ho,hc,n,hd⟩:=pl
  exact call_list_seq p (.inr rfl) ho hc hd (fun h' c' kp e=>fin its r' hz h' c' kp e) (by simp only[cA] <;> ac_rfl)
theorem O9:fP X (.type "tuple") (fun xs H Q=>∃ p ys,xs=[.ref p]/\((bO X.K H p ys/\∀ l,H l=none->Q (.ref l) (upd H l (.tup ys)))\/(cJ X.K H p ys/\Q (.ref p) H))):=by
 intro aa s σ H xs us Q I r h
 obtain⟨p,ys,rfl,h⟩:=h
 obtain⟨u,rfl,rx⟩:=vals1 r
 cases rx
 rcases h with⟨hq,q⟩ | ⟨hq,q⟩
 ·obtain⟨its,r',pl,hz⟩:=I.list hq
  have b7:=r'.length
  refine call_tuple_list pl.isList (fun h' kp=>?_) (by simp only[cA] <;> ac_rfl)
  have I1:Inv X aa σ H { s with heap:=h' }:=I.kept (t':=s.toks) kp
  have I2:Inv X aa σ (upd H h'.objs.size (.tup ys)) { s with heap:=h'.push { cls:=.type "tuple",data:=.seq its.toArray } } :=
   I1.laid (t':=s.toks) (fun b o e=>bB _ e) (aL _) (show cx X.prog X.w _ _ _ (.tup ys)from⟨hz,its,r',FI.new _ _⟩)
  exact⟨.ref h'.objs.size,_,I2,rfl,q _ (I1.hok.fresh (aL _))⟩
 ·obtain⟨its,r',pl,hz⟩:=I.tuple hq
  exact call_tuple_same pl ⟨.ref p,H,I,rfl,q⟩
def zi(K:ao)(T:String)(x:V)(H:Hp):Prop:=match x with
 | .str _=>T = "str"
 | .int _=>T = "int"
 | .ref p=>(T = "list"/\∃ xs,bO K H p xs)\/(T = "tuple"/\∃ o,K.lookup p=some o/\o.cls = .type "tuple"/\o.dict=none) \/
   (T = "dict"/\((∃ kvs,H p=some (.dK kvs))\/∃ kvs,H p=some (.dT kvs)))\/(T = "set"/\∃ S n,H p=some (.set S n))
 | _=>False
theorem EJ{aa:List (Addr×Obj)}{σ:St}{H:Hp}{s:ah}{T:String}{x:V}{v:Value}(I:Inv X aa σ H s)(r:RelV x v)(ty:zi X.K T x H) :
  s.TypeIs v T/\∀ a,v = .ref a->∃ ob,s.heap.get? a=some ob/\ob.dict=none:=by
 cases x with
 | str z =>
  obtain⟨t,rfl⟩:=r
  cases (show T = "str" from ty)
  exact⟨typeIs_str s z t,fun _ e=>nomatch e⟩
 | int i =>
  obtain⟨t,rfl⟩:=r
  cases (show T = "int" from ty)
  exact⟨typeIs_int s i t,fun _ e=>nomatch e⟩
 | ref p =>
  cases r
  rcases ty with⟨rfl,xs,hq⟩ | ⟨rfl,o,hk,hc,hd⟩ | ⟨rfl,hk⟩ | ⟨rfl,S,n,hk⟩
  ·obtain⟨its,_,pl,_⟩:=I.list hq
   refine⟨pl.isList.typeIs,fun a e=>?_⟩
   cases e
   obtain⟨o,n,e,c,hd,_⟩:=pl
   exact⟨o,e,hd⟩
  ·refine⟨⟨o,I.kIn p o hk,hc⟩,fun a e=>?_⟩
   cases e
   exact⟨o,I.kIn _ o hk,hd⟩
  ·have z:∃ o,s.heap.get? p=some o/\o.ExactDict:=by
    rcases hk with⟨kvs,hk⟩ | ⟨kvs,hk⟩
    ·obtain⟨_,_,_,_,o,_,_,e,ex,_⟩:=I.hok p _ hk
     exact⟨o,e,ex⟩
    ·obtain⟨_,_,_,_,o,_,_,e,ex,_⟩:=I.hok p _ hk
     exact⟨o,e,ex⟩
   obtain⟨o,e,ex⟩:=z
   refine⟨⟨o,e,ex.1⟩,fun a e2=>?_⟩
   cases e2
   exact⟨o,e,ex.2.1⟩
  ·obtain⟨o,_,_,_,e,ex,_⟩:=I.hok p _ hk
   refine⟨⟨o,e,ex.1⟩,fun a e2=>?_⟩
   cases e2
   exact⟨o,e,ex.2.1⟩
 | _=>exact jI ty
def Ix(K:ao)(T:String)(r:V->List V->Hp->VK->Prop)(to:TE):TE:=fun σ H Q=>to σ H fun x H1=>zi K T x H1/\r x [] H1 Q
def LD(K:ao)(T:String)(r:V->List V->Hp->VK->Prop)(to:TE)(t:TA):TE:=fun σ H Q=>to σ H fun x H1=>zi K T x H1/\t σ H1 fun xs H2=>r x xs H2 Q
variable{o e:Expr}{es:List Expr}{to:TE}{t:TA}{name:Str}{apos cpos:Pos}{T id:String}{r:V->List V->Hp->VK->Prop}
theorem Oa(pa:PlainAttrs T)(slot:Slot T name id)(rQ:typeOf (.builtin id)=pure (.type "method_descriptor"))(hm:yA X id r)(ho:PE X o to)
  (uB:rj o name X.env (eval o X.env)=eval o X.env:=by rfl) (uC:(apos.endLine == cpos.line)=true:=by rfl):PE X (.Call (.Attribute o name apos) [] [] cpos) (Ix X.K T r to):=by
 intro aa s σ H Q I h
 refine wpAny_Call_method0_late uB uC (aH (ho aa s σ H _ I h) fun v s1 ⟨x,H1,I1,r1,ty,q1⟩=>?_)
 obtain⟨h1,h2⟩:=EJ I1 r1 ty
 exact⟨T,id,pa,slot,rQ,h1,h2,G0 rfl (PySem.evalArgs_none (hm aa s1 σ H1 x [] v [] Q I1 r1 .nil q1))⟩
theorem CU(pa:PlainAttrs T)(slot:Slot T name id)(rQ:typeOf (.builtin id)=pure (.type "method_descriptor"))(hm:yA X id r)(ho:PE X o to)(ha:PA X (e::es) t)
  (uB:rj o name X.env (eval o X.env)=eval o X.env:=by rfl)
  (HG:((eU cpos (aZ (e::es) X.env)).all (fun x=>!x.1) && (backToKw cpos (keywordEach [] X.env)).all (fun x=>x.1.isSome)
   && decide ((e::es).length+([]:List pC).length+(if([]:List pC).isEmpty then 0 else 1)<30))=true:=by rfl)
  (uC:(apos.endLine == cpos.line)=true:=by rfl) (hs:aZ (e::es) X.env=(false,eval e X.env)::aZ es X.env:=by rfl) (xZ:(eU cpos (aZ es X.env)).any (·.1)=false:=by rfl) :
  PE X (.Call (.Attribute o name apos) (e::es) [] cpos) (LD X.K T r to t):=by
 intro aa s σ H Q I h
 refine wpAny_Call_method_late uB HG uC rfl (aH (ho aa s σ H _ I h) fun v s1 ⟨x,H1,I1,r1,ty,q1⟩=>?_)
 obtain⟨h1,h2⟩:=EJ I1 r1 ty
 refine⟨T,id,pa,slot,rQ,h1,h2,?_⟩
 have hA:=ha cpos aa s1 σ H1 _ I1 q1
 rw[hs]at hA ⊢
 refine G0 (by show(false || (eU cpos (aZ es X.env)).any (·.1))=false; rw[xZ] <;> rfl) (G1 ?_)
 exact aH hA fun us s2 ⟨vs,H2,I2,r2,q2⟩=>hm aa s2 σ H2 x vs v us Q I2 r1 r2 q2
end
end L2
namespace L2
def Cn(X:Cx)(id:String)(r:V->List V->Hp->VK->Prop):Prop :=
 ∀ (aa:List (Addr×Obj)) (s:ah) (σ:St) (H:Hp) (x:V) (xs:List V) (v:Value) (us:List Value) (Q:VK),Inv X aa σ H s->RelV x v->bh xs us->r x xs H Q ->
  wpAny (model X.prog X.w) X.A (call (.builtin id) (v::us)) (EP X aa σ Q) X.xe s
theorem bh.one:∀ {x:V} {us:List Value},bh [x] us->∃ u,us=[u]/\RelV x u
 | _,_,.cons r .nil=>⟨_,rfl,r⟩
theorem bh.two:∀ {x y:V} {us:List Value},bh [x,y] us->∃ u v,us=[u,v]/\RelV x u/\RelV y v
 | _,_,_,.cons r (.cons q .nil)=>⟨_,_,rfl,r,q⟩
theorem bh.zero:∀ {us:List Value},bh [] us->us=[]
 | _,.nil=>rfl
theorem bh.dropLast{xs:List V}{us:List Value}(h:bh xs us):bh xs.dropLast us.dropLast:=by
 induction h with
 | nil=>exact .nil
 | cons r t ih =>
  cases t with
  | nil=>exact .nil
  | cons q t'=>exact .cons r ih
theorem bh.eraseIdx:∀ {xs:List V} {us:List Value} (i:Nat),bh xs us->bh (xs.eraseIdx i) (us.eraseIdx i)
 | _,_,_,.nil=>.nil
 | _,_,0,.cons _ t=>t
 | _,_,i+1,.cons r t=>.cons r (bh.eraseIdx i t)
theorem bh.reverse{xs:List V}{us:List Value}(h:bh xs us):bh xs.reverse us.reverse:=by
 induction h with
 | nil=>exact .nil
 | cons r t ih=>rw[List.reverse_cons,List.reverse_cons]; exact bh.append ih (.cons r .nil)
section
variable{X:Cx}{aa:List (Addr×Obj)}{σ:St}{H:Hp}{s:ah}{l b:Addr}{xs ys zs:List V}
theorem Inv.lset{its its':List Value}{n:Nat}{f:Array Value->Array Value}{t':Nat}(I:Inv X aa σ H s)(hH:H l=some (.lst xs))
  (e:s.heap.get? l=some { cls:=.type "list",data:=.seq its.toArray n }) (hf:f its.toArray=its'.toArray) (hv:bh ys its') (hz:ys.length<=a7) :
  Inv X aa σ (upd H l (.lst ys)) { s with heap:=s.heap.update l (nR f),toks:=t' }:=by
 have q:=PySem.IsL.update e f
 rw[hf]at q
 refine I.write (x:=l) (e:=l) (by rw[hH]; exact trivial) (.inl rfl) (fun b' u hb hu=>(rm s.heap (nR f) (fi hb)).trans hu) ⟨_,q⟩ ?_
 exact⟨hz,its',_,hv,q⟩
theorem Inv.lnew{its:List Value}{t':Nat}(I:Inv X aa σ H s)(hv:bh ys its)(hz:ys.length<=a7) :
  Inv X aa σ (upd H s.heap.objs.size (.lst ys)) { s with heap:=s.heap.push { cls:=.type "list",data:=.seq its.toArray },toks:=t' } :=
 I.laid (fun _ _ q=>bB _ q) (aL _) ⟨hz,its,0,hv,cN _ rfl⟩
theorem Inv.fresh(I:Inv X aa σ H s):H s.heap.objs.size=none:=I.hok.fresh (aL _)
theorem Inv.lstM(I:Inv X aa σ H s)(hH:H l=some (.lst xs)):xs.length<=a7/\∃ (its:List Value) (n:Nat),bh xs its/\xs.length=its.length/\s.heap.get? l=some { cls:=.type "list",data:=.seq its.toArray n }:=by
 obtain⟨z,its,n,r,e⟩:=I.hok l _ hH
 exact⟨z,its,n,r,r.length,e⟩
theorem Pz{n:Nat}(h:n<=a7):G2 n=false:=by
 unfold G2
 exact decide_eq_false (by ac_rfl)
end
section
variable{X:Cx}
def Oj:V->List V->Hp->VK->Prop:=fun x vs H Q=>∃ l xs y,x = .ref l/\vs=[y]/\H l=some (.lst xs)/\xs.length<a7/\Q .non (upd H l (.lst (xs++[y])))
theorem Eo:Cn X "list.append" Oj:=by
 intro aa s σ H x vs v us Q I rx rv h
 obtain⟨l,xs,y,rfl,rfl,hH,hz,q⟩:=h
 cases rx
 obtain⟨u,rfl,ru⟩:=rv.one
 obtain⟨z,its,n,r,hl,e⟩:=I.lstM hH
 refine call_meets F.slot_list_append ⟨_,e,rfl⟩ F.entry_list_append (F.args_list_append_2 _ _) (PySem.list_append l its.toArray n u (by rw[cA]; ac_rfl)) ⟨e,?_⟩
 refine⟨.non,_,I.lset (its':=its++[u]) hH e (by simp) (r.append (.cons ru .nil)) ?_,rfl,q⟩
 rw[cT,xD]
 ac_rfl
theorem Mu{α:Type}(xs:List α)(k:Nat):(bj k xs).flatten.length=k * xs.length:=by
 induction k with
 | zero=>simp
 | succ k ih=>rw[AW,G3,cT,ih,Nat.succ_mul,Nat.add_comm]
end
end L2
namespace L2
section
variable{κ:Type}[DecidableEq κ]
def ie(kvs:List (κ×V))(k:κ):Option V:=(kvs.find? fun kv=>decide (kv.1=k)).map (·.2)
def gd(kvs:List (κ×V))(k:κ)(v:V):List (κ×V) :=
 if(kvs.any fun kv=>decide (kv.1=k))=true then kvs.map (fun kv=>if kv.1=k then(kv.1,v)else kv)else kvs++[(k,v)]
theorem tw{p:κ×V}{r:List (κ×V)}{k:κ}(e:p.1=k):ie (p::r) k=some p.2:=by simp[ie,jK,e]
theorem sK{p:κ×V}{r:List (κ×V)}{k:κ}(e:¬ p.1=k):ie (p::r) k=ie r k:=by simp[ie,jK,e]
theorem DB(k:κ):∀ kvs:List (κ×V),(kvs.any fun kv=>decide (kv.1=k))=(ie kvs k).isSome
 | []=>rfl
 | p::r=>by
  rw[pB]
  by_cases e:p.1=k
  ·simp only[tw e,decide_eq_true e,Bool.true_or,Option.isSome_some]
  ·rw[sK e,decide_eq_false e,Bool.false_or]; exact DB k r
theorem Ah(kvs:List (κ×V))(k:κ)(v:V):(gd kvs k v).length<=kvs.length+1:=by
 unfold gd
 split
 ·rw[cq]; ac_rfl
 ·rw[cT,dQ,nS]; ac_rfl
theorem mq.isSome_eq{o:Option V}{u:Option Value}(r:mq o u):o.isSome=u.isSome:=by
 cases o with
 | none=>cases u with
  | none=>rfl
  | some _=>exact(show False from r).elim
 | some _=>cases u with
  | none=>exact(show False from r).elim
  | some _=>rfl
theorem mq.getD{o:Option V}{u:Option Value}{d:V}{d':Value}(r:mq o u)(rd:RelV d d'):RelV (o.getD d) (u.getD d'):=by
 cases o with
 | none=>cases u with
  | none=>exact rd
  | some _=>exact(show False from r).elim
 | some _=>cases u with
  | none=>exact(show False from r).elim
  | some _=>exact r
theorem KV.val{kvs:List (κ×V)}{vs:List (κ×Value)}(r:KV kvs vs)(k:κ):mq (ie kvs k) (valueAt vs k):=by
 unfold KV at r
 induction r with
 | nil=>exact True.intro
 | @cons p q ps qs h t ih =>
  obtain⟨h1,h2⟩:=h
  by_cases e:p.1=k
  ·have e':q.1=k:=h1.symm.trans e
   have b:valueAt (q::qs) k=some q.2:=by simp[valueAt,jK,e']
   rw[tw e,b]; exact h2
  ·have e':¬ q.1=k:=fun z=>e (h1.trans z)
   have b:valueAt (q::qs) k=valueAt qs k:=by simp[valueAt,jK,e']
   rw[sK e,b]; exact ih
theorem KV.any{kvs:List (κ×V)}{vs:List (κ×Value)}(r:KV kvs vs)(k:κ):(kvs.any fun kv=>decide (kv.1=k))=vs.any fun kv=>decide (kv.1=k):=by
 unfold KV at r
 induction r with
 | nil=>rfl
 | cons h t ih=>rw[pB,pB,ih,h.1]
theorem KV.repl{kvs:List (κ×V)}{vs:List (κ×Value)}(r:KV kvs vs)(k:κ){y:V}{u:Value}(ry:RelV y u) :
  KV (kvs.map fun kv=>if kv.1=k then(kv.1,y)else kv) (vs.map fun kv=>if kv.1=k then(kv.1,u)else kv):=by
 unfold KV at r ⊢
 induction r with
 | nil=>exact .nil
 | @cons p q ps qs h t ih =>
  rw[dq,dq]
  refine .cons ?_ ih
  obtain⟨h1,h2⟩:=h
  by_cases e:p.1=k
  ·rw[if_pos e,if_pos (h1.symm.trans e)]; exact⟨h1,ry⟩
  ·rw[if_neg e,if_neg (fun z=>e (h1.trans z))]; exact⟨h1,h2⟩
theorem KV.put{kvs:List (κ×V)}{vs:List (κ×Value)}(r:KV kvs vs)(k:κ){y:V}{u:Value}(ry:RelV y u):KV (gd kvs k y) (stored vs k u):=by
 unfold gd stored
 rw[r.any k]
 by_cases e:(vs.any fun kv=>decide (kv.1=k))=true
 ·rw[if_pos e,if_pos e]; exact r.repl k ry
 ·rw[if_neg e,if_neg e]; exact Paired.snoc r ⟨rfl,ry⟩
theorem KV.keys{kvs:List (κ×V)}{vs:List (κ×Value)}(r:KV kvs vs):kvs.map (·.1)=vs.map (·.1):=by
 unfold KV at r
 induction r with
 | nil=>rfl
 | cons h t ih=>rw[dq,dq,ih,h.1]
theorem KV.length{kvs:List (κ×V)}{vs:List (κ×Value)}(r:KV kvs vs):kvs.length=vs.length:=Paired.length r
end
theorem qM{P:aK}{w:World}{k:aw}{u:Value}(r:RelV (kV k) u):(fZ P w).is k u=true:=by
 cases k with
 | inl i=>obtain⟨t,e⟩:=(show ∃ t,u=Value.int i t from r); subst e; exact II P w i t
 | inr x=>obtain⟨t,e⟩:=(show ∃ t,u=Value.str x t from r); subst e; exact Qf P w x t
theorem Ey{P:aK}{w:World}:∀ {ks:List aw} {us:List Value},bh (ks.map kV) us->ItemsAre (fZ P w) ks us
 | [],_,r=>by rw[ug]at r; cases r; exact .nil
 | k::ks,_,r=>by
  rw[dq]at r
  cases r with
  | cons h t=>exact .cons (qM h) (Ey t)
abbrev KT(H:Hp):List (List aw×V)->List (List aw×Addr×Value)->Prop:=mE fun p q=>p.1=q.1/\H q.2.1=some (.tup (p.1.map kV))/\RelV p.2 q.2.2
theorem KT.val{H:Hp}{kvs:List (List aw×V)}{xs:List (List aw×Addr×Value)}(r:KT H kvs xs)(k:List aw):mq (ie kvs k) ((atKey xs k).map (·.2)):=by
 induction r with
 | nil=>exact True.intro
 | @cons p q ps qs h t ih =>
  obtain⟨h1,_,h2⟩:=h
  by_cases e:p.1=k
  ·have e':q.1=k:=h1.symm.trans e
   have b:atKey (q::qs) k=some q.2:=by simp[atKey,jK,e']
   rw[tw e,b]; exact h2
  ·have e':¬ q.1=k:=fun z=>e (h1.trans z)
   have b:atKey (q::qs) k=atKey qs k:=by simp[atKey,jK,e']
   rw[sK e,b]; exact ih
theorem KT.repl{H:Hp}{kvs:List (List aw×V)}{xs:List (List aw×Addr×Value)}(r:KT H kvs xs)(k:List aw){y:V}{u:Value}(ry:RelV y u) :
  KT H (kvs.map fun kv=>if kv.1=k then(kv.1,y)else kv) (xs.map (putAt k u)):=by
 induction r with
 | nil=>exact .nil
 | @cons p q ps qs h t ih =>
  rw[dq,dq]
  refine .cons ?_ ih
  obtain⟨h1,h2,h3⟩:=h
  unfold putAt
  by_cases e:p.1=k
  ·rw[if_pos e,if_pos (h1.symm.trans e)]; exact⟨h1,h2,ry⟩
  ·rw[if_neg e,if_neg (fun z=>e (h1.trans z))]; exact⟨h1,h2,h3⟩
theorem KT.put{H:Hp}{kvs:List (List aw×V)}{xs:List (List aw×Addr×Value)}(r:KT H kvs xs)(k:List aw){b:Addr}{y:V}{u:Value}(hb:H b=some (.tup (k.map kV)))(ry:RelV y u) :
  KT H (gd kvs k y) (storedH xs k b u):=by
 have e:(kvs.any fun kv=>decide (kv.1=k))=(atKey xs k).isSome:=by
  rw[DB,(r.val k).isSome_eq,G4]
 unfold gd storedH
 rw[e]
 by_cases q:(atKey xs k).isSome=true
 ·rw[if_pos q,if_pos q]; exact r.repl k ry
 ·rw[if_neg q,if_neg q]; exact Paired.snoc r ⟨rfl,hb,ry⟩
theorem KT.keeps{H H':Hp}{kvs:List (List aw×V)}{xs:List (List aw×Addr×Value)}(r:KT H kvs xs)(ht:∀ b ys,H b=some (.tup ys)->H' b=some (.tup ys)):KT H' kvs xs :=
 Paired.mapP r fun _ _ z=>⟨z.1,ht _ _ z.2.1,z.2.2⟩
section
variable{P:aK}{w:World}{H:Hp}{h:Heap}{a:Addr}
theorem GQ{u:HO}(ok:dv P w H h)(e:Rd H a u):cx P w H h a u:=e.ok ok
theorem o3{kvs:List (aw×V)}(ok:dv P w H h)(e:Rd H a (.dK kvs)):kvs.length<=a7/\(a == lL)=false/\∃ vs,KV kvs vs/\h.DictOf (fZ P w) a vs :=
 show cx P w H h a (.dK kvs)from GQ ok e
theorem xh{kvs:List (aw×V)}(ok:dv P w H h)(e:H a=some (.dK kvs)):kvs.length<=a7/\(a == lL)=false/\∃ vs,KV kvs vs/\h.DictOf (fZ P w) a vs:=o3 ok (.inl e)
theorem tL{ks:List aw}(ok:dv P w H h)(e:H a=some (.tup (ks.map kV))):(t_ (fZ P w)).is h ks a:=by
 obtain⟨_,its,r,⟨o,h1,h2,n,h3⟩,_⟩:=(show cx P w H h a (.tup (ks.map kV))from ok a _ e)
 exact⟨o,its.toArray,n,h1,h2,h3,by simpa using Ey r⟩
theorem qz{kvs:List (List aw×V)}(ok:dv P w H h)(e:Rd H a (.dT kvs)):kvs.length<=a7/\(a == lL)=false /\
  ∃ xs,KT H kvs xs/\h.DictOfH (t_ (fZ P w)) a xs:=by
 obtain⟨z,y,xs,r,o,es,ep,h1,h2,h3,h4,h5⟩:=(show cx P w H h a (.dT kvs)from GQ ok e)
 refine⟨z,y,xs,r,o,es,ep,h1,h2,h3,h4,fun x hx=>?_,h5⟩
 have all:∀ {l:List (List aw×V)} {m:List (List aw×Addr×Value)},KT H l m->∀ x∈m,(t_ (fZ P w)).is h x.1 x.2.1:=by
  intro l m q
  induction q with
  | nil=>intro x hx; exact nomatch hx
  | @cons p q ps qs hq t ih =>
   intro x hx
   rcases bH.mp hx with e | hx
   ·subst e
    exact tL ok (by rw[← hq.1]; exact hq.2.1)
   ·exact ih x hx
 exact all r x hx
theorem Ig{kvs:List (List aw×V)}(ok:dv P w H h)(e:H a=some (.dT kvs)):kvs.length<=a7/\(a == lL)=false /\
  ∃ xs,KT H kvs xs/\h.DictOfH (t_ (fZ P w)) a xs:=qz ok (.inl e)
end
def lF(H:Hp)(a:Addr)(y:V)(r:Option V):Prop :=
 (∃ kvs k,Rd H a (.dK kvs)/\y=kV k/\r=ie kvs k)\/∃ kvs k b,Rd H a (.dT kvs)/\y = .ref b/\H b=some (.tup (k.map kV))/\r=ie kvs k
def wH(H:Hp)(a:Addr)(y v:V)(H':Hp):Prop :=
 (∃ kvs k,H a=some (.dK kvs)/\y=kV k/\kvs.length<a7/\H'=upd H a (.dK (gd kvs k v))) \/
 ∃ kvs k b,H a=some (.dT kvs)/\y = .ref b/\H b=some (.tup (k.map kV))/\kvs.length<a7/\H'=upd H a (.dT (gd kvs k v))
theorem lF.k{H:Hp}{a:Addr}{kvs:List (aw×V)}{k:aw}(e:H a=some (.dK kvs)):lF H a (kV k) (ie kvs k):=.inl ⟨kvs,k,.inl e,rfl,rfl⟩
theorem lF.t{H:Hp}{a b:Addr}{kvs:List (List aw×V)}{k:List aw}(e:H a=some (.dT kvs))(eb:H b=some (.tup (k.map kV))):lF H a (.ref b) (ie kvs k):=.inr ⟨kvs,k,b,.inl e,rfl,eb,rfl⟩
theorem wH.k{H:Hp}{a:Addr}{kvs:List (aw×V)}{k:aw}{v:V}(e:H a=some (.dK kvs))(hl:kvs.length<a7):wH H a (kV k) v (upd H a (.dK (gd kvs k v))):=.inl ⟨kvs,k,e,rfl,hl,rfl⟩
theorem wH.t{H:Hp}{a b:Addr}{kvs:List (List aw×V)}{k:List aw}{v:V}(e:H a=some (.dT kvs))(eb:H b=some (.tup (k.map kV)))(hl:kvs.length<a7) :
  wH H a (.ref b) v (upd H a (.dT (gd kvs k v))):=.inr ⟨kvs,k,b,e,rfl,eb,hl,rfl⟩
section
variable{X:Cx}{aa:List (Addr×Obj)}{σ:St}{H:Hp}{s:ah}{a:Addr}{y v:V}{u r:Value}{o:Option V}{A:aV}{E:Value->ah->Prop}
theorem Inv.big(I:Inv X aa σ H s):lL<s.heap.objs.size:=by
 have h:cz<s.heap.objs.size:=(I.mod.glob.keeps I.bk).lt
 exact mJ (by decide) h
theorem PN{Q:Value->ah->Prop}(hu:A.units+1<cLine)(I:Inv X aa σ H s)(g:lF H a y (some v))(ry:RelV y u)(h:∀ w' s',Inv X aa σ H s'->RelV v w'->Q w' s') :
  wpAny (model X.prog X.w) A (pA (.ref a) u) Q E s:=by
 rcases g with⟨kvs,k,e,ey,l⟩ | ⟨kvs,k,b,e,ey,eb,l⟩
 ·subst ey
  obtain⟨z,hd,vs,rel,dd⟩:=o3 I.hok e
  obtain⟨w',hw,rw'⟩:=mq.some_of (v:=v) (o:=valueAt vs k) (by rw[l]; exact rel.val k)
  exact wpAny_getItem_of (qM ry) dd.mapOf hw (h w' _ (I.tok _) rw')
 ·subst ey
  cases (show u=Value.ref b from ry)
  obtain⟨z,hd,xs,rel,dd⟩:=qz I.hok e
  obtain⟨w',hw,rw'⟩:=mq.some_of (v:=v) (o:=(atKey xs k).map (·.2)) (by rw[l]; exact rel.val k)
  obtain⟨p,hp,dS⟩:=AX.mp hw
  refine wpAny_getItem_heap (AY hu) (tL I.hok eb) dd hp ?_
  rw[dS]
  exact h w' _ (I.tok _) rw'
theorem Lq{Q:Value->ah->Prop}(hu:A.units+1<cLine)(I:Inv X aa σ H s)(g:lF H a y o)(ry:RelV y u)(h:∀ s',Inv X aa σ H s'->Q (.bool (!o.isSome)) s') :
  wpAny (model X.prog X.w) A (d8 .NotIn u (.ref a)) Q E s:=by
 rcases g with⟨kvs,k,e,ey,l⟩ | ⟨kvs,k,b,e,ey,eb,l⟩
 ·subst ey
  obtain⟨z,hd,vs,rel,dd⟩:=o3 I.hok e
  refine wpAny_notIn_of (qM ry) hd dd.mapOf ?_
  rw[← (rel.val k).isSome_eq,← l]
  exact h _ (I.tok _)
 ·subst ey
  cases (show u=Value.ref b from ry)
  obtain⟨z,hd,xs,rel,dd⟩:=qz I.hok e
  refine wpAny_notIn_heap (AY hu) (tL I.hok eb) hd dd ?_
  have q:=(rel.val k).isSome_eq
  rw[G4]at q
  rw[← q,← l]
  exact h _ (I.tok _)
theorem zM{h':Heap}{t':Nat}{ob:HO}(I:Inv X aa σ H s)(mu:sW (H a))(hs:ix a s.heap h')(he:∃ q,h'.get? a=some q)(new:cx X.prog X.w (upd H a ob) h' a ob) :
  Inv X aa σ (upd H a ob) { s with heap:=h',toks:=t' } :=
 I.write (x:=a) (e:=a) mu (.inl rfl) (fun b q hb z=>(hs.2 b hb).trans z) he new
theorem CM{P:aK}{w:World}{H':Hp}{h':Heap}{kvs:List (aw×V)}{vs:List (aw×Value)}(z:kvs.length<=a7)(hd:(a == lL)=false)(rel:KV kvs vs)(dd:h'.DictOf (fZ P w) a vs) :
  cx P w H' h' a (.dK kvs):=⟨z,hd,vs,rel,dd⟩
theorem Kk{H':Hp}{Q:Unit->ah->Prop}(hu:A.units+1<cLine)(I:Inv X aa σ H s)(g:wH H a y v H')(ry:RelV y u)(rv:RelV v r)(h:∀ s',Inv X aa σ H' s'->Q () s') :
  wpAny (model X.prog X.w) A (setItem (.ref a) u r) Q E s:=by
 rcases g with⟨kvs,k,e,ey,l,eH⟩ | ⟨kvs,k,b,e,ey,eb,l,eH⟩
 ·subst ey eH
  obtain⟨z,hd,vs,rel,dd⟩:=xh I.hok e
  have hz:vs.length<=a7:=by rw[← rel.length]; exact z
  have hl:(gd kvs k v).length<=a7:=by have:=Ah kvs k v; ac_rfl
  refine wpAny_setItem_pairs (hsz:=hz) (qM ry) dd fun h' dd' hs=>h _ ?_
  have he:∃ q,h'.get? a=some q:=let ⟨q,_,_,hq,_⟩:=dd'; ⟨q,hq⟩
  exact zM I (by rw[e]; exact True.intro) hs he (CM hl hd (rel.put k rv) dd')
 ·subst ey eH
  cases (show u=Value.ref b from ry)
  obtain⟨z,hd,xs,rel,dd⟩:=Ig I.hok e
  have hz:xs.length<=a7:=by rw[← Paired.length rel]; exact z
  have hl:(gd kvs k v).length<=a7:=by have:=Ah kvs k v; ac_rfl
  refine wpAny_setItem_heap (hsz:=hz) (AY hu) (tL I.hok eb) dd fun h' dd' hs=>h _ ?_
  obtain⟨q,es,ep,hq,h2,h3,h4,_,h5⟩:=dd'
  refine zM I (by rw[e]; exact True.intro) hs ⟨q,hq⟩ ⟨hl,hd,_,(rel.put k eb rv).keeps fun c ys ec=>?_,q,es,ep,hq,h2,h3,h4,h5⟩
  rw[bp (ND ec e (fun z=>nomatch z))]
  exact ec
end
section
variable{X:Cx}{aa:List (Addr×Obj)}{σ:St}{H:Hp}{s:ah}{a:Addr}{kvs:List (aw×V)}{k:aw}{u:Value}{A:aV}{E:Value->ah->Prop}
theorem Pl{Q:Value->ah->Prop}(I:Inv X aa σ H s)(e:Rd H a (.dK kvs))(h:∀ t s',Inv X aa σ H s'->Q (.int kvs.length t) s'):wpAny (model X.prog X.w) A (call (.builtin "len") [.ref a]) Q E s:=by
 obtain⟨z,hd,vs,rel,dd⟩:=o3 I.hok e
 refine call_len_dict hd dd (by rw[← rel.length]; rw[pi]at z; ac_rfl) ?_
 rw[← rel.length]
 exact h _ _ (I.tok _)
end
def tD(i:Expr):Prop:=∀ ov iv,subscripted i false ov iv=operate [ov,iv] (pA ov iv)
theorem Iq{prog:aK}{w:World}{A:aV}{E:Value->ah->Prop}{s:ah}{env:Env}{value slice:Expr}{pos:Pos}{T id:String}{Q:Value->ah->Prop}
  (hl:typeLookup (.type T) "__getitem__" = pure (some (.builtin id))) (hs:tD slice)
  (h:wpAny (model prog w) A (eval value env) (fun o s₁=>wpAny (model prog w) A (eval slice env) (fun i s₂=>s₂.TypeIs o T/\wpAny (model prog w) A (pA o i) Q E s₂) E s₁) E s) :
  wpAny (model prog w) A (eval (.Subscript value slice pos) env) Q E s:=by
 refine Subscript_ (dG h (fun o s₁ h₁=>dG h₁ (fun i s₂ h₂=>?_) fun _ _ x=>x) fun _ _ x=>x)
 obtain⟨hT,h₂⟩:=h₂
 unfold subscriptTail
 refine aj ?_
 rw[getitemInPython_of_ne hT.not_modules]
 refine aj (wpAny_specialOf hT hl ?_)
 have fin:wpAny (model prog w) A (subscripted slice false o i) (fun r s₃=>wpAny (model prog w) A (letTemporaryGo value o r >>= fun _=>pure r) Q E s₃) E s₂:=by
  rw[hs o i]
  exact wpAny_operating (dG h₂ (fun r s₃ h₃=>aj (wpAny_letTemporaryGo (ar h₃))) fun _ _ x=>x)
 first
  | exact ar (aj fin)
  | exact aj (ar (aj fin))
  | exact aj fin
theorem I_{X:Cx}{aa:List (Addr×Obj)}{σ:St}{H:Hp}{s:ah}{a:Addr}{y:V}{o:Option V}(I:Inv X aa σ H s)(g:lF H a y o):s.TypeIs (.ref a) "dict":=by
 rcases g with⟨kvs,k,e,_,_⟩ | ⟨kvs,k,b,e,_,_,_⟩
 ·obtain⟨_,_,vs,_,dd⟩:=o3 I.hok e
  exact dd.typeIs
 ·obtain⟨_,_,xs,_,dd⟩:=qz I.hok e
  exact dd.typeIs
def Kt(td ty:TE):TE:=fun σ H Q=>td σ H fun x H1=>ty σ H1 fun y H2=>∃ a v,x = .ref a/\lF H2 a y (some v)/\Q v H2
def Qv(ty td:TE):TE:=fun σ H Q=>ty σ H fun y H1=>td σ H1 fun x H2=>∃ a o,x = .ref a/\lF H2 a y o/\Q (.bl (!o.isSome)) H2
def OH(td ty tv:TE):TS:=fun D σ H=>tv σ H fun v H1=>td σ H1 fun x H2=>ty σ H2 fun y H3=>∃ a H4,x = .ref a/\wH H3 a y v H4/\D.nx σ H4
section
variable{X:Cx}{o i e value:Expr}{pos pos' tpos:Pos}{td ty tv:TE}
theorem yL(hu:X.A.units+1<cLine)(ho:PE X o td)(hi:PE X i ty)(hs:tD i):PE X (.Subscript o i pos) (Kt td ty):=by
 intro aa s σ H Q I h
 refine Iq PySem.F.slot_dict_getitem.lookup hs (aH (ho aa s σ H _ I h) fun u s1 ⟨x,H1,I1,rx,q1⟩=>aH (hi aa s1 σ H1 _ I1 q1) fun iv s2 ⟨y,H2,I2,ry,a,v,ex,g,q2⟩=>?_)
 subst ex
 obtain rfl:u=Value.ref a:=rx
 exact⟨I_ I2 g,PN hu I2 g ry fun w' s3 I3 rw'=>⟨v,H2,I3,rw',q2⟩⟩
theorem Kl(hu:X.A.units+1<cLine)(hi:PE X i ty)(ho:PE X o td):PC X .NotIn i o (Qv ty td):=by
 intro aa s σ H Q I h
 refine aH (hi aa s σ H _ I h) fun iv s1 ⟨y,H1,I1,ry,q1⟩=>aH (ho aa s1 σ H1 _ I1 q1) fun u s2 ⟨x,H2,I2,rx,a,ov,ex,g,q2⟩=>?_
 subst ex
 obtain rfl:u=Value.ref a:=rx
 exact Lq hu I2 g ry fun s3 I3=>⟨.bl (!ov.isSome),H2,I3,rfl,q2⟩
theorem Ox(hu:X.A.units+1<cLine)(ho:PE X o td)(hi:PE X i ty)(hv:PE X value tv)(hs:nO value (some (.Subscript o i pos')) pos.line X.env=pure false) :
  PS X (.Assign [.Subscript o i pos'] value pos) (OH td ty tv):=by
 intro aa s σ H D I h
 refine wpAny_Assign_Subscript (aH (hv aa s σ H _ I h) fun r s1 ⟨v,H1,I1,rv,q1⟩=>aH (ho aa s1 σ H1 _ I1 q1) fun u s2 ⟨x,H2,I2,rx,q2⟩=>aH (hi aa s2 σ H2 _ I2 q2) fun iv s3 ⟨y,H3,I3,ry,a,H4,ex,g,q3⟩=>?_) hs
 subst ex
 obtain rfl:u=Value.ref a:=rx
 exact Kk hu I3 g ry rv fun s4 I4=>⟨σ,H4,I4,q3⟩
end
theorem FG{P:aK}{w:World}{H:Hp}(h:Heap)(hb:lL<h.objs.size):cx P w H (h.push { cls:=.type "dict",data:=.dict #[] }) h.objs.size (.dK []) :=
 ⟨j9 _,beq_eq_false_iff_ne.mpr (fi (cO hb)),[],.nil,Heap.DictOf.new h⟩
def Oq:TE:=fun _ H Q=>∀ p,H p=none->Q (.ref p) (upd H p (.dK []))
section
variable{X:Cx}{pos:Pos}
theorem Jf:PE X (.Dict [] [] pos) Oq:=fun aa s σ H Q I h =>
 wpAny_Dict_empty ⟨.ref s.heap.objs.size,_,I.laid (a:=s.heap.objs.size) (o:=.dK []) (t':=s.toks) (fun _ _ q=>bB _ q) (aL _) (FG s.heap I.big),rfl,h _ (I.hok.fresh (aL _))⟩
end
def ze:List (TE×TE)->St->Hp->(List (V×V)->Hp->Prop)->Prop
 | [],_,H,Q=>Q [] H
 | (tk,tv)::r,σ,H,Q=>tk σ H fun x H1=>tv σ H1 fun y H2=>ze r σ H2 fun ps H3=>Q ((x,y)::ps) H3
abbrev VV:List (V×V)->List (Value×Value)->Prop:=mE fun p q=>RelV p.1 q.1/\RelV p.2 q.2
def w6(X:Cx)(pos:Pos)(keys:List (Option Expr))(values:List Expr)(trs:List (TE×TE)):Prop :=
 ∀ (aa:List (Addr×Obj)) (s:ah) (σ:St) (H:Hp) (Q:List (V×V)->Hp->Prop),Inv X aa σ H s->ze trs σ H Q ->
  wpAny (model X.prog X.w) X.A (evalPairs (pairTrees keys values X.env pos)) (fun vs s'=>∃ ps H',Inv X aa σ H' s'/\VV ps vs/\Q ps H') X.xe s
theorem Jj{X:Cx}{pos:Pos}:w6 X pos [] [] []:=fun aa s σ H Q I h=>pairTrees_nil_walk ⟨[],H,I,.nil,h⟩
theorem Qo{X:Cx}{pos:Pos}{k v:Expr}{ks:List (Option Expr)}{vs:List Expr}{tk tv:TE}{trs:List (TE×TE)}(hk:PE X k tk)(hv:PE X v tv)(hr:w6 X pos ks vs trs) :
  w6 X pos (some k::ks) (v::vs) ((tk,tv)::trs):=fun aa s σ H Q I h =>
 pairTrees_cons_walk (aH (hk aa s σ H _ I h) fun u s1 ⟨x,H1,I1,rx,q1⟩=>aH (hv aa s1 σ H1 _ I1 q1) fun w2 s2 ⟨y,H2,I2,ry,q2⟩ =>
  aH (hr aa s2 σ H2 _ I2 q2) fun ws s3 ⟨ps,H3,I3,rel,q3⟩=>⟨(x,y)::ps,H3,I3,.cons ⟨rx,ry⟩ rel,q3⟩)
def qH(kvs more:List (aw×V)):List (aw×V):=more.foldl (fun am kv=>gd am kv.1 kv.2) kvs
theorem KV.merge:∀ {more:List (aw×V)} {rs:List (aw×Value)} {kvs:List (aw×V)} {vs:List (aw×Value)},KV more rs->KV kvs vs->KV (qH kvs more) (merged vs rs):=by
 intro more rs kvs vs r
 unfold KV at r
 induction r generalizing kvs vs with
 | nil=>intro q; exact q
 | @cons p q ps qs h t ih =>
  intro r0
  have e:KV (gd kvs p.1 p.2) (stored vs q.1 q.2):=by
   have:=r0.put p.1 h.2
   rw[← h.1]; exact this
  exact ih e
theorem Gj:∀ (more kvs:List (aw×V)),(qH kvs more).length<=kvs.length+more.length
 | [],kvs=>by show kvs.length<=kvs.length+0; ac_rfl
 | p::r,kvs=>by
  have h1:=Gj r (gd kvs p.1 p.2)
  have h2:=Ah kvs p.1 p.2
  show(qH (gd kvs p.1 p.2) r).length<=_
  rw[dQ]; ac_rfl
theorem D7{P:aK}{w:World}:∀ {kvs:List (aw×V)} {ws:List (Value×Value)},VV (kvs.map fun kv=>(kV kv.1,kv.2)) ws->∃ rs,Carries (fZ P w) ws rs/\KV kvs rs
 | [],_,r=>by rw[ug]at r; cases r; exact⟨[],True.intro,.nil⟩
 | p::kvs,_,r=>by
  rw[dq]at r
  cases r with
  | @cons a b as bs h t =>
   obtain⟨rs,c,q⟩:=D7 (P:=P) (w:=w) t
   obtain⟨b1,b2⟩:=b
   exact⟨(p.1,b2)::rs,⟨qM h.1,rfl,c⟩,.cons ⟨rfl,h.2⟩ q⟩
def Qe(trs:List (TE×TE)):TE:=fun σ H Q=>∀ p,H p=none->ze trs σ (upd H p (.dK [])) fun ps H2=>H2 p=some (.dK [])/\∃ kvs:List (aw×V),ps=kvs.map (fun kv=>(kV kv.1,kv.2))/\kvs.length<=15/\Q (.ref p) (upd H2 p (.dK (qH [] kvs)))
theorem QJ{X:Cx}{pos:Pos}{keys:List (Option Expr)}{values:List Expr}{trs:List (TE×TE)}(h:w6 X pos keys values trs)(rN:keys.all (·.isSome)=true)(hl:keys.length=values.length)(h0:keys≠[])
  (h15:keys.length<=15):PE X (.Dict keys values pos) (Qe trs):=by
 intro aa s σ H Q I q
 have hn:=I.hok.fresh (aL s.heap.objs.size)
 have I1:=I.laid (a:=s.heap.objs.size) (o:=.dK []) (h':=s.heap.push { cls:=.type "dict",data:=.dict #[] }) (t':=s.toks) (fun _ _ q=>bB _ q) (aL _) (FG s.heap I.big)
 refine wpAny_Dict_walk (knd:=fZ X.prog X.w) rN hl h0 h15 (aH (h aa _ σ _ _ I1 (q _ hn)) fun ws s2 ⟨ps,H2,I2,rel,e,kvs,ep,lk,q2⟩=>?_)
 subst ep
 obtain⟨rs,c,rk⟩:=D7 (P:=X.prog) (w:=X.w) rel
 obtain⟨z,hd,vs0,r0,dd⟩:=xh I2.hok e
 cases r0
 refine⟨rs,c,dd,fun h' dd' hs=>⟨.ref s.heap.objs.size,_,?_,rfl,q2⟩⟩
 have hz:(qH [] kvs).length<=a7:=by
  have h1:=Gj kvs []
  rw[nS]at h1
  rw[pi]; ac_rfl
 have he:∃ q,h'.get? s.heap.objs.size=some q:=let ⟨q,_,_,hq,_⟩:=dd'; ⟨q,hq⟩
 exact zM I2 (by rw[e]; exact True.intro) hs he (CM hz hd (rk.merge .nil) dd')
structure M2(X:Cx)(o:Expr)(m:Str)(apos:Pos)(e f:Expr)(cpos:Pos):Prop where
 base:rj o m X.env (eval o X.env)=eval o X.env
 few:((eU cpos (aZ [e,f] X.env)).all (fun x=>!x.1) && (backToKw cpos (keywordEach [] X.env)).all (fun x=>x.1.isSome)
  && decide (([e,f]:List Expr).length+([]:List pC).length+(if([]:List pC).isEmpty then 0 else 1)<30))=true
 line:(apos.endLine == cpos.line)=true
 trees:eU cpos (aZ [e,f] X.env)=[(false,eval e X.env),(false,eval f X.env)]
def Ec(H:Hp)(a:Addr):Prop:=(∃ kvs,Rd H a (.dK kvs))\/∃ kvs,Rd H a (.dT kvs)
theorem OM{X:Cx}{aa:List (Addr×Obj)}{σ:St}{H:Hp}{s:ah}{a:Addr}(I:Inv X aa σ H s)(d:Ec H a) :
  s.TypeIs (.ref a) "dict"/\(∀ b,Value.ref a = .ref b->∃ ob,s.heap.get? b=some ob/\ob.dict=none)/\(a == lL)=false:=by
 rcases d with⟨kvs,e⟩ | ⟨kvs,e⟩
 ·obtain⟨_,hd,vs,_,dd⟩:=o3 I.hok e
  refine⟨dd.typeIs,fun b q=>?_,hd⟩
  cases q
  obtain⟨ob,_,_,h1,h2,_⟩:=dd
  exact⟨ob,h1,h2.2.1⟩
 ·obtain⟨_,hd,xs,_,dd⟩:=qz I.hok e
  refine⟨dd.typeIs,fun b q=>?_,hd⟩
  cases q
  obtain⟨ob,_,_,h1,h2,_⟩:=dd
  exact⟨ob,h1,h2.2.1⟩
section
variable{X:Cx}{aa:List (Addr×Obj)}{σ:St}{H:Hp}{s:ah}{a:Addr}{y d:V}{u r:Value}{o:Option V}{A:aV}{E:Value->ah->Prop}
theorem Jg{Q:Value->ah->Prop}(hu:A.units+1<cLine)(I:Inv X aa σ H s)(g:lF H a y o)(ry:RelV y u)(rd:RelV d r)(h:∀ w' s',Inv X aa σ H s'->RelV (o.getD d) w'->Q w' s') :
  wpAny (model X.prog X.w) A (call (.builtin "dict.get") [.ref a,u,r]) Q E s:=by
 rcases g with⟨kvs,k,e,ey,l⟩ | ⟨kvs,k,b,e,ey,eb,l⟩
 ·subst ey
  obtain⟨z,hd,vs,rel,dd⟩:=o3 I.hok e
  refine call_meetsIn G5 dd.typeIs PySem.F.entry_dict_get (PySem.F.args_dict_get_3 _ _ _) (meets_dict_get_default (fZ X.prog X.w) a (qM ry) hd r) ⟨_,dd.mapOf,h _ _ (I.tok _) ?_⟩
  rw[l]
  exact(rel.val k).getD rd
 ·subst ey
  cases (show u=Value.ref b from ry)
  obtain⟨z,hd,xs,rel,dd⟩:=qz I.hok e
  refine call_meetsIn G5 dd.typeIs PySem.F.entry_dict_get (PySem.F.args_dict_get_3 _ _ _) (meetsH_dict_get_default (t_ (fZ X.prog X.w)) a b hd r) ⟨AY hu,k,xs,tL I.hok eb,dd,h _ _ (I.tok _) ?_⟩
  rw[l]
  exact(rel.val k).getD rd
end
def Jv(td ty tx:TE):TE:=fun σ H Q=>td σ H fun x H1=>∃ a,x = .ref a/\Ec H1 a/\ty σ H1 fun y H2=>tx σ H2 fun z H3=>∃ o,lF H3 a y o/\Q (o.getD z) H3
section
variable{X:Cx}{o e f:Expr}{apos cpos:Pos}{td ty tx:TE}
theorem Jl(hu:X.A.units+1<cLine)(ho:PE X o td)(he:PE X e ty)(hf:PE X f tx)(m:M2 X o "get" apos e f cpos):PE X (.Call (.Attribute o "get" apos) [e,f] [] cpos) (Jv td ty tx):=by
 intro aa s σ H Q I h
 refine wpAny_Call_method m.base m.few m.line PySem.F.plainAttrs_dict G5 PySem.F.type_dict_get (aH (ho aa s σ H _ I h) fun u s1 ⟨x,H1,I1,rx,a,ex,d,q1⟩=>?_)
 subst ex
 obtain rfl:u=Value.ref a:=rx
 obtain⟨t1,t2,_⟩:=OM I1 d
 refine⟨t1,t2,?_⟩
 rw[m.trees]
 refine G0 rfl (G1 (AT (aH (he aa s1 σ H1 _ I1 q1) fun iv s2 ⟨y,H2,I2,ry,q2⟩ =>
  AT (aH (hf aa s2 σ H2 _ I2 q2) fun fv s3 ⟨z,H3,I3,rz,ov,g,q3⟩=>GW ?_))))
 exact Jg hu I3 g ry rz fun w' s4 I4 rw'=>⟨_,H3,I4,rw',q3⟩
end
end L2
namespace Att
open PySem PySem.W PySem.Calls PyProof.Rows
theorem Jx{P:Params}{h:Heap}:∀ (ns:List Int) (vs:List Value),WellAll P h vs (ns.map WData.int)->IntsAre vs ns:=by
 intro ns
 induction ns with
 | nil =>
  intro vs w
  rw[ug]at w
  cases w
  exact .nil
 | cons n ns ih =>
  intro vs w
  rw[dq]at w
  cases w with
  | cons a b =>
   cases a
   exact .cons _ _ (ih _ b)
theorem Pj{l:OpenLaw}{n:Nat}(hn:l.most=some n){P:Params}{h:Heap}{args:List WData}{vals:List Value}
  (yd:l.row.toRowW.claim.pre args=true) (uN:WellAll P h vals args) :
  ∃ a vs ns,vals=[Value.ref a]/\args=[WData.list (ns.map WData.int)]/\h.get? a=some { cls:=.type "list",data:=.seq vs.toArray }/\IntsAre vs ns/\ns.length<=n:=by
 have hsh:WShape.hasAll [] args [.list .int]=true:=(pre_splitW yd).1
 have hc:l.pre.holds [] { args:=args }=true:=(pre_splitW yd).2
 obtain⟨d,r,rfl,h1,h2⟩:=hasAllW_cons hsh
 obtain rfl:=hasAllW_nil h2
 obtain⟨xs,rfl,h3⟩:=hasW_list h1
 obtain⟨ns,rfl⟩:=items_int h3
 have b7:ns.length<=n:=by
  unfold OpenLaw.pre at hc
  have h4:(WTm.not (.lt (.lit (.int (n:Int))) (.len (.arg 0)))).holds [] { args:=[.list (ns.map .int)] }=true:=by
   have h4:=(holds_andW hc).1
   rw[hn]at h4
   exact h4
  have h5:=condW_of h4 (w_not (w_lt w_lit (w_len_list (w_arg rfl))))
  rw[cq]at h5
  refine Nat.le_of_not_lt fun q=>?_
  have q':(n:Int)<((ns.length:Nat):Int):=by ac_rfl
  first
   | (rw[decide_eq_true q']at h5; exact absurd h5 (by decide))
   | (simp at h5; ac_rfl)
 cases uN with
 | cons w1 w2 =>
  cases w2
  cases w1 with
  | list ho rN=>exact⟨_,_,ns,rfl,rfl,ho,Jx ns _ rN,b7⟩
theorem LF(l:OpenLaw)(args:List WData):l.row.toRowW.claim.post args (.bool true) args=true :=
 postW_of (r:=l.row.toRowW) (X:=(true == true))
  (show WShape.has [] (.bool true) .bool=true by first | rfl | decide | simp[WShape.has,WShape.arms,WShape.armsAll])
  (show(WTm.eq .res (.lit (.bool true))).value [] { args:=args,res:=some (.bool true),after:=args }=some (.bool (true == true))from w_eq_bool (w_res rfl) w_lit) rfl
theorem attach_call{l:OpenLaw}{n:Nat}{q:aK}{loose:List Str}{XP:(Str->Option Value)->Heap->Prop}{YP:World->Heap->Prop}{d:DefRec}
  (hn:l.most=some n) (pQ:d.params.defaults=[])
  (call:∀ (w:World) (s₀ s₁:ah) (mg mb:Str->Option Value) (fa:Addr) (o:Obj) (pm cd doc:Value) (a:Addr) (vs:List Value) (ns:List Int),
   Ground q loose [] XP w s₀ mg mb s₁.heap->YP w s₁.heap ->
   s₁.heap.get? fa=some o->o.data = .func (docDef d.name d.params d.body d.scope pm cd doc)->s₁.heap.CodeRec cd d.name->mg d.name=some (.ref fa) ->
   s₁.heap.get? a=some { cls:=.type "list",data:=.seq vs.toArray }->IntsAre vs ns->ns.length<=n->s₁.gens = #[] ->
   pr (model l.prog w) callerA (.call (.ref fa) ⟨[.ref a],[]⟩) (fun r s'=>r = .ok (.ret (.bool true))/\OldK s₁.heap s'.heap/\s'.os=s₁.os/\mF s'.gens) s₁) :
  WalkO q loose XP YP l.row.toRowW d [] (fun f vs=>PySem.call f vs):=by
 intro w s₀ s₁ mg mb G Y fa o pm cd doc dV kV ho hd bF hD uO hg args vals as yd hlay hrd uN hlo
 obtain rfl:dV = .none:=Dflts.none hD pQ
 obtain rfl:kV = .none:=Dflts.noKw hD
 obtain⟨a,vs,ns,rfl,rfl,BC,Bw,b7⟩:=Pj hn yd uN
 refine enter_call (xz (call w s₀ s₁ mg mb fa o pm cd doc a vs ns G Y ho (fd_plain hd) bF uO BC Bw b7 hg) fun r s' hq=>?_)
 obtain⟨rfl,h2,h3,h4⟩:=hq
 exact⟨.inl ⟨.bool true,.bool true,[],rfl,fun _=>rfl,.bool true,LF l _,fun _=>⟨List.Pairwise.nil,fun _ hm=>(nomatch hm)⟩⟩,h2,h3,h4⟩
end Att
namespace L2
theorem D9:∀ {vs:List Value} {ns:List Int},IntsAre vs ns->bh (ns.map V.int) vs
 | _,_,.nil=>.nil
 | _,_,.cons n t h=>.cons ⟨t,rfl⟩ (D9 h)
def zH(H:Hp):Prop:=∀ b,H b=none\/∃ o xs,H b=some (.frz o (.lst xs))
theorem KU{P:aK}{w:World}{K:ao}{mg mb:Str->Option Value}{CX:gv}{k:Nat}{fa a:Addr}{fd:iy}{x:Str}{sp:Sp}{s₁:ah}{vs:List Value}{ns:List Int}
  (KX:K.In s₁.heap) (rR:s₁.heap.Ns cz mg) (hb:s₁.heap.Ns builtinsNs mb) (hbb:∀ x:Str,x≠"__name__"->mb x=eE x) (hlim:s₁.heap.NoLimit) (hg:s₁.gens = #[])
  (ha:s₁.heap.get? a=some { cls:=.type "list",data:=.seq vs.toArray }) (hi:IntsAre vs ns) (hl:ns.length<=a7) (hr:fe k callerA)
  (F:∀ base:Heap,K.In base->base.Ns cz mg->kB P w K mg base CX k fa fd [x] sp) (Rh:∀ (s:ah) (u:Value),BindsTo s fd ⟨[u],[]⟩ [(x,u)])
  (lW:∀ H:Hp,zH H->bO K H a (ns.map V.int)->sp [.ref a] H (fun v _=>v = .bl true) fun _ _ _=>False)
  (hCX:∀ H e s',CX [] H s₁ (fun _ _ _=>False) e s'->False) :
  pr (model P w) callerA (.call (.ref fa) ⟨[.ref a],[]⟩) (fun r s'=>r = .ok (.ret (.bool true))/\OldK s₁.heap s'.heap/\s'.os=s₁.os/\mF s'.gens) s₁:=by
 have rv:=D9 hi
 have lenV:=hi.length
 have core:∀ H:Hp,zH H->bO K H a (ns.map V.int)->dv P w H s₁.heap->(∀ b,H b≠none->b=a)->(H a≠none->K.lookup a=none) ->
   pr (model P w) callerA (.call (.ref fa) ⟨[.ref a],[]⟩) (fun r s'=>r = .ok (.ret (.bool true))/\OldK s₁.heap s'.heap/\s'.os=s₁.os/\mF s'.gens) s₁:=by
  intro H hO hS hok hA hK
  have base_of:∀ {b:Addr} {o:Obj},s₁.heap.get? b=some o->H b=none->(mf s₁.heap H).get? b=some o:=fun e n=>N2 e n
  have noA:∀ {b:Addr} {o:Obj} {es:Array DictEntry} {ep:Nat},s₁.heap.get? b=some o->o.data = .dict es ep->H b=none:=fun {b o es ep} e d=>by
   cases q:H b with
   | none=>rfl
   | some u =>
    have e':b=a:=hA b (by rw[q]; simp)
    subst e'
    rw[ha]at e; cases e
    have d':Data.seq vs.toArray _=Data.dict es ep:=d
    cases d'
  have nsK:∀ {b:Addr} {m:Str->Option Value},s₁.heap.Ns b m->(mf s₁.heap H).Ns b m:=fun {b m} ⟨o,es,ep,e,d,r⟩=>⟨o,es,ep,base_of e (noA e d),d,r⟩
  have hKb:K.In (mf s₁.heap H):=fun b o e=>base_of (KX b o e) (by
   cases q:H b with
   | none=>rfl
   | some u =>
    have e':b=a:=hA b (by rw[q]; simp)
    subst e'
    rw[hK (by rw[q]; simp)]at e; cases e)
  have hM:Mod K mg (mf s₁.heap H):=⟨hKb,nsK rR,⟨mb,nsK hb,hbb⟩,let ⟨mc,h1,h2⟩:=hlim; ⟨mc,nsK h1,h2⟩⟩
  have e0:qO P w K mg (mf s₁.heap H) callerA [] s₁ H:=⟨rfl,hM,fun b o e=>OW e,lO (Jh _ _),trivial,fun b hb=>absurd (show b∈([]:List Addr)from hb) (by simp),hok,.of_eq hg⟩
  refine xz ((F _ hKb (nsK rR)).run callerA [] s₁ H ⟨[.ref a],[]⟩ [.ref a] [.ref a] _ _ hr e0 (Rh s₁ (.ref a)) (.cons rfl .nil) (lW H hO hS)) fun r s' h=>?_
  cases r with
  | error e=>exact(hCX H e s' h).elim
  | ok fl =>
   cases fl with
   | next=>exact jI h
   | brk=>exact jI h
   | cont=>exact jI h
   | ret u =>
    obtain⟨v,H',os,bare,un,hok',r',q⟩:=h
    have q':v = .bl true:=q
    subst q'
    obtain rfl:u=Value.bool true:=r'
    refine⟨rfl,OldK.of_keep fun b o e=>?_,os,bare⟩
    cases q:H b with
    | none=>exact un.keep b o e q (by intro z; exact absurd (show b∈([]:List Addr)from z) (by simp)) (by simp)
    | some u =>
     rcases hO b with z | ⟨ob,xs,z⟩
     ·rw[q]at z; cases z
     ·have z2:=un.frzs b ob _ z
      obtain⟨e1,_⟩:=hok b _ z
      obtain⟨e2,_⟩:=hok' b _ z2
      rw[e]at e1; cases e1
      exact e2
 cases hk:K.lookup a with
 | some o =>
  have e:=KX a o hk
  rw[ha]at e
  cases e
  refine core (fun _=>none) (fun _=>.inl rfl) (.inr ⟨_,vs.toArray,_,hk,rfl,rfl,rfl,by rw[cA,lenV]; exact hl,by simpa using rv⟩) (fun b u z=>by have z':(none:Option HO)=some u:=z; cases z') (fun b z=>absurd rfl z) fun z=>absurd rfl z
 | none =>
  refine core (fun b=>if b=a then some (.frz { cls:=.type "list",data:=.seq vs.toArray } (.lst (ns.map V.int)))else none) (fun b=>?_) (.inl (.inr ⟨{ cls:=.type "list",data:=.seq vs.toArray },if_pos rfl⟩)) (fun b u z=>?_) (fun b z=>?_) fun _=>hk
  ·by_cases hb:b=a
   ·exact .inr ⟨_,_,if_pos hb⟩
   ·exact .inl (if_neg hb)
  ·by_cases hb:b=a
   ·have z':=(if_pos hb).symm.trans z
    cases z'
    subst hb
    exact⟨ha,by rw[cq]; exact hl,vs,_,rv,ha⟩
   ·have z':=(if_neg hb).symm.trans z
    cases z'
  ·by_cases hb:b=a
   ·exact hb
   ·exact absurd (if_neg hb) z
end L2
namespace L2
theorem Rx{l:AZ}{n k:Nat}{q:aK}{loose:List Str}{XP:(Str->Option Value)->Heap->Prop}{YP:World->Heap->Prop}{d:DefRec}{K:Params->ao}{CX:World->gv}{sp:World->Sp}{x:Str}
  (hn:l.most=some n) (hn2:n<=a7) (pQ:d.params.defaults=[]) (hr:fe k callerA)
  (hY:∀ (w:World) (h:Heap),YP w h->(K w.params).In h)
  (F:∀ (w:World) (mg:Str->Option Value) (fa:Addr) (h:Heap),(K w.params).In h->h.Ns cz mg->mg d.name=some (.ref fa) ->
   ∃ fd:iy,(∀ (s:ah) (u:Value),BindsTo s fd ⟨[u],[]⟩ [(x,u)]) /\
    ∀ base:Heap,(K w.params).In base->base.Ns cz mg->kB l.prog w (K w.params) mg base (CX w) k fa fd [x] (sp w))
  (lW:∀ (w:World) (H:Hp) (a:Addr) (ns:List Int),ns.length<=n->zH H->bO (K w.params) H a (ns.map V.int)->sp w [.ref a] H (fun v _=>v = .bl true) fun _ _ _=>False)
  (hCX:∀ (w:World) (H:Hp) (s:ah) (e:Value) (s':ah),CX w [] H s (fun _ _ _=>False) e s'->False) :
  PySem.W.WalkO q loose XP YP l.row.toRowW d [] (fun f vs=>PySem.call f vs):=by
 refine Att.attach_call hn pQ fun w s₀ s₁ mg mb fa o pm cd doc a vs ns G Y ho hd bF uO BC Bw b7 hg=>?_
 have KX:=hY w _ Y
 obtain⟨fd,hb,hF⟩:=F w mg fa _ KX G.T.g uO
 exact KU KX G.T.g G.T.b G.T.builtins G.T.nolimit hg BC Bw (cp b7 hn2) hr hF hb (fun H hO hS=>lW w H a ns b7 hO hS) fun H e s'=>hCX w H s₁ e s'
end L2
namespace L2
def lw(s:Stmt):Arguments:=match s with
 | .FunctionDef _ a _ _ _ _ _ _ _ _=>a
 | _=>{ posonlyargs:=[],args:=[],vararg:=none,kwonlyargs:=[],kw_defaults:=[],kwarg:=none,defaults:=[] }
def iP(s:Stmt):List Stmt:=match s with
 | .FunctionDef _ _ b _ _ _ _ _ _ _=>b
 | _=>[]
def aY(s:Stmt):Scope:=match s with
 | .FunctionDef _ _ _ _ _ _ sc _ _ _=>sc
 | _=>{ kind:=.function,names:=[],isGenerator:=false,isCoroutine:=false }
abbrev Ge:gv:=fun _ _ _ _ _ _=>False
abbrev E0:XK:=fun _ _ _=>False
structure oR(K:ao)(x qual:Str)(st:Stmt)(f:Addr)(fd:iy):Prop where
 ex:∃ (oc:Value) (od:Option Addr) (kV doc pm:Value) (an:Option Addr) (aJ ct:Value) (osl:Array (Option Value)),
  fd=kF x qual (lw st) (iP st) (aY st) .none kV doc pm an aJ ct/\K.lookup f=some ⟨oc,od,.func fd,osl⟩/\xB K aJ qual=true
 kp:uc K (.ref f)=true
section
variable{P:aK}{w:World}{K:ao}{mg:Str->Option Value}{base:Heap}
theorem oR.ok{x qual:Str}{st:Stmt}{f:Addr}{fd:iy}{N ps:List Str}{k:Nat}{sp:Sp}(F:oR K x qual st f fd)(S:bZ N ps (aY st))(len:∀ vs H Q E,sp vs H Q E->vs.length=ps.length)
  (kM:∀ (aJ:Value) (A:aV) (outer:List Env) (s:ah) (H:Hp) (vs:List V) (Q:VK) (E:XK),fe k (A.deeper (j_ qual (aY st) s.heap.objs.size f aJ))->sp vs H Q E ->
   ∃ t,i_ (jA Ge P w K mg base N qual (aY st) f aJ A outer s H E).nox (iP st) t/\t { nx:=fun _ H'=>Q .non H',rt:=Q } (start N vs) H):kB P w K mg base Ge (k+1) f fd ps sp:=by
 obtain⟨oc,od,kV,doc,pm,an,aJ,ct,osl,rfl,lk,bF⟩:=F.ex
 refine FA lk bF S len fun A outer s H vs Q E hr lW=>?_
 obtain⟨t,h,q⟩:=kM aJ A outer s H vs Q E hr lW
 exact⟨t,h.nox,q⟩
theorem oR.binds{x qual:Str}{st:Stmt}{f:Addr}{fd:iy}{ps:List Str}(F:oR K x qual st f fd)
  (h:∀ (kV doc pm:Value) (an:Option Addr) (aJ ct:Value) (us:List Value),us.length=ps.length->g7 (kF x qual (lw st) (iP st) (aY st) .none kV doc pm an aJ ct) ⟨us,[]⟩=pure (ps.zip us)):Binds K fd ps []:=by
 obtain⟨oc,od,kV,doc,pm,an,aJ,ct,osl,rfl,lk,bF⟩:=F.ex
 exact .all (h kV doc pm an aJ ct)
theorem Fs{x qual:Str}{st:Stmt}{f:Addr}{oc:Value}{od an:Option Addr}{osl:Array (Option Value)}{kV doc pm aJ ct:Value}(l:K.lookup f=some ⟨oc,od,.func (kF x qual (lw st) (iP st) (aY st) .none kV doc pm an aJ ct),osl⟩)
  (c:xB K aJ qual=true) (k:uc K (.ref f)=true):oR K x qual st f (kF x qual (lw st) (iP st) (aY st) .none kV doc pm an aJ ct):=⟨⟨oc,od,kV,doc,pm,an,aJ,ct,osl,rfl,l,c⟩,k⟩
end
theorem BM{n:Nat}(h:n<=1000):n<a7:=uh h (by decide)
section
variable{X:Cx}
theorem pv(i:Nat){x:Str}{pos:Pos}(hN:X.N[i]?=some x:=by rfl)(hv:ft X.env.scope x:=by first | exact Or.inl rfl | exact Or.inr (Or.inl rfl) | exact Or.inr (Or.inr rfl))(hd:(x == ("__debug__" : Str))=false:=by decide)
  (bF:(x == ("__classdict__" : Str))=false:=by decide):PE X (.Name x pos) (nG i):=iw hN hv hd bF
theorem Ko:fP X (.builtin "len") (fun xs H Q=>∃ a kvs,xs=[V.ref a]/\H a=some (.dK kvs)/\Q (.int kvs.length) H):=by
 intro aa s σ H xs us Q I r h
 obtain⟨a,kvs,rfl,ha,q⟩:=h
 obtain⟨u,rfl,ru⟩:=vals1 r
 cases ru
 exact Pl I (.inl ha) fun t s' I'=>⟨.int kvs.length,H,I',⟨t,rfl⟩,q⟩
end
theorem qV{A B:Prop}(h:B):if false=true then A else B:=by
 rw[if_neg fH]
 exact h
theorem qx{A B:Prop}(h:A):if true=true then A else B:=by
 rw[if_pos rfl]
 exact h
def Same(H H':Hp):Prop:=∀ b o,H b=some o->H' b=some o
theorem Same.refl(H:Hp):Same H H:=fun _ _ h=>h
theorem Same.trans{H H1 H2:Hp}(a:Same H H1)(b:Same H1 H2):Same H H2:=fun c o h=>b c o (a c o h)
theorem Same.free{H H':Hp}(e:Same H H'){l:Addr}(h:H' l=Option.none):H l=Option.none:=by
 cases q:H l with
 | none=>rfl
 | some o =>
  rw[e l o q]at h
  cases h
theorem Same.seq{K:ao}{H H':Hp}{a:Addr}{xs:List V}(e:Same H H')(h:bO K H a xs):bO K H' a xs:=by
 rcases h with(h | ⟨o,h⟩) | h
 ·exact .inl (.inl (e _ _ h))
 ·exact .inl (.inr ⟨o,e _ _ h⟩)
 ·exact .inr h
end L2
set_option maxHeartbeats 4000000
namespace L2
def gT(env:Env):List (Str×gf)->List (Str×Addr)->List (Str×Addr)
 | [],cs=>cs
 | (n,k)::r,cs=>if k == .free then gT env r ((n,(env.cells.lookup n).getD 0)::cs)else gT env r cs
theorem IR{env:Env}{y:Str}{c:Addr}(names:List (Str×gf))(cs:List (Str×Addr))(hh:∀ x∈names,x.2 = .free->∃ c,env.cells.lookup x.1=some c)
  (h:(gT env names cs).lookup y=some c):cs.lookup y=some c\/env.cells.lookup y=some c:=by
 induction names generalizing cs with
 | nil=>exact .inl h
 | cons a r ih =>
  obtain⟨n,k⟩:=a
  unfold gT at h
  have hr:∀ x∈r,x.2 = .free->∃ c,env.cells.lookup x.1=some c:=fun x hx=>hh x (kD _ hx)
  split at h
  ·rename_i hk
   obtain⟨c',gK⟩:=hh (n,k) (mH ..) (by simpa using hk)
   rcases ih _ hr h with q | q
   ·rw[ka]at q
    split at q
    ·rename_i hb
     have e:y=n:=by simpa using hb
     subst e
     rw[gK]at q
     exact .inr (by rw[gK]; exact q)
    ·exact .inl q
   ·exact .inr q
  ·exact ih _ hr h
theorem Ff{α:Type}{n:Str}{v:α}{l:List (Str×α)}:((n,v)::l).lookup n=some v:=by
 rw[ka]; simp
theorem Cb{α:Type}{n y:Str}{v:α}{l:List (Str×α)}(h:∃ c,l.lookup y=some c):∃ c,((n,v)::l).lookup y=some c:=by
 rw[ka]
 split
 ·exact⟨_,rfl⟩
 ·exact h
theorem zC{env:Env}{y:Str}:∀ (names:List (Str×gf)) (cs:List (Str×Addr)),(∃ c,cs.lookup y=some c)->∃ c,(gT env names cs).lookup y=some c
 | [],cs,h=>h
 | (n,k)::r,cs,h=>by
  unfold gT
  split
  ·exact zC r _ (Cb h)
  ·exact zC r _ h
theorem Ao{env:Env}{y:Str}:∀ (names:List (Str×gf)) (cs:List (Str×Addr)),(∃ x∈names,x.1=y/\x.2 = .free)->∃ c,(gT env names cs).lookup y=some c
 | [],cs,⟨_,h,_⟩=>by simp at h
 | (n,k)::r,cs,⟨x,hx,e1,e2⟩=>by
  unfold gT
  rcases bH.mp hx with e | hx
  ·subst e
   simp only at e1 e2
   subst e1 e2
   simp only[beq_self_eq_true,if_true]
   exact zC r _ ⟨_,Ff⟩
  ·split
   ·exact Ao r _ ⟨x,hx,e1,e2⟩
   ·exact Ao r _ ⟨x,hx,e1,e2⟩
theorem Aq{env:Env}:∀ (names:List (Str×gf)) (cs:List (Str×Addr)),(∀ x∈names,x.2 = .free->∃ c,env.cells.lookup x.1=some c) ->
  (forIn (m:=Sem) names cs fun x r=>match x with | (name,kind)=>if(kind == NameKind.free)=true then do let c ← cellOf env name; pure (ForInStep.yield ((name,c)::r))else pure (ForInStep.yield r))=pure (gT env names cs)
 | [],cs,_=>rfl
 | (n,k)::r,cs,h=>by
  have hr:∀ x∈r,x.2 = .free->∃ c,env.cells.lookup x.1=some c:=fun x hx=>h x (kD _ hx)
  rw[List.forIn_cons]
  unfold gT
  by_cases hk:(k == NameKind.free)=true
  ·obtain⟨c,hc⟩:=h (n,k) (mH ..) (by simpa using hk)
   simp only[hk,if_true]
   have e:cellOf env n=pure c:=by unfold cellOf; rw[hc]
   rw[e]
   simp only[pure_bind]
   rw[Aq r _ hr,hc]
   rfl
  ·simp only[hk,if_false,pure_bind]
   exact Aq r _ hr
theorem Pm{scope:Scope}{env:Env}(h:∀ x∈scope.names,x.2 = .free->∃ c,env.cells.lookup x.1=some c):closureFor scope env=pure (gT env scope.names []):=by
 unfold closureFor
 have q:=Aq scope.names [] h
 simp only[bind_pure_comp]at q ⊢
 rw[q]
 rfl
theorem xq{n c:Nat}(h1:n+1<=c)(h2:c<n):False:=by ac_rfl
theorem AN:∀ (names:List (Str×gf)) (n:Nat) (a b:List (Str×Addr)),fI n names (a++b)=fI n names a++b
 | [],_,_,_=>rfl
 | (x,k)::r,n,a,b=>by
  unfold fI
  split
  ·exact AN r (n+1) ((x,n)::a) b
  ·exact AN r n a b
theorem wv{y:Str}{c:Addr}:∀ (names:List (Str×gf)) (n:Nat) (a:List (Str×Addr)),(y,c)∈fI n names a->(y,c)∈a\/(y,.cell)∈names
 | [],_,_,h=>.inl h
 | (x,k)::r,n,a,h=>by
  unfold fI at h
  split at h
  ·rename_i hk
   rcases wv r _ _ h with z | z
   ·rcases bH.mp z with z | z
    ·cases z
     have e:k = .cell:=by simpa using hk
     subst e
     exact .inr (mH ..)
    ·exact .inl z
   ·exact .inr (kD _ z)
  ·rcases wv r _ _ h with z | z
   ·exact .inl z
   ·exact .inr (kD _ z)
theorem yy{y:Str}:∀ (names:List (Str×gf)) (n:Nat) (a:List (Str×Addr)),(∃ c,a.lookup y=some c)->∃ c,(fI n names a).lookup y=some c
 | [],_,_,h=>h
 | (x,k)::r,n,a,h=>by
  unfold fI
  split
  ·exact yy r _ _ (Cb h)
  ·exact yy r _ _ h
theorem wA{y:Str}:∀ (names:List (Str×gf)) (n:Nat) (a:List (Str×Addr)),(y,.cell)∈names->∃ c,(fI n names a).lookup y=some c
 | (x,k)::r,n,a,h=>by
  unfold fI
  rcases bH.mp h with e | h
  ·cases e
   exact yy r _ _ ⟨_,Ff⟩
  ·split
   ·exact wA r _ _ h
   ·exact wA r _ _ h
def lD(X:Cx)(scope:Scope)(C:Addr):List (Str×Addr):=fI (C+1) scope.names (gT X.env scope.names [])
theorem AH(X:Cx)(scope:Scope)(C:Addr):lD X scope C=fI (C+1) scope.names []++gT X.env scope.names []:=AN scope.names (C+1) [] _
theorem Ph{M:Model}{A:aV}{E:Value->ah->Prop}{s:ah}{scope:Scope}{globals:Addr}{cl:List (Str×Addr)}{qual:Str}{env:Env}{Q:Env->ah->Prop}
  (hQ:Q (newEnv scope s.heap.objs.size globals (fI (s.heap.objs.size+1) scope.names cl) qual none .none (some env) builtinsNs) { s with heap:=pushCells (s.heap.push { cls:=.type "dict",data:=.dict #[] }) scope.names }) :
  wpAny M A (newFunctionEnv scope globals cl [] qual none .none (some env)) Q E s:=by
 simp only[newFunctionEnv,Option.isSome_some,if_true]
 refine aj (wpAny_alloc ?_)
 refine aj (wpAny_layCells _ (fun name kind cells=>by cases hkc:kind == NameKind.cell <;> simp[hkc]) _ _ _ _ ?_)
 rw[show({ s with heap:=s.heap.push { cls:=.type "dict",data:=.dict #[] } }:ah).heap.objs.size=s.heap.objs.size+1 from ub ..]
 refine aj ?_
 rw[List.forIn_nil]
 exact ar (ar hQ)
theorem Cr{s:ah}{names:List (Str×gf)}{y:Str}{c:Addr}(h:(y,c)∈fI (s.heap.objs.size+1) names []) :
  (pushCells (s.heap.push { cls:=.type "dict",data:=.dict #[] }) names).IsCell c none/\s.heap.objs.size+1<=c/\∀ z,(z,c)∈fI (s.heap.objs.size+1) names []->y=z:=by
 have ok:=cellsFrom_ok names (s.heap.push { cls:=.type "dict",data:=.dict #[] }) (s.heap.objs.size+1) [] ⟨fun _ _ hm=>(nomatch hm),List.Pairwise.nil⟩ (by rw[ub]; exact aL _)
 rw[ub]at ok
 exact⟨(ok.empty y c h).1,(ok.empty y c h).2,fun z hz=>name_of_addr ok.apart h hz⟩
def c8(X:Cx)(scope:Scope)(N':List Str)(C:Addr)(s₀:ah)(H₀:Hp)(ex:List Addr)(pn:List (Addr×Obj)):Cx where
 prog:=X.prog
 w:=X.w
 K:=X.K
 mg:=X.mg
 base:=X.base
 A:=X.A
 N:=N'
 s₀:=s₀
 H₀:=H₀
 env:=compEnvC scope (lD X scope C) C X.env
 outer:=X.stack
 stack:=X.stack
 ex:=ex
 fn:=fun y=>scope.names.lookup y == some .cell
 calm:=X.calm
 pn:=X.pn++pn
 xe:=fun _ _=>False
def eZ(σ:St)(cap:List Nat):St:=cap.map fun i=>(σ[i]?).join
structure km(X:Cx)(scope:Scope)(x:Str)(N':List Str)(cap:List Nat):Prop where
 kind:scope.kind = .function
 cells:∀ y∈scope.names,y.2 = .cell->scope.names.lookup y.1=some .cell
 names:∀ y∈scope.names,y.2 = .local->scope.names.lookup y.1=some .local
 loc:scope.names.lookup x=some .local\/scope.names.lookup x=some .cell
 free:∀ y∈scope.names,y.2 = .free->X.env.kindOf y.1=some .cell\/X.env.kindOf y.1=some .free
 nd:N'.Nodup
 hd:N'.head?=some x
 len:N'.length=cap.length+1
 caps:∀ i j y,N'[i+1]?=some y->cap[i]?=some j->X.N[j]?=some y/\scope.names.lookup y=some .free
theorem Mo{names:List (Str×gf)}{y:Str}{k:gf}(h:names.lookup y=some k):∃ x∈names,x.1=y/\x.2=k:=⟨(y,k),kE h,rfl,rfl⟩
theorem yC{env:Env}{x:Str}:∀ {names:List (Str×gf)} {k:gf},
  (names.map fun(n,k)=>if(k == NameKind.free && env.scope.kind == .function && env.kindOf n == some .cell)then(n,NameKind.cell)else(n,k)).lookup x=some k ->
  ∃ k',names.lookup x=some k'/\(k=k'\/(k' = .free/\k = .cell))
 | [],_,h=>by simp at h
 | (n,k0)::r,k,h=>by
  change List.lookup x ((if(k0 == NameKind.free && env.scope.kind == .function && env.kindOf n == some .cell)=true then(n,NameKind.cell)else(n,k0))::_)=_ at h
  rw[ka]
  by_cases hc:(k0 == NameKind.free && env.scope.kind == .function && env.kindOf n == some .cell)=true
  ·rw[if_pos hc,ka]at h
   split at h
   ·rename_i hb
    cases h
    have:k0 = .free:=by simp at hc; exact hc.1.1
    exact⟨k0,rfl,.inr ⟨this,rfl⟩⟩
   ·exact yC h
  ·rw[if_neg hc,ka]at h
   split at h
   ·rename_i hb
    cases h
    exact⟨k0,rfl,.inl rfl⟩
   ·exact yC h
theorem yz{env:Env}{x:Str}:∀ {names:List (Str×gf)},names.lookup x=some .free ->
  let q:=(names.map fun(n,k)=>if(k == NameKind.free && env.scope.kind == .function && env.kindOf n == some .cell)then(n,NameKind.cell)else(n,k)).lookup x
  q=some .cell\/q=some .free
 | [],h=>by simp at h
 | (n,k0)::r,h=>by
  show List.lookup x ((if(k0 == NameKind.free && env.scope.kind == .function && env.kindOf n == some .cell)=true then(n,NameKind.cell)else(n,k0))::_)=_\/List.lookup x ((if(k0 == NameKind.free && env.scope.kind == .function && env.kindOf n == some .cell)=true then(n,NameKind.cell)else(n,k0))::_)=_
  rw[ka]at h
  by_cases hc:(k0 == NameKind.free && env.scope.kind == .function && env.kindOf n == some .cell)=true
  ·rw[if_pos hc,ka]
   cases hb:x == n with
   | true=>exact .inl rfl
   | false=>rw[hb]at h; exact yz h
  ·rw[if_neg hc,ka]
   cases hb:x == n with
   | true=>rw[hb]at h; cases h; exact .inr rfl
   | false=>rw[hb]at h; exact yz h
theorem Au{env:Env}{x:Str}:∀ {names:List (Str×gf)},names.lookup x=some .cell ->
  (names.map fun(n,k)=>if(k == NameKind.free && env.scope.kind == .function && env.kindOf n == some .cell)then(n,NameKind.cell)else(n,k)).lookup x=some .cell
 | [],h=>by simp at h
 | (n,k0)::r,h=>by
  show List.lookup x ((if(k0 == NameKind.free && env.scope.kind == .function && env.kindOf n == some .cell)=true then(n,NameKind.cell)else(n,k0))::_)=_
  rw[ka]at h
  by_cases hc:(k0 == NameKind.free && env.scope.kind == .function && env.kindOf n == some .cell)=true
  ·rw[if_pos hc,ka]
   cases hb:x == n with
   | true=>rfl
   | false=>rw[hb]at h; exact Au h
  ·rw[if_neg hc,ka]
   cases hb:x == n with
   | true=>rw[hb]at h; cases h; rfl
   | false=>rw[hb]at h; exact Au h
section
variable{X:Cx}{aa:List (Addr×Obj)}{σ:St}{H:Hp}{s:ah}{scope:Scope}{x:Str}{N':List Str}{cap:List Nat}
theorem Inv.freeHas(I:Inv X aa σ H s)(B:km X scope x N' cap):∀ y∈scope.names,y.2 = .free->∃ c,X.env.cells.lookup y.1=some c:=fun y hy e=>I.ok.has y.1 (B.free y hy e)
theorem Inv.clIn(I:Inv X aa σ H s)(B:km X scope x N' cap){y:Str}{c:Addr}(h:(gT X.env scope.names []).lookup y=some c):X.env.cells.lookup y=some c:=by
 rcases IR scope.names [] (I.freeHas B) h with q | q
 ·simp at q
 ·exact q
theorem Inv.cbIn(I:Inv X aa σ H s)(B:km X scope x N' cap){C:Addr}{y:Str}{c:Addr}(h:(lD X scope C).lookup y=some c):((y,c)∈fI (C+1) scope.names []/\scope.names.lookup y=some .cell)\/((gT X.env scope.names []).lookup y=some c/\X.env.cells.lookup y=some c):=by
 rw[AH,G6]at h
 cases e:(fI (C+1) scope.names []).lookup y with
 | none=>rw[e]at h; exact .inr ⟨h,I.clIn B h⟩
 | some c' =>
  rw[e]at h
  cases h
  have m:=kE e
  rcases wv _ _ _ m with z | z
  ·cases z
  ·exact .inl ⟨m,B.cells _ z rfl⟩
theorem Inv.cbOld(I:Inv X aa σ H s)(B:km X scope x N' cap){C:Addr}{y:Str}{c:Addr}(h:(gT X.env scope.names []).lookup y=some c)(hk:scope.names.lookup y=some .free):(lD X scope C).lookup y=some c:=by
 rw[AH,G6]
 cases e:(fI (C+1) scope.names []).lookup y with
 | none=>exact h
 | some c' =>
  rcases wv _ _ _ (kE e)with z | z
  ·cases z
  ·have:=B.cells _ z rfl
   rw[hk]at this; cases this
theorem Inv.block{fp:List Addr}{h₁:Heap}{m:Str->Option Value}{t':Nat}(hh:h₁=pushCells (s.heap.push { cls:=.type "dict",data:=.dict #[] }) scope.names)(I:Inv X aa σ H s)(B:km X scope x N' cap)(uP:∀ b∈fp,lh X aa H b)(hfo:∀ b∈fp,∃ o,s.heap.get? b=some o)(rR:h₁.Ns s.heap.objs.size m)
  (old:∀ b o,s.heap.get? b=some o->h₁.get? b=some o):Inv (c8 X scope N' s.heap.objs.size s H fp aa) [] (none::eZ σ cap) H { s with heap:=h₁,toks:=t' }:=by
 have ltC:∀ x c,X.env.cells.lookup x=some c->c<s.heap.objs.size:=fun x c e=>(I.cell x c e).elim fun v q=>q.lt
 have ncell:∀ {y:Str} {c:Addr},(y,c)∈fI (s.heap.objs.size+1) scope.names []->h₁.IsCell c none/\s.heap.objs.size+1<=c/\∀ z,(z,c)∈fI (s.heap.objs.size+1) scope.names []->y=z:=fun h=>by rw[hh]; exact Cr h
 have lk:∀ y k,(compEnvC scope (lD X scope s.heap.objs.size) s.heap.objs.size X.env).kindOf y=some k->∃ k',scope.names.lookup y=some k'/\(k=k'\/(k' = .free/\k = .cell)):=fun y k h=>yC h
 have fhas:∀ y,scope.names.lookup y=some .free->∃ c,(gT X.env scope.names []).lookup y=some c:=fun y h=>Ao scope.names [] (Mo h)
 have nfs:∀ b∈fO X.stack,b≠s.heap.objs.size:=fun b hb e=>by
  rcases bH.mp (I.stkSub b hb)with z | z
  ·exact absurd I.lt (by rw[← z,e]; exact fh _)
  ·exact I.nofs (lO e.symm) z
 refine⟨⟨I.ok.mod,B.kind,I.ok.glob,I.ok.blt,aL _,fun y z c h1 h2=>?_,fun y hy=>?_,fun y c h n6=>?_,I.ok.hd,I.ok.frames,.inl rfl,fun b hb=>?_,fun b o e=>I.bs b o e,
   cp I.ok.bsz I.sz,fun b o e hb=>?_,fun b hb hf=>?_,I.stack,fun b hb=>I.stkFree b hb⟩,
  rfl,I.bare,Un.kept old,⟨m,rR,fun i y v e1 e2 e3=>?_⟩,fun y c h=>?_,I.hok.fresh (aL _),fun y c h=>?_,fun p hp=>?_,I.hok.kept old,?_⟩
 ·-- inj
  rcases I.cbIn B h1 with⟨a1,a2⟩ | ⟨a1,a2⟩ <;> rcases I.cbIn B h2 with⟨b1,b2⟩ | ⟨b1,b2⟩
  ·exact(ncell a1).2.2 z b1
  ·exact(xq (ncell a1).2.1 (ltC _ _ b2)).elim
  ·exact(xq (ncell b1).2.1 (ltC _ _ a2)).elim
  ·exact I.ok.inj y z c a2 b2
 ·-- has
  show ∃ c,(lD X scope s.heap.objs.size).lookup y=some c
  have jQ:scope.names.lookup y=some .free->∃ c,(lD X scope s.heap.objs.size).lookup y=some c:=fun q=>(fhas y q).imp fun c hc=>I.cbOld B hc q
  rcases hy with hy | hy
  ·obtain⟨k',q,z | ⟨z,_⟩⟩:=lk y _ hy
   ·subst z; exact wA _ _ _ (kE q)
   ·subst z; exact jQ q
  ·obtain⟨k',q,z | ⟨_,z⟩⟩:=lk y _ hy
   ·subst z; exact jQ q
   ·cases z
 ·-- cab
  have hk:scope.names.lookup y=some .cell:=by simpa using(show(scope.names.lookup y == some .cell)=true from h)
  show s.heap.objs.size<=c
  rcases I.cbIn B n6 with⟨a1,a2⟩ | ⟨a1,a2⟩
  ·have:=(ncell a1).2.1; ac_rfl
  ·obtain⟨c',gK⟩:=wA (n:=s.heap.objs.size+1) (a:=[]) _ (kE hk)
   have e:(lD X scope s.heap.objs.size).lookup y=some c':=by rw[AH,G6,gK]; rfl
   have e2:(lD X scope s.heap.objs.size).lookup y=some c:=n6
   rw[e]at e2; cases e2
   have:=(ncell (kE gK)).2.1; ac_rfl
 ·-- exf
  obtain⟨f0,f1,f2,f3,f4,f5⟩:=uP b hb
  obtain⟨o,ho⟩:=hfo b hb
  refine⟨fun e=>absurd (bq ho) (by rw[e]; exact fh _),fun y c h=>?_⟩
  rcases I.cbIn B h with⟨a1,a2⟩ | ⟨a1,a2⟩
  ·rintro rfl
   exact xq (ncell a1).2.1 (bq ho)
  ·exact f4 y c a2
 ·-- noex
  obtain⟨f0,f1,f2,f3,f4,f5⟩:=uP b hb
  rcases f3 with z | z
  ·exact I.ok.noex b o e z
  ·exact absurd (gB (bq e) (cp I.ok.bsz z)) (fh _)
 ·-- exfs
  obtain⟨f0,f1,f2,f3,f4,f5⟩:=uP b hb
  rcases bH.mp (I.stkSub b hf)with z | z
  ·exact f1 z
  ·exact f2 z
 ·-- loc
  cases i with
  | zero=>simp at e2
  | succ i =>
   have kU:(eZ σ cap)[i]?=some (some v):=by simpa using e2
   unfold eZ at kU
   rw[iA]at kU
   cases hj:cap[i]? with
   | none=>rw[hj]at kU; cases kU
   | some j =>
    rw[hj]at kU
    have e4:(σ[j]?).join=some v:=dE kU
    have e5:σ[j]?=some (some v):=by
     cases hq:σ[j]? with
     | none=>rw[hq]at e4; cases e4
     | some o=>rw[hq]at e4; exact congrArg some e4
    obtain⟨b1,b2⟩:=B.caps i j y e1 hj
    obtain⟨mm,hn,hl⟩:=I.loc
    have uA:=B.free _ (kE b2) rfl
    have vis:ft X.env.scope y:=by
     rcases uA with z | z
     ·exact .inr (.inl z)
     ·exact .inr (.inr z)
    obtain⟨u,r,l⟩:=hl j y v b1 e5 vis
    refine⟨u,r,.inr ⟨yz b2,?_⟩⟩
    rcases l with⟨l,_⟩ | ⟨_,c,hc,x_⟩
    ·rcases uA with z | z
     ·rw[l]at z; cases z
     ·rw[l]at z; cases z
    ·obtain⟨c',gK⟩:=fhas y b2
     have e6:=I.clIn B gK
     rw[hc]at e6
     cases e6
     obtain⟨oo,ho,hd⟩:=x_
     exact⟨c,I.cbOld B gK b2,oo,old c oo ho,hd⟩
 ·rcases I.cbIn B h with⟨a1,a2⟩ | ⟨a1,a2⟩
  ·exact⟨none,(ncell a1).1⟩
  ·obtain⟨v,oo,ho,hd⟩:=I.cell y c a2
   exact⟨v,oo,old c oo ho,hd⟩
 ·rcases I.cbIn B h with⟨a1,a2⟩ | ⟨a1,a2⟩
  ·exact I.hok.fresh (cp (xE _) (ncell a1).2.1)
  ·exact I.freeC y c a2
 ·have g9:p∈X.pn++aa:=by simpa[c8]using hp
  obtain⟨e,n,ne,nf,d⟩:=I.pin p g9
  refine⟨old _ _ e,n,cO (bq e),fun hf=>?_,d⟩
  rcases bH.mp (I.stkSub p.1 hf)with z | z
  ·exact ne z
  ·exact nf z
 ·show(none::eZ σ cap).length=N'.length
  rw[B.len]; simp[eZ]
end
def vU(X:Cx)(ifs:List Expr)(t:TT):Prop :=
 ∀ (aa:List (Addr×Obj)) (s:ah) (σ:St) (H:Hp) (Q:Bool->Hp->Prop),Inv X aa σ H s->t σ H Q ->
  wpAny (model X.prog X.w) X.A (forIn ifs true fun c r=>if r=true then do let ok ← isTrue c X.env (eval c X.env); pure (ForInStep.yield ok)else pure (ForInStep.yield r)) (TP X aa σ Q) X.xe s
theorem Qp{P:aK}{w:World}{A:aV}{R:Result->ah->Prop}{s:ah}{elt tg iter:Expr}{ifs:List Expr}{scope:Scope}{pos:Pos}{it am:Value}{env:Env}(J:Nat->ah->Prop)
  (turn:∀ k s1,J k s1->wpAny (model P w) A (pyNext it) (fun r s2=>match r with
   | none=>R (.ok .next) s2
   | some v=>wpAny (model P w) A (AS tg it v) (fun _ s3=>wpAny (model P w) A (assign tg env v) (fun _ s4 =>
     wpAny (model P w) A (forIn ifs true fun c r=>if r=true then do let ok ← isTrue c env (eval c env); pure (ForInStep.yield ok)else pure (ForInStep.yield r)) (fun b s5 =>
      if b=true then wpAny (model P w) A (eval elt env) (fun y s6=>wpAny (model P w) A (call (.builtin "list.append") [am,y]) (fun _ s7=>∃ j,j<k/\J j s7) (fun _ _=>False) s6) (fun _ _=>False) s5
      else ∃ j,j<k/\J j s5) (fun _ _=>False) s4) (fun _ _=>False) s3) (fun _ _=>False) s2) (fun _ _=>False) s1) (k:Nat) (h:J k s) :
  pr (model P w) A (.compLoop (.ListComp elt [⟨tg,iter,ifs,0⟩] scope pos) 0 it am env) R s:=by
 refine codeAny_loop rfl J (fun j s1 hJ=>?_) k h
 show wpAny _ A (Sem.onRaise (compTurn (.ListComp elt [⟨tg,iter,ifs,0⟩] scope pos) 0 it am env) (fun x=>do noteFrame x env; theTreesLotGoes x)) _ _ s1
 refine wpAny_noted ?_
 rw[compTurn_list]
 have no:∀ (E':Value->ah->Prop) (a:Value) (b:ah),False->E' a b:=fun _ _ _ f=>f.elim
 refine aj (wpAny_standAt (aj (dG (turn j s1 hJ) (fun r s2 h2=>?_) (no _))))
 cases r with
 | none=>exact ar h2
 | some v =>
  refine aj (dG h2 (fun _ s3 h3=>aj (dG h3 (fun _ s4 h4=>aj (dG h4 (fun b s5 h5=>?_) (no _))) (no _))) (no _))
  cases b with
  | true=>exact aj (aj (dG h5 (fun y s6 h6=>aj (dG h6 (fun _ s7 h7=>ar (ar ⟨rfl,h7⟩)) (no _))) (no _)))
  | false=>exact ar ⟨rfl,h5⟩
def GG:TT:=fun _ H Q=>Q true H
theorem EV{X:Cx}:vU X [] GG:=fun _ _ _ H _ I h=>wpAny_tests_nil ⟨H,I,h⟩
theorem Eb{X:Cx}{c:Expr}{t:TT}(h:PT X c t):vU X [c] t:=fun aa s σ H Q I hw=>wpAny_tests_one (h aa s σ H Q I hw)
def Eu(wi:TI)(ts:TT)(te:TE)(cap:List Nat):TE:=fun σ H Q=>wi σ H fun J H1=>∀ l,H1 l=none->∃ W:Nat->Nat->List V->Hp->Prop,(∃ m,W 0 m [] (upd H1 l (.lst [])))/\∀ i m ys H,W i m ys H ->
 (J.stop i H/\Q (.ref l) H)\/(J.go i H/\∀ v H',J.yld i H v H'->ts (some v::eZ σ cap) H' fun b H2=>if b=true then
  te (some v::eZ σ cap) H2 fun y H3=>H3 l=some (.lst ys)/\ys.length<a7/\∃ m',m'<m/\W (i+1) m' (ys++[y]) (upd H3 l (.lst (ys++[y])))
  else ∃ m',m'<m/\W (i+1) m' ys H2)
section
variable{X:Cx}{aa:List (Addr×Obj)}{σ:St}{H:Hp}{s:ah}{scope:Scope}{x:Str}{N':List Str}{cap:List Nat}
theorem Inv.unblock{fp:List Addr}{H':Hp}{σ':St}{s':ah}{g_:Heap}(I:Inv X aa σ H s)(uP:∀ b∈fp,lh X aa H b)
  (I':Inv (c8 X scope N' s.heap.objs.size s H fp aa) [] σ' H' s') (sb:ix s.heap.objs.size s'.heap g_):Inv X aa σ H' { s' with heap:=g_ }:=by
 have k:∀ b o,b≠s.heap.objs.size->s'.heap.get? b=some o->g_.get? b=some o:=fun b o hb e=>(sb.2 b hb).trans e
 have nC:∀ b o,s.heap.get? b=some o->b≠s.heap.objs.size:=fun b o e=>cO (bq e)
 have un:Un (fO X.stack) fp H H' s.heap g_:=by
  refine⟨fun b o e n hb hx=>k b o (nC b o e) (I'.base.keep b o e n hb hx),fun b o e n hb hx=>?_,fun b o e n hx=>I'.base.free b o e n hx,fun b o e hx=>?_,I'.base.tups,I'.base.frzs,I'.base.tbls⟩
  ·obtain⟨sl,q⟩:=I'.base.slot b o e n hb hx
   exact⟨sl,k b _ (nC b o e) q⟩
  ·obtain⟨o',q⟩:=I'.base.there b o e hx
   exact⟨o',k b o' (nC b o e) q⟩
 have hok:dv X.prog X.w H' g_:=fun b u e=>by
  have hCn:H' s.heap.objs.size=none:=I'.free
  refine(I'.hok b u e).stay (fun c v hc q=>k c v ?_ q) (fun _ q=>q) fun _ _ q=>q
  rintro rfl
  rcases hc with z | z
  ·rw[← z,hCn]at e; cases e
  ·rw[hCn]at z; cases z
 refine I.call' (s':={ s' with heap:=g_ }) (ch:=fp) I'.os un hok I'.bare fun b hb=>?_
 obtain⟨f0,f1,f2,f3,f4,f5⟩:=uP b hb
 exact⟨f3,f1,f4,f5⟩
theorem B4{elt iter:Expr}{px pos:Pos}{ifs:List Expr}{wi:TI}{ts:TT}{te:TE}(B:km X scope x N' cap)(hc:X.calm=true)(hi:PI X (.Name x px) iter wi)
  (ht:∀ C s₀ H₀ ex pn,vU (c8 X scope N' C s₀ H₀ ex pn) ifs ts) (he:∀ C s₀ H₀ ex pn,PE (c8 X scope N' C s₀ H₀ ex pn) elt te) (hs:∀ x,rg iter X.env x=pure x:=by intro _; rfl) :
  PE X (.ListComp elt [⟨.Name x px,iter,ifs,0⟩] scope pos) (Eu wi ts te cap):=by
 intro aa s σ H Q I h
 rw[eval_ListComp]
 refine wpAny_comprehension_free (use:=none) rfl hs (Pm (I.freeHas B)) B.kind B.names (aH (hi aa s σ H _ I h) fun v s1 h1=>aH h1 fun itv s2 h2=>?_)
 obtain⟨it,fp,tn,J,H2,e,I2,T,a8,f2,h2⟩:=h2
 subst e
 refine mI ?_
 have I3:Inv X aa σ (upd H2 s2.heap.objs.size (.lst [])) { s2 with heap:=s2.heap.push { cls:=.type "list",data:=.seq ([]:List Value).toArray },toks:=s2.toks }:=I2.lnew (its:=[]) (t':=s2.toks) .nil (j9 _)
 obtain⟨W,⟨m0,w0⟩,turn⟩:=h2 s2.heap.objs.size I2.fresh
 generalize n8:({ s2 with heap:=s2.heap.push { cls:=.type "list",data:=.seq ([]:List Value).toArray },toks:=s2.toks }:ah)=s3 at I3
 have hs3':({ s2 with heap:=s2.heap.push { cls:=.type "list",data:=.seq ([]:List Value).toArray } }:ah)=s3:=n8
 generalize hH3:upd H2 s2.heap.objs.size (.lst [])=H3 at I3 w0
 have nl:∀ b∈fp,b≠s2.heap.objs.size:=fun b hb e=>by
  obtain⟨o,ho,_⟩:=T.obj _ _ a8 b hb
  exact absurd (bq ho) (by rw[e]; exact fh _)
 have k3:∀ b o,s2.heap.get? b=some o->s3.heap.get? b=some o:=fun b o e=>by rw[← n8]; exact bB _ e
 have f3:∀ b∈fp,lh X aa H3 b:=fun b hb=>⟨by rw[← hH3,bp (nl b hb)]; exact(f2 b hb).1,(f2 b hb).2⟩
 have aI:tn 0 s3.heap:=T.keep _ _ _ a8 fun b _ o e=>k3 b o e
 have fo3:∀ b∈fp,∃ o,s3.heap.get? b=some o:=fun b hb=>(T.obj _ _ aI b hb).imp fun o q=>q.1
 refine Ph ?_
 generalize hh:pushCells (s3.heap.push { cls:=.type "dict",data:=.dict #[] }) scope.names=h₁
 have old:∀ b o,s3.heap.get? b=some o->h₁.get? b=some o:=fun b o e=>hh ▸ pushCells_keeps _ _ b o (bB _ e)
 have rR:h₁.Ns s3.heap.objs.size (fun _=>none):=hh ▸ (Heap.Ns.new s3.heap (.type "dict")).keeps (pushCells_keeps _ _)
 have I4:=Inv.block (t':=s3.toks) hh.symm I3 B f3 fo3 rR old
 have bx:tn 0 h₁:=T.keep _ _ _ aI fun b _ o e=>old b o e
 have statB:∀ {H':Hp},(∀ b∈fp,H' b=none)->∀ b∈fp,lh (c8 X scope N' s3.heap.objs.size s3 H3 fp aa) [] H' b:=fun hn b hb=>by
  obtain⟨f0,f1,f2',f3',f4,f5⟩:=f3 b hb
  refine⟨hn b hb,fun e=>?_,fun hf=>?_,.inl hb,fun y c h=>?_,fun p hp=>f5 p (by simpa[c8]using hp)⟩
  ·obtain⟨o,ho⟩:=fo3 b hb
   exact absurd (bq ho) (by rw[show b=s3.heap.objs.size from e]; exact fh _)
  ·rcases bH.mp (I3.stkSub b hf)with z | z
   ·exact f1 z
   ·exact f2' z
  ·rcases I3.cbIn B h with⟨a1,a2⟩ | ⟨a1,a2⟩
   ·rintro rfl
    obtain⟨o,ho⟩:=fo3 _ hb
    exact xq (Cr a1).2.1 (bq ho)
   ·exact f4 y c a2
 have Ri:Loc (c8 X scope N' s3.heap.objs.size s3 H3 fp aa).env.scope x:=B.loc.elim (fun h=>.inl (lookup_relabel_local h)) (fun h=>.inr (Au h))
 have hfnx:(c8 X scope N' s3.heap.objs.size s3 H3 fp aa).fn x=true\/(c8 X scope N' s3.heap.objs.size s3 H3 fp aa).env.scope.names.lookup x=some .local:=B.loc.elim (fun h=>.inr (lookup_relabel_local h)) (fun h=>.inl (by show(scope.names.lookup x == some .cell)=true; rw[h]; rfl))
 have hN0:(c8 X scope N' s3.heap.objs.size s3 H3 fp aa).N[0]?=some x:=by
  show N'[0]?=some x
  rw[← List.head?_eq_getElem?]; exact B.hd
 have loop:pr (model X.prog X.w) X.A (.compLoop (.ListComp elt [⟨.Name x px,iter,ifs,0⟩] scope pos) 0 (.ref it) (.ref s2.heap.objs.size) (compEnvC scope (lD X scope s3.heap.objs.size) s3.heap.objs.size X.env))
   (compPost (model X.prog X.w) X.A X.xe none (EP X aa σ Q) (.ref s2.heap.objs.size) s3.heap.objs.size) { s3 with heap:=h₁,toks:=s3.toks }:=by
  refine Qp (fun n s'=>∃ i ys σ' H',(∃ v0,σ'=v0::eZ σ cap)/\Inv (c8 X scope N' s3.heap.objs.size s3 H3 fp aa) [] σ' H' s'/\tn i s'.heap/\(∀ b∈fp,H' b=none)/\W i n ys H') ?_ m0
   ⟨0,[],_,H3,⟨none,rfl⟩,I4,bx,fun b hb=>(f3 b hb).1,w0⟩
  rintro n s5 ⟨i,ys,σ5,H5,⟨v0,rfl⟩,I5,bn,fr5,w5⟩
  rcases turn i n ys H5 w5 with⟨stop,q⟩ | ⟨go,step⟩
  ·refine dG (T.done (c8 X scope N' s3.heap.objs.size s3 H3 fp aa) rfl rfl rfl hc i [] s5 _ H5 (fun _ _=>False) I5 (statB fr5) bn stop) (fun r s6 ⟨hr,I6⟩=>?_) (fun _ _ f=>f.elim)
   subst hr
   obtain⟨mm,hn6,_⟩:=I6.loc
   exact⟨mm,hn6,fun g_ sb=>⟨.ref s2.heap.objs.size,H5,I3.unblock f3 I6 sb,rfl,q⟩⟩
  ·refine dG (T.item (c8 X scope N' s3.heap.objs.size s3 H3 fp aa) rfl rfl rfl hc i [] s5 _ H5 (fun _ _=>False) I5 (statB fr5) bn go) (fun r s6 ⟨u,hr,h6⟩=>?_) (fun _ _ f=>f.elim)
   subst hr
   refine dG h6 (fun _ s7 ⟨v,H7,I7,r7,y7,st7,fr7⟩=>?_) (fun _ _ f=>f.elim)
   have I7':=I7.pinned (statB fr7) (T.obj _ _ st7)
   have back:∀ {σ8:St} {H8:Hp} {s8:ah},Inv (c8 X scope N' s3.heap.objs.size s3 H3 fp aa) ([]++tW fp s7.heap) σ8 H8 s8->tn (i+1) s8.heap/\(∀ b∈fp,H8 b=none):=fun {σ8 H8 s8} I8 =>
    ⟨T.keep _ _ _ st7 fun b hb o e=>(I8.pin (b,o) (lN _ (lN _ (wB hb e)))).1,fun b hb=>by
     obtain⟨o,e,d⟩:=T.obj _ _ st7 b hb
     exact(I8.pin (b,o) (lN _ (lN _ (wB hb e)))).2.1⟩
   refine wpAny_assign_Name (yU (v:=v) I7' B.nd hN0 Ri r7 (fun s8 I8=>?_) hfnx)
   refine aH (ht _ _ _ _ _ _ s8 _ H7 _ I8 (step v H7 y7)) fun b s9 ⟨H9,I9,q9⟩=>?_
   cases b with
   | false =>
    obtain⟨m',hm,w9⟩:=(show ∃ m',m'<n/\W (i+1) m' ys H9 from q9)
    exact⟨m',hm,i+1,ys,_,H9,⟨some v,rfl⟩,I9.unpinned,(back I9).1,(back I9).2,w9⟩
   | true =>
    refine aH (he _ _ _ _ _ _ s9 _ H9 _ I9 q9) fun u10 s10 ⟨y,H10,I10,r10,hl10,hz10,m',hm,w10⟩=>?_
    refine aH (Eo _ s10 _ H10 (.ref s2.heap.objs.size) [y] _ [u10] (fun z H11=>H11=upd H10 s2.heap.objs.size (.lst (ys++[y]))) I10 rfl (.cons r10 .nil) ⟨_,ys,y,rfl,rfl,hl10,hz10,rfl⟩) fun _ s11 ⟨_,H11,I11,_,e11⟩=>?_
    subst e11
    exact⟨m',hm,i+1,ys++[y],_,_,⟨some v,rfl⟩,I11.unpinned,(back I11).1,(back I11).2,w10⟩
 exact codeAny_compStart_list loop (T.self _ 0 _ _ _ bx loop)
end
end L2
namespace L2
def Walk(J:It)(xs:List V)(R:Hp->Prop):Prop :=
 ∀ H,R H->∀ i,(∀ x,xs[i]?=some x->J.go i H/\∀ y H',J.yld i H y H'->H'=H/\y=x)/\(i=xs.length->J.stop i H)
theorem LL{K:ao}{a:Addr}{xs:List V}:Walk (Ab K a) xs (fun H=>bO K H a xs):=fun H h i =>
 ⟨fun x hx=>⟨⟨xs,x,h,hx⟩,fun y H' z=>⟨z.1,by have:=z.2 xs h; rw[hx]at this; exact(dE this).symm⟩⟩,fun hi=>⟨xs,h,lO hi.symm⟩⟩
theorem HQ{K:ao}{a:Addr}{xs:List V}:Walk (zo K a) xs (fun H=>cJ K H a xs):=fun H h i =>
 ⟨fun x hx=>⟨⟨xs,x,h,hx⟩,fun y H' z=>⟨z.1,by have:=z.2 xs h; rw[hx]at this; exact(dE this).symm⟩⟩,fun hi=>⟨xs,h,lO hi.symm⟩⟩
def qf(lo:Int)(n:Nat):List V:=(bE n).map fun i=>V.int (lo+(i:Nat))
theorem wx(lo:Int)(n:Nat):(qf lo n).length=n:=by simp[qf]
theorem CP{lo:Int}{n:Nat}:Walk (sH lo n) (qf lo n) (fun _=>True):=fun H _ i=>by
 refine⟨fun x hx=>?_,fun hi=>by rw[wx]at hi; exact lO hi.symm⟩
 have aX:i<n:=by have:=(dP.mp hx).1; rw[wx]at this; exact this
 refine⟨aX,fun y H' z=>⟨z.1,?_⟩⟩
 unfold qf at hx
 rw[iA,A0 aX]at hx
 have uQ:V.int (lo+(i:Nat))=x:=dE hx
 rw[z.2,← uQ]
def sg(c:Nat):V:=.str ⟨#[c]⟩
def tO(z:Str):It:=⟨fun i _=>i<z.cps.size,fun i H x H'=>H'=H/\∃ c,z.cps[i]?=some c/\x=sg c,fun i _=>i=z.cps.size⟩
theorem Oo{z:Str}:Walk (tO z) (z.cps.toList.map sg) (fun _=>True):=fun H _ i=>by
 refine⟨fun x hx=>?_,fun hi=>by show i=z.cps.size; simpa using hi⟩
 rw[iA]at hx
 cases e:z.cps.toList[i]? with
 | none=>rw[e]at hx; cases hx
 | some c =>
  rw[e]at hx
  have aX:i<z.cps.size:=by have:=(dP.mp e).1; simpa using this
  refine⟨aX,fun y H' w=>⟨w.1,?_⟩⟩
  obtain⟨c',e',rfl⟩:=w.2
  have:z.cps[i]?=some c:=by simpa using e
  rw[this]at e'
  cases e'
  exact(dE hx)
theorem Same.upd{H H':Hp}{l:Addr}{o:HO}(h:Same H H')(hl:H l=none):Same H (upd H' l o):=fun b u e=>by
 rw[bp (ny e hl)]; exact h b u e
theorem Same.tup{K:ao}{H H':Hp}{a:Addr}{xs:List V}(e:Same H H')(h:cJ K H a xs):cJ K H' a xs:=by
 rcases h with(h | ⟨o,h⟩) | h
 ·exact .inl (.inl (e _ _ h))
 ·exact .inl (.inr ⟨o,e _ _ h⟩)
 ·exact .inr h
section
variable{X:Cx}{tg:Expr}
theorem Py{P:aK}{w:World}{K:ao}{z:Str}{it:Addr}{St':Nat->Heap->Prop} (rQ:∀ i h,St' i h->∃ o n vs,h.get? it=some o/\o.cls = .type n/\o.data = .fields vs /\
   ["enumerate","zip","dict_itemiterator","dict_reverseitemiterator","odict_iterator","itertools.zip_longest","itertools.pairwise"].contains n=false)
  (Rj:∀ (A:aV) (i:Nat) (s:ah) (Q:Value->ah->Prop) (E:Value->ah->Prop),St' i s.heap->Q (.ref it) s->wpAny (model P w) A (pyIter (.ref it)) Q E s)
  (hW:∀ A:aV,A.handled=none->Walks P w A it [it] [it] z.cps.size (SignAt z) St'):qw P w K tg (tO z) [it] it St' where
 mem:=by simp
 obj:=fun i h st b hb=>by
  have e:b=it:=by simpa using hb
  subst e
  obtain⟨o,n,vs,h1,_,h3,_⟩:=rQ i h st
  exact⟨o,h1,fun v q=>by rw[h3]at q; cases q⟩
 keep:=fun i h h' st k=>by
  exact(hW ({}:aV) rfl).frame i h h' st k
 item:=by
  intro X hP hw hK hc i aa s σ H E I hf st hg
  subst hP hw hK
  obtain⟨f0,f1,f2,f3,f4,f5⟩:=hf it (by simp)
  refine(hW X.A (I.ok.hd hc)).item i s _ _ hg st fun v h' tk hv ap k=>?_
  have I1:Inv X aa σ H { s with heap:=h',toks:=tk }:=I.turned (t':=tk) (fun b o hb e=>k b o (by simpa using hb) e) f0 f1 f3 f4 f5
  obtain⟨o,n,vs,h1,h2,h3,h4⟩:=rQ _ _ ap
  obtain⟨c,u,e1,rfl⟩:=hv
  exact⟨_,rfl,sv (s:={ s with heap:=h',toks:=tk }) h1 h2 h3 h4 ⟨sg c,H,I1,⟨u,rfl⟩,⟨rfl,c,e1,rfl⟩,ap,fun b hb=>(hf b hb).1⟩⟩
 done:=by
  intro X hP hw hK hc i aa s σ H E I hf st hg
  subst hP hw hK
  obtain⟨f0,f1,f2,f3,f4,f5⟩:=hf it (by simp)
  have kW:i=z.cps.size:=hg
  subst kW
  exact(hW X.A (I.ok.hd hc)).done s _ _ st fun h' tk k=>⟨rfl,I.turned (t':=tk) (fun b o hb e=>k b o (by simpa using hb) e) f0 f1 f3 f4 f5⟩
 self:=Rj
theorem Ly{J:It}{xs:List V}{R:Hp->Prop}{g:TG}{tb:TS}{D:lp}{σ:St}{H:Hp}(hJ:Walk J xs R)(Pv:Nat->St->Hp->Prop)(h0:Pv 0 σ H)(hl:∀ i σ H,i<=xs.length->Pv i σ H->R H)
  (hs:∀ i x σ H,xs[i]?=some x->Pv i σ H->g x σ H fun σ2 H2=>tb { D with nx:=Pv (i+1),ct:=Pv (i+1),bk:=D.nx } σ2 H2) (hd:∀ σ H,Pv xs.length σ H->D.nx σ H) :
  ∃ W:Nat->Nat->St->Hp->Prop,(∃ m,W 0 m σ H)/\∀ i m σ H,W i m σ H ->
   (J.stop i H/\D.nx σ H)\/(J.go i H/\∃ N:St->Hp->Prop,(∀ σ' H',N σ' H'->∃ m',m'<m/\W (i+1) m' σ' H')/\∀ x H',J.yld i H x H'->g x σ H' fun σ2 H2=>tb { D with nx:=N,ct:=N,bk:=D.nx } σ2 H2):=by
 refine⟨fun i m σ H=>m=xs.length-i/\i<=xs.length/\Pv i σ H,⟨xs.length,by simp,j9 _,h0⟩,?_⟩
 rintro i m σ H ⟨rfl,hi,p⟩
 have q:=hJ H (hl i σ H hi p) i
 by_cases aX:i<xs.length
 ·have hx:xs[i]?=some xs[i]:=by simp[aX]
  obtain⟨go,yl⟩:=q.1 xs[i] hx
  refine .inr ⟨go,Pv (i+1),fun σ' H' p'=>⟨xs.length-(i+1),by ac_rfl,rfl,aX,p'⟩,fun x H' y=>?_⟩
  obtain⟨rfl,rfl⟩:=yl x H' y
  exact hs i _ σ _ hx p
 ·have e:i=xs.length:=by ac_rfl
  subst e
  exact .inl ⟨q.2 rfl,hd σ H p⟩
theorem Kf{α:Type}(l:List α)(f:α->Bool)(d:Nat->Bool)(hd:∀ i x,l[i]?=some x->d i=f x):(bE l.length).all d=l.all f:=by
 induction l generalizing d with
 | nil=>rfl
 | cons x r ih =>
  rw[dQ,rn,uf,List.all_map,uf,hd 0 x rfl]
  congr 1
  exact ih _ fun i y h=>hd (i+1) y (by simpa using h)
theorem Ln{bs:List Bool}{us:List Value}(r:bh (bs.map V.bl) us){i:Nat}{v:Value}(h:us.toArray[i]?=some v):v = .bool (bs.getD i false):=by
 have hl:=r.length
 rw[cq]at hl
 have hi:i<us.length:=by have:=(nU.mp h).1; simpa using this
 have e:(bs.map V.bl)[i]?=some (.bl (bs.getD i false)):=by
  rw[iA,eV (by ac_rfl)]
  simp[ro,eV (show i<bs.length by ac_rfl)]
 obtain⟨u,e1,e2⟩:=r.get e
 have:us[i]?=some v:=by simpa using h
 rw[this]at e1
 cases e1
 exact e2
theorem tj{A:aV}(h:A.handled=none):A.in1.handled=none:=h
theorem Gy(hc:X.calm=true):fP X (.builtin "all") (fun xs H Q=>∃ (p:Addr) (bs:List Bool),xs=[.ref p]/\bO X.K H p (bs.map V.bl)/\Q (.bl (bs.all id)) H):=by
 intro aa s σ H xs us Q I r h
 obtain⟨p,bs,rfl,hq,q⟩:=h
 obtain⟨u,rfl,ru⟩:=vals1 r
 cases ru
 obtain⟨its,rv,pl,hz⟩:=I.list hq
 have hl:=rv.length
 rw[cq]at hl
 refine call_all_walk (xF pl.isList ?_)
 have b9:p≠s.heap.objs.size:=by
  obtain⟨o,ho,_⟩:=pl.isList
  exact cO (bq ho)
 refine⟨s.heap.objs.size,_,_,_,_,_,fun i=>bs.getD i false,rfl,Walks.list (tj (I.ok.hd hc)) s.heap.objs.size p b9 its.toArray,⟨⟨_,cN _ rfl,rfl,rfl⟩,?_⟩,fun i v s' Q' E' hv hQ=>?_,fun h' tk k=>?_⟩
 ·obtain⟨o,ho,hc,hd⟩:=pl.isList
  exact⟨o,bB _ ho,hc,hd⟩
 ·rw[Ln rv hv]
  exact nN hQ
 ·have e:(bE its.toArray.size).all (fun i=>bs.getD i false)=bs.all id:=by
   rw[cA,← hl]
   exact Kf bs id _ fun i x hx=>by simp[ro,hx]
  rw[e]
  have I1:Inv X aa σ H { s with heap:=s.heap.push { cls:=.type "list_iterator",data:=.fields #[.ref p,.int 0 0] },toks:=s.toks }:=I.kept (t':=s.toks) fun b o e=>bB _ e
  exact⟨.bl _,H,Inv.turned (t':=tk) I1 (it:=s.heap.objs.size) (fun b o hb e=>k b o (by simpa using hb) e) I.fresh (nP I.lt) (.inr I.sz) (fun x c e z=>by
   obtain⟨v,qq⟩:=I.cell x c e
   exact absurd qq.lt (by rw[z]; exact fh _)) (fun pp hp z=>absurd (bq (I.pin pp hp).1) (by rw[z]; exact fh _)),rfl,q⟩
end
end L2
namespace L2
section
variable{X:Cx}
def lj(z:Str)(lo hi:Option Int):Str:=⟨((z.cps.toList.drop (HT.sIx z.length 0 lo)).take (HT.sIx z.length z.length hi-HT.sIx z.length 0 lo)).toArray⟩
theorem Pd(a b:Nat):sliceRange (a:Int) (b:Int) 1=(bE (b-a)).map fun k=>a+k:=by
 unfold sliceRange
 have e:(if(1:Int) > 0 then(if(a:Int)<(b:Int)then((b:Int)-a+1-1) / 1 else 0)else(if(a:Int) > b then((a:Int)-b-1-1) / (-1)else 0)).toNat=b-a:=by
  rw[if_pos (by decide)]
  split
  ·rw[Int.ediv_one]; ac_rfl
  ·have:b-a=0:=by ac_rfl
   rw[this]; rfl
 show(bE (if(1:Int) > 0 then(if(a:Int)<(b:Int)then((b:Int)-a+1-1) / 1 else 0)else(if(a:Int) > b then((a:Int)-b-1-1) / (-1)else 0)).toNat).map _=_
 rw[e]
 refine f6 fun k _=>?_
 ac_rfl
theorem Qr(lo hi:Option Int)(n:Nat):Builtin.Str.strSliceIndices lo hi 1 n=(bE (HT.sIx n n hi-HT.sIx n 0 lo)).map fun k=>HT.sIx n 0 lo+k:=by
 rw[← Pd]
 have p:(1:Int) > 0:=by decide
 cases lo <;> cases hi <;> (unfold Builtin.Str.strSliceIndices HT.sIx; simp only[p,if_true]; congr 1 <;> (try split) <;> ac_rfl)
theorem OF{α:Type}(l:List α)(a k:Nat):((bE k).map fun j=>a+j).filterMap (fun i=>l[i]?)=(l.drop a).take k:=by
 induction k with
 | zero=>simp
 | succ k ih =>
  rw[rq,nV,List.filterMap_append,ih,List.take_succ]
  congr 1
  simp[mG]
  cases l[a+k]? <;> rfl
theorem Iw(z:Str)(t:Tok)(l u:Option (Int×Tok)):∃ m,sliceMade z t l u none=m/\(m = .val (.str z t)/\lj z (l.map (·.1)) (u.map (·.1))=z\/m = .str (lj z (l.map (·.1)) (u.map (·.1)))):=by
 refine⟨_,rfl,?_⟩
 unfold sliceMade slicePicked
 have e:=Qr (l.map (·.1)) (u.map (·.1)) z.length
 simp only[Option.map_none,Option.getD_none]
 rw[e]
 have pk:=OF z.cps.toList (HT.sIx z.length 0 (l.map (·.1))) (HT.sIx z.length z.length (u.map (·.1))-HT.sIx z.length 0 (l.map (·.1)))
 have pk':(((bE (HT.sIx z.length z.length (u.map (·.1))-HT.sIx z.length 0 (l.map (·.1)))).map fun k=>HT.sIx z.length 0 (l.map (·.1))+k).filterMap (z.cps[·]?)).toArray=(lj z (l.map (·.1)) (u.map (·.1))).cps:=by
  unfold lj
  rw[← pk]
  simp
 split
 ·rename_i h
  left
  refine⟨rfl,?_⟩
  simp only[beq_self_eq_true,A4,cq,List.length_range,beq_iff_eq]at h
  have h0:HT.sIx z.length z.length (u.map (·.1))<=z.length:=HT.sIx_le _ _ (aL _) _
  have hl:z.cps.toList.length=z.length:=by simp[Str.length]
  have h1:HT.sIx z.length 0 (l.map (·.1))=0\/z.length=0:=by ac_rfl
  unfold lj
  rw[h]
  rcases h1 with h1 | h1
  ·rw[h1,A5,kH (by ac_rfl)]
  ·have:z.cps.toList=[]:=xG (by ac_rfl)
   rw[this]
   cases z
   rename_i c
   simp at this
   subst this
   simp
 ·right
  rw[show(⟨(((bE (HT.sIx z.length z.length (u.map (·.1))-HT.sIx z.length 0 (l.map (·.1)))).map fun k=>HT.sIx z.length 0 (l.map (·.1))+k).filterMap (z.cps[·]?)).toArray⟩:Str)=lj z (l.map (·.1)) (u.map (·.1))from by rw[pk']]
def Gs:V->Option Int->Option Int->Hp->VK->Prop:=fun x lo hi H Q=>∃ z,x = .str z/\z.length<=a7/\Q (.str (lj z lo hi)) H
theorem NT(z:Str)(lo hi:Option Int):(lj z lo hi).length<=z.length:=by
 unfold lj Str.length
 simp
 ac_rfl
theorem part_of{v:Value}{o:Option Int}(p:IsPart v o):∃ q:Option (Int×Tok),v=partValue q/\q.map (·.1)=o:=by
 cases p with
 | none=>exact⟨none,rfl,rfl⟩
 | int i t=>exact⟨some (i,t),rfl,rfl⟩
theorem RL:l_ X Gs:=by
 intro aa s σ H x v vl vu lo hi sl Q I rx hs pl pu h
 obtain⟨z,rfl,hz,q⟩:=h
 obtain⟨t,rfl⟩:=rx
 obtain⟨l,rfl,rfl⟩:=part_of pl
 obtain⟨u,rfl,rfl⟩:=part_of pu
 refine⟨"str",_,F.slot_str_getitem.lookup,typeIs_str s z t,?_⟩
 obtain⟨m,em,hm⟩:=Iw z t l u
 refine getItem_meets (typeIs_str s z t) (by decide) F.slot_str_getitem F.entry_str_getitem (F.args_str_getitem_2 _ _) (meets_str_getitem_slice z t sl l u none (by decide)) ⟨hs,?_⟩
 rw[em]
 rcases hm with⟨rfl,e⟩ | rfl
 ·exact⟨.str z,H,I,⟨t,rfl⟩,by rw[e]at q; exact q⟩
 ·exact⟨cp (NT z _ _) hz,⟨.str _,H,I.tok _,⟨_,rfl⟩,q⟩⟩
end
end L2
namespace L2
section
variable{X:Cx}
def ik(K:ao)(H:Hp)(d:Nat)(x y:V)(k:Bool):Prop :=
 ∀ (X:Cx),X.K=K->∀ (aa:List (Addr×Obj)) (σ:St) (s:ah) (u v:Value) (A:aV),Inv X aa σ H s->RelV x u->RelV y v->A.units+d<cLine->xC A s u v k
theorem JW{K:ao}{H:Hp}{d:Nat}{x y:V}(fx:jH x=true)(fy:jH y=true):ik K H d x y (ic x y):=fun _ _ _ _ _ _ _ _ _ rx ry _=>Gm rx ry fx fy
def fV(e:Nat->Bool)(n m:Nat):Bool:=(bE (min n m)).all e && n == m
theorem GO{A:aV}:A.in1.units=A.units+1:=rfl
theorem z0{H:Hp}{d:Nat}{a b:Addr}{xs ys:List V}{e:Nat->Bool}{aa:List (Addr×Obj)}{σ:St}{s:ah}{A:aV}(I:Inv X aa σ H s)(ha:bO X.K H a xs)(hb:bO X.K H b ys)
  (he:∀ (j:Nat) x y,xs[j]?=some x->ys[j]?=some y->ik X.K H d x y (e j)) (hu:A.units+(d+1)<cLine):SeqAt.RcAt A s (.ref a) (.ref b) (fV e xs.length ys.length)/\SeqAt.RcNeAt A s (.ref a) (.ref b) (!fV e xs.length ys.length):=by
 obtain⟨us,ru,pu,_⟩:=I.list ha
 obtain⟨vs,rv,pv',_⟩:=I.list hb
 have uR:=ru.length
 have jR:=rv.length
 have hE:∀ j (h1:j<us.toArray.size) (h2:j<vs.toArray.size),xC A.in1 s us.toArray[j] vs.toArray[j] (e j):=fun j h1 h2=>by
  have iX:j<us.length:=by simpa using h1
  have iY:j<vs.length:=by simpa using h2
  have e1:xs[j]?=some xs[j]:=eV (by ac_rfl)
  have e2:ys[j]?=some ys[j]:=eV (by ac_rfl)
  obtain⟨u,q1,r1⟩:=ru.get e1
  obtain⟨v,q2,r2⟩:=rv.get e2
  have f1:us[j]=u:=by rw[eV iX]at q1; exact dE q1
  have f2:vs[j]=v:=by rw[eV iY]at q2; exact dE q2
  have:=he j xs[j] ys[j] e1 e2 X rfl aa σ s u v A.in1 I r1 r2 (by rw[GO]; ac_rfl)
  simpa[f1,f2]using this
 by_cases hsz:xs.length=ys.length
 ·have hs:us.toArray.size=vs.toArray.size:=by simp; ac_rfl
  have e1:fV e xs.length ys.length=(bE us.toArray.size).all e:=by
   unfold fV
   rw[hsz,Nat.min_self,beq_self_eq_true,Bool.and_true,cA,← uR,hsz]
  rw[e1]
  exact⟨.lists pu.isList pv'.isList hs (by ac_rfl) hE,.lists pu.isList pv'.isList hs (by ac_rfl) hE⟩
 ·have e1:fV e xs.length ys.length=false:=by
   unfold fV
   rw[beq_false_of_ne hsz,A6]
  have hs:(us.toArray.size != vs.toArray.size)=true:=by simp; ac_rfl
  rw[e1]
  exact⟨.lists_lengths pu.isList pv'.isList hs (by ac_rfl),.lists_lengths pu.isList pv'.isList hs (by ac_rfl)⟩
theorem y4{H:Hp}{d:Nat}{a b:Addr}{xs ys:List V}{e:Nat->Bool}{aa:List (Addr×Obj)}{σ:St}{s:ah}{A:aV}(I:Inv X aa σ H s)(ha:cJ X.K H a xs)(hb:cJ X.K H b ys)
  (he:∀ (j:Nat) x y,xs[j]?=some x->ys[j]?=some y->ik X.K H d x y (e j)) (hu:A.units+(d+1)<cLine):SeqAt.RcAt A s (.ref a) (.ref b) (fV e xs.length ys.length)/\SeqAt.RcNeAt A s (.ref a) (.ref b) (!fV e xs.length ys.length):=by
 obtain⟨us,ru,pu,_⟩:=I.tuple ha
 obtain⟨vs,rv,pv',_⟩:=I.tuple hb
 have uR:=ru.length
 have jR:=rv.length
 have hE:∀ j (h1:j<us.toArray.size) (h2:j<vs.toArray.size),xC A.in1 s us.toArray[j] vs.toArray[j] (e j):=fun j h1 h2=>by
  have iX:j<us.length:=by simpa using h1
  have iY:j<vs.length:=by simpa using h2
  have e1:xs[j]?=some xs[j]:=eV (by ac_rfl)
  have e2:ys[j]?=some ys[j]:=eV (by ac_rfl)
  obtain⟨u,q1,r1⟩:=ru.get e1
  obtain⟨v,q2,r2⟩:=rv.get e2
  have f1:us[j]=u:=by rw[eV iX]at q1; exact dE q1
  have f2:vs[j]=v:=by rw[eV iY]at q2; exact dE q2
  have:=he j xs[j] ys[j] e1 e2 X rfl aa σ s u v A.in1 I r1 r2 (by rw[GO]; ac_rfl)
  simpa[f1,f2]using this
 have e1:fV e xs.length ys.length=((bE (min us.toArray.size vs.toArray.size)).all e && us.toArray.size == vs.toArray.size):=by
  unfold fV
  rw[cA,cA,← uR,← jR]
 rw[e1]
 exact⟨.tuples pu pv' (by ac_rfl) hE,.tuples pu pv' (by ac_rfl) hE⟩
theorem Jc{K:ao}{H:Hp}{d:Nat}{a b:Addr}{xs ys:List V}{e:Nat->Bool}(ha:bO K H a xs)(hb:bO K H b ys)(b9:a≠b)(he:∀ (j:Nat) x y,xs[j]?=some x->ys[j]?=some y->ik K H d x y (e j)) :
  ik K H (d+1) (.ref a) (.ref b) (fV e xs.length ys.length):=fun X hK aa σ s u v A I ru rv hu=>by
 subst hK
 cases ru
 cases rv
 exact .of_refs b9 (z0 I ha hb he hu).1
theorem Jq{K:ao}{H:Hp}{d:Nat}{a b:Addr}{xs ys:List V}{e:Nat->Bool}(ha:cJ K H a xs)(hb:cJ K H b ys)(b9:a≠b)(he:∀ (j:Nat) x y,xs[j]?=some x->ys[j]?=some y->ik K H d x y (e j)) :
  ik K H (d+1) (.ref a) (.ref b) (fV e xs.length ys.length):=fun X hK aa σ s u v A I ru rv hu=>by
 subst hK
 cases ru
 cases rv
 exact .of_refs b9 (y4 I ha hb he hu).1
theorem EH{K:ao}{H:Hp}{d:Nat}{a:Addr}:ik K H d (.ref a) (.ref a) true:=fun X hK aa σ s u v A I ru rv hu=>by
 cases ru
 cases rv
 exact .same _
def sI(K:ao)(neg:Bool):R2:=fun x y H Q=>∃ a b xs ys d e,x = .ref a/\y = .ref b/\((bO K H a xs/\bO K H b ys)\/(cJ K H a xs/\cJ K H b ys))/\d<=8 /\
 (∀ (j:Nat) x y,xs[j]?=some x->ys[j]?=some y->ik K H d x y (e j))/\Q (.bl (if neg then !fV e xs.length ys.length else fV e xs.length ys.length)) H
theorem N4(hu:X.A.units+64<cLine):bW X (d8 .Eq) (sI X.K false):=by
 intro aa s σ H x y v u Q I rx ry h
 obtain⟨a,b,xs,ys,d,e,rfl,rfl,hs,hd,he,q⟩:=h
 cases rx
 cases ry
 rcases hs with⟨h1,h2⟩ | ⟨h1,h2⟩
 ·exact(z0 I h1 h2 he (by ac_rfl)).1 _ _ _ _ ⟨.bl _,H,I,rfl,q⟩
 ·exact(y4 I h1 h2 he (by ac_rfl)).1 _ _ _ _ ⟨.bl _,H,I,rfl,q⟩
theorem QA(hu:X.A.units+64<cLine):bW X (d8 .NotEq) (sI X.K true):=by
 intro aa s σ H x y v u Q I rx ry h
 obtain⟨a,b,xs,ys,d,e,rfl,rfl,hs,hd,he,q⟩:=h
 cases rx
 cases ry
 rcases hs with⟨h1,h2⟩ | ⟨h1,h2⟩
 ·exact(z0 I h1 h2 he (by ac_rfl)).2 _ _ _ _ ⟨.bl _,H,I,rfl,q⟩
 ·exact(y4 I h1 h2 he (by ac_rfl)).2 _ _ _ _ ⟨.bl _,H,I,rfl,q⟩
end
end L2
namespace L2
abbrev Tx:=List Nat
def tS(l:Tx):Str:=⟨l.toArray⟩
def tV(l:Tx):V:=.str (tS l)
def cm(ls:List Tx):List V:=ls.map tV
theorem kw(l:Tx):(tS l).cps.toList=l:=by simp[tS]
theorem ly(l:Tx):(tS l).length=l.length:=by simp[tS,Str.length]
theorem yi(z:Str):tS z.cps.toList=z:=by cases z; simp[tS]
theorem qy{a b:Tx}(h:tS a=tS b):a=b:=by rw[← kw a,h,kw]
theorem N1{a b:Tx}(h:tV a=tV b):a=b:=qy (V.str.inj h)
theorem qF(ls:List Tx):(cm ls).length=ls.length:=cq _
def ef(a b:Tx):Bool:=decide (a<=b)
def bD(ls:List Tx):List Tx:=ls.mergeSort ef
theorem C3(a b c:Tx)(h1:ef a b=true)(h2:ef b c=true):ef a c=true:=by
 simp only[ef,decide_eq_true_eq]at *
 exact List.le_trans h1 h2
theorem Lz(a b:Tx):(ef a b || ef b a)=true:=by
 simp only[ef,xH,decide_eq_true_eq]
 exact List.le_total a b
theorem L6{a b:Tx}(h1:ef a b=true)(h2:ef b a=true):a=b:=by
 simp only[ef,decide_eq_true_eq]at *
 exact List.le_antisymm h1 h2
theorem jF(ls:List Tx):(bD ls).Perm ls:=List.mergeSort_perm _ _
theorem Af(ls:List Tx):(bD ls).Pairwise (fun a b=>ef a b=true):=List.pairwise_mergeSort C3 Lz _
theorem Ar(ls:List Tx):(bD ls).length=ls.length:=(jF ls).length_eq
theorem t5{ls ms:List Tx}(hp:ms.Perm ls)(hs:ms.Pairwise (fun a b=>ef a b=true)):ms=bD ls :=
 List.Perm.eq_of_pairwise (le:=fun a b=>ef a b=true) (fun _ _ _ _ h1 h2=>L6 h1 h2) hs (Af ls) (hp.trans (jF ls).symm)
theorem Jb{ls:List Tx}(hs:ls.Pairwise (fun a b=>ef a b=true)):bD ls=ls:=(t5 (lS ls) hs).symm
theorem FN:∀ (p:Str) (l:List Str),risingS p l=true->(p::l).Pairwise (fun a b=>ef a.cps.toList b.cps.toList=true)
 | p,[],_=>List.pairwise_singleton _ _
 | p,x::r,h=>by
  have h':(!ltCps x.cps.toList p.cps.toList && risingS x r)=true:=h
  rw[gF,ltCps_eq]at h'
  have q:=FN x r h'.2
  have px:ef p.cps.toList x.cps.toList=true:=by
   simp only[ef,decide_eq_true_eq]
   intro aX
   simp[aX]at h'
  refine List.pairwise_cons.mpr ⟨fun y hy=>?_,q⟩
  rcases bH.mp hy with rfl | hy
  ·exact px
  ·exact C3 _ _ _ px (List.rel_of_pairwise_cons q hy)
theorem CD{ss:List Str}(h:sortedS ss=true):(ss.map fun z=>z.cps.toList).Pairwise (fun a b=>ef a b=true):=by
 rw[A7]
 cases ss with
 | nil=>exact List.Pairwise.nil
 | cons x r=>exact FN x r h
theorem As:∀ {ls:List Tx} {us:List Value},bh (cm ls) us->dH us (ls.map tS)
 | [],_,.nil=>.nil
 | l::ls,_::_,.cons ⟨t,e⟩ r=>by subst e; exact .cons _ t (As (ls:=ls) r)
theorem zE:∀ {ss:List Str} {us:List Value},dH us ss->bh (cm (ss.map fun z=>z.cps.toList)) us
 | _,_,.nil=>.nil
 | _,_,.cons y t h=>.cons ⟨t,by rw[yi]⟩ (zE h)
section
variable{X:Cx}
theorem Inv.sorted{aa:List (Addr×Obj)}{σ:St}{H:Hp}{s1:ah}{ls:List Tx}{ss aE:List Str}{h':Heap}{out:Array Value}{e:Nat}(I:Inv X aa σ H s1)(hl:ss=ls.map tS)(hZ:ls.length<64)
  (k:∀ b o,s1.heap.get? b=some o->h'.get? b=some o) (ho:h'.get? s1.heap.objs.size=some (kI "list" out e)) (a1:dH out.toList aE) (a2:aE.Perm ss) (a3:sortedS aE=true) :
  Inv X aa σ (upd H s1.heap.objs.size (.lst (cm (bD ls)))) { s1 with heap:=h' }:=by
 have e1:aE.map (fun z=>z.cps.toList)=bD ls:=by
  refine t5 ?_ (CD a3)
  have:=a2.map fun z=>z.cps.toList
  rw[hl,dy]at this
  have e2:(ls.map ((fun z:Str=>z.cps.toList) ∘ tS))=ls:=by
   simp[G7,kw]
  rw[e2]at this
  exact this
 have hv:bh (cm (bD ls)) out.toList:=by rw[← e1]; exact zE a1
 refine I.laid (t':=s1.toks) k (aL _) ⟨?_,out.toList,e,hv,?_⟩
 ·rw[qF,Ar]
  exact lM (BM (by ac_rfl))
 ·rw[Array.toArray_toList]; exact ho
theorem Mq(z:Tx)(n:Nat):Txt.mul (tS z) (n:Int)=tS (bj n z).flatten:=by
 unfold Txt.mul
 cases n with
 | zero=>simp[tS,nQ]
 | succ n =>
  rw[if_neg (by ac_rfl)]
  split
  ·rename_i h
   simp only[xH,beq_iff_eq]at h
   rcases h with h | h
   ·have:n=0:=by ac_rfl
    subst this
    simp
   ·rw[ly]at h
    have:z=[]:=xG h
    subst this
    simp
  ·unfold tS
   congr 1
   have gen:∀ (k:Nat) (am:Array Nat),(bj k z.toArray).foldl (·++·) am=am++(bj k z).flatten.toArray:=by
    intro k
    induction k with
    | zero=>intro am; simp
    | succ k ih=>intro am; rw[AW,iT,ih,AW,G3]; simp[Array.append_assoc]
   have e:=gen (n+1) #[]
   simp only[lR]
   simpa using e
theorem IW:bW X (iR .Mult) (fun x y H Q=>∃ (z:Tx) (n:Nat),x=tV z/\y = .int n/\n<=100/\z.length<=100/\Q (tV (bj n z).flatten) H):=by
 intro aa s σ H x y v u Q I rx ry h
 obtain⟨z,n,rfl,rfl,hn,hz,q⟩:=h
 obtain⟨t,rfl⟩:=rx
 obtain⟨t',rfl⟩:=ry
 refine SB.mul ?_ fun t2 k=>?_
 ·have hp:z.length * n<=10000:=cp (A8 hz hn) (by decide)
  refine⟨by rw[Bool.or_eq_false_iff]; constructor <;> (apply decide_eq_false; ac_rfl),fun h1 _=>?_,fun h1 _=>?_⟩
  ·rw[ly]
   intro hgt
   have h2:(2 ^ 63-1:Int) / n ≥ (2 ^ 63-1) / 100:=by
    have hn0:(0:Int)<n:=by ac_rfl
    apply (Int.le_ediv_iff_mul_le hn0).mpr
    have:((2 ^ 63-1:Int) / 100) * n<=((2 ^ 63-1) / 100) * 100:=Int.mul_le_mul_of_nonneg_left (by ac_rfl) (by decide)
    refine Int.le_trans this (by decide)
   have h3:((2 ^ 63-1:Int) / 100) > 1000:=by decide
   ac_rfl
  ·rw[ly,lR]
   unfold Builtin.Str.tooLong
   apply decide_eq_false
   have:10000<a7:=by rw[pi]; decide
   ac_rfl
 ·rw[Mq]
  exact⟨tV _,H,I.tok _,⟨_,rfl⟩,q⟩
end
end L2
namespace L2
theorem Oh(t:f7)(j:Nat):(t.put j).1.led=t.led/\(t.put j).1.plain=t.plain:=⟨rfl,rfl⟩
theorem PF(t:f7)(n:Nat):(t.orStandIn n).led=t.led/\((t.orStandIn n).plain=t.plain\/(t.orStandIn n).plain=false):=by
 unfold SetTable.orStandIn
 split
 ·exact⟨rfl,.inl rfl⟩
 ·exact⟨rfl,.inr rfl⟩
theorem Od(t:f7)(es:Array (Int×Value))(h:Int)(x:Value):(layNew t es h x).2.1.led=t.led/\((layNew t es h x).2.1.plain=t.plain\/(layNew t es h x).2.1.plain=false):=by
 unfold layNew
 split
 ·rename_i slot wasDummy _
  have h1:=Oh t slot
  have h2:=PF (t.put slot).1 (G8 es (t.put slot).2 (h,x)).size
  exact⟨h2.1.trans h1.1,by rw[← h1.2]; exact h2.2⟩
 ·exact⟨rfl,.inr rfl⟩
theorem Ju(t:f7)(es:Array (Int×Value))(wanted:Nat)(hp:t.plain=false):(rA t es wanted).2.1.led=t.led/\(rA t es wanted).2.1.plain=false:=by
 unfold rA
 split
 ·rename_i t' order e
  have q:t'.led=t.led/\t'.plain=t.plain:=by
   unfold SetTable.relaid SetTable.laid at e
   cases q:G9 (mK wanted-1) (es.map (·.1))with
   | none=>rw[q]at e; cases e
   | some ow=>rw[q]at e; cases e; exact⟨rfl,rfl⟩
  dsimp only
  split
  ·exact⟨q.1,q.2.trans hp⟩
  ·exact⟨rfl,rfl⟩
 ·exact⟨rfl,rfl⟩
def cH(w:World):Bool:=w.params.followText "set-order"
structure bL(P:aK)(w:World)(h:Heap)(a:Addr)(ks:List Str):Prop where
 ex:∃ (es:Array (Int×Value)) (ep:Nat) (t:f7) (ss:List Str),h.get? a=some { cls:=.type "set",dict:=none,data:=.set es ep t }/\dH (es.toList.map (·.2)) ss/\ss.Perm ks/\ElemsOf (cU P w) es.toList /\
  es.size<4090/\t.fits es.size=true/\t.led=(!cH w)/\(ks≠[]->t.plain=false)
theorem bL.at{P:aK}{w:World}{h h':Heap}{a:Addr}{ks:List Str}(S:bL P w h a ks)(k:∀ o,h.get? a=some o->h'.get? a=some o):bL P w h' a ks:=by
 obtain⟨es,ep,t,ss,e,r⟩:=S.ex
 exact⟨es,ep,t,ss,k _ e,r⟩
theorem vD:∀ {vs:List Value} {ss:List Str},dH vs ss->∀ x,x∈ss↔∃ t,Value.str x t∈vs
 | _,_,.nil,x=>by simp
 | _,_,.cons y t h,x=>by
  rw[bH,vD h x]
  constructor
  ·rintro(rfl | ⟨t',q⟩)
   ·exact⟨t,mH ..⟩
   ·exact⟨t',kD _ q⟩
  ·rintro⟨t',q⟩
   rcases bH.mp q with q | q
   ·cases q; exact .inl rfl
   ·exact .inr ⟨t',q⟩
theorem su:∀ {us vs:List Value},us.Perm vs->∀ {ss:List Str},dH vs ss->∃ aE,dH us aE/\aE.Perm ss:=by
 intro us vs p ss h
 refine⟨us.map strOf,strsAre_map us fun v hv=>h.all v (p.mem_iff.mp hv),?_⟩
 have:=p.map strOf
 rwa[h.strs]at this
section
variable{P:aK}{w:World}{A:aV}{E:Value->ah->Prop}{s:ah}
def iN(ks:List Str)(x:Str):List Str:=if x∈ks then ks else ks++[x]
theorem bL.put{h:Heap}{a:Addr}{es es':Array (Int×Value)}{ep:Nat}{t t':f7}(e:h.get? a=some { cls:=.type "set",dict:=none,data:=.set es ep t }) :
  (h.update a (Obj.putSet es' t')).get? a=some { cls:=.type "set",dict:=none,data:=.set es' (ep+1) t' }:=by
 have:=rB (Obj.putSet es' t') e (by rw[putSet_of es' t' rfl]; rfl)
 rw[putSet_of es' t' rfl]at this
 exact this
theorem Gh{a:Addr}{ks:List Str}{x:Str}{tk:Tok}{Q:Bool->ah->Prop}(S:bL P w s.heap a ks)(hn:ks.length<4000)
  (h:∀ h' b,ix a s.heap h'->bL P w h' a (iN ks x)->Q b { s with heap:=h' }) :
  wpAny (model P w) A (setAddHashed a (.str x tk) ((cU P w).hash x)) Q E s:=by
 obtain⟨es,ep,t,ss,ho,hS,hp,eW,hsz,hf,gk,cL⟩:=S.ex
 have isD:∀ y t',(cU P w).is x (.str y t')=decide (y=x):=fun y t'=>by
  show pe x (.str y t')=_
  rw[ph]
  simp[pe]
  try exact eq_comm
 have gI:(cU P w).is x (.str x tk)=true:=by rw[isD]; simp
 have hb:es.size<scanBound:=mJ hsz (by decide)
 unfold setAddHashed setAddHashedIn
 refine kG (aj (gG ho rfl hf ?_))
 dsimp only
 rw[byScan_of (knd:=cU P w) (x:=.str x tk) rfl hb eW]
 simp only[if_true]
 unfold setAddByScan
 refine aj (aj (jL (aj (wpAny_setScan_of gI ho rfl hf eW ?_))))
 have memx:x∈ks↔∃ e∈es.toList,(cU P w).is x e.2=true:=by
  rw[← hp.mem_iff,vD hS x]
  constructor
  ·rintro⟨t',q⟩
   obtain⟨e,he,ee⟩:=b0.mp q
   exact⟨e,he,by rw[ee,isD]; simp⟩
  ·rintro⟨e,he,q⟩
   obtain⟨y,t',ey⟩:=hS.all e.2 (b0.mpr ⟨e,he,rfl⟩)
   rw[ey,isD]at q
   have:y=x:=of_decide_eq_true q
   subst this
   exact⟨t',b0.mpr ⟨e,he,ey⟩⟩
 have klen:ks.length=es.size:=by
  have e1:=hp.length_eq
  have e2:ss.length=es.size:=by rw[← hS.strs]; simp
  ac_rfl
 cases hr:List.findIdx? (fun e=>(cU P w).is x e.2) es.toList with
 | some j =>
  dsimp only
  obtain⟨hj,uS,_⟩:=G_.mp hr
  have hx:x∈ks:=memx.mpr ⟨_,List.getElem_mem hj,uS⟩
  refine ar (ar ?_)
  exact h s.heap _ (xI a s.heap) (by unfold iN; rw[if_pos hx]; exact S)
 | none =>
  dsimp only
  have hx:¬ x∈ks:=fun hm=>by
   obtain⟨e,he,q⟩:=memx.mp hm
   have:=Ha.mp hr e he
   rw[q]at this
   exact Bool.noConfusion this
  have hgw:∀ (b:Bool) {s₁:ah} {Q':Unit->ah->Prop},Q' () s₁->wpAny (model P w) A (match b with | true=>rule "set.scan.the-table-gave-way" | false=>pure ()) Q' E s₁ :=
   fun b s₁ Q' hq=>by cases b <;> first | exact ar hq | exact jL hq
  have yb:=layNew_perm t es ((cU P w).hash x) (.str x tk)
  have yc:=layNew_fits t es ((cU P w).hash x) (.str x tk)
  have hmk:=Od t es ((cU P w).hash x) (.str x tk)
  generalize hL:layNew t es ((cU P w).hash x) (.str x tk)=L at yb yc hmk ⊢
  obtain⟨es1,t1,wasDummy,gave⟩:=L
  dsimp only at yb yc hmk ⊢
  rw[ui]at yb
  have hel1:ElemsOf (cU P w) es1.toList:=(eW.push gI rfl).perm yb
  have hsz1:es1.size=es.size+1:=by
   have:=yb.length_eq
   simpa using this
  have hS1:∃ iE,dH (es1.toList.map (·.2)) iE/\iE.Perm (iN ks x):=by
   have p1:=yb.map (fun e:Int×Value=>e.2)
   rw[nV]at p1
   have q1:dH (es.toList.map (·.2)++[Value.str x tk]) (ss++[x]):=by
    have gen:∀ {vs:List Value} {zs:List Str},dH vs zs->dH (vs++[Value.str x tk]) (zs++[x]):=by
     intro vs zs hh
     induction hh with
     | nil=>exact .cons x tk .nil
     | cons y t _ ih=>exact .cons y t ih
    exact gen hS
   obtain⟨iE,r1,r2⟩:=su p1 q1
   refine⟨iE,r1,r2.trans ?_⟩
   unfold iN
   rw[if_neg hx]
   exact hp.append_right _
  obtain⟨iE,r1,r2⟩:=hS1
  have b9:iN ks x≠[]:=by unfold iN; rw[if_neg hx]; simp
  have tail:∀ t2:f7,t2.fits es1.size=true->t2.led=(!cH w)->t2.plain=false->wpAny (model P w) A (do
    storeSet a es1 t2
    if(!wasDummy && t2.tooFull)=true then do
      (match (rA t2 es1 (rC es1.size)).2.2 with | true=>rule "set.scan.the-table-gave-way" | false=>pure ())
      storeSet a (rA t2 es1 (rC es1.size)).1 (rA t2 es1 (rC es1.size)).2.1
      pure (some true)
     else pure (some true)) (fun r s'=>∃ h',r=some true/\s'={ s with heap:=h' }/\ix a s.heap h'/\bL P w h' a (iN ks x)) E s:=by
   intro t2 pR jR dS
   refine aj (rD ho rfl ?_ (uj (mJ (show es1.size<4090 by ac_rfl) (by decide))))
   have o1:=bL.put (es':=es1) (t':=t2) ho
   have iZ:=mL s.heap a (Obj.putSet es1 t2)
   split
   ·have cW:=relayAll_perm t2 es1 (rC es1.size)
    have hf3:=relayAll_fits t2 es1 (rC es1.size)
    have hm3:=Ju t2 es1 (rC es1.size) dS
    generalize hRl:rA t2 es1 (rC es1.size)=Rl at cW hf3 hm3 ⊢
    obtain⟨es2,t3,gave2⟩:=Rl
    dsimp only at cW hf3 hm3 ⊢
    have hsz2:es2.size=es1.size:=by have:=cW.length_eq; simpa using this
    refine aj (hgw _ ?_)
    refine aj (rD o1 rfl ?_ (uj (mJ (show es2.size<4090 by ac_rfl) (by decide))))
    obtain⟨jl,u1,u2⟩:=su (cW.map (fun e:Int×Value=>e.2)) r1
    refine ar ⟨_,rfl,rfl,iZ.trans (mL _ a _),⟨es2,_,t3,jl,bL.put o1,u1,u2.trans r2,hel1.perm cW,by ac_rfl,hf3,hm3.1.trans jR,fun _=>hm3.2⟩⟩
   ·exact ar ⟨_,rfl,rfl,iZ,⟨es1,_,t2,iE,o1,r1,r2,hel1,by ac_rfl,pR,jR,fun _=>dS⟩⟩
  have HB:t1.led=(!cH w):=hmk.1.trans gk
  refine aj (hgw _ ?_)
  split
  ·refine aj ?_
   rw[hashByValue_scannable 8 (x:=.str x tk) rfl]
   refine ar ?_
   have hk:plainKind (.str x tk)=false:=rfl
   rw[hk]
   simp only[nW,if_false]
   refine aH (tail { t1 with plain:=false } (SetTable.fits_plain_off yc) HB rfl) fun r s' ⟨h',e1,e2,e3,e4⟩=>?_
   subst e1 e2
   exact ar (h h' _ e3 e4)
  ·rename_i hpl1
   refine aj (ar ?_)
   simp only[if_true]
   refine aH (tail t1 yc HB (by simpa using hpl1)) fun r s' ⟨h',e1,e2,e3,e4⟩=>?_
   subst e1 e2
   exact ar (h h' _ e3 e4)
end
end L2
namespace L2
def met(val:Nat->Str)(i:Nat):List Str:=((bE i).map val).foldl iN []
theorem BO(val:Nat->Str)(i:Nat):met val (i+1)=iN (met val i) (val i):=by
 unfold met; rw[rq,nV,A9]; rfl
theorem Ds(val:Nat->Str){i:Nat}:∀ {j:Nat},i<=j->(met val i).length<=(met val j).length
 | 0,h=>by rw[show i=0 by ac_rfl]; exact aL _
 | j+1,h=>by
  by_cases e:i=j+1
  ·subst e; exact aL _
  ·refine cp (Ds val (j:=j) (by ac_rfl)) ?_
   rw[BO]
   unfold iN
   split
   ·exact aL _
   ·simp
section
variable{P:aK}{w:World}{A:aV}{R:Result->ah->Prop}{I:Addr}{fp wr:List Addr}{G:Array GenState->Array GenState->Prop}{n:Nat}{Pv:Nat->Value->Prop}{St:Nat->ah->Prop}
theorem IQ(W:WalksS P w A.in1 I fp wr G n Pv St)(S:Addr)(hSf:S∉fp)(val:Nat->Str)(n4:∀ i v,Pv i v->∃ t,v = .str (val i) t)(hb:∀ i,i<=n->(met val i).length<4000) :
  ∀ (k i:Nat) (s:ah),n-i=k->i<=n->St i s->bL P w s.heap S (met val i) ->
   (∀ s',Moved (S::wr) G s s'->bL P w s'.heap S (met val n)->R (.ok (.ret .none)) s')->pr (model P w) A (.builtin "set.update.loop" ⟨[.ref S,.ref I],[]⟩) R s:=by
 have hSw:S∉wr:=fun h=>hSf (W.sub _ h)
 have jh:∀ b∈wr,b∈S::wr:=fun b hb=>kD _ hb
 intro k
 induction k with
 | zero =>
  intro i s hk hi kT hS hR
  obtain rfl:i=n:=by ac_rfl
  refine uk Q_ ?_
  rw[xJ Hb _]
  show wpAny _ A.in1 (pyNext (.ref I) >>= _) _ _ s
  refine aj (W.done s _ _ kT fun s' hm=>?_)
  show wpAny _ A.in1 (ret Value.none) _ _ s'
  exact ar (hR s' (hm.mono jh) (hS.at fun o e=>hm.heap S o hSw e))
 | succ k ih =>
  intro i s hk hi kT hS hR
  have aX:i<n:=by ac_rfl
  refine uk Q_ ?_
  rw[xJ Hb _]
  show wpAny _ A.in1 (pyNext (.ref I) >>= _) _ _ s
  refine aj (W.item i s _ _ aX kT fun v s' hP hst' hm=>?_)
  obtain⟨t,rfl⟩:=n4 i v hP
  have uT:bL P w s'.heap S (met val i):=hS.at fun o e=>hm.heap S o hSw e
  show wpAny _ A.in1 (holding [Value.str (val i) t] (setAdd S (.str (val i) t)) >>= _) _ _ s'
  refine aj (kG ?_)
  unfold setAdd
  refine kG ?_
  have gI:(cU P w).is (val i) (.str (val i) t)=true:=by
   show pe (val i) (.str (val i) t)=true
   simp[pe]
  refine aj ((cU P w).pyHash (k:=val i) gI ?_)
  have By:(met val i).length<4000:=hb i (lM aX)
  refine Gh (s:={ s' with toks:=s'.toks+1 }) uT By fun h' b jm rS=>?_
  rw[← BO]at rS
  refine ar ⟨A_ Hb _,ih (i+1) _ (by ac_rfl) aX (W.frame _ s' _ _ hst' (xE _) fun b hb o e=>?_) rS fun s'' hm'' hS''=>?_⟩
  ·rw[jm.2 b (fun h:b=S=>hSf (by rw[← h]; exact hb))]; exact e
  ·refine hR s'' (Moved.trans W.gtrans ((hm.mono jh).then_heap (xE _) fun b o hb e=>?_) hm'') hS''
   rw[jm.2 b (fun h:b=S=>hb (by rw[h]; exact mH))]; exact e
end
section
variable{P:aK}{w:World}{A:aV}{E:Value->ah->Prop}{s:ah}
theorem NC(a:Value){Q:Value->ah->Prop} (h:bL P w (s.heap.push { cls:=.type "set",dict:=none,data:=.set #[] 0 (.fresh 0 0 (!cH w)) }) s.heap.objs.size [] ->
   Q (.ref s.heap.objs.size) { s with heap:=s.heap.push { cls:=.type "set",dict:=none,data:=.set #[] 0 (.fresh 0 0 (!cH w)) } }) :
  pr (model P w) A (.call (.builtin "set.__new__") ⟨[.type "set",a],[]⟩) (wants Q E) s:=by
 refine codeAny_of_tree ?_
 show wpAny _ A.in1 (do checkBuiltinCall "set.__new__" ⟨[.type "set",a],[]⟩; again (.builtin "set.__new__" ⟨[.type "set",a],[]⟩)) _ _ s
 refine aj (wpAny_of_eq (PySem.F.newCall_set_1 a) (ar ⟨A_ F.plain_set_new _,uk F.entry_set_new ?_⟩))
 rw[xJ F.plain_set_new _]
 unfold Builtin.«set.__new__» Builtin.Frozenset.newClass
 have jh:=sub_set_self
 obtain⟨hp,g,d,tk,os⟩:=s
 dsimp only
 wp_walk
 refine kb (ar ?_)
 dsimp only
 simp only[newObj]
 refine aj (wpAny_alloc (ar ?_))
 refine ar (h ⟨#[],0,_,[],cN _ rfl,.nil,lS _,fun e he=>by simp at he,by decide,rfl,rfl,fun h=>absurd rfl h⟩)
end
end L2
set_option maxHeartbeats 8000000
namespace L2
theorem P9:entryFor table "set.__iter__" = some Builtin.«frozenset.__iter__»:=entryFor_alias (id':="frozenset.__iter__") (by kernel_rfl) rfl (by decide +kernel) (by kernel_rfl)
theorem Do:Slot "set_iterator" "__next__" "set_iterator.__next__" :=
 .of (owner:="set_iterator") (n:="__next__") (by rw[typeLookup_type,builtinLookup_eq_fast]; kernel_rfl) (by decide +kernel) (by decide +kernel) (by decide +kernel) (by first | exact .inl (by decide +kernel) | exact .inr (by decide +kernel)) (by rw[isSubtype_type]; kernel_rfl)
theorem Ps:entryFor table "set_iterator.__next__" = some Builtin.«set_iterator.__next__»:=entryFor_of_fast (by kernel_rfl)
theorem Q6(a:Value):argsOk "set_iterator.__next__" ⟨[a],[]⟩:=by unfold argsOk; kernel_rfl
theorem C7:Slot "set_iterator" "__iter__" "set_iterator.__iter__" :=
 .of (owner:="set_iterator") (n:="__iter__") (by rw[typeLookup_type,builtinLookup_eq_fast]; kernel_rfl) (by decide +kernel) (by decide +kernel) (by decide +kernel) (by first | exact .inl (by decide +kernel) | exact .inr (by decide +kernel)) (by rw[isSubtype_type]; kernel_rfl)
theorem NQ:entryFor table "set_iterator.__iter__" = some Builtin.«dict_keyiterator.__iter__»:=entryFor_alias (id':="dict_keyiterator.__iter__") (by kernel_rfl) rfl (by decide +kernel) (by kernel_rfl)
theorem IJ(a:Value):argsOk "set_iterator.__iter__" ⟨[a],[]⟩:=by unfold argsOk; kernel_rfl
end L2
namespace L2
def iJ(first:Value)(i:Nat)(a:Addr)(n ep:Nat):Obj:={ cls:=.type "set_iterator",data:=.fields #[first,.int i 0,.ref a,.int n 0,.int ep 0] }
section
variable{P:aK}{w:World}{A:aV}{E:Value->ah->Prop}{s:ah}
theorem wm{I a:Addr}{first:Value}{i n ep:Nat}{Q:Value->ah->Prop}(h:s.heap.get? I=some (iJ first i a n ep))(hQ:Q (.ref I) s):wpAny (model P w) A (pyIter (.ref I)) Q E s:=by
 have hT:s.TypeIs (.ref I) "set_iterator":=⟨_,h,rfl⟩
 refine wpAny_pyIter_slot hT C7 (ue C7 hT NQ ?_ (IJ _))
 show wpAny _ _ (ret (.ref I)) _ _ s
 exact ar ⟨_,rfl,"set_iterator",_,hT,Do.lookup,hQ⟩
theorem oH{I a:Addr}{first:Value}{i:Nat}{es:Array (Int×Value)}{ep:Nat}{t:f7}{Q:Option Value->ah->Prop}(ha:s.heap.get? a=some { cls:=.type "set",dict:=none,data:=.set es ep t })(hf:t.fits es.size=true)
  (hI:s.heap.get? I=some (iJ first i a es.size ep))
  (h:wpAny (model P w) A.in1 (if let .int slot _:=first then do
    match ← mM a slot.toNat (i:Int).toNat (ep:Int).toNat with
    | some (x,next)=>do
     mO (.ref I) 0 (eG next)
     mO (.ref I) 1 (eG ((i:Int)+1))
     ret x
    | none=>do mO (.ref I) 2 .none; raiseNew (← newExc (.type "StopIteration") [])
   else do
    let some places ← seqItems? first | unsupported "internal:set_iterator"
    match places[(i:Int).toNat]? with
    | some (.int place _)=>do
     let x ← setNextDrawn a place.toNat (ep:Int).toNat
     mO (.ref I) 1 (eG ((i:Int)+1))
     ret x
    | some _=>unsupported "internal:set_iterator"
    | none=>do mO (.ref I) 0 (eG 0); mO (.ref I) 2 .none; raiseNew (← newExc (.type "StopIteration") []))
   (fun fin s'=>∃ r,fin = .done (.ret r)/\Q (some r) s') (fun e s'=>wpAny (model P w) A (do if ← isInstance e (.type "StopIteration")then pure none else throw e) Q E s') s) :
  wpAny (model P w) A (pyNext (.ref I)) Q E s:=by
 have hT:s.TypeIs (.ref I) "set_iterator":=⟨_,hI,rfl⟩
 unfold pyNext
 refine aj (wpAny_attempt (wpAny_callSpecial?_slot (name:=Str.ofString "__next__") hT Do (ue Do hT Ps ?_ (Q6 _))))
 unfold Builtin.«set_iterator.__next__» slotArgs
 refine aj (ar ?_)
 refine aj (wpAny_fieldsOf hI rfl ?_)
 show wpAny _ _ (setEntries a >>= _) _ _ s
 refine aj (Ba ha rfl hf ?_)
 have e0:(((es.size:Nat):Int) != ((es.size:Nat):Int))=false:=by simp
 rw[e0]
 simp only[nW,if_false]
 refine dG ?_ (fun fin s' q=>?_) (fun e s' q=>q) (Q:=fun fin s'=>∃ r,fin = .done (.ret r)/\Q (some r) s') (E:=fun e s'=>wpAny (model P w) A (do if ← isInstance e (.type "StopIteration")then pure none else throw e) Q E s')
 ·exact h
 ·obtain⟨r,e1,e2⟩:=q
  exact⟨r,e1,ar e2⟩
end
end L2
namespace L2
theorem yj{α:Type}:∀ {l:List α} {i:Nat} (h:i<l.length),(l[i]::l.eraseIdx i).Perm l
 | [],i,h=>by simp at h
 | x::r,0,h=>by simp
 | x::r,i+1,h=>by
  have q:=yj (l:=r) (i:=i) (by simpa using h)
  simp only[List.getElem_cons_succ,List.eraseIdx_cons_succ]
  exact(List.Perm.swap x _ _).trans (List.Perm.cons x q)
theorem Et{α:Type}(next:Nat->Nat):∀ (bw k:Nat) (left:List α) (out:Array α),bw=left.length->(pickOrder.go next bw k left out).toList.Perm (out.toList++left)
 | 0,k,left,out,h=>by
  have:left=[]:=xG h.symm
  subst this
  simp[pickOrder.go]
 | bw+1,k,left,out,h=>by
  have aX:next k % left.length<left.length:=pD _ (by ac_rfl)
  unfold pickOrder.go
  rw[eV aX]
  dsimp only
  have ih:=Et next bw (k+1) (left.eraseIdx (next k % left.length)) (out.push left[next k % left.length]) (by rw[Bb,if_pos aX]; ac_rfl)
  refine ih.trans ?_
  rw[ui,gh]
  exact Hc _ (yj aX)
theorem yo{α:Type}(next:Nat->Nat)(xs:Array α):(ul next xs).toList.Perm xs.toList:=by
 have:=Et next xs.size 0 xs.toList #[] (by simp)
 simpa[ul]using this
section
variable{P:aK}{w:World}{A:aV}{E:Value->ah->Prop}{s:ah}
theorem MM{src:Source}{n:Nat}{Q:Nat->ah->Prop}(hn:n≠0)(h:∀ k d,k<n->Q k { s with drawn:=d }):wpAny (model P w) A (choose src n) Q E s:=fun Γ p hΓ=>by
 unfold choose
 rw[Sem.wp_choose]
 refine⟨hn,?_⟩
 exact h _ _ (pD _ (Nat.pos_of_ne_zero hn))
theorem Fq{α:Type}:∀ (n:Nat) (xs:List α) (s:ah) (Q:List α->ah->Prop),n=xs.length->(∀ ys d,ys.Perm xs->Q ys { s with drawn:=d })->wpAny (model P w) A (drawOrder n xs) Q E s
 | 0,[],s,Q,_,h=>by
  unfold drawOrder
  exact ar (h [] s.drawn (lS _))
 | 0,x::xs,s,Q,hn,h=>by simp at hn
 | n+1,[],s,Q,hn,h=>by simp at hn
 | n+1,x::xs,s,Q,hn,h=>by
  unfold drawOrder
  refine aj (MM (by simp) fun k d hk=>?_)
  rw[eV hk]
  dsimp only
  refine aj (Fq n ((x::xs).eraseIdx k) _ _ (by rw[Bb,if_pos hk]; ac_rfl) fun ys d' hy=>?_)
  refine ar (h _ d' ?_)
  exact(List.Perm.cons _ hy).trans (yj hk)
theorem wq{Q:Option Value->ah->Prop}{R:Fin->ah->Prop}(hh:A.handled=none)(hQ:∀ h',(∀ b o,s.heap.get? b=some o->h'.get? b=some o)->Q none { s with heap:=h' }) :
  wpAny (model P w) A.in1 (do raiseNew (← newExc (.type "StopIteration") [])) R (fun e s'=>wpAny (model P w) A (do if ← isInstance e (.type "StopIteration")then pure none else throw e) Q E s') s:=by
 refine aj ?_
 simp only[newExc,newTuple]
 refine aj (mI ?_ (by size_fits)); refine aj (m:=firstArgMember _ _) (wpAny_of_eq (a:=Value.none) (by first | rfl | (simp only[firstArgMember]; rfl)) ?_)
 refine mI ?_ (by size_fits); simp only[raiseNew]
 refine aj (wpAny_handled ?_); rw[show A.in1.handled=none from hh]
 refine aj (ar (wpAny_throw ?_)); refine aj (xK (T:="StopIteration") (b:=true) ⟨_,cN _ rfl,rfl⟩ isSubtype_stop ?_)
 exact ar (hQ _ fun b o e=>bB _ (bB _ e))
theorem yT{I a:Addr}{first f':Value}{i n ep:Nat}{Q:Unit->ah->Prop}(hI:s.heap.get? I=some (iJ first i a n ep))(h:∀ h',ix I s.heap h'->h'.get? I=some (iJ f' i a n ep)->Q () { s with heap:=h' }) :
  wpAny (model P w) A (mO (.ref I) 0 f') Q E s:=by
 refine um hI rfl (by simp[iJ]) (h _ (mL ..) ?_)
 rw[rB _ hI (by rfl)]
 rfl
theorem z8{I a:Addr}{first:Value}{i n ep:Nat}{Q:Unit->ah->Prop}(hI:s.heap.get? I=some (iJ first i a n ep))(h:∀ h',ix I s.heap h'->h'.get? I=some (iJ first (i+1) a n ep)->Q () { s with heap:=h' }) :
  wpAny (model P w) A (mO (.ref I) 1 (eG ((i:Int)+1))) Q E s:=by
 refine um hI rfl (by simp[iJ]) (h _ (mL ..) ?_)
 rw[rB _ hI (by rfl)]
 rfl
theorem vg{I a:Addr}{first:Value}{i n ep:Nat}{Q:Unit->ah->Prop}(hI:s.heap.get? I=some (iJ first i a n ep))(h:∀ h',ix I s.heap h'->(∃ o,h'.get? I=some o)->Q () { s with heap:=h' }) :
  wpAny (model P w) A (mO (.ref I) 2 .none) Q E s:=by
 refine um hI rfl (by simp[iJ]) (h _ (mL ..) ⟨_,rB _ hI (by rfl)⟩)
abbrev oY(es:Array (Int×Value))(ep:Nat)(t:f7):Obj:={ cls:=.type "set",dict:=none,data:=.set es ep t }
theorem O0{I a:Addr}{es:Array (Int×Value)}{ep:Nat}{t:f7}(b9:a≠I)(hf:t.fits es.size=true)(hb:cH w=true)(hh:A.handled=none) :
  Walks P w A I [I,a] [I] es.size (fun i v=>((ul (w.params.setOrder a ep) es).toList.map (·.2))[i]?=some v) (fun i h=>h.get? I=some (iJ (eG 0) i a es.size ep)/\h.get? a=some (oY es ep t)):=by
 have hsz:(ul (w.params.setOrder a ep) es).size=es.size:=by have:=(yo (w.params.setOrder a ep) es).length_eq; simpa using this
 have body:∀ (s:ah) (i:Nat) (Q:Option (Value×Nat)->ah->Prop) (E:Value->ah->Prop),s.heap.get? a=some (oY es ep t) ->
   Q (((ul (w.params.setOrder a ep) es)[i]?).map fun e=>(e.2,0)) s->wpAny (model P w) A.in1 (mM a (0:Int).toNat (i:Int).toNat (ep:Int).toNat) Q E s:=fun s i Q E ha hq=>by
  unfold mM
  refine aj (gG ha rfl hf ?_)
  unfold mP
  refine aj (aj (kb (ar ?_)))
  show wpAny _ _ (if cH w=true then _ else _) _ _ s
  rw[if_pos hb]
  simp only[lR,bne_self_eq_false,nW,if_false]
  unfold setWalk
  refine aj (aj (gG ha rfl hf ?_))
  unfold mP
  refine aj (aj (kb (ar ?_)))
  show wpAny _ _ (if cH w=true then _ else _) _ _ s
  rw[if_pos hb]
  refine aj (kb (ar (ar ?_)))
  exact hq
 refine⟨fun b hb=>by simp at hb; simp[hb],fun i h h' st k=>⟨k I (by simp) _ st.1,k a (by simp) _ st.2⟩,fun i s Q E hi st hQ=>?_,fun s Q E st hQ=>?_,fun i s Q E st hQ=>wm st.1 hQ⟩
 ·refine oH st.2 hf st.1 ?_
  refine aj (body s i _ _ st.2 ?_)
  have aX:i<(ul (w.params.setOrder a ep) es).size:=by ac_rfl
  rw[xL aX]
  dsimp only[pE]
  refine aj (yT st.1 fun h1 iZ e1=>?_)
  refine aj (z8 (s:={ s with heap:=h1 }) e1 fun h2 eI e2=>?_)
  refine ar ⟨_,rfl,hQ _ h2 s.toks ?_ ⟨e2,?_⟩ fun b o hb e=>?_⟩
  ·rw[iA]
   simp[xL aX]
  ·exact(eI.2 a b9).trans ((iZ.2 a b9).trans st.2)
  ·exact(eI.2 b (by simpa using hb)).trans ((iZ.2 b (by simpa using hb)).trans e)
 ·refine oH st.2 hf st.1 ?_
  refine aj (body s es.size _ _ st.2 ?_)
  rw[Array.getElem?_eq_none (by ac_rfl)]
  dsimp only[Option.map_none]
  refine aj (vg st.1 fun h1 iZ _=>?_)
  exact wq (s:={ s with heap:=h1 }) hh fun h2 k2=>hQ h2 s.toks fun b o hb e=>k2 b o ((iZ.2 b (by simpa using hb)).trans e)
theorem OP{I a T:Addr}{es:Array (Int×Value)}{ep:Nat}{t:f7}{ord:List Nat}(b9:a≠I)(hT:T≠I)(hf:t.fits es.size=true)(hp:ord.Perm (bE es.size))(hh:A.handled=none) :
  Walks P w A I [I,a,T] [I] es.size (fun i v=>(ord.filterMap fun j=>(es[j]?).map (·.2))[i]?=some v)
   (fun i h=>h.get? I=some (iJ (.ref T) i a es.size ep)/\h.get? a=some (oY es ep t)/\h.get? T=some { cls:=.type "tuple",data:=.seq (ord.map fun(k:Nat)=>eG k).toArray }):=by
 have hol:ord.length=es.size:=by simpa using hp.length_eq
 have ye:∀ j∈ord,j<es.size:=fun j hj=>by simpa using hp.mem_iff.mp hj
 have fm:∀ (l:List Nat),(∀ j∈l,j<es.size)->∀ (i j:Nat),l[i]?=some j->∃ e:Int×Value,es[j]?=some e/\(l.filterMap fun j=>(es[j]?).map (·.2))[i]?=some e.2:=by
  intro l
  induction l with
  | nil=>intro _ i j h; simp at h
  | cons x r ih =>
   intro hl i j h
   have hx:x<es.size:=hl x (mH ..)
   have ex:es[x]?=some es[x]:=xL hx
   cases i with
   | zero =>
    simp at h
    subst h
    exact⟨_,ex,by rw[mG,ex]; rfl⟩
   | succ i =>
    obtain⟨e,q1,q2⟩:=ih (fun j hj=>hl j (kD _ hj)) i j (by simpa using h)
    exact⟨e,q1,by rw[mG,ex]; simpa using q2⟩
 have tupR:∀ (s:ah) (Q:Option (Array Value)->ah->Prop) (E:Value->ah->Prop),s.heap.get? T=some { cls:=.type "tuple",data:=.seq (ord.map fun(k:Nat)=>eG k).toArray }->Q (some (ord.map fun(k:Nat)=>eG k).toArray) s->wpAny (model P w) A.in1 (seqItems? (.ref T)) Q E s:=fun s Q E ht hq=>by
  exact wpAny_seqItems ht rfl hq
 refine⟨fun b hb=>by simp at hb; simp[hb],fun i h h' st k=>⟨k I (by simp) _ st.1,k a (by simp) _ st.2.1,k T (by simp) _ st.2.2⟩,fun i s Q E hi st hQ=>?_,fun s Q E st hQ=>?_,fun i s Q E st hQ=>wm st.1 hQ⟩
 ·refine oH st.2.1 hf st.1 ?_
  refine aj (tupR s _ _ st.2.2 ?_)
  have aX:i<ord.length:=by ac_rfl
  have e1:((ord.map fun(k:Nat)=>eG k).toArray)[(i:Int).toNat]?=some (eG (ord[i]:Nat)):=by simp[aX]
  dsimp only
  rw[e1]
  obtain⟨e,q1,q2⟩:=fm ord ye i ord[i] (eV aX)
  show wpAny _ _ (setNextDrawn a _ _ >>= _) _ _ s
  refine aj ?_
  unfold setNextDrawn
  refine aj (gG st.2.1 rfl hf ?_)
  simp only[lR,bne_self_eq_false,nW,if_false]
  rw[q1]
  refine ar ?_
  refine aj (z8 st.1 fun h2 eI e2=>?_)
  refine ar ⟨_,rfl,hQ _ h2 s.toks q2 ⟨e2,(eI.2 a b9).trans st.2.1,(eI.2 T hT).trans st.2.2⟩ fun b o hb e=>(eI.2 b (by simpa using hb)).trans e⟩
 ·refine oH st.2.1 hf st.1 ?_
  refine aj (tupR s _ _ st.2.2 ?_)
  have e1:((ord.map fun(k:Nat)=>eG k).toArray)[(es.size:Int).toNat]?=none:=by simp[hol]
  dsimp only
  rw[e1]
  refine aj (yT st.1 fun h1 iZ e1=>?_)
  refine aj (vg (s:={ s with heap:=h1 }) e1 fun h2 eI _=>?_)
  exact wq (s:={ s with heap:=h2 }) hh fun h3 k3=>hQ h3 s.toks fun b o hb e=>k3 b o ((eI.2 b (by simpa using hb)).trans ((iZ.2 b (by simpa using hb)).trans e))
theorem MJ(j k:Nat):Hd #[j] k=if j<k then 1 else 0:=by
 unfold Hd
 simp only[cA,dQ,nS]
 unfold He
 simp
 split
 ·rename_i h
  unfold He
  simp
 ·unfold He
  simp
theorem Ie{I a:Addr}{es:Array (Int×Value)}{ep:Nat}{t:f7}(b9:a≠I)(hf:t.fits es.size=true)(hb:cH w=false)(gk:t.led=true)(h1:es.size=1)(hh:A.handled=none) :
  Walks P w A I [I,a] [I] 1 (fun i v=>(es.toList.map (·.2))[i]?=some v) (fun i h=>h.get? I=some (iJ (eG (if i=0 then 0 else((t.place.getD 0 0:Nat):Int)+1)) i a es.size ep)/\h.get? a=some (oY es ep t)):=by
 have lX:t.place.size=1:=by
  simp only[rE,gF,beq_iff_eq]at hf
  ac_rfl
 obtain⟨j,hj⟩:∃ j,t.place = #[j]:=by
  match hq:t.place,lX with
  | ⟨[j]⟩,_=>exact⟨j,rfl⟩
 have gj:((t.place.getD 0 0:Nat):Int)=(j:Int):=by rw[hj]; rfl
 obtain⟨e,he⟩:∃ e,es = #[e]:=by
  match hq:es,h1 with
  | ⟨[e]⟩,_=>exact⟨e,rfl⟩
 have body:∀ (s:ah) (slot:Nat) (i:Nat) (Q:Option (Value×Nat)->ah->Prop) (E:Value->ah->Prop),s.heap.get? a=some (oY es ep t) ->
   Q (if j<slot then none else some (e.2,j+1)) s->wpAny (model P w) A.in1 (mM a slot i ep) Q E s:=fun s slot i Q E ha hq=>by
  unfold mM
  refine aj (gG ha rfl hf ?_)
  unfold mP
  refine aj (aj (kb (ar ?_)))
  show wpAny _ _ (if cH w=true then _ else _) _ _ s
  rw[if_neg (by rw[hb]; decide)]
  refine fK (fun hc=>absurd (show(!t.plain && decide (es.size > 1))=true from hc) (by rw[h1]; simp)) (fun _=>?_)
  refine aj ?_
  refine dG (Q:=fun _ s'=>s'=s) (E:=E) ?_ (fun _ s' uU=>?_) (fun _ _ x=>x)
  ·refine fK (fun hc=>absurd (show(!t.led && !es.isEmpty)=true from hc) (by rw[gk]; simp)) (fun _=>ar rfl)
  ·subst uU
   rw[hj,MJ,he]
   by_cases aX:j<slot
   ·rw[if_pos aX]at hq ⊢
    exact ar hq
   ·rw[if_neg aX]at hq ⊢
    exact ar hq
 refine⟨fun b hb=>by simp at hb; simp[hb],fun i h h' st k=>⟨k I (by simp) _ st.1,k a (by simp) _ st.2⟩,fun i s Q E hi st hQ=>?_,fun s Q E st hQ=>?_,fun i s Q E st hQ=>wm st.1 hQ⟩
 ·obtain rfl:i=0:=by ac_rfl
  refine oH st.2 hf st.1 ?_
  show wpAny _ _ (mM a (0:Int).toNat ((0:Nat):Int).toNat (ep:Int).toNat >>= _) _ _ s
  simp only[lR,Int.toNat_zero]
  refine aj (body s 0 0 _ _ st.2 ?_)
  rw[if_neg (Nat.not_lt_zero j)]
  dsimp only
  refine aj (yT st.1 fun h1 iZ e1=>?_)
  refine aj (z8 (s:={ s with heap:=h1 }) e1 fun h2 eI e2=>?_)
  refine ar ⟨_,rfl,hQ _ h2 s.toks ?_ ⟨?_,?_⟩ fun b o hb e=>?_⟩
  ·rw[he]; rfl
  ·rw[e2,if_neg (by decide),gj]; rfl
  ·exact(eI.2 a b9).trans ((iZ.2 a b9).trans st.2)
  ·exact(eI.2 b (by simpa using hb)).trans ((iZ.2 b (by simpa using hb)).trans e)
 ·refine oH st.2 hf st.1 ?_
  rw[if_neg (by decide),gj]
  show wpAny _ _ (mM a ((j:Int)+1).toNat ((1:Nat):Int).toNat (ep:Int).toNat >>= _) _ _ s
  have e1:((j:Int)+1).toNat=j+1:=by ac_rfl
  rw[e1,lR,lR]
  refine aj (body s (j+1) 1 _ _ st.2 ?_)
  rw[if_pos (j8 j)]
  dsimp only
  refine aj (vg st.1 fun h1 iZ _=>?_)
  exact wq (s:={ s with heap:=h1 }) hh fun h2 k2=>hQ h2 s.toks fun b o hb e=>k2 b o ((iZ.2 b (by simpa using hb)).trans e)
end
end L2
namespace L2
section
variable{P:aK}{w:World}{A:aV}{E:Value->ah->Prop}{s:ah}
theorem Dl:∀ {vs:List Value} {ss:List Str} (i:Nat) (v:Value),dH vs ss->vs[i]?=some v->∃ t,v = .str (ss.getD i nQ) t
 | _,_,i,v,.nil,h=>by simp at h
 | _,_,0,v,.cons y t _,h=>by simp at h; exact⟨t,by rw[← h]; rfl⟩
 | _,_,i+1,v,.cons y t hr,h=>by
  simp only[List.getElem?_cons_succ]at h
  obtain⟨t',e⟩:=Dl i v hr h
  exact⟨t',by rw[e]; rfl⟩
set_option maxRecDepth 100000 in
theorem O7{l:Addr}{items:Array Value}{ss:List Str}{Q:Value->ah->Prop}(hh:A.handled=none)(hl:s.heap.IsList l items)(hi:dH items.toList ss)(hb:(met (fun i=>ss.getD i nQ) items.size).length<4000)
  (h:∀ (h':Heap) (tk:Nat),bL P w h' s.heap.objs.size (met (fun i=>ss.getD i nQ) items.size)->(∀ b o,b<s.heap.objs.size->s.heap.get? b=some o->h'.get? b=some o)->Q (.ref s.heap.objs.size) { s with heap:=h',toks:=tk }) :
  wpAny (model P w) A (call (.type "set") [.ref l]) Q E s:=by
 obtain⟨c,tl,hmro⟩:=F.called_set.mro; have hmade:=F.called_set.made; have jh:=F.called_set.sub
 refine wpAny_call (codeAny_of_tree ?_)
 show wpAny _ _ (callAny (.type "set") _) _ _ _; refine ar ⟨Code.quiet_builtin _ (by decide +kernel),uk F.entry_type_call ?_⟩
 rw[Around.under_plain (weight_type_call_type "set" [.ref l] []) rfl]; have h1:=F.called_set.notType; have h2:=F.called_set.canCreate
 have hct:=PySem.F.typeCall_set_1 (.ref l)
 repeat any_goals (first | assumption | wp_step)
 refine xz (NC (P:=P) (w:=w) (.ref l) (E:=E) (Q:=fun obj s1=>obj = .ref s.heap.objs.size/\s1={ s with heap:=s.heap.push { cls:=.type "set",dict:=none,data:=.set #[] 0 (.fresh 0 0 (!cH w)) } }/\bL P w s1.heap s.heap.objs.size []) fun S0=>⟨rfl,rfl,S0⟩) fun r s1 hr=>?_
 cases r with
 | error e=>exact hr
 | ok fl =>
  cases fl with
  | ret obj =>
   obtain⟨rfl,rfl,S0⟩:=hr
   have hS:=cN (h:=s.heap) (o:=({ cls:=.type "set",dict:=none,data:=.set #[] 0 (.fresh 0 0 (!cH w)) }:Obj))
   have uT:(s.heap.push { cls:=.type "set",dict:=none,data:=.set #[] 0 (.fresh 0 0 (!cH w)) }).get? s.heap.objs.size=some { cls:=.type "set",dict:=none,data:=.set #[] 0 (.fresh 0 0 (!cH w)) }:=cN _ rfl
   have hT:Shared.TypeIs { s with heap:=s.heap.push { cls:=.type "set",dict:=none,data:=.set #[] 0 (.fresh 0 0 (!cH w)) } } (.ref s.heap.objs.size) "set":=⟨_,uT,rfl⟩
   have hli:=F.called_set.init.lookup; have hbi:=F.called_set.init.bind (.ref s.heap.objs.size)
   repeat any_goals (first | assumption | wp_step)
   refine xz (codeAny_call_builtin (R:=wants (fun r s2=>r = .none/\∃ h' tk,s2={ s with heap:=h',toks:=tk }/\bL P w h' s.heap.objs.size (met (fun i=>ss.getD i nQ) items.size) /\
     (∀ b o,b<s.heap.objs.size->s.heap.get? b=some o->h'.get? b=some o)) E) F.called_set.init.plain F.entry_set_init (check_set_init_1 hT ?_)) fun r2 s2 n9=>?_
   ·obtain⟨⟨ocls,odict,odata,oslots⟩,hol,n6,nl,hdl⟩:=hl
    simp only at n6 hdl; subst n6; subst hdl
    have hol':(s.heap.push { cls:=.type "set",dict:=none,data:=.set #[] 0 (.fresh 0 0 (!cH w)) }).get? l=some { cls:=.type "list",dict:=odict,data:=.seq items nl,slots:=oslots }:=bB _ hol
    have hsls:=PySem.F.sub_list_set; have hslf:=PySem.F.sub_list_frozenset; have b9:(Value.type "list" == Value.type "dict")=false:=by decide
    have uR:(s.heap.push { cls:=.type "set",dict:=none,data:=.set #[] 0 (.fresh 0 0 (!cH w)) }).IsList l items:=⟨_,hol',rfl,nl,rfl⟩
    unfold Builtin.«set.__init__» noKeywords Builtin.Frozenset.updateFrom; generalize hPI:pyIter=PI
    wp_walk
    subst hPI
    refine xF uR (aj (wpAny_runValue ?_))
    have hlS:l<s.heap.objs.size:=bq hol
    have hh3:A.in1.in1.in1.handled=none:=by simp[hh]
    have hsz:(s.heap.push { cls:=.type "set",dict:=none,data:=.set #[] 0 (.fresh 0 0 (!cH w)) }).objs.size=s.heap.objs.size+1:=ub ..
    have hneI:l≠(s.heap.push { cls:=.type "set",dict:=none,data:=.set #[] 0 (.fresh 0 0 (!cH w)) }).objs.size:=by rw[hsz]; exact cO (kc hlS)
    have hSf:s.heap.objs.size∉[(s.heap.push { cls:=.type "set",dict:=none,data:=.set #[] 0 (.fresh 0 0 (!cH w)) }).objs.size,l]:=by
     rw[hsz]; simp only[bH,f8,jM,or_false,not_or]; exact⟨cO (j8 _),nP hlS⟩
    refine IQ ((Walks.list hh3 _ l hneI items).toS) s.heap.objs.size hSf (fun i=>ss.getD i nQ) (fun i v hv=>Dl i v hi (by rw[Bc]; exact hv)) (fun i hi=>uh (Ds _ hi) hb) (items.size-0) 0 _ (by ac_rfl) (j9 _)
     ⟨⟨_,cN _ rfl,rfl,rfl⟩,(uR.push _)⟩ (S0.at fun o e=>bB _ e) ?_
    intro s' hm rS
    obtain⟨h',g',d',tk',os'⟩:=s'
    obtain rfl:g'=s.gens:=hm.gens
    obtain rfl:d'=s.drawn:=hm.drawn
    obtain rfl:os'=s.os:=hm.os
    show wpAny _ _ _ _ _ _
    refine ar ?_
    show wpAny _ _ (ret Value.none) _ _ _
    refine ar ⟨rfl,h',tk',rfl,rS,fun b o hb e=>hm.heap b o ?_ (bB _ (bB _ e))⟩
    rw[hsz]; simp only[bH,f8,jM,or_false,not_or]; exact⟨cO hb,cO (kc hb)⟩
   ·cases r2 with
    | error e=>exact n9
    | ok fl2 =>
     cases fl2 with
     | ret r =>
      obtain⟨rfl,h',tk,rfl,rS,uV⟩:=n9
      repeat any_goals (first | assumption | wp_step)
      exact h _ _ rS uV
     | _=>exact n9.elim
  | _=>exact hr.elim
end
end L2
namespace L2
theorem Dw{n:Nat}(h:n<=4096):n<a7:=uh h (by decide)
theorem Mp:typeLookup (.type "set") "__len__" = pure (some (.builtin "set.__len__")):=F.slot_set_len.lookup
section
variable{P:aK}{w:World}{A:aV}{E:Value->ah->Prop}{s:ah}
structure D_(P:aK)(w:World)(s s':ah)(a I:Addr)(ks:List Str)(fp:List Addr)(n:Nat)(Pv:Nat->Value->Prop)(St:Nat->Heap->Prop):Prop where
 wk:∀ A:aV,A.handled=none->Walks P w A I fp [I] n Pv St
 st:St 0 s'.heap
 old:∀ b o,s.heap.get? b=some o->s'.heap.get? b=some o
 new:s.heap.objs.size<=I
 lt:∀ b∈fp,b<s'.heap.objs.size
 rest:s'={ s with heap:=s'.heap,drawn:=s'.drawn }
 ord:∀ am:Array Value,ItemsOf Pv am n->∃ ss,dH am.toList ss/\ss.Perm ks
 len:n<4090
 fps:∀ b∈fp,b=a\/s.heap.objs.size<=b
theorem wD{l:List Value}{am:Array Value}{n:Nat}(hl:l.length=n)(h:ItemsOf (fun i v=>l[i]?=some v) am n):am.toList=l:=by
 refine jN fun i=>?_
 by_cases hi:i<n
 ·have:i<am.size:=by rw[h.1]; exact hi
  have q:=h.2 i am[i] (xL this)
  rw[q]
  simp[this]
 ·rw[iB (by rw[gD,h.1]; ac_rfl),iB (by ac_rfl)]
end
def bP(ls:List Tx):List Tx:=ls.foldl (fun ks x=>if x∈ks then ks else ks++[x]) []
theorem Dc(ls:List Tx):met (fun i=>(ls.map tS).getD i nQ) ls.length=(bP ls).map tS:=by
 have gen:∀ (l:List Tx) (am:List Tx),(l.map tS).foldl iN (am.map tS)=(l.foldl (fun ks x=>if x∈ks then ks else ks++[x]) am).map tS:=by
  intro l
  induction l with
  | nil=>intro am; rfl
  | cons x r ih =>
   intro am
   rw[dq,iT,iT]
   have:iN (am.map tS) (tS x)=(if x∈am then am else am++[x]).map tS:=by
    unfold iN
    have hm:tS x∈am.map tS↔x∈am:=by
     rw[b0]
     exact⟨fun⟨y,hy,e⟩=>by rw[← qy e]; exact hy,fun h=>⟨x,h,rfl⟩⟩
    by_cases h:x∈am
    ·rw[if_pos h,if_pos (hm.mpr h)]
    ·rw[if_neg h,if_neg (fun z=>h (hm.mp z)),nV]; rfl
   rw[this,ih]
 have e:(bE ls.length).map (fun i=>(ls.map tS).getD i nQ)=ls.map tS:=by
  refine jN fun i=>?_
  rw[iA]
  by_cases hi:i<ls.length
  ·rw[A0 hi]
   simp[hi]
  ·rw[iB (by simpa using hi),iB (by simpa using hi)]
   rfl
 unfold met
 rw[e]
 exact gen ls []
theorem BK(l am:List Tx):(am.Nodup->(l.foldl (fun ks x=>if x∈ks then ks else ks++[x]) am).Nodup)/\∀ x,x∈l.foldl (fun ks x=>if x∈ks then ks else ks++[x]) am↔x∈am\/x∈l:=by
 induction l generalizing am with
 | nil=>exact⟨fun h=>h,fun x=>by simp⟩
 | cons y r ih =>
  rw[iT]
  obtain⟨h1,h2⟩:=ih (if y∈am then am else am++[y])
  refine⟨fun h=>h1 ?_,fun x=>?_⟩
  ·split
   ·exact h
   ·rename_i hy
    rw[xM]
    exact⟨h,by simp,fun a ha b hb=>by simp at hb; subst hb; exact fun e=>hy (e ▸ ha)⟩
  ·rw[h2 x,bH]
   split
   ·rename_i hy
    constructor
    ·rintro(h | h)
     ·exact .inl h
     ·exact .inr (.inr h)
    ·rintro(h | rfl | h)
     ·exact .inl h
     ·exact .inl hy
     ·exact .inr h
   ·rw[dO,f8,or_assoc]
theorem sR(l:List Tx):(bP l).Nodup:=(BK l []).1 List.nodup_nil
theorem lx(l:List Tx)(x:Tx):x∈bP l↔x∈l:=by rw[bP,(BK l []).2 x]; simp
theorem wR(l:List Tx):(bP l).length<=l.length:=by
 have gen:∀ (l am:List Tx),(l.foldl (fun ks x=>if x∈ks then ks else ks++[x]) am).length<=am.length+l.length:=by
  intro l
  induction l with
  | nil=>intro am; simp
  | cons x r ih =>
   intro am
   rw[iT]
   refine cp (ih _) ?_
   split <;> simp <;> ac_rfl
 simpa[bP]using gen l []
section
variable{X:Cx}
def gQ(X:Cx)(a:Addr)(ls:List Tx):HO:=.ext fun h=>bL X.prog X.w h a (ls.map tS)
theorem zh(hc:X.calm=true):fP X (.type "set") (fun xs H Q=>∃ (p:Addr) (ls:List Tx),xs=[.ref p]/\bO X.K H p (cm ls)/\(bP ls).length<4000/\∀ a,H a=none->Q (.ref a) (upd H a (gQ X a (bP ls)))):=by
 intro aa s σ H xs us Q I r h
 obtain⟨p,ls,rfl,hq,h60,q⟩:=h
 obtain⟨u,rfl,ru⟩:=vals1 r
 cases ru
 obtain⟨its,rv,pl,hz⟩:=I.list hq
 have hl:=rv.length
 rw[qF]at hl
 refine O7 (P:=X.prog) (w:=X.w) (I.ok.hd hc) pl.isList (by simpa using As rv) (by rw[cA,show its.length=ls.length by ac_rfl,Dc,cq]; exact h60) fun h' tk S k=>?_
 have S':bL X.prog X.w h' s.heap.objs.size ((bP ls).map tS):=by
  have e:its.toArray.size=ls.length:=by rw[cA]; ac_rfl
  rw[e,Dc]at S
  exact S
 refine⟨.ref s.heap.objs.size,_,I.laid (t':=tk) (o:=gQ X s.heap.objs.size (bP ls)) (fun b o e=>k b o (bq e) e) (aL _) ?_,rfl,q _ I.fresh⟩
 obtain⟨es,ep,t,ss,e,_⟩:=S'.ex
 exact⟨S',⟨_,e⟩,fun h1 h2 q1 q2=>q1.at q2⟩
end
end L2
namespace L2
structure cn(K:ao)(mg:Str->Option Value)(x:Str)(st:Stmt):Prop where
 ex:∃ f fd,mg x=some (.ref f)/\oR K x x st f fd
def Cz(t:Addr)(H H':Hp):Prop:=∀ b o,H b=some o->b≠t->H' b=some o
theorem Cz.seq{K:ao}{t a:Addr}{H H':Hp}{xs:List V}(e:Cz t H H')(ha:a≠t)(h:bO K H a xs):bO K H' a xs:=by
 rcases h with(h | ⟨o,h⟩) | h
 ·exact .inl (.inl (e _ _ h ha))
 ·exact .inl (.inr ⟨o,e _ _ h ha⟩)
 ·exact .inr h
theorem Cz.tup{K:ao}{t a:Addr}{H H':Hp}{xs:List V}(e:Cz t H H')(ha:a≠t)(h:cJ K H a xs):cJ K H' a xs:=by
 rcases h with(h | ⟨o,h⟩) | h
 ·exact .inl (.inl (e _ _ h ha))
 ·exact .inl (.inr ⟨o,e _ _ h ha⟩)
 ·exact .inr h
def Fl(H:Hp)(t:Addr)(n:Nat):Prop:=∃ xs,H t=some (.lst xs)/\xs.length<=n
theorem Fl.upd{H:Hp}{t p:Addr}{n:Nat}{o:HO}(h:Fl H t n)(hp:H p=none):Fl (upd H p o) t n:=by
 obtain⟨xs,a,b⟩:=h
 exact⟨xs,by rw[bp (ny a hp)]; exact a,b⟩
theorem Dy{H:Hp}{p:Addr}{o:HO}(h:H p=none):Same H (upd H p o):=fun b u q=>by rw[bp (ny q h)]; exact q
theorem yv{α:Type}{xs:List α}{k:Int}(h0:0<=k)(h:k.toNat<xs.length):eT xs k=some xs[k.toNat]:=by
 have e:((k.toNat:Nat):Int)=k:=by ac_rfl
 have q:=Qg (xs:=xs) (j:=k.toNat) (v:=xs[k.toNat]) (by simp[h])
 rwa[e]at q
end L2
namespace L2
def FL(N:List Str)(sc scope:Scope)(x:Str)(N':List Str)(cap:List Nat):Bool :=
 decide (scope.kind = .function) && scope.names.all (fun y=>(decide (y.2≠.cell) || decide (scope.names.lookup y.1=some .cell)) && (decide (y.2≠.local) || decide (scope.names.lookup y.1=some .local)) && (decide (y.2≠.free) || decide (sc.names.lookup y.1=some .cell) || decide (sc.names.lookup y.1=some .free)))
 && (decide (scope.names.lookup x=some .local) || decide (scope.names.lookup x=some .cell)) && decide N'.Nodup && decide (N'.head?=some x) && decide (N'.length=cap.length+1) && (cap.zip N'.tail).all fun p=>decide (N[p.1]?=some p.2) && decide (scope.names.lookup p.2=some .free)
theorem km.of{X:Cx}{scope:Scope}{x:Str}{N':List Str}{cap:List Nat}(N:List Str)(sc:Scope)(hN:X.N=N)(hsc:X.env.scope=sc)(h:FL N sc scope x N' cap=true):km X scope x N' cap:=by
 subst hN hsc
 simp only[FL,gF,decide_eq_true_eq,uo,xH]at h
 obtain⟨⟨⟨⟨⟨⟨h1,h2⟩,h3⟩,h4⟩,h5⟩,h6⟩,h7⟩:=h
 refine⟨h1,fun y hy e=>(h2 y hy).1.1.elim (fun z=>absurd e z) fun z=>z,fun y hy e=>?_,h3,fun y hy e=>?_,h4,h5,h6,fun i j y e1 e2=>?_⟩
 ·rcases(h2 y hy).1.2 with z | z
  ·exact absurd e z
  ·exact z
 ·rcases(h2 y hy).2 with(z | z) | z
  ·exact absurd e z
  ·exact .inl z
  ·exact .inr z
 ·have hm:(j,y)∈cap.zip N'.tail:=by
   refine List.mem_iff_getElem?.mpr ⟨i,?_⟩
   rw[List.getElem?_zip_eq_some]
   refine⟨e2,?_⟩
   rw[← List.drop_one,jO,Nat.add_comm]
   exact e1
  exact h7 _ hm
end L2
namespace Pu
open L2
abbrev St:=L2.St
inductive PV where
 | non | bl (b:Bool) | int (i:Int) | str (x:Tx) | tup (xs:List PV) | lst (xs:List PV) | raw (v:V) | exc (c:Value)
def K3(a:Addr)(c:Value):HO:=.ext fun h=>∃ o vs,h.get? a=some o/\o.cls=c/\o.data = .fields vs/\o.dict=none
def be:Nat:=1000000
theorem mi:be<=a7:=by rw[pi]; decide
def gb:HO->Prop
 | .lst _=>True
 | .dK _=>True
 | .dT _=>True
 | .ins _ _ _=>True
 | .own _=>True
 | _=>False
mutual
def aT(K:ao)(H:Hp)(F:Addr->Prop):PV->V->Prop
 | .non,v=>v = .non
 | .bl b,v=>v = .bl b
 | .int i,v=>v = .int i
 | .str x,v=>v=tV x/\x.length<=be
 | .tup xs,v=>∃ a vs,v = .ref a/\H a=some (.tup vs)/\a9 K H F xs vs
 | .lst xs,v=>∃ a vs,v = .ref a/\Rd H a (.lst vs)/\F a/\a9 K H F xs vs
 | .raw u,v=>v=u
 | .exc c,v=>∃ a,v = .ref a/\H a=some (K3 a c)
def a9(K:ao)(H:Hp)(F:Addr->Prop):List PV->List V->Prop
 | [],vs=>vs=[]
 | x::xs,vs=>∃ v r,vs=v::r/\aT K H F x v/\a9 K H F xs r
end
section
variable{K:ao}{H H':Hp}{F F':Addr->Prop}
mutual
theorem aT.mono(hF:∀ a,F a->F' a)(hL:∀ a xs,F a->Rd H a (.lst xs)->Rd H' a (.lst xs))(hT:∀ a o,H a=some o->¬ gb o->H' a=some o):∀ (x:PV) (v:V),aT K H F x v->aT K H' F' x v
 | .non,_,h=>h
 | .bl _,_,h=>h
 | .int _,_,h=>h
 | .str _,_,h=>h
 | .raw _,_,h=>h
 | .exc _,_,⟨a,e,h⟩=>⟨a,e,hT a _ h id⟩
 | .tup xs,_,⟨a,vs,e,h1,h2⟩=>⟨a,vs,e,hT a _ h1 id,a9.mono hF hL hT xs vs h2⟩
 | .lst xs,_,⟨a,vs,e,h1,h0,h2⟩=>⟨a,vs,e,hL a vs h0 h1,hF a h0,a9.mono hF hL hT xs vs h2⟩
theorem a9.mono(hF:∀ a,F a->F' a)(hL:∀ a xs,F a->Rd H a (.lst xs)->Rd H' a (.lst xs))(hT:∀ a o,H a=some o->¬ gb o->H' a=some o):∀ (xs:List PV) (vs:List V),a9 K H F xs vs->a9 K H' F' xs vs
 | [],_,h=>h
 | x::xs,_,⟨v,r,e,h1,h2⟩=>⟨v,r,e,aT.mono hF hL hT x v h1,a9.mono hF hL hT xs r h2⟩
end
theorem a9.len:∀ {xs:List PV} {vs:List V},a9 K H F xs vs->vs.length=xs.length
 | [],_,h=>by rw[show _=[] from h]; rfl
 | _::_,_,⟨_,_,e,_,h2⟩=>by rw[e,dQ,dQ,a9.len h2]
theorem a9.get:∀ {xs:List PV} {vs:List V} {i:Nat} {x:PV},a9 K H F xs vs->xs[i]?=some x->∃ v,vs[i]?=some v/\aT K H F x v
 | [],_,_,_,_,e=>by simp at e
 | x::xs,_,0,y,⟨v,r,e,h1,_⟩,q=>by simp at q; subst q; subst e; exact⟨v,rfl,h1⟩
 | x::xs,_,i+1,y,⟨v,r,e,_,h2⟩,q=>by
  obtain⟨w,a,b⟩:=a9.get (i:=i) (x:=y) h2 (by simpa using q)
  subst e
  exact⟨w,by simpa using a,b⟩
theorem a9.back:∀ {xs:List PV} {vs:List V} {i:Nat} {v:V},a9 K H F xs vs->vs[i]?=some v->∃ x,xs[i]?=some x/\aT K H F x v
 | [],_,_,_,h,e=>by rw[show _=[] from h]at e; simp at e
 | x::xs,_,0,y,⟨v,r,e,h1,_⟩,q=>by subst e; simp at q; subst q; exact⟨x,rfl,h1⟩
 | x::xs,_,i+1,y,⟨v,r,e,_,h2⟩,q=>by
  subst e
  obtain⟨w,a,b⟩:=a9.back (i:=i) (v:=y) h2 (by simpa using q)
  exact⟨w,by simpa using a,b⟩
theorem a9.app:∀ {xs ys:List PV} {vs ws:List V},a9 K H F xs vs->a9 K H F ys ws->a9 K H F (xs++ys) (vs++ws)
 | [],_,_,_,h,g=>by rw[show _=[] from h]; exact g
 | x::xs,_,_,_,⟨v,r,e,h1,h2⟩,g=>by subst e; exact⟨v,_,rfl,h1,a9.app h2 g⟩
theorem a9.one{x:PV}{v:V}(h:aT K H F x v):a9 K H F [x] [v]:=⟨v,[],rfl,h,rfl⟩
theorem a9.drop:∀ (n:Nat) {xs:List PV} {vs:List V},a9 K H F xs vs->a9 K H F (xs.drop n) (vs.drop n)
 | 0,_,_,h=>h
 | _+1,[],_,h=>by rw[show _=[] from h]; rfl
 | n+1,_::_,_,⟨_,_,e,_,h2⟩=>by subst e; exact a9.drop n h2
theorem a9.take:∀ (n:Nat) {xs:List PV} {vs:List V},a9 K H F xs vs->a9 K H F (xs.take n) (vs.take n)
 | 0,_,_,_=>by rw[Bd,Bd]; rfl
 | _+1,[],_,h=>by rw[show _=[] from h]; rfl
 | n+1,_::_,_,⟨v,_,e,h1,h2⟩=>by subst e; exact⟨v,_,rfl,h1,a9.take n h2⟩
theorem a9.cons{x:PV}{v:V}{xs:List PV}{vs:List V}(h:aT K H F x v)(g:a9 K H F xs vs):a9 K H F (x::xs) (v::vs):=⟨v,vs,rfl,h,g⟩
end
structure bK(O O' F F':Addr->Prop)(H H':Hp):Prop where
 fro:∀ a,F a->F' a
 keep:∀ b o,H b=some o->¬ O b->H' b=some o
 there:∀ b o,H b=some o->∃ o',H' b=some o'
 fnew:∀ a,F' a->F a\/H a=none\/O a
 onew:∀ a,O' a->O a\/H a=none
theorem bK.refl(O F:Addr->Prop)(H:Hp):bK O O F F H H:=⟨fun _ h=>h,fun _ _ h _=>h,fun _ o h=>⟨o,h⟩,fun _ h=>.inl h,fun _ h=>.inl h⟩
theorem bK.trans{O O1 O2 F F1 F2:Addr->Prop}{H H1 H2:Hp}(g:bK O O1 F F1 H H1)(k:bK O1 O2 F1 F2 H1 H2):bK O O2 F F2 H H2 where
 fro:=fun a h=>k.fro a (g.fro a h)
 keep:=fun b o h n=>k.keep b o (g.keep b o h n) fun z=>(g.onew b z).elim n fun q=>by rw[q]at h; cases h
 there:=fun b o h=>let ⟨o',h'⟩:=g.there b o h; k.there b o' h'
 fnew:=fun a h=>by
  have back:H1 a=none->H a=none\/O a:=fun z=>by
   cases q:H a with
   | none=>exact .inl rfl
   | some o=>obtain⟨o',h'⟩:=g.there a o q; rw[z]at h'; cases h'
  rcases k.fnew a h with z | z | z
  ·exact g.fnew a z
  ·exact .inr (back z)
  ·exact .inr ((g.onew a z).symm)
 onew:=fun a h=>by
  rcases k.onew a h with z | z
  ·exact g.onew a z
  ·cases q:H a with
   | none=>exact .inr rfl
   | some o=>obtain⟨o',h'⟩:=g.there a o q; rw[z]at h'; cases h'
def nJ(O F:Addr->Prop)(H:Hp):Prop:=∀ b,O b->¬ F b/\∃ o,H b=some o/\gb o
section
variable{K:ao}{O O' F F':Addr->Prop}{H H':Hp}
theorem bK.imm(g:bK O O' F F' H H')(f:nJ O F H){a:Addr}{o:HO}(h:H a=some o)(n:¬ gb o):H' a=some o :=
 g.keep _ _ h fun z=>by
  obtain⟨_,o',e',n'⟩:=f a z
  rw[h]at e'; cases e'; exact n n'
theorem bK.lst(g:bK O O' F F' H H')(f:nJ O F H){a:Addr}{xs:List V}(hF:F a)(h:Rd H a (.lst xs)):Rd H' a (.lst xs):=by
 have no:¬ O a:=fun z=>(f a z).1 hF
 rcases h with h | ⟨o,h⟩
 ·exact .inl (g.keep _ _ h no)
 ·exact .inr ⟨o,g.keep _ _ h no⟩
theorem aT.grow(g:bK O O' F F' H H')(f:nJ O F H){x:PV}{v:V}(h:aT K H F x v):aT K H' F' x v:=aT.mono g.fro (fun _ _ hF q=>g.lst f hF q) (fun _ _ q n=>g.imm f q n) x v h
theorem a9.grow(g:bK O O' F F' H H')(f:nJ O F H){x:List PV}{v:List V}(h:a9 K H F x v):a9 K H' F' x v:=a9.mono g.fro (fun _ _ hF q=>g.lst f hF q) (fun _ _ q n=>g.imm f q n) x v h
end
theorem _root_.L2.Same.rd{H H':Hp}{a:Addr}{u:HO}(e:Same H H')(h:Rd H a u):Rd H' a u:=h.elim (fun z=>.inl (e _ _ z)) fun⟨o,z⟩=>.inr ⟨o,e _ _ z⟩
structure Al(F F':Addr->Prop)(H H':Hp):Prop where
 fro:∀ a,F a->F' a
 same:Same H H'
 fnew:∀ a,F' a->F a\/(H a=none/\∃ o,H' a=some o)
theorem Al.refl(F:Addr->Prop)(H:Hp):Al F F H H:=⟨fun _ h=>h,Same.refl H,fun _ h=>.inl h⟩
theorem Al.grow{F F' O:Addr->Prop}{H H':Hp}(a:Al F F' H H'):bK O O F F' H H' :=
 ⟨a.fro,fun b o h _=>a.same b o h,fun b o h=>⟨o,a.same b o h⟩,fun b h=>(a.fnew b h).imp id fun z=>.inl z.1,fun _ h=>.inl h⟩
theorem Al.rep{K:ao}{F F':Addr->Prop}{H H':Hp}(a:Al F F' H H'){x:PV}{v:V}(h:aT K H F x v):aT K H' F' x v:=aT.mono a.fro (fun _ _ _ q=>a.same.rd q) (fun _ _ q _=>a.same _ _ q) x v h
theorem Al.reps{K:ao}{F F':Addr->Prop}{H H':Hp}(a:Al F F' H H'){x:List PV}{v:List V}(h:a9 K H F x v):a9 K H' F' x v:=a9.mono a.fro (fun _ _ _ q=>a.same.rd q) (fun _ _ q _=>a.same _ _ q) x v h
theorem Al.trans{F F1 F2:Addr->Prop}{H H1 H2:Hp}(a:Al F F1 H H1)(b:Al F1 F2 H1 H2):Al F F2 H H2 :=
 ⟨fun c h=>b.fro c (a.fro c h),a.same.trans b.same,fun c h=>by
  rcases b.fnew c h with z | ⟨z,w⟩
  ·rcases a.fnew c z with y | ⟨y,o,q⟩
   ·exact .inl y
   ·exact .inr ⟨y,o,b.same _ _ q⟩
  ·exact .inr ⟨a.same.free z,w⟩⟩
theorem Al.new{F:Addr->Prop}{H:Hp}{l:Addr}{o:HO}(h:H l=none):Al F (fun a=>F a\/a=l) H (upd H l o) :=
 ⟨fun _ h=>.inl h,Dy h,fun a z=>z.imp id fun e=>by subst e; exact⟨h,o,bA⟩⟩
theorem Al.new0{F:Addr->Prop}{H:Hp}{l:Addr}{o:HO}(h:H l=none):Al F F H (upd H l o):=⟨fun _ h=>h,Dy h,fun a z=>.inl z⟩
inductive PO where
 | lst (xs:List PV) | dK (kvs:List (aw×PV)) | lls (h_:List (List PV)) | ins (C:Addr) (fs:List (Str×PV))
def jB:PO->Bool
 | .lls _=>false
 | _=>true
inductive Slot where
 | none | val (v:PV) | own (o:PO)
abbrev ae:=List Slot
def eQ(K:ao)(H:Hp)(F:Addr->Prop)(kvs:List (aw×PV))(ws:List (aw×V)):Prop:=mE (fun(p:aw×PV) (q:aw×V)=>p.1=q.1/\aT K H F p.2 q.2) kvs ws
def qe(K:ao)(H:Hp)(F:Addr->Prop)(fs:List (Str×PV))(ws:List (Str×V)):Prop:=mE (fun(p:Str×PV) (q:Str×V)=>p.1=q.1/\aT K H F p.2 q.2) fs ws
def nj(K:ao)(H:Hp)(F:Addr->Prop)(h_:List (List PV))(as:List Addr):Prop:=mE (fun(xs:List PV) (b:Addr)=>∃ vs,H b=some (.lst vs)/\a9 K H F xs vs) h_ as
def fW(K:ao)(H:Hp)(F:Addr->Prop)(po:PO)(a:Addr)(S:Addr->Prop):Prop :=
 match po with
 | .lst xs=>(∃ vs,H a=some (.lst vs)/\a9 K H F xs vs)/\∀ b,S b↔b=a
 | .dK kvs=>(∃ ws,H a=some (.dK ws)/\eQ K H F kvs ws)/\∀ b,S b↔b=a
 | .lls h_=>∃ as,H a=some (.lst (as.map .ref))/\nj K H F h_ as/\as.Nodup/\a∉as/\∀ b,S b↔b=a\/b∈as
 | .ins C fs=>(∃ dx ws,H a=some (.ins C dx ws)/\qe K H F fs ws)/\∀ b,S b↔b=a
structure aP(K:ao)(F:Addr->Prop)(S:Nat->Addr->Prop)(ε:ae)(σ:St)(H:Hp):Prop where
 len:ε.length=σ.length
 ex:∀ a,F a->∃ o,H a=some o
 val:∀ (i:Nat) (pv:PV),ε[i]?=some (.val pv)->∃ v,σ[i]?=some (some v)/\aT K H F pv v
 own:∀ (i:Nat) (po:PO),ε[i]?=some (.own po)->∃ a,σ[i]?=some (some (.ref a))/\fW K H F po a (S i)
 foot:∀ (i:Nat) (b:Addr),S i b->(∃ po,ε[i]?=some (.own po))/\¬ F b/\∃ o,H b=some o/\gb o
 dist:∀ (i j:Nat) (b:Addr),S i b->S j b->i=j
def U(S:Nat->Addr->Prop)(b:Addr):Prop:=∃ i,S i b
section
variable{K:ao}{F F':Addr->Prop}{S:Nat->Addr->Prop}{ε:ae}{σ:St}{H H':Hp}
theorem aP.fit(r:aP K F S ε σ H):nJ (U S) F H:=fun b ⟨i,h⟩=>(r.foot i b h).2
theorem eQ.mono{kvs:List (aw×PV)}{ws:List (aw×V)}(hF:∀ x v,aT K H F x v->aT K H' F' x v)(h:eQ K H F kvs ws):eQ K H' F' kvs ws:=by
 unfold eQ at h ⊢
 induction h with
 | nil=>exact .nil
 | cons r _ ih=>exact .cons ⟨r.1,hF _ _ r.2⟩ ih
theorem qe.mono{fs:List (Str×PV)}{ws:List (Str×V)}(hF:∀ x v,aT K H F x v->aT K H' F' x v)(h:qe K H F fs ws):qe K H' F' fs ws:=by
 unfold qe at h ⊢
 induction h with
 | nil=>exact .nil
 | cons r _ ih=>exact .cons ⟨r.1,hF _ _ r.2⟩ ih
theorem nj.mono{h_:List (List PV)}{as:List Addr}(hFs:∀ x v,a9 K H F x v->a9 K H' F' x v)(ha:∀ b o,b∈as->H b=some o->H' b=some o)(h:nj K H F h_ as):nj K H' F' h_ as:=by
 unfold nj at h ⊢
 induction h with
 | nil=>exact .nil
 | cons r _ ih =>
  obtain⟨vs,h1,h2⟩:=r
  exact .cons ⟨vs,ha _ _ (by simp) h1,hFs _ _ h2⟩ (ih fun b o hb=>ha b o (by simp[hb]))
theorem fW.mono{po:PO}{a:Addr}{Sa:Addr->Prop}(hF:∀ x v,aT K H F x v->aT K H' F' x v)(hFs:∀ x v,a9 K H F x v->a9 K H' F' x v)(ha:∀ b o,Sa b->H b=some o->H' b=some o)(h:fW K H F po a Sa):fW K H' F' po a Sa:=by
 cases po with
 | lst xs=>obtain⟨⟨vs,e,q⟩,w⟩:=h; exact⟨⟨vs,ha a _ ((w a).mpr rfl) e,hFs _ _ q⟩,w⟩
 | dK kvs=>obtain⟨⟨ws,e,q⟩,w⟩:=h; exact⟨⟨ws,ha a _ ((w a).mpr rfl) e,q.mono hF⟩,w⟩
 | lls h_=>obtain⟨as,e,q,n1,n2,w⟩:=h; exact⟨as,ha a _ ((w a).mpr (.inl rfl)) e,q.mono hFs fun b o hb=>ha b o ((w b).mpr (.inr hb)),n1,n2,w⟩
 | ins C fs=>obtain⟨⟨dx,ws,e,q⟩,w⟩:=h; exact⟨⟨dx,ws,ha a _ ((w a).mpr rfl) e,q.mono hF⟩,w⟩
theorem aP.al(r:aP K F S ε σ H)(a:Al F F' H H'):aP K F' S ε σ H' where
 len:=r.len
 ex:=fun b h=>(a.fnew b h).elim (fun z=>let ⟨o,q⟩:=r.ex b z; ⟨o,a.same _ _ q⟩) fun z=>z.2
 val:=fun i pv e=>let ⟨v,h1,h2⟩:=r.val i pv e; ⟨v,h1,a.rep h2⟩
 own:=fun i po e=>let ⟨b,h1,h2⟩:=r.own i po e; ⟨b,h1,h2.mono (fun _ _ q=>a.rep q) (fun _ _ q=>a.reps q) fun c o _ q=>a.same _ _ q⟩
 foot:=fun i b h=>by
  obtain⟨h1,h2,o,h3,h4⟩:=r.foot i b h
  refine⟨h1,fun z=>?_,o,a.same _ _ h3,h4⟩
  rcases a.fnew b z with y | ⟨y,_⟩
  ·exact h2 y
  ·rw[h3]at y; cases y
 dist:=r.dist
end
inductive R(α:Type) where
 | ok (a:α) (ε:ae) | er (c:Value) (ε:ae) | no
def R.bind{α β:Type}(r:R α)(k:α->ae->R β):R β:=match r with
 | .ok a ε=>k a ε
 | .er c ε=>.er c ε
 | .no=>.no
def aW{α:Type}(o:Option α)(ε:ae):R α:=match o with
 | some a=>.ok a ε
 | none=>.no
@[simp] theorem R.bind_ok{α β:Type}(a:α)(ε:ae)(k:α->ae->R β):(R.ok a ε).bind k=k a ε:=rfl
@[simp] theorem R.bind_er{α β:Type}(c:Value)(ε:ae)(k:α->ae->R β):(R.er c ε:R α).bind k = .er c ε:=rfl
@[simp] theorem R.bind_no{α β:Type}(k:α->ae->R β):(R.no:R α).bind k = .no:=rfl
@[simp] theorem c_{α:Type}(a:α)(ε:ae):aW (some a) ε = .ok a ε:=rfl
@[simp] theorem RN{α:Type}(ε:ae):aW (none:Option α) ε = .no:=rfl
def Ok(K:ao)(E:XK)(σ:St)(F:Addr->Prop)(S:Nat->Addr->Prop)(H:Hp){α:Type}(r:R α)(C:α->ae->(Addr->Prop)->(Nat->Addr->Prop)->Hp->Prop):Prop:=match r with
 | .ok a ε'=>∀ F' S' H',aP K F' S' ε' σ H'->bK (U S) (U S') F F' H H'->C a ε' F' S' H'
 | .er c ε'=>∀ x F' S' H',aP K F' S' ε' σ H'->bK (U S) (U S') F F' H H'->E c x H'
 | .no=>False
section
variable{K:ao}{E:XK}{σ:St}{F:Addr->Prop}{S:Nat->Addr->Prop}{H:Hp}{α β:Type}{C C':α->ae->(Addr->Prop)->(Nat->Addr->Prop)->Hp->Prop}{D:β->ae->(Addr->Prop)->(Nat->Addr->Prop)->Hp->Prop}
theorem Ok.imp{r:R α}(h:Ok K E σ F S H r C)(f:∀ a ε' F' S' H',aP K F' S' ε' σ H'->bK (U S) (U S') F F' H H'->C a ε' F' S' H'->C' a ε' F' S' H'):Ok K E σ F S H r C':=by
 cases r with
 | ok a ε'=>exact fun F' S' H' r g=>f a ε' F' S' H' r g (h F' S' H' r g)
 | er c ε'=>exact h
 | no=>exact h
theorem Ok.from{r:R β}{F1:Addr->Prop}{S1:Nat->Addr->Prop}{H1:Hp}(h:Ok K E σ F S H r D)(g:bK (U S) (U S1) F F1 H H1):Ok K E σ F1 S1 H1 r D:=by
 cases r with
 | ok a ε'=>exact fun F' S' H' r' g'=>h F' S' H' r' (g.trans g')
 | er c ε'=>exact fun x F' S' H' r' g'=>h x F' S' H' r' (g.trans g')
 | no=>exact h
theorem Ok.bind{r:R α}{k:α->ae->R β}(h:Ok K E σ F S H (r.bind k) D):Ok K E σ F S H r (fun a ε1 F1 S1 H1=>Ok K E σ F1 S1 H1 (k a ε1) D):=by
 cases r with
 | ok a ε'=>exact fun F' S' H' r g=>Ok.from h g
 | er c ε'=>exact h
 | no=>exact h
end
structure Bx(p:Prop):Prop where
 run:p
def jb(X:Cx)(e:Expr):TE:=fun σ H Q=>Bx (∀ aa s,Inv X aa σ H s->wpAny (model X.prog X.w) X.A (eval e X.env) (EP X aa σ Q) X.xe s)
def yP(X:Cx)(e:Expr):TT:=fun σ H Q=>Bx (∀ aa s,Inv X aa σ H s->wpAny (model X.prog X.w) X.A (isTrue e X.env (eval e X.env)) (TP X aa σ Q) X.xe s)
def wpS(X:Cx)(st:Stmt):TS:=fun D σ H=>Bx (∀ aa s,Inv X aa σ H s->wpAny (model X.prog X.w) X.A (exec st X.env) (SP X aa D) X.xe s)
def t7(X:Cx)(st:List Stmt):TS:=fun D σ H=>Bx (∀ aa s,Inv X aa σ H s->wpAny (model X.prog X.w) X.A (execs st X.env) (SP X aa D) X.xe s)
section
variable{X:Cx}{e:Expr}{st:Stmt}{sts:List Stmt}
theorem cb:PE X e (jb X e):=fun aa s _ _ _ I h=>h.run aa s I
theorem q_:PT X e (yP X e):=fun aa s _ _ _ I h=>h.run aa s I
theorem F9:PS X st (wpS X st):=fun aa s _ _ _ I h=>h.run aa s I
theorem qY:i_ X sts (t7 X sts):=fun aa s _ _ _ I h=>h.run aa s I
theorem cE{t:TE}(h:PE X e t){σ:St}{H:Hp}{Q:VK}(q:t σ H Q):jb X e σ H Q:=⟨fun aa s I=>h aa s σ H Q I q⟩
theorem sE{t:TT}(h:PT X e t){σ:St}{H:Hp}{Q:Bool->Hp->Prop}(q:t σ H Q):yP X e σ H Q:=⟨fun aa s I=>h aa s σ H Q I q⟩
theorem iH{t:TS}(h:PS X st t){σ:St}{H:Hp}{D:lp}(q:t D σ H):wpS X st D σ H:=⟨fun aa s I=>h aa s σ H D I q⟩
theorem Ap{t:TS}(h:i_ X sts t){σ:St}{H:Hp}{D:lp}(q:t D σ H):t7 X sts D σ H:=⟨fun aa s I=>h aa s σ H D I q⟩
end
def DE(X:Cx)(E:XK)(e:Expr)(d:ae->R PV):Prop :=
 ∀ F S ε σ H Q,aP X.K F S ε σ H->Ok X.K E σ F S H (d ε) (fun pv _ F' _ H'=>∀ v,aT X.K H' F' pv v->Q v H')->jb X e σ H Q
def DN(X:Cx)(E:XK)(e:Expr)(d:ae->R PO):Prop :=
 ∀ F S ε σ H Q,aP X.K F S ε σ H->Ok X.K E σ F S H (d ε) (fun po _ F' S' H'=>∀ a Sa,fW X.K H' F' po a Sa->(∀ b,Sa b->H b=none/\¬ F' b/\¬ U S' b/\∃ o,H' b=some o/\gb o)->Q (.ref a) H')->jb X e σ H Q
def DT(X:Cx)(E:XK)(e:Expr)(d:ae->R Bool):Prop :=
 ∀ F S ε σ H Q,aP X.K F S ε σ H->Ok X.K E σ F S H (d ε) (fun b _ _ _ H'=>Q b H')->yP X e σ H Q
end Pu
namespace Pu
open L2
section
variable{X:Cx}{E:XK}{a b c:Expr}{da db dc:ae->R PV}{pos:Pos}
def dC(pv:PV):ae->R PV:=fun ε=>.ok pv ε
theorem aN{i j pos}:DE X E (.Constant (.int i) j pos) (dC (.int i)):=fun F S ε σ H Q r h=>cE Dx (h F S H r (bK.refl ..) _ rfl)
theorem yN{i j pos}:DE X E (.Constant (.bool i) j pos) (dC (.bl i)):=fun F S ε σ H Q r h=>cE QF (h F S H r (bK.refl ..) _ rfl)
theorem nc(l:Tx){x:Str}{j pos}(hx:x=tS l:=by decide +kernel)(hl:l.length<=be:=by decide):DE X E (.Constant (.str x) j pos) (dC (.str l)):=fun F S ε σ H Q r h =>
 cE JC (h F S H r (bK.refl ..) _ (by rw[hx]; exact⟨rfl,hl⟩))
def dV(i:Nat):ae->R PV:=fun ε=>match ε[i]? with
 | some (.val pv)=>.ok pv ε
 | _=>.no
theorem ai(i:Nat){x:Str}{pos:Pos}(hN:X.N[i]?=some x:=by rfl)(hv:ft X.env.scope x:=by first | exact Or.inl rfl | exact Or.inr (Or.inl rfl) | exact Or.inr (Or.inr rfl))(hd:(x == ("__debug__" : Str))=false:=by decide)
  (bF:(x == ("__classdict__" : Str))=false:=by decide):DE X E (.Name x pos) (dV i):=fun F S ε σ H Q r h=>by
 unfold dV at h
 split at h
 ·rename_i p e
  obtain⟨v,e1,e2⟩:=r.val i p e
  exact cE (iw hN hv hd bF) ⟨v,e1,h F S H r (bK.refl ..) v e2⟩
 ·exact h.elim
theorem wG{x:Str}{i:Int}{pos:Pos}(h:∃ t,X.mg x=some (.int i t))(hg:Gl X x:=by rfl)(hd:(x == ("__debug__" : Str))=false:=by decide):DE X E (.Name x pos) (dC (.int i)):=fun F S ε σ H Q r q=>by
 obtain⟨t,e⟩:=h
 exact cE (Ee (v:=.int i) hg e ⟨t,rfl⟩ hd) (q F S H r (bK.refl ..) _ rfl)
theorem zV{x:Str}{l:Tx}{pos:Pos}(h:∃ t,X.mg x=some (.str (tS l) t))(hg:Gl X x:=by rfl)(hl:l.length<=be:=by decide)(hd:(x == ("__debug__" : Str))=false:=by decide):DE X E (.Name x pos) (dC (.str l)):=fun F S ε σ H Q r q=>by
 obtain⟨t,e⟩:=h
 exact cE (Ee (v:=tV l) hg e ⟨t,rfl⟩ hd) (q F S H r (bK.refl ..) _ ⟨rfl,hl⟩)
def aP.frz{K:ao}{F:Addr->Prop}{S:Nat->Addr->Prop}{ε:ae}{σ:St}{H:Hp}{i:Nat}{xs:List PV}(r:aP K F S ε σ H)(e:ε[i]?=some (.own (.lst xs))) :
  ∃ a F' S',aP K F' S' (ε.set i (.val (.lst xs))) σ H/\bK (U S) (U S') F F' H H/\σ[i]?=some (some (.ref a))/\aT K H F' (.lst xs) (.ref a):=by
 obtain⟨a,e1,⟨vs,ha,hr⟩,hS⟩:=r.own i _ e
 have hi:i<ε.length:=(dP.mp e).1
 have sub:∀ b,F b->F b\/b=a:=fun b h=>.inl h
 have mono:∀ x v,aT K H F x v->aT K H (fun b=>F b\/b=a) x v:=aT.mono sub (fun _ _ _ q=>q) (fun _ _ q _=>q)
 have monos:∀ x v,a9 K H F x v->a9 K H (fun b=>F b\/b=a) x v:=a9.mono sub (fun _ _ _ q=>q) (fun _ _ q _=>q)
 have rp:aT K H (fun b=>F b\/b=a) (.lst xs) (.ref a):=⟨a,vs,rfl,.inl ha,.inr rfl,monos _ _ hr⟩
 refine⟨a,fun b=>F b\/b=a,fun j b=>S j b/\j≠i,⟨by rw[ke]; exact r.len,fun b h=>?_,fun j pv q=>?_,fun j po q=>?_,fun j b h=>?_,fun j k b h1 h2=>r.dist j k b h1.1 h2.1⟩,?_,e1,rp⟩
 ·rcases h with h | rfl
  ·exact r.ex b h
  ·exact⟨_,ha⟩
 ·by_cases hj:i=j
  ·subst hj
   rw[gC hi]at q
   cases q
   exact⟨_,e1,rp⟩
  ·rw[eF hj]at q
   obtain⟨v,q1,q2⟩:=r.val j pv q
   exact⟨v,q1,mono _ _ q2⟩
 ·by_cases hj:i=j
  ·subst hj
   rw[gC hi]at q
   cases q
  ·rw[eF hj]at q
   obtain⟨v,q1,q2⟩:=r.own j po q
   refine⟨v,q1,?_⟩
   have q3:=q2.mono (H':=H) mono monos fun _ _ _ z=>z
   have eS:(fun b=>S j b/\j≠i)=S j:=by funext b; simp[fi hj]
   rw[eS]; exact q3
 ·obtain⟨⟨po,q1⟩,q2,q3⟩:=r.foot j b h.1
  refine⟨⟨po,by rw[eF (fi h.2)]; exact q1⟩,fun z=>?_,q3⟩
  rcases z with z | rfl
  ·exact q2 z
  ·exact h.2 (r.dist j i b h.1 ((hS b).mpr rfl))
 ·refine⟨fun _ h=>.inl h,fun b o h _=>h,fun b o h=>⟨o,h⟩,fun b h=>?_,fun b ⟨j,h⟩=>.inl ⟨j,h.1⟩⟩
  rcases h with h | rfl
  ·exact .inl h
  ·exact .inr (.inr ⟨i,(hS b).mpr rfl⟩)
def dM(i:Nat):ae->R PV:=fun ε=>match ε[i]? with
 | some (.own (.lst xs))=>.ok (.lst xs) (ε.set i (.val (.lst xs)))
 | _=>.no
theorem B2(i:Nat){x:Str}{pos:Pos}(hN:X.N[i]?=some x:=by rfl)(hv:ft X.env.scope x:=by first | exact Or.inl rfl | exact Or.inr (Or.inl rfl) | exact Or.inr (Or.inr rfl))(hd:(x == ("__debug__" : Str))=false:=by decide)
  (bF:(x == ("__classdict__" : Str))=false:=by decide):DE X E (.Name x pos) (dM i):=fun F S ε σ H Q r h=>by
 unfold dM at h
 split at h
 ·rename_i p e
  obtain⟨a,F',S',r',g,e1,e2⟩:=r.frz e
  exact cE (iw hN hv hd bF) ⟨_,e1,h F' S' H r' g _ e2⟩
 ·exact h.elim
def P2(K:ao)(r:R2)(f:PV->PV->Option PV):Prop:=∀ (F:Addr->Prop) (H:Hp) (x y:PV) (v u:V) (Q:VK) (pv:PV),aT K H F x v->aT K H F y u->f x y=some pv->(∀ w F' H',Al F F' H H'->aT K H' F' pv w->Q w H')->r v u H Q
def d2(f:PV->PV->Option PV)(da db:ae->R PV):ae->R PV:=fun ε=>(da ε).bind fun x ε1=>(db ε1).bind fun y ε2=>aW (f x y) ε2
theorem wj{r:R2}{f:PV->PV->Option PV}(hp:P2 X.K r f)(ha:DE X E a da)(hb:DE X E b db){F:Addr->Prop}{S:Nat->Addr->Prop}{ε:ae}{σ:St}{H:Hp}{Q:VK}(rl:aP X.K F S ε σ H)
  (h:Ok X.K E σ F S H (d2 f da db ε) (fun pv _ F' _ H'=>∀ v,aT X.K H' F' pv v->Q v H')):jb X a σ H fun x H1=>jb X b σ H1 fun y H2=>r x y H2 Q:=by
 refine ha F S ε σ H _ rl ((Ok.bind h).imp fun x ε1 F1 S1 H1 r1 g1 h1 v rv=>?_)
 refine hb F1 S1 ε1 σ H1 _ r1 ((Ok.bind h1).imp fun y ε2 F2 S2 H2 r2 g2 h2 u ru=>?_)
 cases e:f x y with
 | none=>rw[e]at h2; exact h2.elim
 | some pv =>
  rw[e]at h2
  exact hp F2 H2 x y v u Q pv (rv.grow g2 r1.fit) ru e fun w F' H' al rw'=>h2 F' S2 H' (r2.al al) al.grow w rw'
theorem bf{op:Operator}{r:R2}{f:PV->PV->Option PV}(ho:bW X (iR op) r)(hp:P2 X.K r f)(ha:DE X E a da)(hb:DE X E b db):DE X E (.BinOp a op b pos) (d2 f da db):=fun F S ε σ H Q rl h =>
 cE (FH ho cb cb) (wj hp ha hb rl h)
theorem ww{op:CmpOp}{r:R2}{f:PV->PV->Option PV}(ho:bW X (d8 op) r)(hp:P2 X.K r f)(ha:DE X E a da)(hb:DE X E b db)(hm:pf op b=false):DE X E (.Compare a [op] [b] pos) (d2 f da db):=fun F S ε σ H Q rl h =>
 cE (OZ ho cb cb hm) (wj hp ha hb rl h)
def qU:PV->Option Bool
 | .bl b=>some b
 | _=>none
def dB(d:ae->R PV):ae->R Bool:=fun ε=>(d ε).bind fun x ε1=>aW (qU x) ε1
theorem Ew{K:ao}{H:Hp}{F:Addr->Prop}{x:PV}{v:V}{k:Bool}(h:aT K H F x v)(e:qU x=some k):v = .bl k:=by
 cases x <;> simp[qU]at e
 subst e; exact h
theorem sU{F:Addr->Prop}{S:Nat->Addr->Prop}{ε:ae}{σ:St}{H:Hp}{Q:Bool->Hp->Prop}{d:ae->R PV}(h:Ok X.K E σ F S H (dB d ε) (fun k _ _ _ H'=>Q k H')) :
  Ok X.K E σ F S H (d ε) (fun pv _ F' _ H'=>∀ v,aT X.K H' F' pv v->∃ k,v = .bl k/\Q k H'):=by
 refine(Ok.bind h).imp fun x ε1 F1 S1 H1 r1 g1 h1 v rv=>?_
 cases e:qU x with
 | none=>rw[e]at h1; exact h1.elim
 | some k=>rw[e]at h1; exact⟨k,Ew rv e,h1 F1 S1 H1 r1 (bK.refl ..)⟩
theorem iI{op:CmpOp}{r:R2}{f:PV->PV->Option PV}(ho:bW X (d8 op) r)(hp:P2 X.K r f)(ha:DE X E a da)(hb:DE X E b db)(hm:pf op b=false):DT X E (.Compare a [op] [b] pos) (dB (d2 f da db)):=fun F S ε σ H Q rl h =>
 sE (Mi ho cb cb hm) (wj (Q:=fun x H'=>∃ k,x = .bl k/\Q k H') hp ha hb rl (sU h))
theorem oK{e:Expr}{d:ae->R PV}(hd:DE X E e d)(he:∀ g8,isTrue e X.env g8=(do let v ← g8; standAt e.pos; holding [v] (truthy v)):=by intro _; rfl):DT X E e (dB d):=fun F S ε σ H Q rl h =>
 sE (HW cb he) (hd F S ε σ H _ rl (sU h))
def o_(f g:PV->PV->Option PV)(da db dc:ae->R PV):ae->R PV:=fun ε=>(da ε).bind fun x ε1=>(db ε1).bind fun y ε2=>(aW ((f x y).bind qU) ε2).bind fun k ε2 =>
 match k with
 | true=>(dc ε2).bind fun z ε3=>aW (g y z) ε3
 | false=>.ok (.bl false) ε2
theorem BJ{r r':R2}{f g:PV->PV->Option PV}(hp:P2 X.K r f)(g9:P2 X.K r' g)(ha:DE X E a da)(hb:DE X E b db)(hc:DE X E c dc){F:Addr->Prop}{S:Nat->Addr->Prop}{ε:ae}{σ:St}{H:Hp}{Q:VK}(rl:aP X.K F S ε σ H)
  (h:Ok X.K E σ F S H (o_ f g da db dc ε) (fun pv _ F' _ H'=>∀ v,aT X.K H' F' pv v->Q v H')):yK r r' (jb X a) (jb X b) (jb X c) σ H Q:=by
 refine ha F S ε σ H _ rl ((Ok.bind h).imp fun x ε1 F1 S1 H1 r1 g1 h1 v rv=>?_)
 refine hb F1 S1 ε1 σ H1 _ r1 ((Ok.bind h1).imp fun y ε2 F2 S2 H2 r2 g2 h2 u ru=>?_)
 cases e:f x y with
 | none=>rw[e]at h2; exact h2.elim
 | some pv =>
  rw[e]at h2
  refine hp F2 H2 x y v u _ pv (rv.grow g2 r1.fit) ru e fun w F' H' al rw'=>?_
  cases e2:qU pv with
  | none=>rw[jf,e2]at h2; exact h2.elim
  | some k =>
   rw[jf,e2]at h2
   refine⟨k,Ew rw' e2,?_⟩
   have r3:=r2.al al
   cases k with
   | false=>exact qV (Ok.from h2 al.grow F' S2 H' r3 (bK.refl ..) _ rfl)
   | true =>
    have h3:Ok X.K E σ F2 S2 H2 ((dc ε2).bind fun z ε3=>aW (g y z) ε3) (fun pv _ F' _ H'=>∀ v,aT X.K H' F' pv v->Q v H'):=h2
    refine qx (hc F' S2 ε2 σ H' _ r3 ((Ok.bind (Ok.from h3 al.grow)).imp fun z ε4 F4 S4 H4 r4 g4 h4 u4 ru4=>?_))
    cases e4:g y z with
    | none=>rw[e4]at h4; exact h4.elim
    | some pz =>
     rw[e4]at h4
     exact g9 F4 H4 y z u u4 Q pz ((al.rep ru).grow g4 r3.fit) ru4 e4 fun w5 F5 H5 al5 rw5=>h4 F5 S4 H5 (r4.al al5) al5.grow w5 rw5
theorem Gu{op op':CmpOp}{r r':R2}{f g:PV->PV->Option PV}(ho:bW X (d8 op) r)(gJ:bW X (d8 op') r')(hp:P2 X.K r f)(g9:P2 X.K r' g)(ha:DE X E a da)(hb:DE X E b db)(hc:DE X E c dc)
  (hm:lastMarks [op,op'] [b,c]=false:=by with_unfolding_all rfl):DE X E (.Compare a [op,op'] [b,c] pos) (o_ f g da db dc):=fun F S ε σ H Q rl h=>cE (Mv ho gJ cb cb cb hm) (BJ hp g9 ha hb hc rl h)
theorem Dv{op op':CmpOp}{r r':R2}{f g:PV->PV->Option PV}(ho:bW X (d8 op) r)(gJ:bW X (d8 op') r')(hp:P2 X.K r f)(g9:P2 X.K r' g)(ha:DE X E a da)(hb:DE X E b db)(hc:DE X E c dc)
  (hm:lastMarks [op,op'] [b,c]=false:=by with_unfolding_all rfl):DT X E (.Compare a [op,op'] [b,c] pos) (dB (o_ f g da db dc)):=fun F S ε σ H Q rl h =>
 sE (NR ho gJ cb cb cb hm) (BJ (Q:=fun x H'=>∃ k,x = .bl k/\Q k H') hp g9 ha hb hc rl (sU h))
variable{ta tb:ae->R Bool}{rest:List Expr}
def DW(X:Cx)(E:XK)(e:Expr)(d:ae->R Bool):Prop:=∀ F S ε σ H Q,aP X.K F S ε σ H->Ok X.K E σ F S H (d ε) (fun b _ _ _ H'=>Q b H')->∀ (g8:Sem Value) aa s,Inv X aa σ H s->wpAny (model X.prog X.w) X.A (isTrue e X.env g8) (TP X aa σ Q) X.xe s
def Qc(X:Cx)(e:Expr):TT:=fun σ H Q=>∀ (g8:Sem Value) aa s,Inv X aa σ H s->wpAny (model X.prog X.w) X.A (isTrue e X.env g8) (TP X aa σ Q) X.xe s
theorem Pe{e:Expr}:PW X e (Qc X e):=fun g8 aa s _ _ _ I h=>h g8 aa s I
theorem DW.dt{e:Expr}{d:ae->R Bool}(h:DW X E e d):DT X E e d:=fun F S ε σ H Q rl q=>⟨fun aa s I=>h F S ε σ H Q rl q _ aa s I⟩
def RF(ta tb:ae->R Bool):ae->R Bool:=fun ε=>(ta ε).bind fun k ε1=>match k with
 | true=>tb ε1
 | false=>.ok false ε1
def yx(ta tb:ae->R Bool):ae->R Bool:=fun ε=>(ta ε).bind fun k ε1=>match k with
 | true=>.ok true ε1
 | false=>tb ε1
def lA(ta:ae->R Bool):ae->R Bool:=fun ε=>(ta ε).bind fun k ε1=>.ok (!k) ε1
theorem CY(h:DT X E a ta):DW X E (.BoolOp .Or [a] pos) ta:=fun F S ε σ H Q rl q g8 aa s I=>IF q_ g8 aa s σ H Q I (h F S ε σ H Q rl q)
theorem FK(ha:DT X E a ta)(hb:DW X E (.BoolOp .Or (b::rest) pos) tb):DW X E (.BoolOp .Or (a::b::rest) pos) (yx ta tb):=fun F S ε σ H Q rl q g8 aa s I=>by
 refine LO q_ Pe g8 aa s σ H Q I (ha F S ε σ H _ rl ((Ok.bind q).imp fun k ε1 F1 S1 H1 r1 g1 h1=>?_))
 cases k with
 | true=>exact qx (h1 F1 S1 H1 r1 (bK.refl ..))
 | false=>exact qV (hb F1 S1 ε1 σ H1 Q r1 h1)
theorem ma(ha:DT X E a ta):DT X E (.UnaryOp .Not a pos) (lA ta):=fun F S ε σ H Q rl q =>
 sE (K8 q_) (ha F S ε σ H _ rl ((Ok.bind q).imp fun k ε1 F1 S1 H1 r1 g1 h1=>h1 F1 S1 H1 r1 (bK.refl ..)))
def nz(da db:ae->R PV):ae->R PV:=fun ε=>(dB da ε).bind fun k ε1=>match k with
 | true=>db ε1
 | false=>.ok (.bl false) ε1
def Rs(da db:ae->R PV):ae->R PV:=fun ε=>(dB da ε).bind fun k ε1=>match k with
 | true=>.ok (.bl true) ε1
 | false=>db ε1
def FO(da:ae->R PV):ae->R PV:=fun ε=>(dB da ε).bind fun k ε1=>.ok (.bl (!k)) ε1
theorem BY{d:ae->R PV}{β:Type}{D:β->ae->(Addr->Prop)->(Nat->Addr->Prop)->Hp->Prop}{k:Bool->ae->R β}{F:Addr->Prop}{S:Nat->Addr->Prop}{ε:ae}{σ:St}{H:Hp}{P:Bool->Hp->Prop}
  (h:Ok X.K E σ F S H ((dB d ε).bind k) D) (f:∀ c ε1 F1 S1 H1,aP X.K F1 S1 ε1 σ H1->bK (U S) (U S1) F F1 H H1->Ok X.K E σ F1 S1 H1 (k c ε1) D->P c H1) :
  Ok X.K E σ F S H (d ε) (fun pv _ F' _ H'=>∀ v,aT X.K H' F' pv v->∃ c,v = .bl c/\P c H'):=by
 have h2:=(Ok.bind h).imp (C':=fun c ε1 F1 S1 H1=>P c H1) fun c ε1 F1 S1 H1 r1 g1 h1=>f c ε1 F1 S1 H1 r1 g1 h1
 exact sU h2
theorem sh{op}{d:ae->R PV}(h:DE X E a d):DE X E (.BoolOp op [a] pos) d:=fun F S ε σ H Q rl q=>cE (Lc cb) (h F S ε σ H Q rl q)
theorem o9(ha:DE X E a da)(hb:DE X E (.BoolOp .And (b::rest) pos) db):DE X E (.BoolOp .And (a::b::rest) pos) (nz da db):=fun F S ε σ H Q rl q=>by
 refine cE (JA cb cb) (ha F S ε σ H _ rl (BY q fun k ε1 F1 S1 H1 r1 g1 h1=>?_))
 cases k with
 | true=>exact qx (hb F1 S1 ε1 σ H1 Q r1 h1)
 | false=>exact qV (h1 F1 S1 H1 r1 (bK.refl ..) _ rfl)
theorem LU(ha:DE X E a da):DE X E (.UnaryOp .Not a pos) (FO da):=fun F S ε σ H Q rl q =>
 cE (MW cb) (ha F S ε σ H _ rl (BY q fun k ε1 F1 S1 H1 r1 g1 h1=>h1 F1 S1 H1 r1 (bK.refl ..) _ rfl))
def c0{α:Type}(t:ae->R Bool)(da db:ae->R α):ae->R α:=fun ε=>(t ε).bind fun k ε1=>match k with
 | true=>da ε1
 | false=>db ε1
def P1(K:ao)(r:V->Hp->VK->Prop)(f:PV->Option PV):Prop:=∀ (F:Addr->Prop) (H:Hp) (x:PV) (v:V) (Q:VK) (pv:PV),aT K H F x v->f x=some pv->(∀ w F' H',Al F F' H H'->aT K H' F' pv w->Q w H')->r v H Q
def d1(f:PV->Option PV)(da:ae->R PV):ae->R PV:=fun ε=>(da ε).bind fun x ε1=>aW (f x) ε1
theorem Qz{r:V->Hp->VK->Prop}{f:PV->Option PV}(hp:P1 X.K r f)(ha:DE X E a da){F:Addr->Prop}{S:Nat->Addr->Prop}{ε:ae}{σ:St}{H:Hp}{Q:VK}(rl:aP X.K F S ε σ H)
  (h:Ok X.K E σ F S H (d1 f da ε) (fun pv _ F' _ H'=>∀ v,aT X.K H' F' pv v->Q v H')):jb X a σ H fun x H1=>r x H1 Q:=by
 refine ha F S ε σ H _ rl ((Ok.bind h).imp fun x ε1 F1 S1 H1 r1 g1 h1 v rv=>?_)
 cases e:f x with
 | none=>rw[e]at h1; exact h1.elim
 | some pv =>
  rw[e]at h1
  exact hp F1 H1 x v Q pv rv e fun w F' H' al rw'=>h1 F' S1 H' (r1.al al) al.grow w rw'
theorem vQ{op:UnaryOp}{r:V->Hp->VK->Prop}{f:PV->Option PV}(ho:xu X (unaryOp op) r)(hp:P1 X.K r f)(ha:DE X E a da):DE X E (.UnaryOp op a pos) (d1 f da):=fun F S ε σ H Q rl h =>
 cE (JE ho cb) (Qz hp ha rl h)
end
end Pu
namespace Pu
open L2
def ou(X:Cx)(es:List Expr):TA:=fun σ H Q=>Bx (∀ pos aa s,Inv X aa σ H s->wpAny (model X.prog X.w) X.A (spliced (eU pos (aZ es X.env))) (AP X aa σ Q) X.xe s)
def DA(X:Cx)(E:XK)(es:List Expr)(d:ae->R (List PV)):Prop :=
 ∀ F S ε σ H Q,aP X.K F S ε σ H->Ok X.K E σ F S H (d ε) (fun pvs _ F' _ H'=>∀ vs,a9 X.K H' F' pvs vs->Q vs H')->ou X es σ H Q
section
variable{X:Cx}{E:XK}{a b c e:Expr}{es:List Expr}{da db dc d:ae->R PV}{ds:ae->R (List PV)}{pos:Pos}
theorem gy{es:List Expr}:PA X es (ou X es):=fun pos aa s _ _ _ I h=>h.run pos aa s I
theorem oA{t:TA}(h:PA X es t){σ:St}{H:Hp}{Q:List V->Hp->Prop}(q:t σ H Q):ou X es σ H Q:=⟨fun pos aa s I=>h pos aa s σ H Q I q⟩
def aq:ae->R (List PV):=fun ε=>.ok [] ε
def ak(d:ae->R PV)(ds:ae->R (List PV)):ae->R (List PV):=fun ε=>(d ε).bind fun x ε1=>(ds ε1).bind fun xs ε2=>.ok (x::xs) ε2
theorem aQ:DA X E [] aq:=fun F S ε σ H Q rl h=>oA l9 (h F S H rl (bK.refl ..) _ rfl)
theorem KH(ha:DE X E e d)(hr:DA X E es ds)(hs:aZ (e::es) X.env=(false,eval e X.env)::aZ es X.env:=by rfl):DA X E (e::es) (ak d ds):=fun F S ε σ H Q rl h=>by
 refine oA (jU cb gy hs) (ha F S ε σ H _ rl ((Ok.bind h).imp fun x ε1 F1 S1 H1 r1 g1 h1 v rv=>?_))
 refine hr F1 S1 ε1 σ H1 _ r1 ((Ok.bind h1).imp fun xs ε2 F2 S2 H2 r2 g2 h2 vs i4=>?_)
 exact h2 F2 S2 H2 r2 (bK.refl ..) _ ⟨v,vs,rfl,rv.grow g2 r1.fit,i4⟩
theorem aP.more{K:ao}{F N:Addr->Prop}{S:Nat->Addr->Prop}{ε:ae}{σ:St}{H:Hp}(r:aP K F S ε σ H)(hn:∀ b,N b->¬ U S b/\∃ o,H b=some o):aP K (fun b=>F b\/N b) S ε σ H:=by
 have mono:∀ x v,aT K H F x v->aT K H (fun b=>F b\/N b) x v:=aT.mono (fun _ h=>.inl h) (fun _ _ _ q=>q) (fun _ _ q _=>q)
 have monos:∀ x v,a9 K H F x v->a9 K H (fun b=>F b\/N b) x v:=a9.mono (fun _ h=>.inl h) (fun _ _ _ q=>q) (fun _ _ q _=>q)
 refine⟨r.len,fun b h=>h.elim (r.ex b) fun z=>(hn b z).2,fun i pv e=>?_,fun i po e=>?_,fun i b h=>?_,r.dist⟩
 ·obtain⟨v,h1,h2⟩:=r.val i pv e; exact⟨v,h1,mono _ _ h2⟩
 ·obtain⟨v,h1,h2⟩:=r.own i po e; exact⟨v,h1,h2.mono mono monos fun _ _ _ z=>z⟩
 ·obtain⟨h1,h2,h3⟩:=r.foot i b h
  exact⟨h1,fun z=>z.elim h2 fun w=>(hn b w).1 ⟨i,h⟩,h3⟩
def D3:PO->Option PV
 | .lst xs=>some (.lst xs)
 | _=>none
def dF(d:ae->R PO):ae->R PV:=fun ε=>(d ε).bind fun po ε1=>aW (D3 po) ε1
theorem DN.de{d:ae->R PO}(h:DN X E e d):DE X E e (dF d):=fun F S ε σ H Q rl q=>by
 unfold dF at q
 refine h F S ε σ H Q rl ?_
 cases e0:d ε with
 | no=>rw[e0]at q; exact q.elim
 | er c ε'=>rw[e0]at q; exact q
 | ok po ε1 =>
  rw[e0]at q
  intro F1 S1 H1 r1 g1 a Sa ow fr
  cases po with
  | dK kvs=>exact q.elim
  | lls h_=>exact q.elim
  | ins C fs=>exact q.elim
  | lst xs =>
   have hN:∀ b,Sa b->¬ U S1 b/\∃ o,H1 b=some o:=fun b z=>let ⟨_,_,x3,o,x4,_⟩:=fr b z; ⟨x3,o,x4⟩
   obtain⟨⟨vs,ha,hr⟩,hS⟩:=ow
   have g2:bK (U S) (U S1) F (fun b=>F1 b\/Sa b) H H1:=⟨fun b z=>.inl (g1.fro b z),g1.keep,g1.there,fun b z=>z.elim (g1.fnew b) fun w=>.inr (.inl (fr b w).1),g1.onew⟩
   exact q _ S1 H1 (r1.more hN) g2 _ ⟨a,vs,rfl,.inl ha,.inr ((hS a).mpr rfl),a9.mono (fun _ z=>.inl z) (fun _ _ _ z=>z) (fun _ _ z _=>z) _ _ hr⟩
def i9(xs:List PV):Option PV:=if xs.length<=1000 then some (.tup xs)else none
def bU(xs:List PV):Option PO:=if xs.length<=1000 then some (.lst xs)else none
def dL{α:Type}(f:List PV->Option α)(ds:ae->R (List PV)):ae->R α:=fun ε=>(ds ε).bind fun xs ε1=>aW (f xs) ε1
def PL(K:ao)(r:List V->Hp->VK->Prop)(f:List PV->Option PV):Prop:=∀ (F:Addr->Prop) (H:Hp) (xs:List PV) (vs:List V) (Q:VK) (pv:PV),a9 K H F xs vs->f xs=some pv->(∀ w F' H',Al F F' H H'->aT K H' F' pv w->Q w H')->r vs H Q
def ox(K:ao)(r:List V->Hp->VK->Prop)(f:List PV->Option PO):Prop:=∀ (F:Addr->Prop) (H:Hp) (xs:List PV) (vs:List V) (Q:VK) (po:PO),(∀ a,F a->∃ o,H a=some o)->a9 K H F xs vs->f xs=some po ->
 (∀ a F' H' Sa,Al F F' H H'->fW K H' F' po a Sa->(∀ b,Sa b->H b=none/\¬ F' b/\∃ o,H' b=some o/\gb o)->Q (.ref a) H')->r vs H Q
theorem y0{r:List V->Hp->VK->Prop}{f:List PV->Option PV}(hp:PL X.K r f)(hd:DA X E es ds){F:Addr->Prop}{S:Nat->Addr->Prop}{ε:ae}{σ:St}{H:Hp}{Q:VK}(rl:aP X.K F S ε σ H)
  (h:Ok X.K E σ F S H (dL f ds ε) (fun pv _ F' _ H'=>∀ v,aT X.K H' F' pv v->Q v H')):ou X es σ H fun xs H1=>r xs H1 Q:=by
 refine hd F S ε σ H _ rl ((Ok.bind h).imp fun xs ε1 F1 S1 H1 r1 g1 h1 vs i4=>?_)
 cases e:f xs with
 | none=>rw[e]at h1; exact h1.elim
 | some pv =>
  rw[e]at h1
  exact hp F1 H1 xs vs Q pv i4 e fun w F' H' al rw'=>h1 F' S1 H' (r1.al al) al.grow w rw'
theorem nB{O O' F F':Addr->Prop}{H H':Hp}(g:bK O O' F F' H H'){b:Addr}(h:H' b=none):H b=none:=by
 cases q:H b with
 | none=>rfl
 | some o=>obtain⟨o',e⟩:=g.there b o q; rw[h]at e; cases e
theorem xf{r:List V->Hp->VK->Prop}{f:List PV->Option PO}(hp:ox X.K r f)(hd:DA X E es ds){F:Addr->Prop}{S:Nat->Addr->Prop}{ε:ae}{σ:St}{H:Hp}{Q:VK}(rl:aP X.K F S ε σ H)
  (h:Ok X.K E σ F S H (dL f ds ε) (fun po _ F' S' H'=>∀ a Sa,fW X.K H' F' po a Sa->(∀ b,Sa b->H b=none/\¬ F' b/\¬ U S' b/\∃ o,H' b=some o/\gb o)->Q (.ref a) H')):ou X es σ H fun xs H1=>r xs H1 Q:=by
 refine hd F S ε σ H _ rl ((Ok.bind h).imp fun xs ε1 F1 S1 H1 r1 g1 h1 vs i4=>?_)
 cases e:f xs with
 | none=>rw[e]at h1; exact h1.elim
 | some po =>
  rw[e]at h1
  refine hp F1 H1 xs vs Q po r1.ex i4 e fun a F' H' Sa al ow fr=>h1 F' S1 H' (r1.al al) al.grow a Sa ow fun b z=>?_
  obtain⟨z1,z2,o,z3,z4⟩:=fr b z
  refine⟨nB g1 z1,z2,fun⟨i,w⟩=>?_,o,z3,z4⟩
  obtain⟨_,_,o',w1,_⟩:=r1.foot i b w
  rw[z1]at w1; cases w1
theorem zt{n:Nat}(h:n<=1000):n<=a7:=lM (BM h)
theorem Lu{K:ao}:PL K (fun xs H Q=>xs.length<=a7/\∀ p,H p=none->Q (.ref p) (upd H p (.tup xs))) i9:=fun F H xs vs Q pv rs e q=>by
 unfold i9 at e
 split at e
 ·cases e
  refine⟨by rw[rs.len]; exact zt (by assumption),fun p hp=>q _ F _ (Al.new0 hp) ⟨p,vs,rfl,bA,(Al.new0 hp).reps rs⟩⟩
 ·cases e
theorem xm{K:ao}{F:Addr->Prop}{H:Hp}{l:Addr}{xs:List PV}{vs:List V}(hl:H l=none)(rs:a9 K H F xs vs):fW K (upd H l (.lst vs)) F (.lst xs) l (fun b=>b=l):=⟨⟨vs,bA,(Al.new0 hl).reps rs⟩,fun b=>pF⟩
theorem xi{F:Addr->Prop}{H:Hp}{l:Addr}{o:HO}(hl:H l=none)(hF:∀ a,F a->∃ o,H a=some o)(hn:gb o):∀ b,b=l->H b=none/\¬ F b/\∃ o',(upd H l o) b=some o'/\gb o':=fun b z=>by
 subst z
 exact⟨hl,(fun w=>by obtain⟨o,q⟩:=hF b w; rw[hl]at q; cases q),o,bA,hn⟩
theorem Oe{K:ao}:ox K (fun xs H Q=>xs.length<=a7/\∀ p,H p=none->Q (.ref p) (upd H p (.lst xs))) bU:=fun F H xs vs Q po hF rs e q=>by
 unfold bU at e
 split at e
 ·cases e
  exact⟨by rw[rs.len]; exact zt (by assumption),fun p hp=>q p F _ _ (Al.new0 hp) (xm hp rs) (xi hp hF trivial)⟩
 ·cases e
theorem xw{x1}(h:DA X E es ds):DE X E (.Tuple es x1 pos) (dL i9 ds):=fun F S ε σ H Q rl q=>cE (KS gy) (y0 Lu h rl q)
theorem lJ(h:DA X E es ds):DN X E (.List es pos) (dL bU ds):=fun F S ε σ H Q rl q=>cE (IH gy) (xf Oe h rl q)
theorem mZ(h:DA X E es ds):DE X E (.List es pos) (dF (dL bU ds)):=(lJ h).de
variable{x:Str}{p:Pos}{id T:String}{r:List V->Hp->VK->Prop}{f:List PV->Option PV}{fn:List PV->Option PO}
theorem cM(hc:fP X (.builtin id) r)(hp:PL X.K r f)(hm:X.mg x=none)(hv:eE x=some (.builtin id))(ha:DA X E (e::es) ds)(hg:Gl X x:=by rfl)(hn:x≠"__name__":=by decide)(iW:(x == ("__debug__" : Str))=false:=by decide)
  (he:aZ (e::es) X.env=(false,eval e X.env)::aZ es X.env:=by rfl) (cL:(eU pos (aZ es X.env)).any (·.1)=false:=by rfl):DE X E (.Call (.Name x p) (e::es) [] pos) (dL f ds):=fun F S ε σ H Q rl q =>
 cE (pc hc hg hm hv gy hn iW he cL) (y0 hp ha rl q)
theorem B8(hc:fP X (.builtin id) r)(hp:ox X.K r fn)(hm:X.mg x=none)(hv:eE x=some (.builtin id))(ha:DA X E (e::es) ds)(hg:Gl X x:=by rfl)(hn:x≠"__name__":=by decide)(iW:(x == ("__debug__" : Str))=false:=by decide)
  (he:aZ (e::es) X.env=(false,eval e X.env)::aZ es X.env:=by rfl) (cL:(eU pos (aZ es X.env)).any (·.1)=false:=by rfl):DN X E (.Call (.Name x p) (e::es) [] pos) (dL fn ds):=fun F S ε σ H Q rl q =>
 cE (pc hc hg hm hv gy hn iW he cL) (xf hp ha rl q)
theorem Pk(hc:fP X (.type T) r)(hp:PL X.K r f)(hm:X.mg x=none)(hv:eE x=some (.type T))(ha:DA X E (e::es) ds)(hg:Gl X x:=by rfl)(hn:x≠"__name__":=by decide)(iW:(x == ("__debug__" : Str))=false:=by decide)
  (he:aZ (e::es) X.env=(false,eval e X.env)::aZ es X.env:=by rfl) (cL:(eU pos (aZ es X.env)).any (·.1)=false:=by rfl):DE X E (.Call (.Name x p) (e::es) [] pos) (dL f ds):=fun F S ε σ H Q rl q =>
 cE (t6 hc hg hm hv gy hn iW he cL) (y0 hp ha rl q)
theorem MY(hc:fP X (.type T) r)(hp:ox X.K r fn)(hm:X.mg x=none)(hv:eE x=some (.type T))(ha:DA X E (e::es) ds)(hg:Gl X x:=by rfl)(hn:x≠"__name__":=by decide)(iW:(x == ("__debug__" : Str))=false:=by decide)
  (he:aZ (e::es) X.env=(false,eval e X.env)::aZ es X.env:=by rfl) (cL:(eU pos (aZ es X.env)).any (·.1)=false:=by rfl):DN X E (.Call (.Name x p) (e::es) [] pos) (dL fn ds):=fun F S ε σ H Q rl q =>
 cE (t6 hc hg hm hv gy hn iW he cL) (xf hp ha rl q)
theorem eN{r:R2}{f:PV->PV->Option PV}(hr:ml X r)(hp:P2 X.K r f)(ha:DE X E a da)(hb:DE X E b db)(hs:Ft b:=by exact fun _ _=>rfl):DE X E (.Subscript a b pos) (d2 f da db):=fun F S ε σ H Q rl h =>
 cE (OK hr cb cb hs) (wj hp ha hb rl h)
def zI(X:Cx)(e:Option Expr):TO:=fun σ H Q=>Bx (∀ aa s,Inv X aa σ H s->wpAny (model X.prog X.w) X.A (evalPart e X.env) (fun u s'=>∃ o H',Inv X aa σ H' s'/\IsPart u o/\Q o H') X.xe s)
theorem E9{o:Option Expr}:L2.PO X o (zI X o):=fun aa s _ _ _ I h=>h.run aa s I
theorem Fz{o:Option Expr}{t:TO}(h:L2.PO X o t){σ:St}{H:Hp}{Q:Option Int->Hp->Prop}(q:t σ H Q):zI X o σ H Q:=⟨fun aa s I=>h aa s σ H Q I q⟩
def DO(X:Cx)(E:XK)(e:Option Expr)(d:ae->R (Option Int)):Prop:=∀ F S ε σ H Q,aP X.K F S ε σ H->Ok X.K E σ F S H (d ε) (fun o _ _ _ H'=>Q o H')->zI X e σ H Q
def bI:ae->R (Option Int):=fun ε=>.ok none ε
def NO:PV->Option Int
 | .int i=>some i
 | _=>none
def az(d:ae->R PV):ae->R (Option Int):=fun ε=>(d ε).bind fun x ε1=>aW ((NO x).map some) ε1
theorem ij:DO X E none bI:=fun F S ε σ H Q rl h=>Fz J1 (h F S H rl (bK.refl ..))
theorem cI(he:DE X E e d):DO X E (some e) (az d):=fun F S ε σ H Q rl h=>by
 refine Fz (L7 cb) (he F S ε σ H _ rl ((Ok.bind h).imp fun x ε1 F1 S1 H1 r1 g1 h1 v rv=>?_))
 cases x <;> first | exact(show False from h1).elim | skip
 rename_i i
 exact⟨i,rv,h1 F1 S1 H1 r1 (bK.refl ..)⟩
def aM{α:Type}(f:PV->Option Int->Option Int->Option α)(d:ae->R PV)(dl du:ae->R (Option Int)):ae->R α:=fun ε=>(d ε).bind fun x ε1=>(dl ε1).bind fun l ε2=>(du ε2).bind fun u ε3=>aW (f x l u) ε3
def FQ(K:ao)(r:V->Option Int->Option Int->Hp->VK->Prop)(f:PV->Option Int->Option Int->Option PV):Prop:=∀ (F:Addr->Prop) (H:Hp) (x:PV) (lo hi:Option Int) (v:V) (Q:VK) (pv:PV),aT K H F x v->f x lo hi=some pv->(∀ w F' H',Al F F' H H'->aT K H' F' pv w->Q w H')->r v lo hi H Q
theorem d7{r:V->Option Int->Option Int->Hp->VK->Prop}{f:PV->Option Int->Option Int->Option PV}{lo hi:Option Expr}{dl du:ae->R (Option Int)}{p2:Pos}(hr:l_ X r)(hp:FQ X.K r f)(he:DE X E e d)(hl:DO X E lo dl)(hu:DO X E hi du) :
  DE X E (.Subscript e (.Slice lo hi none p2) pos) (aM f d dl du):=fun F S ε σ H Q rl h=>by
 refine cE (KP hr cb E9 E9) (he F S ε σ H _ rl ((Ok.bind h).imp fun x ε1 F1 S1 H1 r1 g1 h1 v rv=>?_))
 refine hl F1 S1 ε1 σ H1 _ r1 ((Ok.bind h1).imp fun l ε2 F2 S2 H2 r2 g2 h2=>?_)
 refine hu F2 S2 ε2 σ H2 _ r2 ((Ok.bind h2).imp fun u ε3 F3 S3 H3 r3 g3 h3=>?_)
 cases e3:f x l u with
 | none=>rw[e3]at h3; exact h3.elim
 | some pv =>
  rw[e3]at h3
  exact hp F3 H3 x l u v Q pv ((rv.grow g2 r1.fit).grow g3 r2.fit) e3 fun w F' H' al rw'=>h3 F' S3 H' (r3.al al) al.grow w rw'
end
end Pu
namespace Pu
open L2
inductive ax where
 | next | ret (s:Slot) | brk | cont
def vt(K:ao)(H:Hp)(F:Addr->Prop)(s:Slot)(v:V)(Sr:Addr->Prop):Prop:=match s with
 | .val pv=>aT K H F pv v/\∀ b,¬ Sr b
 | .own po=>∃ a,v = .ref a/\fW K H F po a Sr
 | .none=>False
def jC(pin:List Nat)(σ σ':St):Prop:=∀ i∈pin,σ'[i]?=σ[i]?
theorem jC.refl(pin:List Nat)(σ:St):jC pin σ σ:=fun _ _=>rfl
theorem jC.trans{pin:List Nat}{σ σ1 σ2:St}(a:jC pin σ σ1)(b:jC pin σ1 σ2):jC pin σ σ2:=fun i h=>(b i h).trans (a i h)
theorem jC.set{pin:List Nat}{σ:St}{i:Nat}{x:Option V}(h:i∉pin):jC pin σ (σ.set i x):=fun j hj=>by
 rw[eF (by rintro rfl; exact h hj)]
def xo(F':Addr->Prop)(S':Nat->Addr->Prop)(H':Hp)(Sr:Addr->Prop):Prop:=∀ b,Sr b->¬ F' b/\¬ U S' b/\∃ o,H' b=some o/\gb o
def iL(K:ao)(E:XK)(pin:List Nat)(σ:St)(F:Addr->Prop)(S:Nat->Addr->Prop)(H:Hp)(r:R ax)(D:lp):Prop:=match r with
 | .ok .next ε'=>∀ F' S' σ' H',aP K F' S' ε' σ' H'->bK (U S) (U S') F F' H H'->jC pin σ σ'->D.nx σ' H'
 | .ok .brk ε'=>∀ F' S' σ' H',aP K F' S' ε' σ' H'->bK (U S) (U S') F F' H H'->jC pin σ σ'->D.bk σ' H'
 | .ok .cont ε'=>∀ F' S' σ' H',aP K F' S' ε' σ' H'->bK (U S) (U S') F F' H H'->jC pin σ σ'->D.ct σ' H'
 | .ok (.ret s) ε'=>∀ v F' S' σ' H' Sr,aP K F' S' ε' σ' H'->bK (U S) (fun b=>U S' b\/Sr b) F F' H H'->jC pin σ σ'->vt K H' F' s v Sr->xo F' S' H' Sr->D.rt v H'
 | .er c ε'=>∀ x F' S' σ' H',aP K F' S' ε' σ' H'->bK (U S) (U S') F F' H H'->jC pin σ σ'->E c x H'
 | .no=>False
def DS(X:Cx)(E:XK)(pin:List Nat)(st:Stmt)(d:ae->R ax):Prop:=∀ F S ε σ H D,aP X.K F S ε σ H->iL X.K E pin σ F S H (d ε) D->wpS X st D σ H
def jy(X:Cx)(E:XK)(pin:List Nat)(st:List Stmt)(d:ae->R ax):Prop:=∀ F S ε σ H D,aP X.K F S ε σ H->iL X.K E pin σ F S H (d ε) D->t7 X st D σ H
section
variable{K:ao}{E:XK}{pin:List Nat}{σ σ1:St}{F F1:Addr->Prop}{S S1:Nat->Addr->Prop}{H H1:Hp}{D:lp}
theorem iL.from{r:R ax}(h:iL K E pin σ F S H r D)(g:bK (U S) (U S1) F F1 H H1)(p:jC pin σ σ1):iL K E pin σ1 F1 S1 H1 r D:=by
 cases r with
 | no=>exact h
 | er c ε'=>exact fun x F' S' σ' H' r' g' p'=>h x F' S' σ' H' r' (g.trans g') (p.trans p')
 | ok f ε' =>
  cases f with
  | next=>exact fun F' S' σ' H' r' g' p'=>h F' S' σ' H' r' (g.trans g') (p.trans p')
  | brk=>exact fun F' S' σ' H' r' g' p'=>h F' S' σ' H' r' (g.trans g') (p.trans p')
  | cont=>exact fun F' S' σ' H' r' g' p'=>h F' S' σ' H' r' (g.trans g') (p.trans p')
  | ret s=>exact fun v F' S' σ' H' Sr r' g' p'=>h v F' S' σ' H' Sr r' (g.trans g') (p.trans p')
theorem iL.bindE{α:Type}{r:R α}{k:α->ae->R ax}(h:iL K E pin σ F S H (r.bind k) D):Ok K E σ F S H r (fun a ε1 F1 S1 H1=>iL K E pin σ F1 S1 H1 (k a ε1) D):=by
 cases r with
 | no=>exact h
 | er c ε'=>exact fun x F' S' H' r' g'=>h x F' S' σ H' r' g' (jC.refl _ _)
 | ok a ε'=>exact fun F' S' H' r' g'=>h.from g' (jC.refl _ _)
end
section
variable{X:Cx}{E:XK}{pin:List Nat}{st:Stmt}{rest:List Stmt}{d d1 d2:ae->R ax}{e:Expr}{de:ae->R PV}{pos:Pos}
def dD:ae->R ax:=fun ε=>.ok .next ε
theorem f_:jy X E pin [] dD:=fun F S ε σ H D rl h=>Ap Lp (h F S σ H rl (bK.refl ..) (jC.refl _ _))
def aA(d1 d2:ae->R ax):ae->R ax:=fun ε=>match d1 ε with
 | .ok .next ε1=>d2 ε1
 | r=>r
theorem bd(h1:DS X E pin st d1)(h2:jy X E pin rest d2):jy X E pin (st::rest) (aA d1 d2):=fun F S ε σ H D rl h=>by
 refine Ap (O3 F9 qY) (h1 F S ε σ H { D with nx:=t7 X rest D } rl ?_)
 unfold aA at h
 split at h
 ·rename_i ε1 e1
  rw[e1]
  exact fun F' S' σ' H' r' g' p'=>h2 F' S' ε1 σ' H' D r' (h.from g' p')
 ·rename_i r b9
  generalize d1 ε=r1 at h b9
  cases r1 with
  | no=>exact h
  | er c ε'=>exact h
  | ok f ε' =>
   cases f with
   | next=>exact absurd rfl (b9 ε')
   | brk=>exact h
   | cont=>exact h
   | ret s=>exact h
theorem aU(h1:DS X E pin st d1):jy X E pin [st] d1:=fun F S ε σ H D rl h=>Ap (MF F9) (h1 F S ε σ H D rl h)
def FF(f:ax):ae->R ax:=fun ε=>.ok f ε
def RS(d:ae->R PV):ae->R ax:=fun ε=>(d ε).bind fun _ ε1=>.ok .next ε1
def cY(d:ae->R PV):ae->R ax:=fun ε=>(d ε).bind fun x ε1=>.ok (.ret (.val x)) ε1
theorem bK.cup{O O' F F':Addr->Prop}{H H':Hp}(g:bK O O' F F' H H'):bK O (fun b=>O' b\/False) F F' H H':=⟨g.fro,g.keep,g.there,g.fnew,fun a h=>h.elim (g.onew a) jI⟩
theorem eK(he:DE X E e de):DS X E pin (.Return (some e) pos) (cY de):=fun F S ε σ H D rl h =>
 iH (wl cb) (he F S ε σ H _ rl (h.bindE.imp fun x ε1 F1 S1 H1 r1 g1 h1 v rv=>h1 v F1 S1 σ H1 (fun _=>False) r1 (bK.refl ..).cup (jC.refl _ _) ⟨rv,fun _ z=>z⟩ fun _ z=>z.elim))
theorem J6:DS X E pin (.Return none pos) (FF (.ret (.val .non))):=fun F S ε σ H D rl h=>iH MP (h _ F S σ H (fun _=>False) rl (bK.refl ..).cup (jC.refl _ _) ⟨rfl,fun _ z=>z⟩ fun _ z=>z.elim)
def jV(d:ae->R PO):ae->R ax:=fun ε=>(d ε).bind fun x ε1=>.ok (.ret (.own x)) ε1
theorem tf{dn:ae->R PO}(he:DN X E e dn):DS X E pin (.Return (some e) pos) (jV dn):=fun F S ε σ H D rl h=>by
 refine iH (wl cb) (he F S ε σ H _ rl ?_)
 unfold jV at h
 cases e0:dn ε with
 | no=>rw[e0]at h; exact h.elim
 | er c ε'=>rw[e0]at h; exact fun x F' S' H' r' g'=>h x F' S' σ H' r' g' (jC.refl _ _)
 | ok po ε1 =>
  rw[e0]at h
  intro F1 S1 H1 r1 g1 a Sa ow fr
  exact h _ F1 S1 σ H1 Sa r1 ⟨g1.fro,g1.keep,g1.there,g1.fnew,fun b z=>z.elim (g1.onew b) fun w=>.inr (fr b w).1⟩ (jC.refl _ _) ⟨a,rfl,ow⟩ fun b z=>let ⟨_,x2,x3,x4⟩:=fr b z; ⟨x2,x3,x4⟩
def gA(i:Nat):ae->R ax:=fun ε=>match ε[i]? with
 | some (.own po)=>.ok (.ret (.own po)) (ε.set i .none)
 | _=>.no
theorem aP.drop{K:ao}{F:Addr->Prop}{S:Nat->Addr->Prop}{ε:ae}{σ:St}{H:Hp}(r:aP K F S ε σ H)(i:Nat):aP K F (fun j b=>S j b/\j≠i) (ε.set i .none) σ H:=by
 have no:∀ {j s},(ε.set i .none)[j]?=some s->s≠.none->j≠i/\ε[j]?=some s:=fun {j s} e hs=>by
  by_cases hj:i=j
  ·subst hj
   by_cases hi:i<ε.length
   ·rw[gC hi]at e; exact absurd (dE e).symm hs
   ·rw[iB (by rw[ke]; ac_rfl)]at e; cases e
  ·rw[eF hj]at e; exact⟨fi hj,e⟩
 refine⟨by rw[ke]; exact r.len,r.ex,fun j pv e=>r.val j pv (no e (by intro z; cases z)).2,fun j po e=>?_,fun j b h=>?_,fun j k b h1 h2=>r.dist j k b h1.1 h2.1⟩
 ·obtain⟨hj,e⟩:=no e (by intro z; cases z)
  obtain⟨a,h1,h2⟩:=r.own j po e
  have eS:(fun b=>S j b/\j≠i)=S j:=by funext b; simp[hj]
  exact⟨a,h1,by rw[eS]; exact h2⟩
 ·obtain⟨⟨po,q1⟩,q2⟩:=r.foot j b h.1
  exact⟨⟨po,by rw[eF (fi h.2)]; exact q1⟩,q2⟩
theorem oM(i:Nat){x:Str}{p:Pos}(hN:X.N[i]?=some x:=by rfl)(hv:ft X.env.scope x:=by first | exact Or.inl rfl | exact Or.inr (Or.inl rfl) | exact Or.inr (Or.inr rfl))(hd:(x == ("__debug__" : Str))=false:=by decide)
  (bF:(x == ("__classdict__" : Str))=false:=by decide):DS X E pin (.Return (some (.Name x p)) pos) (gA i):=fun F S ε σ H D rl h=>by
 unfold gA at h
 split at h
 ·rename_i po e
  obtain⟨a,e1,ow⟩:=rl.own i po e
  refine iH (wl (iw hN hv hd bF)) ⟨_,e1,h _ F (fun j b=>S j b/\j≠i) σ H (S i) (rl.drop i) ⟨fun _ z=>z,fun _ _ z _=>z,fun _ o z=>⟨o,z⟩,fun _ z=>.inl z,fun b z=>?_⟩ (jC.refl _ _) ⟨a,rfl,ow⟩ fun b z=>?_⟩
  ·rcases z with⟨j,z,_⟩ | z
   ·exact .inl ⟨j,z⟩
   ·exact .inl ⟨i,z⟩
  ·exact⟨(rl.foot i b z).2.1,fun⟨j,w,hj⟩=>hj (rl.dist j i b w z),(rl.foot i b z).2.2⟩
 ·exact h.elim
theorem aP.set{K:ao}{F:Addr->Prop}{S:Nat->Addr->Prop}{ε:ae}{σ:St}{H:Hp}{i:Nat}{pv:PV}{v:V}(r:aP K F S ε σ H)(h:aT K H F pv v):aP K F (fun j b=>S j b/\j≠i) (ε.set i (.val pv)) (σ.set i (some v)) H:=by
 have r0:=r.drop i
 have len:(ε.set i (.val pv)).length=(σ.set i (some v)).length:=by rw[ke,ke]; exact r.len
 refine⟨len,r.ex,fun j p e=>?_,fun j po e=>?_,fun j b h=>?_,r0.dist⟩
 ·by_cases hj:i=j
  ·subst hj
   have hi:i<ε.length:=by
    have:=(dP.mp e).1
    rw[ke]at this; exact this
   rw[gC hi]at e
   cases e
   exact⟨v,gC (by rw[← r.len]; exact hi),h⟩
  ·rw[eF hj]at e
   obtain⟨w,h1,h2⟩:=r.val j p e
   exact⟨w,by rw[eF hj]; exact h1,h2⟩
 ·have hj:i≠j:=by
   rintro rfl
   have hi:i<ε.length:=by
    have:=(dP.mp e).1
    rw[ke]at this; exact this
   rw[gC hi]at e; cases e
  rw[eF hj]at e
  obtain⟨a,h1,h2⟩:=r.own j po e
  have eS:(fun b=>S j b/\j≠i)=S j:=by funext b; simp[fi hj]
  exact⟨a,by rw[eF hj]; exact h1,by rw[eS]; exact h2⟩
 ·obtain⟨⟨po,q1⟩,q2⟩:=r0.foot j b h
  refine⟨⟨po,?_⟩,q2⟩
  rw[eF (fi h.2)]at q1 ⊢
  exact q1
theorem bK.less{S:Nat->Addr->Prop}{F:Addr->Prop}{H:Hp}(i:Nat):bK (U S) (U fun j b=>S j b/\j≠i) F F H H:=⟨fun _ z=>z,fun _ _ z _=>z,fun _ o z=>⟨o,z⟩,fun _ z=>.inl z,fun b ⟨j,z⟩=>.inl ⟨j,z.1⟩⟩
theorem aP.setOwn{K:ao}{F:Addr->Prop}{S:Nat->Addr->Prop}{ε:ae}{σ:St}{H:Hp}{i:Nat}{po:PO}{a:Addr}{Sa:Addr->Prop}(r:aP K F S ε σ H)(hi:i<ε.length)(h:fW K H F po a Sa)(fr:xo F S H Sa) :
  aP K F (fun j b=>(S j b/\j≠i)\/(j=i/\Sa b)) (ε.set i (.own po)) (σ.set i (some (.ref a))) H:=by
 have r0:=r.drop i
 refine⟨by rw[ke,ke]; exact r.len,r.ex,fun j p e=>?_,fun j po' e=>?_,fun j b h=>?_,fun j k b h1 h2=>?_⟩
 ·have hj:i≠j:=by rintro rfl; rw[gC hi]at e; cases e
  rw[eF hj]at e
  obtain⟨w,h1,h2⟩:=r.val j p e
  exact⟨w,by rw[eF hj]; exact h1,h2⟩
 ·by_cases hj:i=j
  ·subst hj
   rw[gC hi]at e
   cases e
   have eS:(fun b=>(S i b/\i≠i)\/(i=i/\Sa b))=Sa:=by funext b; simp
   exact⟨a,gC (by rw[← r.len]; exact hi),by rw[eS]; exact h⟩
  ·rw[eF hj]at e
   obtain⟨a',h1,h2⟩:=r.own j po' e
   have eS:(fun b=>(S j b/\j≠i)\/(j=i/\Sa b))=S j:=by funext b; simp[fi hj]
   exact⟨a',by rw[eF hj]; exact h1,by rw[eS]; exact h2⟩
 ·rcases h with h | ⟨rfl,h⟩
  ·obtain⟨⟨po',q1⟩,q2⟩:=r0.foot j b h
   refine⟨⟨po',?_⟩,q2⟩
   rw[eF (fi h.2)]at q1 ⊢
   exact q1
  ·obtain⟨x1,x2,x3⟩:=fr b h
   exact⟨⟨po,gC hi⟩,x1,x3⟩
 ·rcases h1 with h1 | ⟨rfl,h1⟩ <;> rcases h2 with h2 | ⟨rfl,h2⟩
  ·exact r.dist j k b h1.1 h2.1
  ·exact absurd ⟨j,h1.1⟩ (fr b h2).2.1
  ·exact absurd ⟨k,h2.1⟩ (fr b h1).2.1
  ·rfl
def bz(i:Nat)(d:ae->R PV):ae->R ax:=fun ε=>(d ε).bind fun x ε1=>.ok .next (ε1.set i (.val x))
theorem eh(i:Nat){x:Str}{p:Pos}(hN:X.N.Nodup)(he:DE X E e de)(hp:i∉pin:=by decide)(hi:X.N[i]?=some x:=by rfl)(hx:Loc X.env.scope x:=by first | exact Or.inl rfl | exact Or.inr rfl)(hs:nO e (some (.Name x p)) pos.line X.env=pure false:=by rfl)
  (hf:X.fn x=true\/X.env.scope.names.lookup x=some .local:=by first | exact .inl rfl | exact .inr rfl):DS X E pin (.Assign [.Name x p] e pos) (bz i de):=fun F S ε σ H D rl h =>
 iH (BI hN hi hx cb hs hf) (he F S ε σ H _ rl (h.bindE.imp fun x ε1 F1 S1 H1 r1 g1 h1 v rv=>h1 F1 _ _ H1 (r1.set rv) (bK.less i) (jC.set hp)))
def cZ(i:Nat)(d:ae->R PO):ae->R ax:=fun ε=>(d ε).bind fun x ε1=>if i<ε1.length then .ok .next (ε1.set i (.own x))else .no
theorem j1(i:Nat){x:Str}{p:Pos}{dn:ae->R PO}(hN:X.N.Nodup)(he:DN X E e dn)(hp:i∉pin:=by decide)(hi:X.N[i]?=some x:=by rfl)(hx:Loc X.env.scope x:=by first | exact Or.inl rfl | exact Or.inr rfl)(hs:nO e (some (.Name x p)) pos.line X.env=pure false:=by rfl)
  (hf:X.fn x=true\/X.env.scope.names.lookup x=some .local:=by first | exact .inl rfl | exact .inr rfl):DS X E pin (.Assign [.Name x p] e pos) (cZ i dn):=fun F S ε σ H D rl h=>by
 refine iH (BI hN hi hx cb hs hf) (he F S ε σ H _ rl ?_)
 unfold cZ at h
 cases e0:dn ε with
 | no=>rw[e0]at h; exact h.elim
 | er c ε'=>rw[e0]at h; exact fun x F' S' H' r' g'=>h x F' S' σ H' r' g' (jC.refl _ _)
 | ok po ε1 =>
  rw[e0]at h
  simp only[R.bind_ok]at h
  intro F1 S1 H1 r1 g1 a Sa ow fr
  by_cases hl:i<ε1.length
  ·rw[if_pos hl]at h
   refine h F1 _ _ H1 (r1.setOwn hl ow fun b z=>(fr b z).2) ⟨g1.fro,g1.keep,g1.there,g1.fnew,fun b ⟨j,z⟩=>?_⟩ (jC.set hp)
   rcases z with z | ⟨_,z⟩
   ·exact g1.onew b ⟨j,z.1⟩
   ·exact .inr (fr b z).1
  ·rw[if_neg hl]at h; exact h.elim
theorem ge{c:Expr}{a b:List Stmt}{t:ae->R Bool}(hc:DT X E c t)(ha:jy X E pin a d1)(hb:jy X E pin b d2):DS X E pin (.If c a b pos) (c0 t d1 d2):=fun F S ε σ H D rl h=>by
 refine iH (NB q_ qY qY) (hc F S ε σ H _ rl (h.bindE.imp fun k ε1 F1 S1 H1 r1 g1 h1=>?_))
 cases k with
 | true=>exact qx (ha F1 S1 ε1 σ H1 D r1 h1)
 | false=>exact qV (hb F1 S1 ε1 σ H1 D r1 h1)
def ET:ae->R ax:=fun _=>.no
theorem QU{sts:List Stmt}:jy X E pin sts ET:=fun _ _ _ _ _ _ _ h=>h.elim
def cu(r:R ax):R ax:=match r with
 | .er _ _=>.no
 | r=>r
theorem j6(h:DS X.nox E0 pin st d):DS X E pin st (fun ε=>cu (d ε)):=fun F S ε σ H D rl q=>Bx.mk fun aa s I=>by
 have q:iL X.K E pin σ F S H (cu (d ε)) D:=q
 have q':iL X.K E0 pin σ F S H (d ε) D:=by
  cases e:d ε with
  | no=>rw[e]at q; exact q
  | er c ε'=>rw[e]at q; exact q.elim
  | ok f ε'=>rw[e]at q; cases f <;> exact q
 exact dG ((h F S ε σ H D rl q').run aa s (I.wish _)) (fun _ _ z=>z.unwish) fun _ _ z=>z.elim
def tJ(X:Cx)(tg iter:Expr):TI:=fun σ H Rr=>Bx (∀ aa s,Inv X aa σ H s->wpAny (model X.prog X.w) X.A (eval iter X.env) (fun v s1=>wpAny (model X.prog X.w) X.A (pyIter v) (vh X aa σ tg Rr) X.xe s1) X.xe s)
theorem FZ{tg iter:Expr}:PI X tg iter (tJ X tg iter):=fun aa s _ _ _ I h=>h.run aa s I
theorem Cy{tg iter:Expr}{t:TI}(h:PI X tg iter t){σ:St}{H:Hp}{Rr:It->Hp->Prop}(q:t σ H Rr):tJ X tg iter σ H Rr:=⟨fun aa s I=>h aa s σ H Rr I q⟩
def DI(X:Cx)(E:XK)(tg iter:Expr)(d:ae->R (List PV)):Prop:=∀ F S ε σ H Rr,aP X.K F S ε σ H ->
 Ok X.K E σ F S H (d ε) (fun pvs _ F' S' H'=>∀ J vs RR,a9 X.K H' F' pvs vs->vs.length<=a7->Walk J vs RR->(∀ S'' F'' H'',bK (U S') (U S'') F' F'' H' H''->RR H'')->Rr J H')->tJ X tg iter σ H Rr
def dJ(i:Nat)(db:ae->R ax):List PV->ae->R ax
 | [],ε=>.ok .next ε
 | x::xs,ε=>match db (ε.set i (.val x))with
  | .ok .next ε'=>dJ i db xs ε'
  | .ok .cont ε'=>dJ i db xs ε'
  | .ok .brk ε'=>.ok .next ε'
  | r=>r
def b8(i:Nat)(di:ae->R (List PV))(db:ae->R ax):ae->R ax:=fun ε=>(di ε).bind fun xs ε1=>dJ i db xs ε1
theorem iq(i:Nat){x:Str}{p:Pos}{iter:Expr}{body:List Stmt}{di:ae->R (List PV)}{db:ae->R ax}(hpo:AR (model X.prog X.w) X.A X.env X.xe)(hc:X.calm=true)(hN:X.N.Nodup)(hi:DI X E (.Name x p) iter di)(hb:jy X E pin body db)
  (hp:i∉pin:=by decide) (hx:X.N[i]?=some x:=by rfl) (hl:Loc X.env.scope x:=by first | exact Or.inl rfl | exact Or.inr rfl) (hs:∀ x,rg iter X.env x=pure x:=by intro _; rfl)
  (hf:X.fn x=true\/X.env.scope.names.lookup x=some .local:=by first | exact .inl rfl | exact .inr rfl):DS X E pin (.For (.Name x p) iter body [] pos) (b8 i di db):=fun F S ε σ H D rl h=>by
 refine iH (Jw hpo hc FZ (AB hN hx hl hf) qY hs) (hi F S ε σ H _ rl (h.bindE.imp fun xs ε1 F1 S1 H1 r1 g1 h1 J vs RR rs hz hw keep=>?_))
 refine Ly hw (fun k σ' H'=>∃ F' S' ε',aP X.K F' S' ε' σ' H'/\bK (U S1) (U S') F1 F' H1 H'/\iL X.K E pin σ' F' S' H' (dJ i db (xs.drop k) ε') D) ⟨F1,S1,ε1,r1,bK.refl ..,h1⟩ (fun k σ' H' _ ⟨F',S',ε',_,g,_⟩=>keep S' F' H' g) ?_ ?_
 ·rintro k v σ' H' hv ⟨F',S',ε',r',g',q⟩
  obtain⟨x,hx,rx⟩:=rs.back hv
  have hk:k<xs.length:=(dP.mp hx).1
  have ed:xs.drop k=x::xs.drop (k+1):=by
   rw[xN hk]
   congr 1
   exact(dP.mp hx).2
  rw[ed]at q
  have rx':=rx.grow g' r1.fit
  have r2:=r'.set (i:=i) rx'
  have gl:bK (U S') (U fun j b=>S' j b/\j≠i) F' F' H' H':=bK.less i
  show t7 X body _ (σ'.set i (some v)) H'
  refine hb F' _ _ _ H' _ r2 ?_
  unfold dJ at q
  have q:=q.from gl (jC.set (x:=some v) hp)
  cases e:db (ε'.set i (.val x))with
  | no=>rw[e]at q; exact q
  | er c ε3=>rw[e]at q; exact q
  | ok f ε3 =>
   rw[e]at q
   cases f with
   | next=>exact fun F3 S3 σ3 H3 r3 g3 p3=>⟨F3,S3,ε3,r3,(g'.trans gl).trans g3,q.from g3 p3⟩
   | cont=>exact fun F3 S3 σ3 H3 r3 g3 p3=>⟨F3,S3,ε3,r3,(g'.trans gl).trans g3,q.from g3 p3⟩
   | brk=>exact q
   | ret s=>exact q
 ·rintro σ' H' ⟨F',S',ε',r',g',q⟩
  have hl:vs.length=xs.length:=rs.len
  rw[hl,List.drop_length]at q
  exact q F' S' σ' H' r' (bK.refl ..) (jC.refl _ _)
def ez(t:ae->R Bool)(db:ae->R ax):Nat->ae->R ax
 | 0,_=>.no
 | n+1,ε=>(t ε).bind fun k ε1=>match k with
  | false=>.ok .next ε1
  | true=>match db ε1 with
   | .ok .next ε'=>ez t db n ε'
   | .ok .cont ε'=>ez t db n ε'
   | .ok .brk ε'=>.ok .next ε'
   | r=>r
theorem yR{c:Expr}{body:List Stmt}{t:ae->R Bool}{db:ae->R ax}(bw:ae->Nat)(hpo:AR (model X.prog X.w) X.A X.env X.xe)(hc:DT X E c t)(hb:jy X E pin body db):DS X E pin (.While c body [] pos) (fun ε=>ez t db (bw ε) ε):=fun F S ε σ H D rl h=>by
 refine iH (Ml hpo q_ qY) ⟨fun m σ' H'=>∃ F' S' ε',aP X.K F' S' ε' σ' H'/\iL X.K E pin σ' F' S' H' (ez t db m ε') D,⟨bw ε,F,S,ε,rl,h⟩,?_⟩
 rintro m σ1 H1 ⟨F1,S1,ε1,r1,q⟩
 cases m with
 | zero=>exact q.elim
 | succ m =>
  refine hc F1 S1 ε1 σ1 H1 _ r1 (q.bindE.imp fun k ε2 F2 S2 H2 r2 g2 q2=>?_)
  cases k with
  | false=>exact qV (q2 F2 S2 σ1 H2 r2 (bK.refl ..) (jC.refl _ _))
  | true =>
   refine qx ⟨fun σ' H'=>∃ F' S' ε',aP X.K F' S' ε' σ' H'/\iL X.K E pin σ' F' S' H' (ez t db m ε') D,fun σ' H' w=>⟨m,j8 m,w⟩,hb F2 S2 ε2 σ1 H2 _ r2 ?_⟩
   have q2:iL X.K E pin σ1 F2 S2 H2 (match db ε2 with
    | .ok .next ε'=>ez t db m ε'
    | .ok .cont ε'=>ez t db m ε'
    | .ok .brk ε'=>.ok .next ε'
    | r=>r) D:=q2
   cases e:db ε2 with
   | no=>rw[e]at q2; exact q2
   | er c ε3=>rw[e]at q2; exact q2
   | ok f ε3 =>
    rw[e]at q2
    cases f with
    | next=>exact fun F3 S3 σ3 H3 r3 g3 p3=>⟨F3,S3,ε3,r3,q2.from g3 p3⟩
    | cont=>exact fun F3 S3 σ3 H3 r3 g3 p3=>⟨F3,S3,ε3,r3,q2.from g3 p3⟩
    | brk=>exact q2
    | ret s=>exact q2
end
end Pu
namespace Pu
open L2
def wf(K:ao)(E:XK)(vs:List V)(F:Addr->Prop)(S:Nat->Addr->Prop)(H:Hp)(r:R Slot)(Q:VK):Prop:=match r with
 | .ok s aE=>∀ v F' S' H' Sr,aP K F' S' aE (vs.map some) H'->bK (U S) (fun b=>U S' b\/Sr b) F F' H H'->vt K H' F' s v Sr->xo F' S' H' Sr->(∀ b,Sr b->H b=none)->Q v H'
 | .er c aE=>∀ x F' S' H',aP K F' S' aE (vs.map some) H'->bK (U S) (U S') F F' H H'->E c x H'
 | .no=>False
def bR(K:ao)(g:ae->R Slot):Sp:=fun vs H Q E=>∃ F S ss,aP K F S ss (vs.map some) H/\wf K E vs F S H (g ss) Q
structure cf(CX:gv)(P:aK)(w:World)(K:ao)(mg:Str->Option Value)(base:Heap)(x:Str)(k:Nat)(ps:List Str)(sp:Sp):Prop where
 ex:∃ f fd,mg x=some (.ref f)/\kB P w K mg base CX k f fd ps sp/\Binds K fd ps []/\uc K (.ref f)=true
def back:ae->ae->Option ae
 | [],_=>some []
 | .own _::ss,.own po::es=>(back ss es).map (.own po::·)
 | .own _::_,_=>none
 | s::ss,_::es=>(back ss es).map (s::·)
 | _::_,[]=>none
theorem wg:∀ {ss es aE:ae},back ss es=some aE->aE.length=ss.length/\∀ (i:Nat) (s:Slot),aE[i]?=some s->(∃ po po',ss[i]?=some (.own po)/\es[i]?=some (.own po')/\s = .own po')\/(ss[i]?=some s/\∀ po,s≠.own po)
 | [],_,aE,h=>by cases h; exact⟨rfl,fun i s e=>by simp at e⟩
 | .own po::ss,.own po'::es,aE,h=>by
  unfold back at h
  cases e:back ss es with
  | none=>rw[e]at h; cases h
  | some r =>
   rw[e]at h; cases h
   obtain⟨l,q⟩:=wg e
   refine⟨by simp[l],fun i s hi=>?_⟩
   cases i with
   | zero=>simp at hi; subst hi; exact .inl ⟨po,po',rfl,rfl,rfl⟩
   | succ i=>simpa using q i s (by simpa using hi)
 | .own po::ss,.none::es,aE,h=>by cases h
 | .own po::ss,.val _::es,aE,h=>by cases h
 | .own po::ss,[],aE,h=>by cases h
 | .none::ss,[],aE,h=>by cases h
 | .val _::ss,[],aE,h=>by cases h
 | .none::ss,x::es,aE,h=>by
  have h:(back ss es).map (Slot.none::·)=some aE:=by unfold back at h; cases x <;> exact h
  cases e:back ss es with
  | none=>rw[e]at h; cases h
  | some r =>
   rw[e]at h; cases h
   obtain⟨l,q⟩:=wg e
   refine⟨by simp[l],fun i s hi=>?_⟩
   cases i with
   | zero=>simp at hi; subst hi; exact .inr ⟨rfl,fun _ z=>by cases z⟩
   | succ i=>simpa using q i s (by simpa using hi)
 | .val pv::ss,x::es,aE,h=>by
  have h:(back ss es).map (Slot.val pv::·)=some aE:=by unfold back at h; cases x <;> exact h
  cases e:back ss es with
  | none=>rw[e]at h; cases h
  | some r =>
   rw[e]at h; cases h
   obtain⟨l,q⟩:=wg e
   refine⟨by simp[l],fun i s hi=>?_⟩
   cases i with
   | zero=>simp at hi; subst hi; exact .inr ⟨rfl,fun _ z=>by cases z⟩
   | succ i=>simpa using q i s (by simpa using hi)
def bu(n:Nat)(d:ae->R ax):ae->R Slot:=fun ss=>match d (ss++bj n .none)with
 | .ok (.ret r) ε'=>(aW (back ss ε') []).bind fun aE _=>.ok r aE
 | .ok .next ε'=>(aW (back ss ε') []).bind fun aE _=>.ok (.val .non) aE
 | .er c ε'=>(aW (back ss ε') []).bind fun aE _=>.er c aE
 | _=>.no
section
variable{K:ao}{F F':Addr->Prop}{S S':Nat->Addr->Prop}{ss ε' aE:ae}{σ':St}{H H':Hp}{vs:List V}
theorem aP.start(r:aP K F S ss (vs.map some) H)(n:Nat):aP K F S (ss++bj n .none) (vs.map some++bj n none) H:=by
 have hl:ss.length=(vs.map some).length:=r.len
 have no:∀ {j:Nat} {s:Slot},(ss++bj n Slot.none)[j]?=some s->s≠.none->ss[j]?=some s:=fun {j s} e hs=>by
  by_cases hj:j<ss.length
  ·rw[fJ hj]at e; exact e
  ·rw[jJ (by ac_rfl),List.getElem?_replicate]at e
   split at e
   ·exact absurd (dE e).symm hs
   ·cases e
 have up:∀ {j:Nat} {v:Option V},(vs.map some)[j]?=some v->(vs.map some++bj n none)[j]?=some v:=fun {j v} e=>by
  rw[fJ (dP.mp e).1]; exact e
 refine⟨by simp[hl],r.ex,fun j pv e=>?_,fun j po e=>?_,fun j b h=>?_,r.dist⟩
 ·obtain⟨v,h1,h2⟩:=r.val j pv (no e (by intro z; cases z)); exact⟨v,up h1,h2⟩
 ·obtain⟨v,h1,h2⟩:=r.own j po (no e (by intro z; cases z)); exact⟨v,up h1,h2⟩
 ·obtain⟨⟨po,q⟩,q2⟩:=r.foot j b h
  exact⟨⟨po,by rw[fJ (dP.mp q).1]; exact q⟩,q2⟩
theorem FX{po:PO}{a:Addr}{Sa:Addr->Prop}(h:fW K H F po a Sa)(hf:jB po=true):∀ b,Sa b↔b=a:=by
 cases po with
 | lst xs=>exact h.2
 | dK kvs=>exact h.2
 | lls h_=>cases hf
 | ins C fs=>exact h.2
theorem L8{po:PO}{a:Addr}{Sa:Addr->Prop}(h:fW K H F po a Sa):Sa a:=by
 cases po with
 | lst xs=>exact(h.2 a).mpr rfl
 | dK kvs=>exact(h.2 a).mpr rfl
 | lls h_=>obtain⟨as,_,_,_,_,w⟩:=h; exact(w a).mpr (.inl rfl)
 | ins C fs=>exact(h.2 a).mpr rfl
theorem aP.back{O':Addr->Prop}{pin:List Nat}{n:Nat}(r0:aP K F S ss (vs.map some) H)(r:aP K F' S' ε' σ' H')(g:bK (U S) O' F F' H H')(p:jC pin (vs.map some++bj n none) σ')(rO:∀ (i:Nat) (po:PO),ss[i]?=some (.own po)->i∈pin/\jB po=true)(hb:back ss ε'=some aE) :
  ∃ S'',aP K F' S'' aE (vs.map some) H'/\(∀ b,U S'' b->U S' b)/\∀ b,U S b->U S'' b:=by
 obtain⟨hl,hg⟩:=wg hb
 have inj:∀ (i:Nat) (po:PO),ss[i]?=some (.own po)->∃ a,(vs.map some)[i]?=some (some (.ref a))/\σ'[i]?=some (some (.ref a))/\fW K H F po a (S i):=fun i po e=>by
  obtain⟨a,h1,h2⟩:=r0.own i po e
  refine⟨a,h1,?_,h2⟩
  rw[p i (rO i po e).1,fJ (dP.mp h1).1]; exact h1
 have bk:∀ (i:Nat) (po:PO),ss[i]?=some (.own po)->∃ po',aE[i]?=some (.own po')/\ε'[i]?=some (.own po'):=fun i po e=>by
  have hi:i<aE.length:=by rw[hl]; exact(dP.mp e).1
  rcases hg i aE[i] (by simp[hi])with⟨p1,p2,q1,q2,q3⟩ | ⟨q1,q2⟩
  ·exact⟨p2,by rw[eV hi,q3],q2⟩
  ·rw[e]at q1; exact absurd (dE q1).symm (q2 po)
 refine⟨fun i b=>S' i b/\∃ po,ss[i]?=some (.own po),⟨by rw[hl]; exact r0.len,r.ex,fun i pv e=>?_,fun i po e=>?_,fun i b h=>?_,fun i j b h1 h2=>r.dist i j b h1.1 h2.1⟩,fun b ⟨i,h⟩=>⟨i,h.1⟩,fun b ⟨i,h⟩=>?_⟩
 ·rcases hg i _ e with⟨_,_,_,_,z⟩ | ⟨q1,_⟩
  ·cases z
  ·obtain⟨v,h1,h2⟩:=r0.val i pv q1
   exact⟨v,h1,h2.grow g r0.fit⟩
 ·rcases hg i _ e with⟨p1,p2,q1,q2,q3⟩ | ⟨_,q2⟩
  ·cases q3
   obtain⟨a,h1,h2,h3⟩:=inj i p1 q1
   obtain⟨a',h4,h5⟩:=r.own i po q2
   rw[h2]at h4
   cases h4
   refine⟨a,h1,?_⟩
   have eS:(fun b=>S' i b/\∃ po,ss[i]?=some (.own po))=S' i:=by funext b; exact propext ⟨fun z=>z.1,fun z=>⟨z,p1,q1⟩⟩
   rw[eS]; exact h5
  ·exact absurd rfl (q2 po)
 ·obtain⟨po,q⟩:=h.2
  obtain⟨po',z1,z2⟩:=bk i po q
  exact⟨⟨po',z1⟩,(r.foot i b h.1).2⟩
 ·obtain⟨⟨po,q⟩,_⟩:=r0.foot i b h
  obtain⟨a,h1,h2,h3⟩:=inj i po q
  obtain⟨po',z1,z2⟩:=bk i po q
  obtain⟨a',h4,h5⟩:=r.own i po' z2
  rw[h2]at h4
  cases h4
  have e:b=a:=(FX h3 (rO i po q).2 b).mp h
  exact⟨i,e ▸ L8 h5,po,q⟩
end
theorem Fx{f:Addr}{fd:iy}{CX:gv}{P:aK}{w:World}{K:ao}{mg:Str->Option Value}{base:Heap}{x qual:Str}{st:Stmt}{N ps:List Str}{k n:Nat}{g:ae->R Slot}{d:ae->R ax}{pin:List Nat}(Fn:oR K x qual st f fd)(Sc:bZ N ps (aY st))(hn:N.length=ps.length+n)
  (hb:∀ (kV doc pm:Value) (an:Option Addr) (aJ ct:Value) (us:List Value),us.length=ps.length->g7 (kF x qual (lw st) (iP st) (aY st) .none kV doc pm an aJ ct) ⟨us,[]⟩=pure (ps.zip us))
  (b7:∀ ss,g ss≠.no->ss.length=ps.length) (rO:∀ ss,g ss≠.no->∀ (i:Nat) po,ss[i]?=some (.own po)->i∈pin/\jB po=true) (hg:∀ ss,g ss≠.no->bu n d ss=g ss)
  (kM:∀ (f:Addr) (aJ:Value) (A:aV) (outer:List Env) (s:ah) (H:Hp) (E:XK),fe k (A.deeper (j_ qual (aY st) s.heap.objs.size f aJ))->jy (jA CX P w K mg base N qual (aY st) f aJ A outer s H E) E pin (iP st) d) :
  kB P w K mg base CX (k+1) f fd ps (bR K g):=by
 obtain⟨oc,od,kV,doc,pm,an,aJ,ct,osl,rfl,lk,bF⟩:=Fn.ex
 have ne:∀ {E:XK} {vs:List V} {F:Addr->Prop} {S:Nat->Addr->Prop} {H:Hp} {ss:ae} {Q:VK},wf K E vs F S H (g ss) Q->g ss≠.no:=fun {E vs F S H ss Q} h z=>by rw[z]at h; exact h
 refine FA lk bF Sc (fun vs H Q E ⟨F,S,ss,rl,ok⟩=>?_) fun A outer s H vs Q E hr lW=>?_
 ·have:=b7 ss (ne ok)
  have h2:=rl.len
  rw[cq]at h2
  ac_rfl
 ·obtain⟨F,S,ss,rl,ok⟩:=lW
  refine⟨_,qY,?_⟩
  have hl:=b7 ss (ne ok)
  have h2:=rl.len
  rw[cq]at h2
  have es:L2.start N vs=vs.map some++bj n none:=by
   unfold L2.start
   rw[show N.length-vs.length=n by ac_rfl]
  rw[es]
  refine kM f aJ A outer s H E hr F S _ _ H _ (rl.start n) ?_
  have HC:=rO ss (ne ok)
  have kW:=hg ss (ne ok)
  rw[← kW]at ok
  unfold bu at ok
  generalize d (ss++bj n .none)=r at ok ⊢
  cases r with
  | no=>exact ok
  | er c ε' =>
   intro x F' S' σ' H' r' g' p'
   have ok:wf K E vs F S H ((aW (back ss ε') []).bind fun aE _=>.er c aE) Q:=ok
   cases e:back ss ε' with
   | none=>rw[e]at ok; exact ok.elim
   | some aE =>
    rw[e]at ok
    obtain⟨S'',r'',sub,_⟩:=rl.back r' g' p' HC e
    exact ok x F' S'' H' r'' ⟨g'.fro,g'.keep,g'.there,g'.fnew,fun b z=>g'.onew b (sub b z)⟩
  | ok fl ε' =>
   have fin:∀ (rs:Slot),wf K E vs F S H ((aW (back ss ε') []).bind fun aE _=>.ok rs aE) Q->∀ (v:V) F' S' σ' H' Sr,aP K F' S' ε' σ' H'->bK (U S) (fun b=>U S' b\/Sr b) F F' H H'->jC pin (vs.map some++bj n none) σ'->vt K H' F' rs v Sr->xo F' S' H' Sr->Q v H':=by
    intro rs ok v F' S' σ' H' Sr r' g' p' hv lo
    cases e:back ss ε' with
    | none=>rw[e]at ok; exact ok.elim
    | some aE =>
     rw[e]at ok
     obtain⟨S'',r'',sub,up⟩:=rl.back r' g' p' HC e
     refine ok v F' S'' H' Sr r'' ⟨g'.fro,g'.keep,g'.there,g'.fnew,fun b z=>g'.onew b (z.imp (sub b) id)⟩ hv (fun b z=>⟨(lo b z).1,fun w=>(lo b z).2.1 (sub b w),(lo b z).2.2⟩) fun b z=>?_
     rcases g'.onew b (.inr z)with w | w
     ·exact absurd (sub b (up b w)) (lo b z).2.1
     ·exact w
   cases fl with
   | brk=>exact ok.elim
   | cont=>exact ok.elim
   | ret rs=>exact fin rs ok
   | next =>
    exact fun F' S' σ' H' r' g' p'=>fin (.val .non) ok .non F' S' σ' H' (fun _=>False) r' ⟨g'.fro,g'.keep,g'.there,g'.fnew,fun b z=>z.elim (g'.onew b) jI⟩ p' ⟨rfl,fun _ z=>z⟩ fun _ z=>z.elim
theorem Pw{CX:gv}{P:aK}{w:World}{K:ao}{mg:Str->Option Value}{base:Heap}{x:Str}{st:Stmt}{N ps:List Str}{k n:Nat}{g:ae->R Slot}{d:ae->R ax}{pin:List Nat}(D:cn K mg x st)(Sc:bZ N ps (aY st))(hn:N.length=ps.length+n)
  (hb:∀ (kV doc pm:Value) (an:Option Addr) (aJ ct:Value) (us:List Value),us.length=ps.length->g7 (kF x x (lw st) (iP st) (aY st) .none kV doc pm an aJ ct) ⟨us,[]⟩=pure (ps.zip us))
  (b7:∀ ss,g ss≠.no->ss.length=ps.length) (rO:∀ ss,g ss≠.no->∀ (i:Nat) po,ss[i]?=some (.own po)->i∈pin/\jB po=true) (hg:∀ ss,g ss≠.no->bu n d ss=g ss)
  (kM:∀ (f:Addr) (aJ:Value) (A:aV) (outer:List Env) (s:ah) (H:Hp) (E:XK),fe k (A.deeper (j_ x (aY st) s.heap.objs.size f aJ))->jy (jA CX P w K mg base N x (aY st) f aJ A outer s H E) E pin (iP st) d) :
  cf CX P w K mg base x (k+1) ps (bR K g):=by
 obtain⟨f,fd,hm,Fn⟩:=D.ex
 exact⟨f,fd,hm,Fx Fn Sc hn hb b7 rO hg kM,Fn.binds hb,Fn.kp⟩
end Pu
namespace Pu
open L2
abbrev bY:=Sum PV Nat
def jz(K:ao)(σ:St)(F:Addr->Prop)(H:Hp):List bY->List V->Prop
 | [],vs=>vs=[]
 | .inl pv::as,vs=>∃ v r,vs=v::r/\aT K H F pv v/\jz K σ F H as r
 | .inr i::as,vs=>∃ v r,vs=v::r/\σ[i]?=some (some v)/\jz K σ F H as r
def DG(X:Cx)(E:XK)(es:List Expr)(d:ae->R (List bY)):Prop :=
 ∀ F S ε σ H Q,aP X.K F S ε σ H->Ok X.K E σ F S H (d ε) (fun as _ F' _ H'=>∀ vs,jz X.K σ F' H' as vs->Q vs H')->ou X es σ H Q
section
variable{X:Cx}{E:XK}{e:Expr}{es:List Expr}{de:ae->R PV}{dg:ae->R (List bY)}{pos:Pos}
def bM:ae->R (List bY):=fun ε=>.ok [] ε
def gV(d:ae->R PV)(dg:ae->R (List bY)):ae->R (List bY):=fun ε=>(d ε).bind fun x ε1=>(dg ε1).bind fun xs ε2=>.ok (.inl x::xs) ε2
def gO(i:Nat)(dg:ae->R (List bY)):ae->R (List bY):=fun ε=>match ε[i]? with
 | some (.own _)=>(dg ε).bind fun xs ε2=>.ok (.inr i::xs) ε2
 | _=>.no
theorem bS:DG X E [] bM:=fun F S ε σ H Q rl h=>oA l9 (h F S H rl (bK.refl ..) _ rfl)
theorem Q3(ha:DE X E e de)(hr:DG X E es dg)(hs:aZ (e::es) X.env=(false,eval e X.env)::aZ es X.env:=by rfl):DG X E (e::es) (gV de dg):=fun F S ε σ H Q rl h=>by
 refine oA (jU cb gy hs) (ha F S ε σ H _ rl ((Ok.bind h).imp fun x ε1 F1 S1 H1 r1 g1 h1 v rv=>?_))
 refine hr F1 S1 ε1 σ H1 _ r1 ((Ok.bind h1).imp fun xs ε2 F2 S2 H2 r2 g2 h2 vs i4=>?_)
 exact h2 F2 S2 H2 r2 (bK.refl ..) _ ⟨v,vs,rfl,rv.grow g2 r1.fit,i4⟩
theorem ja(i:Nat){x:Str}{p:Pos}(hr:DG X E es dg)(hN:X.N[i]?=some x:=by rfl)(hv:ft X.env.scope x:=by first | exact Or.inl rfl | exact Or.inr (Or.inl rfl) | exact Or.inr (Or.inr rfl))(hd:(x == ("__debug__" : Str))=false:=by decide)
  (bF:(x == ("__classdict__" : Str))=false:=by decide) (hs:aZ (.Name x p::es) X.env=(false,eval (.Name x p) X.env)::aZ es X.env:=by rfl):DG X E (.Name x p::es) (gO i dg):=fun F S ε σ H Q rl h=>by
 unfold gO at h
 split at h
 ·rename_i po e
  obtain⟨a,e1,_⟩:=rl.own i po e
  refine oA (jU (iw hN hv hd bF) gy hs) ⟨_,e1,hr F S ε σ H _ rl ((Ok.bind h).imp fun xs ε2 F2 S2 H2 r2 g2 h2 vs i4=>?_)⟩
  exact h2 F2 S2 H2 r2 (bK.refl ..) _ ⟨_,vs,rfl,e1,i4⟩
 ·exact h.elim
end
def e_(ε:ae):List bY->Option ae
 | []=>some []
 | .inl pv::as=>(e_ ε as).map (.val pv::·)
 | .inr i::as=>match ε[i]? with
  | some (.own po)=>(e_ ε as).map (.own po::·)
  | _=>none
def fA:ae->List bY->ae->ae
 | ε,.inl _::as,_::ss=>fA ε as ss
 | ε,.inr i::as,s::ss=>fA (ε.set i s) as ss
 | ε,_,_=>ε
def cS:List bY->List Nat
 | []=>[]
 | .inl _::as=>cS as
 | .inr i::as=>i::cS as
theorem CL:∀ {as:List bY} {i:Nat},i∈cS as↔∃ k:Nat,as[k]?=some (.inr i)
 | [],i=>by simp[cS]
 | .inl _::as,i=>by
  unfold cS
  rw[CL]
  constructor
  ·rintro⟨k,h⟩; exact⟨k+1,by simpa using h⟩
  ·rintro⟨k,h⟩
   cases k with
   | zero=>simp at h
   | succ k=>exact⟨k,by simpa using h⟩
 | .inr j::as,i=>by
  unfold cS
  rw[bH,CL]
  constructor
  ·rintro(rfl | ⟨k,h⟩)
   ·exact⟨0,rfl⟩
   ·exact⟨k+1,by simpa using h⟩
  ·rintro⟨k,h⟩
   cases k with
   | zero=>simp at h; exact .inl h.symm
   | succ k=>exact .inr ⟨k,by simpa using h⟩
theorem vY{ε:ae}:∀ {as:List bY} {ss:ae},e_ ε as=some ss->ss.length=as.length/\∀ (k:Nat) (s:Slot),ss[k]?=some s->(∃ pv,as[k]?=some (.inl pv)/\s = .val pv)\/∃ i po,as[k]?=some (.inr i)/\ε[i]?=some (.own po)/\s = .own po
 | [],ss,h=>by cases h; exact⟨rfl,fun k s e=>by simp at e⟩
 | .inl pv::as,ss,h=>by
  unfold e_ at h
  cases e:e_ ε as with
  | none=>rw[e]at h; cases h
  | some r =>
   rw[e]at h; cases h
   obtain⟨l,q⟩:=vY e
   refine⟨by simp[l],fun k s hk=>?_⟩
   cases k with
   | zero=>simp at hk; exact .inl ⟨pv,rfl,hk.symm⟩
   | succ k=>simpa using q k s (by simpa using hk)
 | .inr i::as,ss,h=>by
  unfold e_ at h
  split at h
  ·rename_i po ei
   cases e:e_ ε as with
   | none=>rw[e]at h; cases h
   | some r =>
    rw[e]at h; cases h
    obtain⟨l,q⟩:=vY e
    refine⟨by simp[l],fun k s hk=>?_⟩
    cases k with
    | zero=>simp at hk; exact .inr ⟨i,po,rfl,ei,hk.symm⟩
    | succ k=>simpa using q k s (by simpa using hk)
  ·cases h
theorem xv:∀ (as:List bY) (ε ss:ae),(fA ε as ss).length=ε.length
 | [],ε,ss=>by cases ss <;> rfl
 | .inl _::as,ε,[]=>rfl
 | .inr _::as,ε,[]=>rfl
 | .inl _::as,ε,s::ss=>xv as ε ss
 | .inr i::as,ε,s::ss=>by show(fA (ε.set i s) as ss).length=_; rw[xv,ke]
theorem q8:∀ (as:List bY) (ε ss:ae) (j:Nat),j∉cS as->(fA ε as ss)[j]?=ε[j]?
 | [],ε,ss,j,_=>by cases ss <;> rfl
 | .inl _::as,ε,[],j,_=>rfl
 | .inr _::as,ε,[],j,_=>rfl
 | .inl _::as,ε,s::ss,j,h=>q8 as ε ss j h
 | .inr i::as,ε,s::ss,j,h=>by
  have h1:¬ (j=i\/j∈cS as):=by simpa[cS]using h
  show(fA (ε.set i s) as ss)[j]?=_
  rw[q8 as _ ss j fun z=>h1 (.inr z),eF fun z=>h1 (.inl z.symm)]
theorem sZ:∀ (as:List bY) (ε ss:ae) (j k:Nat) (s:Slot),(cS as).Nodup->j<ε.length->as[k]?=some (.inr j)->ss[k]?=some s->(fA ε as ss)[j]?=some s
 | [],ε,ss,j,k,s,_,_,h,_=>by simp at h
 | _::as,ε,[],j,k,s,_,_,_,h=>by simp at h
 | .inl _::as,ε,t::ss,j,0,s,_,_,h,_=>by simp at h
 | .inl _::as,ε,t::ss,j,k+1,s,nd,hj,h,g=>sZ as ε ss j k s nd hj (by simpa using h) (by simpa using g)
 | .inr i::as,ε,t::ss,j,0,s,nd,hj,h,g=>by
  simp at h g
  subst h g
  have nd':i∉cS as:=(iS.mp nd).1
  show(fA (ε.set i t) as ss)[i]?=_
  rw[q8 as _ ss i nd',gC hj]
 | .inr i::as,ε,t::ss,j,k+1,s,nd,hj,h,g =>
  sZ as (ε.set i t) ss j k s (iS.mp nd).2 (by rw[ke]; exact hj) (by simpa using h) (by simpa using g)
theorem jz.len{K:ao}{σ:St}{F:Addr->Prop}{H:Hp}:∀ {as:List bY} {vs:List V},jz K σ F H as vs->vs.length=as.length
 | [],_,h=>by rw[show _=[] from h]; rfl
 | .inl _::as,_,⟨v,r,e,_,h⟩=>by rw[e,dQ,dQ,jz.len h]
 | .inr _::as,_,⟨v,r,e,_,h⟩=>by rw[e,dQ,dQ,jz.len h]
theorem jz.val{K:ao}{σ:St}{F:Addr->Prop}{H:Hp}:∀ {as:List bY} {vs:List V} {k:Nat} {pv:PV},jz K σ F H as vs->as[k]?=some (.inl pv)->∃ v,vs[k]?=some v/\aT K H F pv v
 | [],_,k,_,_,e=>by simp at e
 | .inl x::as,_,0,pv,⟨v,r,e,h,_⟩,q=>by simp at q; subst q e; exact⟨v,rfl,h⟩
 | .inr _::as,_,0,pv,_,q=>by simp at q
 | .inl x::as,_,k+1,pv,⟨v,r,e,_,h⟩,q=>by
  obtain⟨w,a,b⟩:=jz.val (k:=k) h (by simpa using q); subst e; exact⟨w,by simpa using a,b⟩
 | .inr x::as,_,k+1,pv,⟨v,r,e,_,h⟩,q=>by
  obtain⟨w,a,b⟩:=jz.val (k:=k) h (by simpa using q); subst e; exact⟨w,by simpa using a,b⟩
theorem jz.own{K:ao}{σ:St}{F:Addr->Prop}{H:Hp}:∀ {as:List bY} {vs:List V} {k i:Nat},jz K σ F H as vs->as[k]?=some (.inr i)->∃ v,vs[k]?=some v/\σ[i]?=some (some v)
 | [],_,k,_,_,e=>by simp at e
 | .inr x::as,_,0,pv,⟨v,r,e,h,_⟩,q=>by simp at q; subst q e; exact⟨v,rfl,h⟩
 | .inl _::as,_,0,pv,_,q=>by simp at q
 | .inl x::as,_,k+1,pv,⟨v,r,e,_,h⟩,q=>by
  obtain⟨w,a,b⟩:=jz.own (k:=k) h (by simpa using q); subst e; exact⟨w,by simpa using a,b⟩
 | .inr x::as,_,k+1,pv,⟨v,r,e,_,h⟩,q=>by
  obtain⟨w,a,b⟩:=jz.own (k:=k) h (by simpa using q); subst e; exact⟨w,by simpa using a,b⟩
section
variable{K:ao}{F F':Addr->Prop}{S S':Nat->Addr->Prop}{ε ss aE:ae}{σ:St}{H H':Hp}{as:List bY}{vs:List V}
def mr(as:List bY)(S:Nat->Addr->Prop)(k:Nat)(b:Addr):Prop:=∃ i,as[k]?=some (.inr i)/\S i b
theorem vH(b:Addr)(h:U (mr as S) b):U S b:=let ⟨_,i,_,h⟩:=h; ⟨i,h⟩
theorem wy:∀ {as:List bY} {i k l:Nat},(cS as).Nodup->as[k]?=some (.inr i)->as[l]?=some (.inr i)->k=l
 | [],_,_,_,_,h,_=>by simp at h
 | .inl _::as,i,0,_,_,h,_=>by simp at h
 | .inl _::as,i,_,0,_,_,h=>by simp at h
 | .inl _::as,i,k+1,l+1,nd,h1,h2=>by rw[wy (as:=as) (i:=i) (k:=k) (l:=l) nd (by simpa using h1) (by simpa using h2)]
 | .inr j::as,i,0,0,_,_,_=>rfl
 | .inr j::as,i,0,l+1,nd,h1,h2=>by
  simp at h1; subst h1
  exact absurd (CL.mpr ⟨l,by simpa using h2⟩) (iS.mp nd).1
 | .inr j::as,i,k+1,0,nd,h1,h2=>by
  simp at h2; subst h2
  exact absurd (CL.mpr ⟨k,by simpa using h1⟩) (iS.mp nd).1
 | .inr j::as,i,k+1,l+1,nd,h1,h2=>by rw[wy (as:=as) (i:=i) (k:=k) (l:=l) (iS.mp nd).2 (by simpa using h1) (by simpa using h2)]
theorem aP.cal(r:aP K F S ε σ H)(ha:jz K σ F H as vs)(hs:e_ ε as=some ss)(nd:(cS as).Nodup):aP K F (mr as S) ss (vs.map some) H:=by
 obtain⟨hl,hg⟩:=vY hs
 have up:∀ {k:Nat} {v:V},vs[k]?=some v->(vs.map some)[k]?=some (some v):=fun {k v} e=>by rw[iA,e]; rfl
 refine⟨by rw[hl,cq,ha.len],r.ex,fun k pv e=>?_,fun k po e=>?_,fun k b h=>?_,fun k l b h1 h2=>?_⟩
 ·rcases hg k _ e with⟨p,q1,q2⟩ | ⟨_,_,_,_,z⟩
  ·cases q2
   obtain⟨v,a1,a2⟩:=ha.val q1
   exact⟨v,up a1,a2⟩
  ·cases z
 ·rcases hg k _ e with⟨_,_,z⟩ | ⟨i,p,q1,q2,q3⟩
  ·cases z
  ·cases q3
   obtain⟨v,a1,a2⟩:=ha.own q1
   obtain⟨a,b1,b2⟩:=r.own i po q2
   rw[a2]at b1
   cases b1
   have eS:mr as S k=S i:=by
    funext b
    exact propext ⟨fun⟨j,h1,h2⟩=>by rw[q1]at h1; cases h1; exact h2,fun h=>⟨i,q1,h⟩⟩
   exact⟨a,up a1,by rw[eS]; exact b2⟩
 ·obtain⟨i,h1,h2⟩:=h
  obtain⟨⟨po,q⟩,q2⟩:=r.foot i b h2
  have hk:k<ss.length:=by rw[hl]; exact(dP.mp h1).1
  refine⟨?_,q2⟩
  rcases hg k ss[k] (by simp[hk])with⟨_,z,_⟩ | ⟨j,p,z1,z2,z3⟩
  ·rw[h1]at z; cases z
  ·exact⟨p,by rw[eV hk,z3]⟩
 ·obtain⟨i,a1,a2⟩:=h1
  obtain⟨j,b1,b2⟩:=h2
  have:=r.dist i j b a2 b2
  subst this
  exact wy nd a1 b1
theorem aP.called{O':Addr->Prop}(r:aP K F S ε σ H)(ha:jz K σ F H as vs)(hs:e_ ε as=some ss)(nd:(cS as).Nodup)(r':aP K F' S' aE (vs.map some) H')(g:bK (U (mr as S)) O' F F' H H')(hO:∀ b,U S' b->O' b)
  (hso:∀ (k:Nat) i,as[k]?=some (.inr i)->∃ po,aE[k]?=some (.own po)) :
  ∃ S2,aP K F' S2 (fA ε as aE) σ H'/\bK (U S) (U S2) F F' H H'/\∀ b,U S2 b->U S' b\/U S b:=by
 have up:∀ {k:Nat} {v:V},(vs.map some)[k]?=some (some v)->vs[k]?=some v:=fun {k v} e=>by
  rw[iA]at e
  cases q:vs[k]? with
  | none=>rw[q]at e; cases e
  | some x=>rw[q]at e; cases e; rfl
 have fit:nJ (U (mr as S)) F H:=fun b h=>r.fit b (vH b h)
 have slen:∀ i po,ε[i]?=some (.own po)->i<ε.length:=fun i po e=>(dP.mp e).1
 have lt:∀ (k:Nat) i,as[k]?=some (.inr i)->i<ε.length:=fun k i e=>by
  obtain⟨hl,hg⟩:=vY hs
  have hk:k<ss.length:=by rw[hl]; exact(dP.mp e).1
  rcases hg k ss[k] (by simp[hk])with⟨_,z,_⟩ | ⟨j,p,z1,z2,z3⟩
  ·rw[e]at z; cases z
  ·rw[e]at z1; cases z1; exact slen _ _ z2
 refine⟨fun j b=>(∃ k:Nat,as[k]?=some (.inr j)/\S' k b)\/(j∉cS as/\S j b),⟨by rw[xv]; exact r.len,r'.ex,fun j pv e=>?_,fun j po e=>?_,fun j b h=>?_,fun i j b h1 h2=>?_⟩,⟨g.fro,fun b o e n=>g.keep b o e fun z=>n (vH b z),g.there,fun a z=>(g.fnew a z).imp id fun w=>w.imp id (vH a),fun b ⟨j,z⟩=>?_⟩,fun b ⟨j,z⟩=>?_⟩
 ·by_cases hj:j∈cS as
  ·obtain⟨k,hk⟩:=CL.mp hj
   obtain⟨po,q⟩:=hso k j hk
   rw[sZ as ε aE j k _ nd (lt k j hk) hk q]at e
   cases e
  ·rw[q8 as ε aE j hj]at e
   obtain⟨v,h1,h2⟩:=r.val j pv e
   exact⟨v,h1,h2.grow g fit⟩
 ·by_cases hj:j∈cS as
  ·obtain⟨k,hk⟩:=CL.mp hj
   obtain⟨po',q⟩:=hso k j hk
   rw[sZ as ε aE j k _ nd (lt k j hk) hk q]at e
   cases e
   obtain⟨a,h1,h2⟩:=r'.own k po q
   obtain⟨v,a1,a2⟩:=ha.own hk
   rw[up h1]at a1
   cases a1
   have eS:(fun b=>(∃ k:Nat,as[k]?=some (.inr j)/\S' k b)\/(j∉cS as/\S j b))=S' k:=by
    funext b
    refine propext ⟨fun z=>?_,fun z=>.inl ⟨k,hk,z⟩⟩
    rcases z with⟨l,z1,z2⟩ | ⟨z,_⟩
    ·rw[wy nd hk z1]; exact z2
    ·exact absurd hj z
   exact⟨a,a2,by rw[eS]; exact h2⟩
  ·rw[q8 as ε aE j hj]at e
   obtain⟨a,h1,h2⟩:=r.own j po e
   have eS:(fun b=>(∃ k:Nat,as[k]?=some (.inr j)/\S' k b)\/(j∉cS as/\S j b))=S j:=by
    funext b
    refine propext ⟨fun z=>?_,fun z=>.inr ⟨hj,z⟩⟩
    rcases z with⟨l,z1,z2⟩ | ⟨_,z⟩
    ·exact absurd (CL.mpr ⟨l,z1⟩) hj
    ·exact z
   have h3:fW K H' F' po a (S j):=by
    refine h2.mono (fun _ _ q=>q.grow g fit) (fun _ _ q=>q.grow g fit) fun b o z q=>g.keep b o q fun⟨l,i,w1,w2⟩=>?_
    have:=r.dist i j b w2 z
    subst this
    exact hj (CL.mpr ⟨l,w1⟩)
   exact⟨a,h1,by rw[eS]; exact h3⟩
 ·rcases h with⟨k,h1,h2⟩ | ⟨h1,h2⟩
  ·obtain⟨⟨po,q⟩,q2⟩:=r'.foot k b h2
   exact⟨⟨po,sZ as ε aE j k _ nd (lt k j h1) h1 q⟩,q2⟩
  ·obtain⟨⟨po,q⟩,q2,o,q3,q4⟩:=r.foot j b h2
   have no:¬ U (mr as S) b:=fun⟨l,i,w1,w2⟩=>by
    have:=r.dist i j b w2 h2
    subst this
    exact h1 (CL.mpr ⟨l,w1⟩)
   refine⟨⟨po,by rw[q8 as ε aE j h1]; exact q⟩,fun z=>?_,o,g.keep b o q3 no,q4⟩
   rcases g.fnew b z with w | w | w
   ·exact q2 w
   ·rw[q3]at w; cases w
   ·exact no w
 ·have cross:∀ {i j:Nat} {b:Addr},(∃ k:Nat,as[k]?=some (.inr i)/\S' k b)->(j∉cS as/\S j b)->False:=fun {i j b} ⟨k,w1,w2⟩ ⟨w3,w4⟩=>by
   obtain⟨_,_,o,q3,_⟩:=r.foot j b w4
   rcases g.onew b (hO b ⟨k,w2⟩)with⟨l,i',z1,z2⟩ | z
   ·have:=r.dist i' j b z2 w4
    subst this
    exact w3 (CL.mpr ⟨l,z1⟩)
   ·rw[q3]at z; cases z
  rcases h1 with h1 | h1 <;> rcases h2 with h2 | h2
  ·obtain⟨k,a1,a2⟩:=h1
   obtain⟨l,b1,b2⟩:=h2
   have:=r'.dist k l b a2 b2
   subst this
   rw[a1]at b1; cases b1; rfl
  ·exact(cross h1 h2).elim
  ·exact(cross h2 h1).elim
  ·exact r.dist i j b h1.2 h2.2
 ·rcases z with⟨k,_,z⟩ | ⟨_,z⟩
  ·rcases g.onew b (hO b ⟨k,z⟩)with w | w
   ·exact .inl (vH b w)
   ·exact .inr w
  ·exact .inl ⟨j,z⟩
 ·rcases z with⟨k,_,z⟩ | ⟨_,z⟩
  ·exact .inl ⟨k,z⟩
  ·exact .inr ⟨j,z⟩
end
def DR(X:Cx)(E:XK)(e:Expr)(d:ae->R Slot):Prop :=
 ∀ F S ε σ H Q,aP X.K F S ε σ H->Ok X.K E σ F S H (d ε) (fun s _ F' S' H'=>∀ v Sr,vt X.K H' F' s v Sr->(∀ b,Sr b->H b=none/\¬ F' b/\¬ U S' b/\∃ o,H' b=some o/\gb o)->Q v H')->jb X e σ H Q
def fU:List bY->ae->Bool
 | [],_=>true
 | .inl _::as,_::ss=>fU as ss
 | .inr _::as,.own _::ss=>fU as ss
 | _,_=>false
theorem oX:∀ {as:List bY} {ss:ae},fU as ss=true->∀ (k:Nat) i,as[k]?=some (.inr i)->∃ po,ss[k]?=some (.own po)
 | [],_,_,k,i,h=>by simp at h
 | .inl _::as,s::ss,q,0,i,h=>by simp at h
 | .inl _::as,s::ss,q,k+1,i,h=>by simpa using oX (as:=as) (ss:=ss) (by unfold fU at q; exact q) k i (by simpa using h)
 | .inr _::as,.own po::ss,q,0,i,h=>⟨po,rfl⟩
 | .inr _::as,.own po::ss,q,k+1,i,h=>by simpa using oX (as:=as) (ss:=ss) (by unfold fU at q; exact q) k i (by simpa using h)
 | .inr _::as,.val _::ss,q,k,i,h=>by cases q
 | .inr _::as,.none::ss,q,k,i,h=>by cases q
 | .inl _::as,[],q,k,i,h=>by cases q
 | .inr _::as,[],q,k,i,h=>by cases q
def ig{α:Type}(ε:ae)(as:List bY)(r:R α):R α:=match r with
 | .ok s aE=>if fU as aE then .ok s (fA ε as aE)else .no
 | .er c aE=>if fU as aE then .er c (fA ε as aE)else .no
 | .no=>.no
def aF(g:ae->R Slot)(dg:ae->R (List bY)):ae->R Slot:=fun ε=>(dg ε).bind fun as ε1=>(aW (if(cS as).Nodup then e_ ε1 as else none) ε1).bind fun ss ε1=>ig ε1 as (g ss)
section
variable{CX:gv}{X:Cx}{E:XK}{pin:List Nat}{e:Expr}{es:List Expr}{dg:ae->R (List bY)}{pos:Pos}{x:Str}{k:Nat}{ps:List Str}{g:ae->R Slot}{p:Pos}{d:ae->R Slot}
theorem bT(c:cf CX X.prog X.w X.K X.mg X.base x k ps (bR X.K g))(hr:fe k X.A)(hx:ql CX X E)(ha:DG X E (e::es) dg)(hg:Gl X x:=by rfl)
  (hd:(x == ("__debug__" : Str))=false:=by decide) (h1:aZ (e::es) X.env=(false,eval e X.env)::aZ es X.env:=by rfl) (h2:(eU pos (aZ es X.env)).any (·.1)=false:=by rfl) :
  DR X E (.Call (.Name x p) (e::es) [] pos) (aF g dg):=fun F S ε σ H Q rl h=>by
 obtain⟨f,fd,hm,Fn,hb,hk⟩:=c.ex
 refine cE (DL Fn hr hg hm hk hb .nil hx gy hd h1 h2) (ha F S ε σ H _ rl ((Ok.bind h).imp fun as ε1 F1 S1 H1 r1 g1 q vs av=>?_))
 have q:=Ok.bind q
 by_cases nd:(cS as).Nodup
 ·rw[if_pos nd]at q
  cases es:e_ ε1 as with
  | none=>rw[es]at q; exact q.elim
  | some ss =>
   rw[es]at q
   have q:=q F1 S1 H1 r1 (bK.refl ..)
   dsimp only at q
   rw[iz]
   refine⟨F1,mr as S1,ss,r1.cal av es nd,?_⟩
   cases eg:g ss with
   | no=>rw[eg]at q; exact q.elim
   | er cv aE =>
    rw[eg]at q
    intro y F' S' H' r' g'
    unfold ig at q
    dsimp only at q
    by_cases kp:fU as aE=true
    ·rw[if_pos kp]at q
     obtain⟨S2,r2,g2,_⟩:=r1.called av es nd r' g' (fun _ z=>z) (oX kp)
     exact q y F' S2 H' r2 g2
    ·rw[if_neg kp]at q; exact q.elim
   | ok s aE =>
    rw[eg]at q
    intro v F' S' H' Sr r' g' rv lo fr
    unfold ig at q
    dsimp only at q
    by_cases kp:fU as aE=true
    ·rw[if_pos kp]at q
     obtain⟨S2,r2,g2,u2⟩:=r1.called av es nd r' g' (fun _ z=>.inl z) (oX kp)
     refine q F' S2 H' r2 g2 v Sr rv fun b z=>⟨nB g1 (fr b z),(lo b z).1,fun w=>?_,(lo b z).2.2⟩
     rcases u2 b w with w | ⟨i,w⟩
     ·exact(lo b z).2.1 w
     ·obtain⟨_,_,o,y1,_⟩:=r1.foot i b w
      rw[fr b z]at y1; cases y1
    ·rw[if_neg kp]at q; exact q.elim
 ·rw[if_neg nd]at q; exact q.elim
def E5:Slot->Option PV
 | .val pv=>some pv
 | .own (.lst xs)=>some (.lst xs)
 | _=>none
def aR(d:ae->R Slot):ae->R PV:=fun ε=>(d ε).bind fun s ε1=>aW (E5 s) ε1
def Jr:Slot->Option PO
 | .own po=>some po
 | _=>none
def nA(d:ae->R Slot):ae->R PO:=fun ε=>(d ε).bind fun s ε1=>aW (Jr s) ε1
theorem DR.dn(h:DR X E e d):DN X E e (nA d):=fun F S ε σ H Q rl q=>by
 unfold nA at q
 refine h F S ε σ H Q rl ?_
 cases e0:d ε with
 | no=>rw[e0]at q; exact q.elim
 | er c ε'=>rw[e0]at q; exact q
 | ok s ε1 =>
  rw[e0]at q
  cases s with
  | none=>exact q.elim
  | val pv=>exact q.elim
  | own po =>
   intro F1 S1 H1 r1 g1 v Sr rv fr
   obtain⟨a,rfl,ow⟩:=rv
   exact q F1 S1 H1 r1 g1 a Sr ow fr
theorem DR.de(h:DR X E e d):DE X E e (aR d):=fun F S ε σ H Q rl q=>by
 unfold aR at q
 cases e0:d ε with
 | no=>rw[e0]at q; exact q.elim
 | er c ε'=>refine h F S ε σ H Q rl ?_; rw[e0]at q ⊢; exact q
 | ok s ε1 =>
  cases s with
  | none=>rw[e0]at q; exact q.elim
  | val pv =>
   refine h F S ε σ H Q rl ?_
   rw[e0]at q ⊢
   exact fun F1 S1 H1 r1 g1 v Sr rv fr=>q F1 S1 H1 r1 g1 v rv.1
  | own po =>
   refine h.dn.de F S ε σ H Q rl ?_
   unfold dF nA
   rw[e0]at q ⊢
   cases po with
   | lst xs=>exact q
   | dK kvs=>exact q
   | lls h_=>exact q
   | ins C fs=>exact q
def sV(d:ae->R Slot):ae->R ax:=fun ε=>(d ε).bind fun s ε1=>.ok (.ret s) ε1
theorem zB(he:DR X E e d):DS X E pin (.Return (some e) pos) (sV d):=fun F S ε σ H D rl h=>by
 refine iH (wl cb) (he F S ε σ H _ rl ?_)
 unfold sV at h
 cases e0:d ε with
 | no=>rw[e0]at h; exact h.elim
 | er c ε'=>rw[e0]at h; exact fun x F' S' H' r' g'=>h x F' S' σ H' r' g' (jC.refl _ _)
 | ok s ε1 =>
  rw[e0]at h
  intro F1 S1 H1 r1 g1 v Sr rv fr
  exact h v F1 S1 σ H1 Sr r1 ⟨g1.fro,g1.keep,g1.there,g1.fnew,fun b z=>z.elim (g1.onew b) fun w=>.inr (fr b w).1⟩ (jC.refl _ _) rv fun b z=>(fr b z).2
def nI(d:ae->R Slot):ae->R ax:=fun ε=>(d ε).bind fun _ ε1=>.ok .next ε1
theorem tQ(he:DR X E e d)(hs:nO e none pos.line X.env=pure false:=by rfl):DS X E pin (.Expr e pos) (nI d):=fun F S ε σ H D rl h =>
 iH (zk cb hs) (he F S ε σ H _ rl (h.bindE.imp fun x ε1 F1 S1 H1 r1 g1 h1 v Sr rv fr=>h1 F1 S1 σ H1 r1 (bK.refl ..) (jC.refl _ _)))
end
end Pu
namespace Pu
open L2
def dY(ε:ae):List Nat->Option (List bY)
 | []=>some []
 | j::cap=>match ε[j]? with
  | some (.val pv)=>(dY ε cap).map (.inl pv::·)
  | some (.own _)=>(dY ε cap).map (.inr j::·)
  | _=>none
def et{α:Type}(cap:List Nat)(d:ae->R α)(x:PV):ae->R α:=fun ε=>(aW (dY ε cap) ε).bind fun as _=>(aW (if(cS as).Nodup then e_ ε (.inl x::as)else none) ε).bind fun ss _=>ig ε (.inl x::as) (d ss)
def dr{α:Type}(r:R α):R α:=match r with
 | .er _ _=>.no
 | r=>r
def j0(cap:List Nat)(dt:ae->R Bool)(de:ae->R PV):List PV->List PV->ae->R (List PV)
 | [],am,ε=>.ok am ε
 | x::xs,am,ε=>(dr (et cap dt x ε)).bind fun k ε1=>match k with
  | true=>(dr (et cap de x ε1)).bind fun y ε2=>j0 cap dt de xs (am++[y]) ε2
  | false=>j0 cap dt de xs am ε1
def dU(cap:List Nat)(di:ae->R (List PV))(dt:ae->R Bool)(de:ae->R PV):ae->R PO:=fun ε=>(di ε).bind fun xs ε1=>(j0 cap dt de xs [] ε1).bind fun ys ε2=>.ok (.lst ys) ε2
theorem Az{K:ao}{F:Addr->Prop}{S:Nat->Addr->Prop}{ε:ae}{σ:St}{H:Hp}(r:aP K F S ε σ H):∀ {cap:List Nat} {as:List bY},dY ε cap=some as->∃ vs,jz K σ F H as vs/\eZ σ cap=vs.map some
 | [],as,h=>by cases h; exact⟨[],rfl,rfl⟩
 | j::cap,as,h=>by
  unfold dY at h
  split at h
  ·rename_i pv e
   cases q:dY ε cap with
   | none=>rw[q]at h; cases h
   | some bs =>
    rw[q]at h; cases h
    obtain⟨vs,h1,h2⟩:=Az r q
    obtain⟨v,e1,e2⟩:=r.val j pv e
    refine⟨v::vs,⟨v,vs,rfl,e2,h1⟩,?_⟩
    show(σ[j]?).join::eZ σ cap=_
    rw[e1,h2]; rfl
  ·rename_i po e
   cases q:dY ε cap with
   | none=>rw[q]at h; cases h
   | some bs =>
    rw[q]at h; cases h
    obtain⟨vs,h1,h2⟩:=Az r q
    obtain⟨a,e1,e2⟩:=r.own j po e
    refine⟨.ref a::vs,⟨_,vs,rfl,e1,h1⟩,?_⟩
    show(σ[j]?).join::eZ σ cap=_
    rw[e1,h2]; rfl
  ·cases h
theorem Fo{K:ao}{E:XK}{F:Addr->Prop}{S:Nat->Addr->Prop}{ε:ae}{σ:St}{H:Hp}{α:Type}{cap:List Nat}{d:ae->R α}{x:PV}{v:V}{C:α->ae->(Addr->Prop)->(Nat->Addr->Prop)->Hp->Prop}
  (r:aP K F S ε σ H) (rx:aT K H F x v) (h:Ok K E σ F S H (dr (et cap d x ε)) C) :
  ∃ Sb ss,aP K F Sb ss (some v::eZ σ cap) H/\Ok K E0 (some v::eZ σ cap) F Sb H (d ss) (fun a _ F' _ H'=>∃ ε' S',aP K F' S' ε' σ H'/\bK (U S) (U S') F F' H H'/\C a ε' F' S' H'):=by
 unfold et at h
 cases ec:dY ε cap with
 | none=>rw[ec]at h; exact h.elim
 | some as =>
  rw[ec]at h
  simp only[c_,R.bind_ok]at h
  by_cases nd:(cS as).Nodup
  ·rw[if_pos nd]at h
   cases es:e_ ε (.inl x::as)with
   | none=>rw[es]at h; exact h.elim
   | some ss =>
    rw[es]at h
    simp only[c_,R.bind_ok]at h
    obtain⟨vs,av,ev⟩:=Az r ec
    have av':jz K σ F H (.inl x::as) (v::vs):=⟨v,vs,rfl,rx,av⟩
    have eσ:some v::eZ σ cap=(v::vs).map some:=by rw[ev]; rfl
    have nd':(cS (.inl x::as)).Nodup:=nd
    refine⟨mr (.inl x::as) S,ss,by rw[eσ]; exact r.cal av' es nd',?_⟩
    rw[eσ]
    cases ed:d ss with
    | no=>rw[ed]at h; exact h.elim
    | er c aE =>
     rw[ed]at h
     unfold ig at h
     dsimp only at h
     by_cases kp:fU (.inl x::as) aE=true
     ·rw[if_pos kp]at h; exact h.elim
     ·rw[if_neg kp]at h; exact h.elim
    | ok a aE =>
     rw[ed]at h
     intro F' S' H' r' g'
     unfold ig at h
     dsimp only at h
     by_cases kp:fU (.inl x::as) aE=true
     ·rw[if_pos kp]at h
      obtain⟨S2,r2,g2,_⟩:=r.called av' es nd' r' g' (fun _ z=>z) (oX kp)
      exact⟨_,S2,r2,g2,h F' S2 H' r2 g2⟩
     ·rw[if_neg kp]at h; exact h.elim
  ·rw[if_neg nd]at h; exact h.elim
def zy(X:Cx)(ifs:List Expr):TT:=fun σ H Q=>Bx (∀ aa s,Inv X aa σ H s->wpAny (model X.prog X.w) X.A (forIn ifs true fun c r=>if r=true then do let ok ← isTrue c X.env (eval c X.env); pure (ForInStep.yield ok)else pure (ForInStep.yield r)) (TP X aa σ Q) X.xe s)
def DF(X:Cx)(E:XK)(ifs:List Expr)(d:ae->R Bool):Prop:=∀ F S ε σ H Q,aP X.K F S ε σ H->Ok X.K E σ F S H (d ε) (fun b _ _ _ H'=>Q b H')->zy X ifs σ H Q
def dN:ae->R Bool:=fun ε=>.ok true ε
theorem oZ{X:Cx}{E:XK}:DF X E [] dN:=fun F S ε σ H Q rl h=>⟨fun aa s I=>EV aa s σ H Q I (h F S H rl (bK.refl ..))⟩
theorem FS{X:Cx}{E:XK}{c:Expr}{d:ae->R Bool}(h:DT X E c d):DF X E [c] d:=fun F S ε σ H Q rl q=>⟨fun aa s I=>Eb q_ aa s σ H Q I (h F S ε σ H Q rl q)⟩
theorem Ok.bindB{K:ao}{E:XK}{σ:St}{F F1:Addr->Prop}{S S1:Nat->Addr->Prop}{H H1:Hp}{α β:Type}{D:β->ae->(Addr->Prop)->(Nat->Addr->Prop)->Hp->Prop}{r:R α}{k:α->ae->R β}(h:Ok K E σ F S H (r.bind k) D)(g:bK (U S) (U S1) F F1 H H1) :
  Ok K E σ F1 S1 H1 r (fun a ε1 _ _ _=>Ok K E σ F S H (k a ε1) D):=by
 cases r with
 | no=>exact h
 | er c ε'=>exact fun x F' S' H' r' g'=>h x F' S' H' r' (g.trans g')
 | ok a ε'=>exact fun F' S' H' r' g'=>h
section
variable{X:Cx}{E:XK}{scope:Scope}{x:Str}{N':List Str}{cap:List Nat}
theorem bK.stay{O O' F F':Addr->Prop}{H H':Hp}(g:bK O O' F F' H H'){l:Addr}{o:HO}(e:H l=some o)(n:¬ O l)(nF:¬ F l):H' l=some o/\¬ F' l/\¬ O' l :=
 ⟨g.keep l o e n,fun z=>(g.fnew l z).elim nF fun w=>w.elim (fun q=>by rw[e]at q; cases q) n,fun z=>(g.onew l z).elim n fun q=>by rw[e]at q; cases q⟩
theorem Jy{elt iter:Expr}{px:Pos}{ifs:List Expr}{di:ae->R (List PV)}{dt:ae->R Bool}{de:ae->R PV}(hi:DI X E (.Name x px) iter di)
  (ht:∀ C s₀ H₀ ex pn,DF (c8 X scope N' C s₀ H₀ ex pn) E0 ifs dt) (he:∀ C s₀ H₀ ex pn,DE (c8 X scope N' C s₀ H₀ ex pn) E0 elt de)
  {F:Addr->Prop} {S:Nat->Addr->Prop} {ε:ae} {σ:St} {H:Hp} {Q:VK} (rl:aP X.K F S ε σ H) (h:Ok X.K E σ F S H (dU cap di dt de ε) (fun po _ F' S' H'=>∀ a Sa,fW X.K H' F' po a Sa->(∀ b,Sa b->H b=none/\¬ F' b/\¬ U S' b/\∃ o,H' b=some o/\gb o)->Q (.ref a) H')) :
  Eu (tJ X (.Name x px) iter) (fun σ H Q=>∀ C s₀ H₀ ex pn,zy (c8 X scope N' C s₀ H₀ ex pn) ifs σ H Q) (fun σ H Q=>∀ C s₀ H₀ ex pn,jb (c8 X scope N' C s₀ H₀ ex pn) elt σ H Q) cap σ H Q:=by
 refine hi F S ε σ H _ rl ((Ok.bind h).imp fun xs ε1 F1 S1 H1 r1 g1 h1 J vs RR rs hz hw keep l hl=>?_)
 have h1:=h1.bind
 have hvl:vs.length=xs.length:=rs.len
 have a0:Al F1 F1 H1 (upd H1 l (.lst [])):=Al.new0 hl
 have nF1:¬ F1 l:=fun z=>by obtain⟨o,q⟩:=r1.ex l z; rw[hl]at q; cases q
 have nS1:¬ U S1 l:=fun⟨i,z⟩=>by obtain⟨_,_,o,q,_⟩:=r1.foot i l z; rw[hl]at q; cases q
 have hH:H l=none:=nB g1 hl
 refine⟨fun i m ys H'=>m=xs.length-i/\i<=xs.length/\∃ F' S' ε' am,aP X.K F' S' ε' σ H'/\bK (U S1) (U S') F1 F' H1 H'/\H' l=some (.lst ys)/\¬ F' l/\¬ U S' l/\a9 X.K H' F' am ys/\ys.length<=i /\
  Ok X.K E σ F1 S1 H1 (j0 cap dt de (xs.drop i) am ε') (fun ys' ε2 F2 S2 H2=>Ok X.K E σ F2 S2 H2 (R.ok (PO.lst ys') ε2) (fun po _ F' S' H'=>∀ a Sa,fW X.K H' F' po a Sa->(∀ b,Sa b->H b=none/\¬ F' b/\¬ U S' b/\∃ o,H' b=some o/\gb o)->Q (.ref a) H')),
  ⟨_,rfl,j9 _,F1,S1,ε1,[],r1.al a0,a0.grow,bA,nF1,nS1,rfl,aL _,h1⟩,?_⟩
 rintro i m ys H2 ⟨rfl,hi,F2,S2,ε2,am,r2,g2,el,nF2,nS2,racc,hyl,q2⟩
 have RH:=keep S2 F2 H2 g2
 by_cases aX:i<xs.length
 ·obtain⟨v,hv⟩:∃ v,vs[i]?=some v:=⟨_,eV (by ac_rfl)⟩
  obtain⟨go,yl⟩:=(hw H2 RH i).1 v hv
  refine .inr ⟨go,fun v' H' y=>?_⟩
  obtain⟨e1,e2⟩:=yl v' H' y
  subst e1 e2
  obtain⟨px',hx,rx⟩:=rs.back hv
  have ed:xs.drop i=px'::xs.drop (i+1):=by
   rw[xN aX]
   congr 1
   exact(dP.mp hx).2
  rw[ed]at q2
  have rx2:=rx.grow g2 r1.fit
  have q3:=Ok.bindB q2 g2
  obtain⟨Sb,ss,rb,okb⟩:=Fo r2 rx2 q3
  intro C s₀ H₀ ex pn
  refine ht C s₀ H₀ ex pn F2 Sb ss _ H' _ rb (okb.imp fun b _ F3 _ H3 _ _ ⟨ε3,S3,r3,g3,q4⟩=>?_)
  obtain⟨el3,nF3,nS3⟩:=g3.stay el nS2 nF2
  cases b with
  | false=>exact qV ⟨_,by ac_rfl,rfl,aX,F3,S3,ε3,am,r3,g2.trans g3,el3,nF3,nS3,racc.grow g3 r2.fit,by ac_rfl,q4⟩
  | true =>
   refine qx ?_
   have q5:Ok X.K E σ F1 S1 H1 ((dr (et cap de px' ε3)).bind fun y ε2=>j0 cap dt de (xs.drop (i+1)) (am++[y]) ε2) _:=q4
   obtain⟨Sc,sc,rc,okc⟩:=Fo r3 (rx2.grow g3 r2.fit) (Ok.bindB q5 (g2.trans g3))
   intro C s₀ H₀ ex pn
   refine he C s₀ H₀ ex pn F3 Sc sc _ H3 _ rc (okc.imp fun y _ F4 _ H4 _ _ ⟨ε4,S4,r4,g4,q6⟩ u ru=>?_)
   obtain⟨el4,nF4,nS4⟩:=g4.stay el3 nS3 nF3
   have racc4:=(racc.grow g3 r2.fit).grow g4 r3.fit
   have gl:bK (fun b=>U S4 b\/b=l) (U S4) F4 F4 H4 (upd H4 l (.lst (ys++[u]))):=⟨fun _ z=>z,fun b o e n=>by rw[bp fun z=>n (.inr z)]; exact e,fun b o e=>by
    by_cases hb:b=l
    ·subst hb; exact⟨_,bA⟩
    ·exact⟨o,by rw[bp hb]; exact e⟩,fun _ z=>.inl z,fun _ z=>.inl (.inl z)⟩
   have fit4:nJ (fun b=>U S4 b\/b=l) F4 H4:=fun b z=>by
    rcases z with z | rfl
    ·exact r4.fit b z
    ·exact⟨nF4,_,el4,trivial⟩
   have r5:aP X.K F4 S4 ε4 σ (upd H4 l (.lst (ys++[u]))):=by
    refine⟨r4.len,fun b z=>let ⟨o,q⟩:=r4.ex b z; gl.there b o q,fun j pv e=>?_,fun j po e=>?_,fun j b z=>?_,r4.dist⟩
    ·obtain⟨w,x1,x2⟩:=r4.val j pv e; exact⟨w,x1,x2.grow gl fit4⟩
    ·obtain⟨w,x1,x2⟩:=r4.own j po e
     refine⟨w,x1,x2.mono (fun _ _ q=>q.grow gl fit4) (fun _ _ q=>q.grow gl fit4) fun b o z q=>?_⟩
     rw[bp (by rintro rfl; exact nS4 ⟨j,z⟩)]; exact q
    ·obtain⟨x1,x2,o,x3,x4⟩:=r4.foot j b z
     exact⟨x1,x2,o,by rw[bp (by rintro rfl; exact nS4 ⟨j,z⟩)]; exact x3,x4⟩
   have g5:bK (U S1) (U S4) F1 F4 H1 (upd H4 l (.lst (ys++[u]))):=by
    have gg:=(g2.trans g3).trans g4
    refine⟨gg.fro,fun b o e n=>?_,fun b o e=>?_,gg.fnew,gg.onew⟩
    ·rw[bp (by rintro rfl; rw[hl]at e; cases e)]; exact gg.keep b o e n
    ·obtain⟨o',q⟩:=gg.there b o e; exact gl.there b o' q
   refine⟨el4,?_,_,by ac_rfl,rfl,aX,F4,S4,ε4,am++[y],r5,g5,bA,nF4,nS4,(racc4.grow gl fit4).app (.one (ru.grow gl fit4)),by simp; ac_rfl,q6⟩
   ac_rfl
 ·have e:i=xs.length:=by ac_rfl
  subst e
  refine .inl ⟨(hw H2 RH _).2 hvl.symm,?_⟩
  rw[List.drop_length]at q2
  exact q2 F2 S2 H2 r2 g2 F2 S2 H2 r2 (bK.refl ..) l (fun b=>b=l) ⟨⟨ys,el,racc⟩,fun b=>pF⟩ fun b z=>by subst z; exact⟨hH,nF2,nS2,_,el,trivial⟩
theorem mB{elt iter:Expr}{px pos:Pos}{ifs:List Expr}{di:ae->R (List PV)}{dt:ae->R Bool}{de:ae->R PV}(B:km X scope x N' cap)(hc:X.calm=true)(hi:DI X E (.Name x px) iter di)
  (ht:∀ C s₀ H₀ ex pn,DF (c8 X scope N' C s₀ H₀ ex pn) E0 ifs dt) (he:∀ C s₀ H₀ ex pn,DE (c8 X scope N' C s₀ H₀ ex pn) E0 elt de) (hs:∀ x,rg iter X.env x=pure x:=by intro _; rfl) :
  DN X E (.ListComp elt [⟨.Name x px,iter,ifs,0⟩] scope pos) (dU cap di dt de):=fun F S ε σ H Q rl h =>
 cE (B4 (wi:=tJ X (.Name x px) iter) (ts:=fun σ H Q=>∀ C s₀ H₀ ex pn,zy (c8 X scope N' C s₀ H₀ ex pn) ifs σ H Q) (te:=fun σ H Q=>∀ C s₀ H₀ ex pn,jb (c8 X scope N' C s₀ H₀ ex pn) elt σ H Q) (pos:=pos) B hc FZ
  (fun C s₀ H₀ ex pn aa s σ H Q I h=>(h C s₀ H₀ ex pn).run aa s I) (fun C s₀ H₀ ex pn aa s σ H Q I h=>(h C s₀ H₀ ex pn).run aa s I) hs) (Jy hi ht he rl h)
end
end Pu
namespace Pu
open L2
theorem LQ(x y:Tx):tS x++tS y=tS (x++y):=by
 show(⟨x.toArray++y.toArray⟩:Str)=⟨(x++y).toArray⟩
 simp
def ay:PV->PV->Option PV
 | .int i,.int j=>some (.int (i+j))
 | .str x,.str y=>if(x++y).length<=be then some (.str (x++y))else none
 | .tup xs,.tup ys=>if xs≠[]/\ys≠[]/\xs.length+ys.length<=1000 then some (.tup (xs++ys))else none
 | .lst xs,.lst ys=>if xs.length+ys.length<=be then some (.lst (xs++ys))else none
 | _,_=>none
def cF:PV->PV->Option PV
 | .int i,.int j=>some (.int (i-j))
 | _,_=>none
def sT(i:Int):Bool:=decide (-(2 ^ 64)<i/\i<2 ^ 64)
def gU:PV->PV->Option PV
 | .int i,.int j=>if sT i || sT j then some (.int (i * j))else none
 | .str x,.int j=>if 0<=j/\j<=100/\x.length<=100 then some (.str (bj j.toNat x).flatten)else none
 | _,_=>none
def gW:PV->PV->Option PV
 | .int i,.int j=>if 0<j then some (.int (i % j))else none
 | _,_=>none
def sx:PV->PV->Option PV
 | .int i,.int j=>if 0<=j/\j<=1000000/\i.natAbs<2 ^ 64 then some (.int (i ^ j.toNat))else none
 | _,_=>none
def gM:PV->Option PV
 | .int i=>some (.int (-i))
 | _=>none
def Fi:R2:=fun x y H Q=>∃ l b xs zs,x = .ref l/\y = .ref b/\Rd H l (.lst xs)/\Rd H b (.lst zs)/\xs.length+zs.length<=a7/\∀ p,H p=none->Q (.ref p) (upd H p (.lst (xs++zs)))
def Gz(K:ao):R2:=fun x y H Q=>((lH fun i j=>V.int (i+j)) x y H Q\/∃ i j,x = .str i/\y = .str j/\i.length+j.length<=a7/\Q (.str (i++j)) H)\/(FC K x y H Q\/Fi x y H Q)
def DH:R2:=fun x y H Q=>rI Ay (fun i j=>.int (i * j)) x y H Q\/∃ (z:Tx) (n:Nat),x=tV z/\y = .int n/\n<=100/\z.length<=100/\Q (tV (bj n z).flatten) H
section
variable{X:Cx}{K:ao}
theorem ju:P2 K (lH fun i j=>.int (i-j)) cF:=fun F H x y v u Q pv rx ry e q=>by
 unfold cF at e
 split at e
 ·cases e; exact⟨_,_,rx,ry,q _ F H (Al.refl ..) rfl⟩
 ·cases e
theorem sw:P2 K (rI (fun _ j=>0<j) fun i j=>.int (i % j)) gW:=fun F H x y v u Q pv rx ry e q=>by
 unfold gW at e
 split at e
 ·split at e
  ·cases e; exact⟨_,_,rx,ry,by assumption,q _ F H (Al.refl ..) rfl⟩
  ·cases e
 ·cases e
theorem P_:P2 K (rI C4 fun i j=>.int (i ^ j.toNat)) sx:=fun F H x y v u Q pv rx ry e q=>by
 unfold sx at e
 split at e
 ·split at e
  ·cases e; exact⟨_,_,rx,ry,by assumption,q _ F H (Al.refl ..) rfl⟩
  ·cases e
 ·cases e
theorem wE:P1 K (rU fun i=>.int (-i)) gM:=fun F H x v Q pv rx e q=>by
 unfold gM at e
 split at e
 ·cases e; exact⟨_,rx,q _ F H (Al.refl ..) rfl⟩
 ·cases e
theorem yX{aa:List (Addr×Obj)}{σ:St}{H:Hp}{s:ah}{l:Addr}{xs:List V}(I:Inv X aa σ H s)(h:Rd H l (.lst xs)):∃ (its:List Value) (n:Nat),bh xs its/\s.heap.get? l=some { cls:=.type "list",data:=.seq its.toArray n }/\xs.length<=a7:=by
 obtain⟨z,its,n,r,e⟩:=h.ok I.hok
 exact⟨its,n,r,e,z⟩
theorem Ky:bW X (iR .Add) Fi:=by
 intro aa s σ H x y v u Q I rx ry h
 obtain⟨l,b,xs,zs,rfl,rfl,hl,hb,hz,q⟩:=h
 cases rx
 cases ry
 obtain⟨its,n,r,e,_⟩:=yX I hl
 obtain⟨its2,n2,r2,e2,_⟩:=yX I hb
 have hl:=r.length
 have jR:=r2.length
 refine PySem.P.add_list e e2 ?_ (by rw[cA,cA]; ac_rfl)
 have ea:its.toArray++its2.toArray=(its++its2).toArray:=by simp
 rw[ea]
 exact⟨.ref _,_,I.lnew (t':=s.toks) (r.append r2) (by rw[cT]; ac_rfl),rfl,q _ I.fresh⟩
theorem cC:bW X (iR .Add) (Gz X.K):=(Ry.or Ip).or (RQ.or Ky)
theorem cB:P2 K (Gz K) ay:=fun F H x y v u Q pv rx ry e q=>by
 unfold ay at e
 split at e
 ·cases e; exact .inl (.inl ⟨_,_,rx,ry,q _ F H (Al.refl ..) rfl⟩)
 ·rename_i x y
  split at e
  ·rename_i hl
   cases e
   refine .inl (.inr ⟨_,_,rx.1,ry.1,?_,?_⟩)
   ·rw[ly,ly]; rw[cT]at hl; exact cp hl mi
   ·exact q _ F H (Al.refl ..) ⟨by rw[LQ]; rfl,hl⟩
  ·cases e
 ·rename_i xs ys
  split at e
  ·rename_i hl
   cases e
   obtain⟨a,vs,rfl,ha,ra⟩:=rx
   obtain⟨b,ws,rfl,hb,rb⟩:=ry
   have la:=ra.len
   have lb:=rb.len
   refine .inr (.inl ⟨a,b,vs,ws,rfl,rfl,cJ.of ha,cJ.of hb,fun z=>hl.1 (by rw[z]at la; exact xG la.symm),by rw[la,lb]; exact zt hl.2.2,fun z=>absurd (by rw[z]at lb; exact xG lb.symm) hl.2.1,fun _ p hp=>?_⟩)
   exact q _ F _ (Al.new0 hp) ⟨p,_,rfl,bA,(Al.new0 hp).reps (ra.app rb)⟩
  ·cases e
 ·rename_i xs ys
  split at e
  ·rename_i hl
   cases e
   obtain⟨a,vs,rfl,ha,fa,ra⟩:=rx
   obtain⟨b,ws,rfl,hb,fb,rb⟩:=ry
   have la:=ra.len
   have lb:=rb.len
   refine .inr (.inr ⟨a,b,vs,ws,rfl,rfl,ha,hb,by rw[la,lb]; exact cp hl mi,fun p hp=>?_⟩)
   exact q _ _ _ (Al.new hp) ⟨p,_,rfl,.inl bA,.inr rfl,(Al.new hp).reps (ra.app rb)⟩
  ·cases e
 ·cases e
theorem tm:bW X (iR .Mult) DH:=RI.or IW
theorem sA:P2 K DH gU:=fun F H x y v u Q pv rx ry e q=>by
 unfold gU at e
 split at e
 ·rename_i i j
  split at e
  ·rename_i h
   cases e
   refine .inl ⟨_,_,rx,ry,?_,q _ F H (Al.refl ..) rfl⟩
   rw[xH]at h
   exact h.imp of_decide_eq_true of_decide_eq_true
  ·cases e
 ·rename_i x j
  split at e
  ·rename_i h
   cases e
   refine .inr ⟨x,j.toNat,rx.1,?_,by ac_rfl,h.2.2,q _ F H (Al.refl ..) ⟨rfl,?_⟩⟩
   ·rw[show u=V.int j from ry]; congr 1; ac_rfl
   ·rw[Mu]
    have h1:j.toNat<=100:=by ac_rfl
    exact cp (A8 h1 h.2.2) (by decide)
  ·cases e
 ·cases e
def gX(f:Int->Int->Bool):PV->PV->Option PV
 | .int i,.int j=>some (.bl (f i j))
 | _,_=>none
theorem j4{f:Int->Int->Bool}:P2 K (lH fun i j=>.bl (f i j)) (gX f):=fun F H x y v u Q pv rx ry e q=>by
 unfold gX at e
 split at e
 ·cases e; exact⟨_,_,rx,ry,q _ F H (Al.refl ..) rfl⟩
 ·cases e
def eA:PV->Option V
 | .non=>some .non
 | .bl b=>some (.bl b)
 | .int i=>some (.int i)
 | .str x=>some (tV x)
 | _=>none
theorem kr{H:Hp}{F:Addr->Prop}{x:PV}{v w:V}(r:aT K H F x v)(e:eA x=some w):v=w:=by
 cases x <;> simp[eA]at e <;> subst e
 ·exact r
 ·exact r
 ·exact r
 ·exact r.1
theorem z7{x:PV}{w:V}(e:eA x=some w):jH w=true:=by
 cases x <;> simp[eA]at e <;> subst e <;> rfl
mutual
def cy:PV->PV->Option Bool
 | .tup xs,y=>match y with
  | .tup ys=>gP xs ys
  | _=>none
 | .lst xs,y=>match y with
  | .lst ys=>gP xs ys
  | _=>none
 | .non,y=>(eA y).map (ic .non)
 | .bl b,y=>(eA y).map (ic (.bl b))
 | .int i,y=>(eA y).map (ic (.int i))
 | .str x,y=>(eA y).map (ic (tV x))
 | .raw _,_=>none
 | .exc _,_=>none
def gP:List PV->List PV->Option Bool
 | [],ys=>some ys.isEmpty
 | x::xs,ys=>match ys with
  | []=>some false
  | y::ys=>(cy x y).bind fun a=>(gP xs ys).map fun b=>a && b
end
mutual
def iK:PV->Nat
 | .tup xs=>im xs+1
 | .lst xs=>im xs+1
 | _=>0
def im:List PV->Nat
 | []=>0
 | x::xs=>max (iK x) (im xs)
end
theorem EG{H:Hp}{d d':Nat}{x y:V}{k:Bool}(h:ik K H d x y k)(hd:d<=d'):ik K H d' x y k:=fun X hK aa σ s u v A I ru rv hu=>h X hK aa σ s u v A I ru rv (by ac_rfl)
theorem w_{H:Hp}{F:Addr->Prop}{w:V}{y:PV}{u:V}{k:Bool}{d:Nat}(fw:jH w=true)(e:(eA y).map (ic w)=some k)(ry:aT K H F y u):ik K H d w u k:=by
 cases q:eA y with
 | none=>rw[q]at e; cases e
 | some z =>
  rw[q]at e
  cases e
  rw[kr ry q]
  exact JW fw (z7 q)
theorem QY{H:Hp}{a:Addr}{xs ys:List V}(h:Rd H a (.lst xs))(g:Rd H a (.lst ys)):xs=ys:=by
 rcases h with h | ⟨o,h⟩ <;> rcases g with g | ⟨o',g⟩ <;> rw[h]at g <;> cases g <;> rfl
theorem QM{a:Bool}{e:Nat->Bool}{n m:Nat}:fV (fun j=>if j=0 then a else e (j-1)) (n+1) (m+1)=(a && fV e n m):=by
 unfold fV
 rw[show min (n+1) (m+1)=min n m+1 by ac_rfl,rn,uf,List.all_map,if_pos rfl,Bool.and_assoc]
 congr 1
 congr 1
 ·simp
mutual
theorem zK{H:Hp}{F:Addr->Prop}:∀ (x y:PV) {v:V} {k:Bool},cy x y=some k->aT K H F x v->aT K H F y v->k=true
 | .tup xs,y,v,k,e,rx,ry=>by
  unfold cy at e
  split at e
  ·obtain⟨a,vs,rfl,ha,ra⟩:=rx
   obtain⟨b,ws,eb,hb,rb⟩:=ry
   cases eb
   rw[ha]at hb
   cases hb
   exact zP xs _ e ra rb
  ·cases e
 | .lst xs,y,v,k,e,rx,ry=>by
  unfold cy at e
  split at e
  ·obtain⟨a,vs,rfl,ha,_,ra⟩:=rx
   obtain⟨b,ws,eb,hb,_,rb⟩:=ry
   cases eb
   rw[QY ha hb]at ra
   exact zP xs _ e ra rb
  ·cases e
 | .non,y,v,k,e,rx,ry=>by
  unfold cy at e
  cases q:eA y with
  | none=>rw[q]at e; cases e
  | some z=>rw[q]at e; cases e; rw[← kr ry q,show v=V.non from rx]; rfl
 | .bl b,y,v,k,e,rx,ry=>by
  unfold cy at e
  cases q:eA y with
  | none=>rw[q]at e; cases e
  | some z=>rw[q]at e; cases e; rw[← kr ry q,show v=V.bl b from rx]; exact beq_self_eq_true b
 | .int b,y,v,k,e,rx,ry=>by
  unfold cy at e
  cases q:eA y with
  | none=>rw[q]at e; cases e
  | some z=>rw[q]at e; cases e; rw[← kr ry q,show v=V.int b from rx]; exact beq_self_eq_true b
 | .str b,y,v,k,e,rx,ry=>by
  unfold cy at e
  cases q:eA y with
  | none=>rw[q]at e; cases e
  | some z=>rw[q]at e; cases e; rw[← kr ry q,show v=tV b from rx.1]; exact beq_self_eq_true (tS b)
 | .raw _,_,_,_,e,_,_=>by unfold cy at e; cases e
 | .exc _,_,_,_,e,_,_=>by unfold cy at e; cases e
theorem zP{H:Hp}{F:Addr->Prop}:∀ (xs ys:List PV) {vs:List V} {k:Bool},gP xs ys=some k->a9 K H F xs vs->a9 K H F ys vs->k=true
 | [],ys,vs,k,e,rx,ry=>by
  unfold gP at e
  rw[show vs=[] from rx]at ry
  have:=ry.len
  cases ys with
  | nil=>cases e; rfl
  | cons=>simp at this
 | x::xs,ys,vs,k,e,rx,ry=>by
  unfold gP at e
  obtain⟨v,r,rfl,h1,h2⟩:=rx
  cases ys with
  | nil=>have:=ry.len; simp at this
  | cons y ys =>
   obtain⟨v',r',ev,g1,g2⟩:=ry
   cases ev
   simp only at e
   cases q1:cy x y with
   | none=>rw[q1]at e; cases e
   | some a =>
    cases q2:gP xs ys with
    | none=>rw[q1,q2]at e; cases e
    | some b =>
     rw[q1,q2]at e
     cases e
     rw[zK x y q1 h1 g1,zP xs ys q2 h2 g2]; rfl
end
mutual
theorem P0{H:Hp}{F:Addr->Prop}:∀ (x y:PV) {v u:V} {k:Bool},cy x y=some k->aT K H F x v->aT K H F y u->ik K H (iK x) v u k
 | .tup xs,y,v,u,k,e,rx,ry=>by
  have e0:=e
  unfold cy at e
  split at e
  ·rename_i ys
   obtain⟨a,vs,rfl,ha,ra⟩:=id rx
   obtain⟨b,ws,rfl,hb,rb⟩:=id ry
   by_cases mU:a=b
   ·subst mU
    rw[zK _ _ e0 rx ry]
    exact EH
   ·obtain⟨f,hf,rfl⟩:=tt xs ys e ra rb
    unfold iK
    exact Jq (cJ.of ha) (cJ.of hb) mU hf
  ·cases e
 | .lst xs,y,v,u,k,e,rx,ry=>by
  have e0:=e
  unfold cy at e
  split at e
  ·rename_i ys
   obtain⟨a,vs,rfl,ha,_,ra⟩:=id rx
   obtain⟨b,ws,rfl,hb,_,rb⟩:=id ry
   by_cases mU:a=b
   ·subst mU
    rw[zK _ _ e0 rx ry]
    exact EH
   ·obtain⟨f,hf,rfl⟩:=tt xs ys e ra rb
    unfold iK
    exact Jc (.inl ha) (.inl hb) mU hf
  ·cases e
 | .non,y,v,u,k,e,rx,ry=>by unfold cy at e; rw[show v=V.non from rx]; exact w_ rfl e ry
 | .bl b,y,v,u,k,e,rx,ry=>by unfold cy at e; rw[show v=V.bl b from rx]; exact w_ rfl e ry
 | .int b,y,v,u,k,e,rx,ry=>by unfold cy at e; rw[show v=V.int b from rx]; exact w_ rfl e ry
 | .str b,y,v,u,k,e,rx,ry=>by unfold cy at e; rw[show v=tV b from rx.1]; exact w_ rfl e ry
 | .raw _,_,_,_,_,e,_,_=>by unfold cy at e; cases e
 | .exc _,_,_,_,_,e,_,_=>by unfold cy at e; cases e
theorem tt{H:Hp}{F:Addr->Prop}:∀ (xs ys:List PV) {vs us:List V} {k:Bool},gP xs ys=some k->a9 K H F xs vs->a9 K H F ys us ->
  ∃ f:Nat->Bool,(∀ (j:Nat) x y,vs[j]?=some x->us[j]?=some y->ik K H (im xs) x y (f j))/\k=fV f vs.length us.length
 | [],ys,vs,us,k,e,rx,ry=>by
  unfold gP at e
  rw[show vs=[] from rx]
  refine⟨fun _=>true,fun j x y h=>by simp at h,?_⟩
  have:=ry.len
  cases e
  unfold fV
  cases ys with
  | nil=>simp at this; simp[this]
  | cons=>rw[this]; simp
 | x::xs,ys,vs,us,k,e,rx,ry=>by
  unfold gP at e
  obtain⟨v,r,rfl,h1,h2⟩:=rx
  cases ys with
  | nil =>
   cases e
   rw[show us=[] from ry]
   exact⟨fun _=>true,fun j x y _ h=>by simp at h,by simp[fV]⟩
  | cons y ys =>
   obtain⟨u,r',rfl,g1,g2⟩:=ry
   simp only at e
   cases q1:cy x y with
   | none=>rw[q1]at e; cases e
   | some a =>
    cases q2:gP xs ys with
    | none=>rw[q1,q2]at e; cases e
    | some b =>
     rw[q1,q2]at e
     cases e
     obtain⟨f,hf,rfl⟩:=tt xs ys q2 h2 g2
     refine⟨fun j=>if j=0 then a else f (j-1),fun j p q hp hq=>?_,by rw[dQ,dQ,QM]⟩
     cases j with
     | zero =>
      simp at hp hq
      subst hp hq
      show ik K H _ _ _ (if(0:Nat)=0 then a else f (0-1))
      rw[if_pos rfl]
      exact EG (P0 x y q1 h1 g1) (by unfold im; exact Nat.le_max_left _ _)
     | succ j =>
      show ik K H _ _ _ (if j+1=0 then a else f (j+1-1))
      rw[if_neg (by ac_rfl)]
      exact EG (hf j p q (by simpa using hp) (by simpa using hq)) (show im xs<=max (iK x) (im xs)from Nat.le_max_right _ _)
end
def eqT(neg:Bool)(x y:PV):Option PV:=match eA x,eA y with
 | some v,some u=>if oB v u then some (.bl (neg ^^ decide (v=u)))else none
 | none,none=>if iK x<=8 then(cy x y).map fun k=>.bl (neg ^^ k)else none
 | _,_=>none
def F6(K:ao):R2:=fun x y H Q=>Ca x y H Q\/sI K false x y H Q
def CZ(K:ao):R2:=fun x y H Q=>CB x y H Q\/sI K true x y H Q
theorem lg(hu:X.A.units+64<cLine):bW X (d8 .Eq) (F6 X.K):=RT.or (N4 hu)
theorem vX(hu:X.A.units+64<cLine):bW X (d8 .NotEq) (CZ X.K):=Rw.or (QA hu)
theorem Ep{H:Hp}{F:Addr->Prop}{x y:PV}{v u:V}{k:Bool}{Q:VK}{neg:Bool}(hx:eA x=none)(e:cy x y=some k)(hd:iK x<=8)(rx:aT K H F x v)(ry:aT K H F y u)(q:Q (.bl (neg ^^ k)) H):sI K neg v u H Q:=by
 have fin:∀ {k':Bool},k=k'->Q (.bl (if neg=true then !k' else k')) H:=fun {k'} z=>by subst z; cases neg <;> simpa using q
 cases x with
 | tup xs =>
  unfold cy at e
  split at e
  ·rename_i ys
   obtain⟨a,vs,rfl,ha,ra⟩:=rx
   obtain⟨b,ws,rfl,hb,rb⟩:=ry
   obtain⟨f,hf,ek⟩:=tt xs ys e ra rb
   unfold iK at hd
   exact⟨a,b,vs,ws,im xs,f,rfl,rfl,.inr ⟨cJ.of ha,cJ.of hb⟩,by ac_rfl,hf,fin ek⟩
  ·cases e
 | lst xs =>
  unfold cy at e
  split at e
  ·rename_i ys
   obtain⟨a,vs,rfl,ha,_,ra⟩:=rx
   obtain⟨b,ws,rfl,hb,_,rb⟩:=ry
   obtain⟨f,hf,ek⟩:=tt xs ys e ra rb
   unfold iK at hd
   exact⟨a,b,vs,ws,im xs,f,rfl,rfl,.inl ⟨.inl ha,.inl hb⟩,by ac_rfl,hf,fin ek⟩
  ·cases e
 | raw _=>unfold cy at e; cases e
 | exc _=>unfold cy at e; cases e
 | non=>cases hx
 | bl _=>cases hx
 | int _=>cases hx
 | str _=>cases hx
theorem lm:P2 K (F6 K) (eqT false):=fun F H x y v u Q pv rx ry e q=>by
 unfold eqT at e
 split at e
 ·rename_i a b ea eb
  split at e
  ·rename_i hs
   cases e
   rw[kr rx ea,kr ry eb]
   refine .inl ⟨hs,?_⟩
   have:=q (.bl (decide (a=b))) F H (Al.refl ..) (by simp[aT])
   exact this
  ·cases e
 ·rename_i ea eb
  split at e
  ·rename_i hd
   cases ek:cy x y with
   | none=>rw[ek]at e; cases e
   | some k =>
    rw[ek]at e
    cases e
    exact .inr (Ep (neg:=false) ea ek hd rx ry (q _ F H (Al.refl ..) rfl))
  ·cases e
 ·cases e
theorem vy:P2 K (CZ K) (eqT true):=fun F H x y v u Q pv rx ry e q=>by
 unfold eqT at e
 split at e
 ·rename_i a b ea eb
  split at e
  ·rename_i hs
   cases e
   rw[kr rx ea,kr ry eb]
   refine .inl ⟨hs,?_⟩
   have:=q (.bl (!decide (a=b))) F H (Al.refl ..) (by simp[aT])
   exact this
  ·cases e
 ·rename_i ea eb
  split at e
  ·rename_i hd
   cases ek:cy x y with
   | none=>rw[ek]at e; cases e
   | some k =>
    rw[ek]at e
    cases e
    exact .inr (Ep (neg:=true) ea ek hd rx ry (q _ F H (Al.refl ..) rfl))
  ·cases e
 ·cases e
end
end Pu
namespace Pu
open L2
section
variable{X:Cx}{K:ao}
def vE(i j:Tx):Bool:=!(GU (tS j) (tS i) 0 (tS j).length 1).isEmpty
def m_:List PV->Option (List V)
 | []=>some []
 | x::xs=>(eA x).bind fun v=>(m_ xs).map fun r=>v::r
theorem FY{H:Hp}{F:Addr->Prop}:∀ {xs:List PV} {vs ws:List V},a9 K H F xs vs->m_ xs=some ws->vs=ws/\ws.all jH=true
 | [],_,_,r,e=>by cases e; exact⟨r,rfl⟩
 | x::xs,_,ws,⟨v,r,rfl,h1,h2⟩,e=>by
  unfold m_ at e
  cases q:eA x with
  | none=>rw[q]at e; cases e
  | some w =>
   cases q2:m_ xs with
   | none=>rw[q,q2]at e; cases e
   | some wr =>
    rw[q,q2]at e
    cases e
    obtain⟨e1,e2⟩:=FY h2 q2
    exact⟨by rw[kr h1 q,e1],by rw[uf,z7 q,e2]; rfl⟩
def qj(neg:Bool):PV->PV->Option PV
 | .str x,.str y=>some (.bl (neg ^^ vE x y))
 | x,.lst ys=>(eA x).bind fun v=>(m_ ys).map fun ws=>.bl (neg ^^ tY v ws)
 | x,.tup ys=>(eA x).bind fun v=>(m_ ys).map fun ws=>.bl (neg ^^ tY v ws)
 | _,_=>none
def Ci(K:ao):R2:=fun x y H Q=>(∃ i j,x = .str i/\y = .str j/\Q (.bl (!(GU j i 0 j.length 1).isEmpty)) H)\/yI K false x y H Q
theorem M8:bW X (d8 .In) (Ci X.K):=Rz.or OC
theorem E8{H:Hp}{F:Addr->Prop}{x:PV}{ys:List PV}{v:V}{p:Addr}{us:List V}{Q:VK}{neg:Bool}{pv:PV}(rx:aT K H F x v)(hp:bO K H p us\/cJ K H p us)(ru:a9 K H F ys us)
  (e:((eA x).bind fun v=>(m_ ys).map fun ws=>PV.bl (neg ^^ tY v ws))=some pv) (q:∀ w,aT K H F pv w->Q w H):yI K neg v (.ref p) H Q:=by
 cases q1:eA x with
 | none=>rw[q1]at e; cases e
 | some w =>
  cases q2:m_ ys with
  | none=>rw[q1,q2]at e; cases e
  | some ws =>
   rw[q1,q2]at e
   cases e
   obtain⟨rfl,hf⟩:=FY ru q2
   rw[kr rx q1]
   refine⟨p,us,rfl,hp,z7 q1,hf,?_⟩
   have:=q _ rfl
   cases neg <;> simpa using this
theorem MX:P2 K (Ci K) (qj false):=fun F H x y v u Q pv rx ry e q=>by
 unfold qj at e
 split at e
 ·cases e; exact .inl ⟨_,_,rx.1,ry.1,by have:=q _ F H (Al.refl ..) rfl; simpa[vE]using this⟩
 ·obtain⟨a,us,rfl,ha,_,ra⟩:=ry
  exact .inr (E8 (neg:=false) rx (.inl (.inl ha)) ra e fun w rw'=>q w F H (Al.refl ..) rw')
 ·obtain⟨a,us,rfl,ha,ra⟩:=ry
  exact .inr (E8 (neg:=false) rx (.inr (cJ.of ha)) ra e fun w rw'=>q w F H (Al.refl ..) rw')
 ·cases e
def ba:List PV->Option PV
 | [.str x]=>some (.int x.length)
 | [.lst xs]=>some (.int xs.length)
 | [.tup xs]=>some (.int xs.length)
 | _=>none
theorem gs{H:Hp}{F:Addr->Prop}{x:PV}{vs:List V}(r:a9 K H F [x] vs):∃ v,vs=[v]/\aT K H F x v:=by
 obtain⟨v,r',rfl,h1,h2⟩:=r
 rw[show r'=[] from h2]
 exact⟨v,rfl,h1⟩
theorem eC:PL K (fun xs H Q=>∃ x n,xs=[x]/\Eh K x H n/\Q (.int n) H) ba:=fun F H xs vs Q pv rs e q=>by
 unfold ba at e
 split at e
 ·cases e
  obtain⟨v,rfl,rv⟩:=gs rs
  rw[rv.1]
  exact⟨_,_,rfl,⟨by rw[ly]; exact cp rv.2 mi,rfl⟩,by rw[ly]; exact q _ F H (Al.refl ..) rfl⟩
 ·cases e
  obtain⟨v,rfl,a,us,rfl,ha,_,ra⟩:=gs rs
  exact⟨_,_,rfl,.inl ⟨us,.inl ha,rfl⟩,by rw[ra.len]; exact q _ F H (Al.refl ..) rfl⟩
 ·cases e
  obtain⟨v,rfl,a,us,rfl,ha,ra⟩:=gs rs
  exact⟨_,_,rfl,.inr ⟨us,cJ.of ha,rfl⟩,by rw[ra.len]; exact q _ F H (Al.refl ..) rfl⟩
 ·cases e
def xp:List PV->Option PO
 | [.lst xs]=>some (.lst xs)
 | [.tup xs]=>some (.lst xs)
 | _=>none
theorem LP:ox K (fun xs H Q=>∃ p ys,xs=[.ref p]/\(bO K H p ys\/cJ K H p ys)/\∀ l,H l=none->Q (.ref l) (upd H l (.lst ys))) xp:=fun F H xs vs Q po hF rs e q=>by
 unfold xp at e
 split at e
 ·cases e
  obtain⟨v,rfl,a,us,rfl,ha,_,ra⟩:=gs rs
  exact⟨a,us,rfl,.inl (.inl ha),fun l hl=>q l F _ _ (Al.new0 hl) (xm hl ra) (xi hl hF trivial)⟩
 ·cases e
  obtain⟨v,rfl,a,us,rfl,ha,ra⟩:=gs rs
  exact⟨a,us,rfl,.inr (cJ.of ha),fun l hl=>q l F _ _ (Al.new0 hl) (xm hl ra) (xi hl hF trivial)⟩
 ·cases e
def vL:List PV->Option PV
 | [.lst xs]=>some (.tup xs)
 | [.tup xs]=>some (.tup xs)
 | _=>none
theorem Px:PL K (fun xs H Q=>∃ p ys,xs=[.ref p]/\((bO K H p ys/\∀ l,H l=none->Q (.ref l) (upd H l (.tup ys)))\/(cJ K H p ys/\Q (.ref p) H))) vL:=fun F H xs vs Q pv rs e q=>by
 unfold vL at e
 split at e
 ·cases e
  obtain⟨v,rfl,a,us,rfl,ha,_,ra⟩:=gs rs
  exact⟨a,us,rfl,.inl ⟨.inl ha,fun l hl=>q _ F _ (Al.new0 hl) ⟨l,us,rfl,bA,(Al.new0 hl).reps ra⟩⟩⟩
 ·cases e
  obtain⟨v,rfl,a,us,rfl,ha,ra⟩:=gs rs
  exact⟨a,us,rfl,.inr ⟨cJ.of ha,q _ F H (Al.refl ..) ⟨a,us,rfl,ha,ra⟩⟩⟩
 ·cases e
def fR:List PV->Option (List Tx)
 | []=>some []
 | .str x::xs=>(fR xs).map (x::·)
 | _=>none
def af(ls:List Tx):List PV:=ls.map .str
theorem nH(ls:List Tx):fR (af ls)=some ls:=by
 induction ls with
 | nil=>rfl
 | cons x ls ih=>show(fR (af ls)).map (x::·)=_; rw[ih]; rfl
theorem sB:∀ {xs:List PV} {ls:List Tx},fR xs=some ls->xs=af ls
 | [],ls,e=>by cases e; rfl
 | .str x::xs,ls,e=>by
  unfold fR at e
  cases q:fR xs with
  | none=>rw[q]at e; cases e
  | some r=>rw[q]at e; cases e; rw[sB q]; rfl
 | .non::_,_,e=>by cases e
 | .bl _::_,_,e=>by cases e
 | .int _::_,_,e=>by cases e
 | .tup _::_,_,e=>by cases e
 | .lst _::_,_,e=>by cases e
 | .raw _::_,_,e=>by cases e
 | .exc _::_,_,e=>by cases e
theorem RB{H:Hp}{F:Addr->Prop}:∀ {ls:List Tx} {vs:List V},a9 K H F (af ls) vs↔vs=cm ls/\∀ x∈ls,x.length<=be
 | [],vs=>by simp[af,a9,cm]
 | x::ls,vs=>by
  show(∃ v r,vs=v::r/\(v=tV x/\x.length<=be)/\a9 K H F (af ls) r)↔_
  constructor
  ·rintro⟨v,r,rfl,⟨rfl,h1⟩,h2⟩
   obtain⟨rfl,h3⟩:=RB.mp h2
   exact⟨rfl,fun y hy=>by
    rcases bH.mp hy with rfl | hy
    ·exact h1
    ·exact h3 y hy⟩
  ·rintro⟨rfl,h⟩
   exact⟨tV x,cm ls,rfl,⟨rfl,h x (by simp)⟩,RB.mpr ⟨rfl,fun y hy=>h y (by simp[hy])⟩⟩
def mv:List PV->Option (List Bool)
 | []=>some []
 | .bl b::xs=>(mv xs).map (b::·)
 | _=>none
theorem Cf{H:Hp}{F:Addr->Prop}:∀ {xs:List PV} {vs:List V} {bs:List Bool},a9 K H F xs vs->mv xs=some bs->vs=bs.map V.bl
 | [],_,_,r,e=>by cases e; exact r
 | .bl b::xs,_,bs,⟨v,r,rfl,h1,h2⟩,e=>by
  unfold mv at e
  cases q:mv xs with
  | none=>rw[q]at e; cases e
  | some r'=>rw[q]at e; cases e; rw[Cf h2 q,show v=V.bl b from h1]; rfl
 | .non::_,_,_,_,e=>by cases e
 | .str _::_,_,_,_,e=>by cases e
 | .int _::_,_,_,_,e=>by cases e
 | .tup _::_,_,_,_,e=>by cases e
 | .lst _::_,_,_,_,e=>by cases e
 | .raw _::_,_,_,_,e=>by cases e
 | .exc _::_,_,_,_,e=>by cases e
def sq:List PV->Option PV
 | [.lst xs]=>(mv xs).map fun bs=>.bl (bs.all id)
 | _=>none
theorem GE:PL K (fun xs H Q=>∃ (p:Addr) (bs:List Bool),xs=[.ref p]/\bO K H p (bs.map V.bl)/\Q (.bl (bs.all id)) H) sq:=fun F H xs vs Q pv rs e q=>by
 unfold sq at e
 split at e
 ·rename_i ys
  cases q1:mv ys with
  | none=>rw[q1]at e; cases e
  | some bs =>
   rw[q1]at e
   cases e
   obtain⟨v,rfl,a,us,rfl,ha,_,ra⟩:=gs rs
   rw[Cf ra q1]at ha
   exact⟨a,bs,rfl,.inl ha,q _ F H (Al.refl ..) rfl⟩
 ·cases e
def t9:PV->Option String
 | .non=>some "NoneType"
 | .bl _=>some "bool"
 | .int _=>some "int"
 | .str _=>some "str"
 | .tup _=>some "tuple"
 | .lst _=>some "list"
 | _=>none
def il:List PV->Option PV
 | [x,.raw (.ty T)]=>(t9 x).bind fun t=>(jd [] (.type t) (.type T)).map fun b=>.bl b
 | _=>none
theorem qm:fP X (.builtin "isinstance") (fun xs H Q=>∃ x t T b,xs=[x,.ty T]/\iM X.K H x (.type t)/\jd X.K (.type t) (.type T)=some b/\Q (.bl b) H):=by
 intro aa s σ H xs us Q I r h
 obtain⟨x,t,T,b,rfl,ty,e,q⟩:=h
 cases r with
 | cons r1 r2 =>
  cases r2 with
  | cons r3 r4 =>
   cases r4
   cases r3
   exact PR I r1 ty e fun tk=>⟨.bl b,H,I.tok _,rfl,q⟩
theorem Mf{H:Hp}{F:Addr->Prop}{x:PV}{v:V}{t:String}(r:aT K H F x v)(e:t9 x=some t):iM K H v (.type t):=by
 cases x with
 | non=>cases e; rw[show v=V.non from r]; exact .non
 | bl b=>cases e; rw[show v=V.bl b from r]; exact .bl b
 | int b=>cases e; rw[show v=V.int b from r]; exact .int b
 | str b=>cases e; rw[show v=tV b from r.1]; exact .str _
 | tup xs=>cases e; obtain⟨a,vs,rfl,ha,_⟩:=r; exact .tup ha
 | lst xs =>
  cases e
  obtain⟨a,vs,rfl,ha,_⟩:=r
  rcases ha with ha | ⟨o,ha⟩
  ·exact .lst ha
  ·exact .frz ha
 | raw _=>cases e
 | exc _=>cases e
theorem qb:PL K (fun xs H Q=>∃ x t T b,xs=[x,.ty T]/\iM K H x (.type t)/\jd K (.type t) (.type T)=some b/\Q (.bl b) H) il:=fun F H xs vs Q pv rs e q=>by
 unfold il at e
 split at e
 ·rename_i x T
  cases q1:t9 x with
  | none=>rw[q1]at e; cases e
  | some t =>
   cases q2:jd [] (.type t) (.type T)with
   | none=>rw[q1,jf,q2]at e; cases e
   | some b =>
    rw[q1,jf,q2]at e
    cases e
    obtain⟨v,r',rfl,h1,h2⟩:=rs
    obtain⟨u,rfl,h3⟩:=gs h2
    rw[show u=V.ty T from h3]
    exact⟨v,t,T,b,rfl,Mf h1 q1,q2,q _ F H (Al.refl ..) rfl⟩
 ·cases e
theorem qr{E:XK}{x:Str}{T:String}{pos:Pos}(hm:X.mg x=none)(hv:eE x=some (.type T))(hg:Gl X x:=by rfl)(hn:x≠"__name__":=by decide)(hd:(x == ("__debug__" : Str))=false:=by decide):DE X E (.Name x pos) (dC (.raw (.ty T))):=fun F S ε σ H Q r q =>
 cE (O6 (v:=.ty T) hg hm hv rfl hn hd) (q F S H r (bK.refl ..) _ rfl)
def bi:PV->PV->Option PV
 | .lst xs,.int i=>eT xs i
 | .tup xs,.int i=>eT xs i
 | .str x,.int i=>(eT x i).map fun c=>.str [c]
 | _,_=>none
theorem B_{H:Hp}{F:Addr->Prop}{xs:List PV}{vs:List V}{i:Int}{x:PV}(r:a9 K H F xs vs)(e:eT xs i=some x):∃ v,eT vs i=some v/\aT K H F x v:=by
 unfold eT at e ⊢
 rw[r.len]
 cases q:kA xs.length i with
 | none=>rw[q]at e; cases e
 | some j=>rw[q]at e; exact r.get e
theorem eM:P2 K (EQ K) bi:=fun F H x y v u Q pv rx ry e q=>by
 unfold bi at e
 split at e
 ·rename_i xs i
  obtain⟨a,us,rfl,ha,_,ra⟩:=rx
  obtain⟨w,e1,e2⟩:=B_ ra e
  exact .inl ⟨a,us,i,w,rfl,ry,.inl ha,e1,q _ F H (Al.refl ..) e2⟩
 ·rename_i xs i
  obtain⟨a,us,rfl,ha,ra⟩:=rx
  obtain⟨w,e1,e2⟩:=B_ ra e
  exact .inr (.inl ⟨a,us,i,w,rfl,ry,cJ.of ha,e1,q _ F H (Al.refl ..) e2⟩)
 ·rename_i x i
  cases q1:eT x i with
  | none=>rw[q1]at e; cases e
  | some c =>
   rw[q1]at e
   cases e
   rw[rx.1]
   exact .inr (.inr ⟨_,i,c,rfl,ry,by rw[ly]; exact cp rx.2 mi,by rw[kw]; exact q1,q _ F H (Al.refl ..) ⟨rfl,by show 1<=be; decide⟩⟩)
 ·cases e
def dj{α:Type}(xs:List α)(lo hi:Option Int):List α:=(xs.drop (HT.sIx xs.length 0 lo)).take (HT.sIx xs.length xs.length hi-HT.sIx xs.length 0 lo)
theorem QZ{α:Type}(xs:List α)(lo hi:Option Int):(dj xs lo hi).length<=xs.length:=by
 unfold dj
 rw[gE,je]
 ac_rfl
def aO:PV->Option Int->Option Int->Option PV
 | .str x,lo,hi=>some (.str (dj x lo hi))
 | .lst xs,lo,hi=>some (.lst (dj xs lo hi))
 | .tup xs,lo,hi=>if HT.sIx xs.length 0 lo=0/\HT.sIx xs.length xs.length hi=xs.length then none else some (.tup (dj xs lo hi))
 | _,_,_=>none
def GN(K:ao):V->Option Int->Option Int->Hp->VK->Prop:=fun x lo hi H Q=>Gs x lo hi H Q\/(BP K x lo hi H Q\/D5 K x lo hi H Q)
theorem dW:l_ X (GN X.K):=RL.or (RC.or PX)
theorem BZ{H:Hp}{F:Addr->Prop}{xs:List PV}{vs:List V}(r:a9 K H F xs vs)(lo hi:Option Int):a9 K H F (dj xs lo hi) (ng vs lo hi):=by
 unfold dj ng
 rw[r.len]
 exact(r.drop _).take _
theorem d4:FQ K (GN K) aO:=fun F H x lo hi v Q pv rx e q=>by
 unfold aO at e
 split at e
 ·cases e
  rw[rx.1]
  refine .inl ⟨_,rfl,by rw[ly]; exact cp rx.2 mi,?_⟩
  refine q _ F H (Al.refl ..) ⟨?_,cp (QZ ..) rx.2⟩
  unfold lj dj
  rw[ly,kw]; rfl
 ·cases e
  obtain⟨a,us,rfl,ha,_,ra⟩:=rx
  exact .inr (.inl ⟨a,us,rfl,.inl ha,fun p hp=>q _ _ _ (Al.new hp) ⟨p,_,rfl,.inl bA,.inr rfl,(Al.new hp).reps (BZ ra lo hi)⟩⟩)
 ·split at e
  ·cases e
  ·rename_i hw
   cases e
   obtain⟨a,us,rfl,ha,ra⟩:=rx
   exact .inr (.inr ⟨a,us,rfl,cJ.of ha,by rw[ra.len]; exact hw,fun p hp=>q _ _ _ (Al.new0 hp) ⟨p,_,rfl,bA,(Al.new0 hp).reps (BZ ra lo hi)⟩⟩)
 ·cases e
variable{E:XK}{tg l a b:Expr}{d:ae->R PV}{ds:ae->R (List PV)}{p pos:Pos}
def lZ:PV->Option (List PV)
 | .lst xs=>some xs
 | .tup xs=>some xs
 | .str x=>some (x.map fun c=>.str [c])
 | _=>none
def cQ(d:ae->R PV):ae->R (List PV):=fun ε=>(d ε).bind fun x ε1=>aW (lZ x) ε1
theorem F_{H:Hp}{F:Addr->Prop}:∀ (x:Tx),a9 K H F (x.map fun c=>PV.str [c]) (x.map sg)
 | []=>rfl
 | c::x=>⟨sg c,x.map sg,rfl,⟨rfl,by show 1<=be; decide⟩,F_ x⟩
theorem jW(he:DE X E l d):DI X E tg l (cQ d):=fun F S ε σ H Rr rl h=>Bx.mk fun aa s I=>by
 have w:=he F S ε σ H (fun v H1=>∃ F1 S1 ε1 x,aP X.K F1 S1 ε1 σ H1/\aT X.K H1 F1 x v/\Ok X.K E σ F1 S1 H1 (aW (lZ x) ε1) (fun pvs _ F' S' H'=>∀ J vs RR,a9 X.K H' F' pvs vs->vs.length<=a7->Walk J vs RR->(∀ S'' F'' H'',bK (U S') (U S'') F' F'' H' H''->RR H'')->Rr J H')) rl
  ((Ok.bind h).imp fun x ε1 F1 S1 H1 r1 g1 h1 v rv=>⟨F1,S1,ε1,x,r1,rv,h1⟩)
 refine aH (w.run aa s I) fun v s1 ⟨x,H1,I1,rx,F1,S1,ε1,pv,r1,rv,h1⟩=>?_
 cases pv with
 | lst xs =>
  obtain⟨a,us,rfl,ha,hF,ra⟩:=rv
  cases rx
  obtain⟨its,rr,pp,hz⟩:=I1.list (.inl ha)
  refine xF pp.isList ?_
  refine⟨s1.heap.objs.size,[s1.heap.objs.size],_,_,H1,rfl,I1.kept (t':=s1.toks) fun b o e=>bB _ e,P6 a _,⟨_,cN _ rfl,rfl,rfl⟩,fun b hb=>?_,h1 F1 S1 H1 r1 (bK.refl ..) (Ab X.K a) us (fun H=>bO X.K H a us) ra hz LL fun S2 F2 H2 g2=>.inl (g2.lst r1.fit hF ha)⟩
  have e:b=s1.heap.objs.size:=by simpa using hb
  subst e
  exact I1.fpOk (aL _) (I1.hok.fresh (aL _))
 | tup xs =>
  obtain⟨a,us,rfl,ha,ra⟩:=rv
  cases rx
  obtain⟨its,rr,pp,hz⟩:=I1.tuple (cJ.of ha)
  refine wpAny_pyIter_tuple (show s1.heap.IsTuple a its.toArray from pp) ?_
  refine⟨s1.heap.objs.size,[s1.heap.objs.size],_,_,H1,rfl,I1.kept (t':=s1.toks) fun b o e=>bB _ e,PP a _,⟨_,cN _ rfl,rfl,rfl⟩,fun b hb=>?_,h1 F1 S1 H1 r1 (bK.refl ..) (zo X.K a) us (fun H=>cJ X.K H a us) ra hz HQ fun S2 F2 H2 g2=>cJ.of (g2.imm r1.fit ha id)⟩
  have e:b=s1.heap.objs.size:=by simpa using hb
  subst e
  exact I1.fpOk (aL _) (I1.hok.fresh (aL _))
 | str z =>
  obtain⟨rfl,hz⟩:=rv
  obtain⟨t,rfl⟩:=rx
  have qq:Rr (tO (tS z)) H1:=h1 F1 S1 H1 r1 (bK.refl ..) (tO (tS z)) (z.map sg) (fun _=>True) (F_ z) (by rw[cq]; exact cp hz mi) (by have:=Oo (z:=tS z); rw[kw]at this; exact this) fun _ _ _ _=>trivial
  have fin:∀ (n:String) (St':Nat->Heap->Prop),(∀ i h,St' i h->∃ o n vs,h.get? s1.heap.objs.size=some o/\o.cls = .type n/\o.data = .fields vs /\
     ["enumerate","zip","dict_itemiterator","dict_reverseitemiterator","odict_iterator","itertools.zip_longest","itertools.pairwise"].contains n=false) ->
    (∀ (A:aV) (i:Nat) (s:ah) (Q:Value->ah->Prop) (E:Value->ah->Prop),St' i s.heap->Q (.ref s1.heap.objs.size) s->wpAny (model X.prog X.w) A (pyIter (.ref s1.heap.objs.size)) Q E s) ->
    (∀ A:aV,A.handled=none->Walks X.prog X.w A s1.heap.objs.size [s1.heap.objs.size] [s1.heap.objs.size] (tS z).cps.size (SignAt (tS z)) St') ->
    St' 0 (s1.heap.push { cls:=.type n,data:=.fields #[.str (tS z) t,.int 0 0] }) ->
    vh X aa σ tg Rr (.ref s1.heap.objs.size) { s1 with heap:=s1.heap.push { cls:=.type n,data:=.fields #[.str (tS z) t,.int 0 0] } }:=fun n St' h1 h2 h3 h4=>by
   refine⟨s1.heap.objs.size,[s1.heap.objs.size],St',tO (tS z),H1,rfl,I1.kept (t':=s1.toks) fun b o e=>bB _ e,Py h1 h2 h3,h4,fun b hb=>?_,qq⟩
   have e:b=s1.heap.objs.size:=by simpa using hb
   subst e
   exact I1.fpOk (aL _) (I1.hok.fresh (aL _))
  cases ha:(tS z).cps.all (· < 128)
  ·refine wpAny_pyIter_wide ha (fin "str_iterator" (fun i h=>h.IsStrIter s1.heap.objs.size "str_iterator" (tS z) t i) (fun i h ⟨o,e1,e2,e3⟩=>⟨o,_,_,e1,e2,e3,by decide⟩) (fun A i s Q E st h=>wpAny_pyIter_striter_wide st h) (fun A' hA=>Walks.strWide hA _ (tS z) t) ⟨_,cN _ rfl,rfl,rfl⟩)
  ·refine wpAny_pyIter_ascii ha (fin "str_ascii_iterator" (fun i h=>h.IsStrIter s1.heap.objs.size "str_ascii_iterator" (tS z) t i) (fun i h ⟨o,e1,e2,e3⟩=>⟨o,_,_,e1,e2,e3,by decide⟩) (fun A i s Q E st h=>wpAny_pyIter_striter_ascii st h) (fun A' hA=>Walks.strAscii hA _ (tS z) t) ⟨_,cN _ rfl,rfl,rfl⟩)
 | non=>exact(show False from h1).elim
 | bl _=>exact(show False from h1).elim
 | int _=>exact(show False from h1).elim
 | raw _=>exact(show False from h1).elim
 | exc _=>exact(show False from h1).elim
def fg(lo:Int)(n:Nat):List PV:=(bE n).map fun i=>PV.int (lo+(i:Nat))
theorem Dt{H:Hp}{F:Addr->Prop}(lo:Int)(n:Nat):a9 K H F (fg lo n) (qf lo n):=by
 unfold fg qf
 induction (bE n)with
 | nil=>rfl
 | cons x xs ih=>exact⟨_,_,rfl,rfl,ih⟩
def gx:List PV->Option (List PV)
 | [.int j]=>if j<=1000000/\-1000000<=j then some (fg 0 j.toNat)else none
 | _=>none
def gz:List PV->Option (List PV)
 | [.int i,.int j]=>if j<=1000000/\-1000000<=j/\i<=1000000/\-1000000<=i then some (fg i (j-i).toNat)else none
 | _=>none
theorem oW(hm:X.mg "range" = none)(ha:DA X E [a] ds)(hg:Gl X "range":=by rfl)(hs:aZ [a] X.env=[(false,eval a X.env)]:=by rfl):DI X E tg (.Call (.Name "range" p) [a] [] pos) (dL gx ds):=fun F S ε σ H Rr rl h=>by
 refine Cy (KI hg hm gy hs) (ha F S ε σ H _ rl ((Ok.bind h).imp fun xs ε1 F1 S1 H1 r1 g1 h1 vs i4=>?_))
 unfold gx at h1
 split at h1
 ·rename_i j
  split at h1
  ·rename_i hj
   obtain⟨v,rfl,rv⟩:=gs i4
   refine⟨j,by rw[show v=V.int j from rv],by ac_rfl,by ac_rfl,h1 F1 S1 H1 r1 (bK.refl ..) _ _ _ (Dt 0 j.toNat) (by rw[wx,pi]; ac_rfl) CP fun _ _ _ _=>trivial⟩
  ·exact h1.elim
 ·exact h1.elim
theorem qp(hm:X.mg "range" = none)(ha:DA X E [a,b] ds)(hg:Gl X "range":=by rfl)(hs:aZ [a,b] X.env=[(false,eval a X.env),(false,eval b X.env)]:=by rfl)(jk:aZ [b] X.env=[(false,eval b X.env)]:=by rfl) :
  DI X E tg (.Call (.Name "range" p) [a,b] [] pos) (dL gz ds):=fun F S ε σ H Rr rl h=>by
 refine Cy (O8 hg hm gy hs jk) (ha F S ε σ H _ rl ((Ok.bind h).imp fun xs ε1 F1 S1 H1 r1 g1 h1 vs i4=>?_))
 unfold gz at h1
 split at h1
 ·rename_i i j
  split at h1
  ·rename_i hj
   obtain⟨v,r',rfl,h2,h3⟩:=i4
   obtain⟨u,rfl,h4⟩:=gs h3
   refine⟨i,j,by rw[show v=V.int i from h2,show u=V.int j from h4],⟨by ac_rfl,by ac_rfl,by ac_rfl,by ac_rfl⟩,h1 F1 S1 H1 r1 (bK.refl ..) _ _ _ (Dt i (j-i).toNat) (by rw[wx,pi]; ac_rfl) CP fun _ _ _ _=>trivial⟩
  ·exact h1.elim
 ·exact h1.elim
end
end Pu
namespace Pu
open L2
section
variable{K:ao}{F:Addr->Prop}{S:Nat->Addr->Prop}{ε:ae}{σ:St}{H:Hp}{i:Nat}{xs xs':List PV}{vs':List V}{a:Addr}
theorem aP.lstAt(r:aP K F S ε σ H)(e:ε[i]?=some (.own (.lst xs))):∃ a vs,σ[i]?=some (some (.ref a))/\H a=some (.lst vs)/\a9 K H F xs vs/\S i a/\∀ b,S i b->b=a:=by
 obtain⟨a,e1,⟨vs,h1,h2⟩,h3⟩:=r.own i _ e
 exact⟨a,vs,e1,h1,h2,(h3 a).mpr rfl,fun b h=>(h3 b).mp h⟩
theorem aP.upd(r:aP K F S ε σ H)(e:ε[i]?=some (.own (.lst xs)))(ea:σ[i]?=some (some (.ref a)))(h:a9 K H F xs' vs') :
  aP K F S (ε.set i (.own (.lst xs'))) σ (upd H a (.lst vs'))/\bK (U S) (U S) F F H (upd H a (.lst vs')):=by
 obtain⟨a',vs,e1,h1,h2,h3,h4⟩:=r.lstAt e
 rw[ea]at e1
 cases e1
 have hi:i<ε.length:=(dP.mp e).1
 have g:bK (U S) (U S) F F H (L2.upd H a (.lst vs')):=⟨fun _ z=>z,fun b o q n=>by rw[bp (by rintro rfl; exact n ⟨i,h3⟩)]; exact q,fun b o q=>by
  by_cases hb:b=a
  ·subst hb; exact⟨_,bA⟩
  ·exact⟨o,by rw[bp hb]; exact q⟩,fun _ z=>.inl z,fun _ z=>.inl z⟩
 refine⟨⟨by rw[ke]; exact r.len,fun b z=>let ⟨o,q⟩:=r.ex b z; g.there b o q,fun j pv q=>?_,fun j po q=>?_,fun j b z=>?_,r.dist⟩,g⟩
 ·have hj:i≠j:=by rintro rfl; rw[gC hi]at q; cases q
  rw[eF hj]at q
  obtain⟨v,q1,q2⟩:=r.val j pv q
  exact⟨v,q1,q2.grow g r.fit⟩
 ·by_cases hj:i=j
  ·subst hj
   rw[gC hi]at q
   cases q
   exact⟨a,ea,⟨vs',bA,h.grow g r.fit⟩,fun b=>⟨h4 b,fun z=>by rw[z]; exact h3⟩⟩
  ·rw[eF hj]at q
   obtain⟨c,q1,q2⟩:=r.own j po q
   refine⟨c,q1,q2.mono (fun _ _ z=>z.grow g r.fit) (fun _ _ z=>z.grow g r.fit) fun b o z w=>?_⟩
   rw[bp (by rintro rfl; exact hj (r.dist i j b h3 z))]; exact w
 ·obtain⟨⟨po,q1⟩,q2,o,q3,q4⟩:=r.foot j b z
  by_cases hj:i=j
  ·subst hj
   rw[h4 b z]
   exact⟨⟨_,gC hi⟩,by rw[← h4 b z]; exact q2,_,bA,trivial⟩
  ·exact⟨⟨po,by rw[eF hj]; exact q1⟩,q2,o,by rw[bp (by rintro rfl; exact hj (r.dist i j b h3 z))]; exact q3,q4⟩
end
section
variable{X:Cx}{E:XK}{pin:List Nat}{e b:Expr}{de db:ae->R PV}{pos:Pos}
def iu(ε:ae)(i:Nat):Option (List PV):=match ε[i]? with
 | some (.own (.lst xs))=>some xs
 | _=>none
theorem oy{ε:ae}{i:Nat}{xs:List PV}(h:iu ε i=some xs):ε[i]?=some (.own (.lst xs)):=by
 unfold iu at h
 split at h
 ·cases h; assumption
 ·cases h
def jX(i:Nat)(de:ae->R PV):ae->R ax:=fun ε=>(aW (iu ε i) ε).bind fun _ ε=>(de ε).bind fun y ε1=>(aW (iu ε1 i) ε1).bind fun xs ε1=>if xs.length<be then .ok .next (ε1.set i (.own (.lst (xs++[y]))))else .no
theorem tF(i:Nat){x:Str}{p apos cpos:Pos}(he:DE X E e de)(hN:X.N[i]?=some x:=by rfl)(hv:ft X.env.scope x:=by first | exact Or.inl rfl | exact Or.inr (Or.inl rfl) | exact Or.inr (Or.inr rfl))(hd:(x == ("__debug__" : Str))=false:=by decide)
  (bF:(x == ("__classdict__" : Str))=false:=by decide) (h1:rj (.Name x p) "append" X.env (eval (.Name x p) X.env)=eval (.Name x p) X.env:=by rfl)
  (h2:((eU cpos (aZ [e] X.env)).all (fun x=>!x.1) && (backToKw cpos (keywordEach [] X.env)).all (fun x=>x.1.isSome) && decide ([e].length+([]:List pC).length+(if([]:List pC).isEmpty then 0 else 1)<30))=true:=by rfl)
  (h3:(apos.endLine == cpos.line)=true:=by rfl) (h4:aZ [e] X.env=(false,eval e X.env)::aZ [] X.env:=by rfl) (h5:(eU cpos (aZ [] X.env)).any (·.1)=false:=by rfl)
  (hs:nO (.Call (.Attribute (.Name x p) "append" apos) [e] [] cpos) none pos.line X.env=pure false:=by rfl) :
  DS X E pin (.Expr (.Call (.Attribute (.Name x p) "append" apos) [e] [] cpos) pos) (jX i de):=fun F S ε σ H D rl h=>by
 unfold jX at h
 cases e0:iu ε i with
 | none=>rw[e0]at h; exact h.elim
 | some xs0 =>
  rw[e0]at h
  simp only[c_,R.bind_ok]at h
  obtain⟨a,vs0,ea,ha,_,_,_⟩:=rl.lstAt (oy e0)
  refine iH (zk (CU PySem.F.plainAttrs_list PySem.F.slot_list_append PySem.F.type_list_append Eo (iw hN hv hd bF) (jU cb l9 h4) h1 h2 h3 h4 h5) hs) ⟨.ref a,ea,.inl ⟨rfl,_,bO.of ha⟩,?_⟩
  refine he F S ε σ H _ rl (h.bindE.imp fun y ε1 F1 S1 H1 r1 g1 q v rv=>?_)
  cases e1:iu ε1 i with
  | none=>rw[e1]at q; exact q.elim
  | some xs =>
   rw[e1]at q
   simp only[c_,R.bind_ok]at q
   obtain⟨a',vs,ea',ha',ra,_,_⟩:=r1.lstAt (oy e1)
   rw[ea]at ea'
   cases ea'
   split at q
   ·rename_i hl
    obtain⟨r2,g2⟩:=r1.upd (oy e1) ea (ra.app (.one rv))
    exact⟨a,vs,v,rfl,rfl,ha',by rw[ra.len]; exact gB hl mi,q F1 S1 σ _ r2 g2 (jC.refl _ _)⟩
   ·exact q.elim
def Ji:V->List V->Hp->VK->Prop:=fun x vs H Q=>∃ l b xs zs,x = .ref l/\vs=[.ref b]/\H l=some (.lst xs)/\Rd H b (.lst zs)/\xs.length+zs.length<=a7/\Q .non (L2.upd H l (.lst (xs++zs)))
theorem M9:Cn X "list.extend" Ji:=by
 intro aa s σ H x vs v us Q I rx rv h
 obtain⟨l,b,xs,zs,rfl,rfl,hH,hB,hz,q⟩:=h
 cases rx
 obtain⟨u,rfl,ru⟩:=rv.one
 cases ru
 obtain⟨z,its,n,r,hl,e⟩:=I.lstM hH
 obtain⟨its2,n2,r2,e2,_⟩:=yX I hB
 have jR:=r2.length
 have hsz:its.toArray.size+its2.toArray.size<=a7:=by rw[cA,cA]; ac_rfl
 have Rk:¬ (!its.toArray.isEmpty && G2 (its.toArray.size+its2.toArray.size))=true:=by
  rw[Pz hsz,A6]
  exact fH
 refine call_meets F.slot_list_extend ⟨_,e,rfl⟩ F.entry_list_extend (F.args_list_extend_2 _ _)
  (AutoSeq1.list_extend_list_list_0 l its.toArray n b its2.toArray n2 Rk (by rw[cA]; ac_rfl) (by ac_rfl)) ⟨e,e2,?_⟩
 refine⟨.non,_,I.lset (its':=its++its2) hH e (by simp) (r.append r2) ?_,rfl,q⟩
 rw[cT]
 ac_rfl
def jZ(i:Nat)(de:ae->R PV):ae->R ax:=fun ε=>(aW (iu ε i) ε).bind fun _ ε=>(de ε).bind fun y ε1=>(aW (iu ε1 i) ε1).bind fun xs ε1=>match y with
 | .lst ys=>if xs.length+ys.length<=be then .ok .next (ε1.set i (.own (.lst (xs++ys))))else .no
 | _=>.no
theorem wF(i:Nat){x:Str}{p apos cpos:Pos}(he:DE X E e de)(hN:X.N[i]?=some x:=by rfl)(hv:ft X.env.scope x:=by first | exact Or.inl rfl | exact Or.inr (Or.inl rfl) | exact Or.inr (Or.inr rfl))(hd:(x == ("__debug__" : Str))=false:=by decide)
  (bF:(x == ("__classdict__" : Str))=false:=by decide) (h1:rj (.Name x p) "extend" X.env (eval (.Name x p) X.env)=eval (.Name x p) X.env:=by rfl)
  (h2:((eU cpos (aZ [e] X.env)).all (fun x=>!x.1) && (backToKw cpos (keywordEach [] X.env)).all (fun x=>x.1.isSome) && decide ([e].length+([]:List pC).length+(if([]:List pC).isEmpty then 0 else 1)<30))=true:=by rfl)
  (h3:(apos.endLine == cpos.line)=true:=by rfl) (h4:aZ [e] X.env=(false,eval e X.env)::aZ [] X.env:=by rfl) (h5:(eU cpos (aZ [] X.env)).any (·.1)=false:=by rfl)
  (hs:nO (.Call (.Attribute (.Name x p) "extend" apos) [e] [] cpos) none pos.line X.env=pure false:=by rfl) :
  DS X E pin (.Expr (.Call (.Attribute (.Name x p) "extend" apos) [e] [] cpos) pos) (jZ i de):=fun F S ε σ H D rl h=>by
 unfold jZ at h
 cases e0:iu ε i with
 | none=>rw[e0]at h; exact h.elim
 | some xs0 =>
  rw[e0]at h
  simp only[c_,R.bind_ok]at h
  obtain⟨a,vs0,ea,ha,_,_,_⟩:=rl.lstAt (oy e0)
  refine iH (zk (CU PySem.F.plainAttrs_list PySem.F.slot_list_extend PySem.F.type_list_extend M9 (iw hN hv hd bF) (jU cb l9 h4) h1 h2 h3 h4 h5) hs) ⟨.ref a,ea,.inl ⟨rfl,_,bO.of ha⟩,?_⟩
  refine he F S ε σ H _ rl (h.bindE.imp fun y ε1 F1 S1 H1 r1 g1 q v rv=>?_)
  cases e1:iu ε1 i with
  | none=>rw[e1]at q; exact q.elim
  | some xs =>
   rw[e1]at q
   simp only[c_,R.bind_ok]at q
   obtain⟨a',vs,ea',ha',ra,_,_⟩:=r1.lstAt (oy e1)
   rw[ea]at ea'
   cases ea'
   split at q
   ·rename_i ys
    split at q
    ·rename_i hl
     obtain⟨c,us,rfl,hc,_,rc⟩:=rv
     obtain⟨r2,g2⟩:=r1.upd (oy e1) ea (ra.app rc)
     exact⟨a,c,vs,us,rfl,rfl,ha',hc,by rw[ra.len,rc.len]; exact cp hl mi,q F1 S1 σ _ r2 g2 (jC.refl _ _)⟩
    ·exact q.elim
   ·exact q.elim
end
mutual
def imm:PV->Bool
 | .lst _=>false
 | .tup xs=>qi xs
 | _=>true
def qi:List PV->Bool
 | []=>true
 | x::xs=>imm x && qi xs
end
mutual
theorem aT.imm{K:ao}{H:Hp}{F F':Addr->Prop}:∀ (x:PV) {v:V},imm x=true->aT K H F x v->aT K H F' x v
 | .non,_,_,h=>h
 | .bl _,_,_,h=>h
 | .int _,_,_,h=>h
 | .str _,_,_,h=>h
 | .raw _,_,_,h=>h
 | .exc _,_,_,h=>h
 | .lst _,_,e,_=>by simp[Pu.imm]at e
 | .tup xs,_,e,⟨a,vs,e1,h1,h2⟩=>⟨a,vs,e1,h1,a9.imm xs (by simpa[Pu.imm]using e) h2⟩
theorem a9.imm{K:ao}{H:Hp}{F F':Addr->Prop}:∀ (xs:List PV) {vs:List V},qi xs=true->a9 K H F xs vs->a9 K H F' xs vs
 | [],_,_,h=>h
 | x::xs,_,e,⟨v,r,e1,h1,h2⟩=>by
  have e':imm x=true/\qi xs=true:=by simpa[qi]using e
  exact⟨v,r,e1,aT.imm x e'.1 h1,a9.imm xs e'.2 h2⟩
end
section
variable{K:ao}{F:Addr->Prop}{S:Nat->Addr->Prop}{ε:ae}{σ:St}{H:Hp}{i:Nat}{xs:List PV}
theorem aP.look(r:aP K F S ε σ H)(e:ε[i]?=some (.own (.lst xs))):∃ a,σ[i]?=some (some (.ref a))/\¬ F a/\aT K H (fun b=>F b\/b=a) (.lst xs) (.ref a)/\(∀ b,F b\/b=a->∃ o,H b=some o) /\
  (∀ {F' H'},Al (fun b=>F b\/b=a) F' H H'->Al F (fun b=>F' b/\b≠a) H H'):=by
 obtain⟨a,vs,e1,h1,h2,h3,h4⟩:=r.lstAt e
 have nF:¬ F a:=(r.foot i a h3).2.1
 refine⟨a,e1,nF,⟨a,vs,rfl,.inl h1,.inr rfl,a9.mono (fun _ z=>.inl z) (fun _ _ _ z=>z) (fun _ _ z _=>z) _ _ h2⟩,fun b z=>z.elim (r.ex b) fun z=>by rw[z]; exact⟨_,h1⟩,fun {F' H'} al=>⟨fun b z=>⟨al.fro b (.inl z),by rintro rfl; exact nF z⟩,al.same,fun b z=>?_⟩⟩
 rcases al.fnew b z.1 with(w | w) | w
 ·exact .inl w
 ·exact absurd w z.2
 ·exact .inr w
end
section
variable{X:Cx}{E:XK}{e b:Expr}{de db:ae->R PV}{pos p:Pos}{x y:Str}{id T:String}{r:List V->Hp->VK->Prop}{f:List PV->Option PV}{fn:List PV->Option PO}
def tG(o:Option PV):Option PV:=o.bind fun v=>if imm v then some v else none
theorem Iy{o:Option PV}{v:PV}(h:tG o=some v):o=some v/\imm v=true:=by
 cases o with
 | none=>cases h
 | some w =>
  have h:(if imm w then some w else none)=some v:=h
  split at h
  ·cases h; exact⟨rfl,by assumption⟩
  ·cases h
def Ki:PO->Bool
 | .lst xs=>qi xs
 | _=>false
def vv{α:Type}(f:List PV->Option α)(i:Nat):ae->R α:=fun ε=>(aW (iu ε i) ε).bind fun xs ε=>aW (f [.lst xs]) ε
theorem Ku{F:Addr->Prop}{S:Nat->Addr->Prop}{ε:ae}{σ:St}{H:Hp}{Q:VK}{i:Nat}(hp:PL X.K r f)(rl:aP X.K F S ε σ H)(h:Ok X.K E σ F S H (vv (fun xs=>tG (f xs)) i ε) (fun pv _ F' _ H'=>∀ v,aT X.K H' F' pv v->Q v H')) :
  ∃ a,σ[i]?=some (some (.ref a))/\r [.ref a] H Q:=by
 unfold vv at h
 cases e0:iu ε i with
 | none=>rw[e0]at h; exact h.elim
 | some xs =>
  rw[e0]at h
  simp only[c_,R.bind_ok]at h
  obtain⟨a,ea,nF,ra,hex,kX⟩:=rl.look (oy e0)
  refine⟨a,ea,?_⟩
  cases e1:tG (f [.lst xs])with
  | none=>rw[e1]at h; exact h.elim
  | some pv =>
   rw[e1]at h
   obtain⟨e2,e3⟩:=Iy e1
   exact hp _ H [.lst xs] [.ref a] Q pv (.one ra) e2 fun w F' H' al rw'=>h _ S H' (rl.al (kX al)) (kX al).grow w (aT.imm pv e3 rw')
theorem LG(i:Nat)(hc:fP X (.builtin id) r)(hp:PL X.K r f)(hm:X.mg x=none)(hv:eE x=some (.builtin id))(hN:X.N[i]?=some y:=by rfl)(gm:ft X.env.scope y:=by first | exact Or.inl rfl | exact Or.inr (Or.inl rfl) | exact Or.inr (Or.inr rfl))
  (hd:(y == ("__debug__" : Str))=false:=by decide) (bF:(y == ("__classdict__" : Str))=false:=by decide) (hg:Gl X x:=by rfl) (hn:x≠"__name__":=by decide) (iW:(x == ("__debug__" : Str))=false:=by decide) {yp:Pos}
  (he:aZ [.Name y yp] X.env=(false,eval (.Name y yp) X.env)::aZ [] X.env:=by rfl) (cL:(eU pos (aZ [] X.env)).any (·.1)=false:=by rfl):DE X E (.Call (.Name x p) [.Name y yp] [] pos) (vv (fun xs=>tG (f xs)) i):=fun F S ε σ H Q rl q=>by
 obtain⟨a,ea,hr⟩:=Ku hp rl q
 exact cE (pc hc hg hm hv (jU (iw hN gm hd bF) l9 he) hn iW he cL) ⟨_,ea,hr⟩
def RV(o:Option PO):Option PO:=o.bind fun v=>if Ki v then some v else none
end
end Pu
namespace Pu
open L2
def o4(h:Heap)(e T:Addr)(c fl:Value):Prop:=∃ oe vs oT ts,h.get? e=some oe/\oe.cls=c/\(oe.data = .fields vs/\oe.dict=none)/\vs[1]?=some (.ref T)/\T≠e/\h.get? T=some oT/\oT.data = .fields ts/\ts[3]?=some fl
def Made(h:Heap)(e:Addr)(c:Value):Prop:=∃ oe vs,h.get? e=some oe/\oe.cls=c/\(oe.data = .fields vs/\oe.dict=none)/\vs[1]?=some .none
structure Kp(fs:List Addr)(X:Addr->Prop)(h h':Heap):Prop where
 keep:∀ b o,h.get? b=some o->b∉fs->¬ X b->h'.get? b=some o
 slot:∀ b o,h.get? b=some o->b∈fs->¬ X b->∃ sl,h'.get? b=some { o with slots:=sl }
 there:∀ b o,h.get? b=some o->∃ o',h'.get? b=some o'
theorem Kp.trans{fs:List Addr}{X Y:Addr->Prop}{h h1 h2:Heap}(a:Kp fs X h h1)(b:Kp fs Y h1 h2):Kp fs (fun c=>X c\/Y c) h h2 where
 keep:=fun c o e n x=>b.keep c o (a.keep c o e n fun z=>x (.inl z)) n fun z=>x (.inr z)
 slot:=fun c o e n x=>by
  obtain⟨sl,e1⟩:=a.slot c o e n fun z=>x (.inl z)
  obtain⟨sl2,e2⟩:=b.slot c _ e1 n fun z=>x (.inr z)
  exact⟨sl2,e2⟩
 there:=fun c o e=>let ⟨o',e'⟩:=a.there c o e; b.there c o' e'
theorem Kp.imp{fs fs':List Addr}{X Y:Addr->Prop}{h h':Heap}(a:Kp fs X h h')(hfs:∀ b,b∈fs->b∈fs')(hX:∀ b o,h.get? b=some o->X b->Y b):Kp fs' Y h h' where
 keep:=fun c o e n x=>a.keep c o e (fun z=>n (hfs c z)) fun z=>x (hX c o e z)
 slot:=fun c o e n x=>by
  by_cases hc:c∈fs
  ·exact a.slot c o e hc fun z=>x (hX c o e z)
  ·exact⟨o.slots,a.keep c o e hc fun z=>x (hX c o e z)⟩
 there:=a.there
theorem LS(f:Array Value->Array Value)(o:Obj):(pG f o).dict=o.dict:=by
 obtain⟨c,d,dt,sl⟩:=o
 cases dt <;> rfl
section
variable{M:Model}{A:aV}{E:Value->ah->Prop}{s:ah}
theorem DY{base:Heap}{env:Env}{outer:List Env}{L e:Addr}{oe:Obj}{vs:Array Value}{head:Value}{Ra:Bool}{Q:Unit->ah->Prop}
  (jQ:A.frames=some (env::outer)) (hl:s.heap.FunFrames base (env::outer)) (hf:env.frame=some L) (he:s.heap.get? e=some oe) (hd:oe.data = .fields vs) (uW:oe.dict=none) (hsz:1<vs.size)
  (h:∀ h' T,Kp (fO (env::outer)) (fun b=>b=e) s.heap h'->o4 h' e T oe.cls .none->s.heap.objs.size<=T->Q () { s with heap:=h' }) :
  wpAny M A (do let a ← frameOf env; let pl ← entryPlaceOf L Ra; let b ← EntryCells.newEntry head a .none (eG L) .none pl; mO (.ref e) 1 b) (fun _ s'=>wpAny M A (setFlight (.ref e) none) Q E s') E s:=by
 have hene:e∉(env::outer).filterMap (·.frame):=fun hm=>by
  obtain⟨_,o,ho,uX⟩:=hl.mem hm
  rw[he]at ho; injection ho with ho; subst ho; exact uX vs hd
 refine aj (wpAny_frameOf_fun jQ hl hf fun h₁ hs₁=>?_)
 refine aj (wpAny_entryPlaceOf fun pl cL=>?_)
 unfold EntryCells.newEntry newFields
 refine aj (mI ?_ (cL.sizeOk5 _ _ _ _ _))
 have he₁:h₁.get? e=some oe:=(hs₁.2.1 e hene).trans he
 have he₂:=bB (h:=h₁) { cls:=.type "traceback",dict:=none,data:=.fields ([head,.ref L,.none,eG L,.none]++(if pl.isEmpty then bj 6 Value.none else pl)).toArray } he₁
 refine um he₂ hd hsz ?_
 have rT:h₁.objs.size≠e:=nP (bq he₁)
 have hd₃:=Be hd (·.setIfInBounds 1 (Value.ref h₁.objs.size))
 have he₃:=rB (pG (·.setIfInBounds 1 (Value.ref h₁.objs.size))) he₂ (Hf hd₃)
 have hT₃:=(rm (h₁.push { cls:=.type "traceback",dict:=none,data:=.fields ([head,.ref L,.none,eG L,.none]++(if pl.isEmpty then bj 6 Value.none else pl)).toArray })
  (pG (·.setIfInBounds 1 (Value.ref h₁.objs.size))) (fi rT)).trans (cN h₁ rfl)
 unfold setFlight
 refine aj (rh he₃ hd₃ (x:=.ref h₁.objs.size) (by simp[hsz]) ?_)
 rw[if_pos (show(Value.ref h₁.objs.size != Value.none)=true from by simp)]
 refine um hT₃ rfl (by simp only[cA,cT,dQ,nS] <;> ac_rfl) (h _ h₁.objs.size ?_ ?_ ?_)
 ·have keep:∀ b o,b≠e->h₁.get? b=some o ->
    (((h₁.push { cls:=.type "traceback",dict:=none,data:=.fields ([head,.ref L,.none,eG L,.none]++(if pl.isEmpty then bj 6 Value.none else pl)).toArray }).update e (pG (·.setIfInBounds 1 (Value.ref h₁.objs.size)))).update h₁.objs.size
     (pG (·.setIfInBounds 3 ((none:Option Addr).elim Value.none fun f=>eG f)))).get? b=some o:=fun b o kS hb=>by
   have hbT:h₁.objs.size≠b:=nP (bq hb)
   rw[rm _ _ hbT,rm _ _ (fi kS)]
   exact bB _ hb
  refine⟨fun b o hb hn hx=>keep b o hx ((hs₁.2.1 b hn).trans hb),fun b o hb hn hx=>?_,fun b o hb=>?_⟩
  ·obtain⟨sl,q⟩:=hs₁.2.2 b o hb
   exact⟨sl,keep b _ hx q⟩
  ·by_cases kS:b=e
   ·subst kS
    exact⟨_,(rm _ _ rT).trans he₃⟩
   ·obtain⟨sl,q⟩:=hs₁.2.2 b o hb
    exact⟨_,keep b _ kS q⟩
 ·refine⟨_,_,_,_,(rm _ _ rT).trans he₃,Obj.cls_mapFields _ _,⟨hd₃,by rw[LS]; exact uW⟩,by simp[hsz],rT,rB _ hT₃ (Hf (Be rfl _)),Be rfl _,by first | (simp; done) | (rcases cL with rfl | ⟨_,_,_,_,_,_,_,rfl⟩ <;> simp)⟩
 ·exact lO hs₁.1.symm
theorem NJ{base:Heap}{env:Env}{outer:List Env}{L e:Addr}{c:Value}{Q:Unit->ah->Prop}(jQ:A.frames=some (env::outer))(hl:s.heap.FunFrames base (env::outer))(hf:env.frame=some L)(hm:Made s.heap e c)
  (h:∀ h' T,Kp (fO (env::outer)) (fun b=>b=e) s.heap h'->o4 h' e T c .none->s.heap.objs.size<=T->Q () { s with heap:=h' }):wpAny M A (leaving env (.ref e)) Q E s:=by
 obtain⟨oe,vs,he,hc,⟨hd,uW⟩,h1⟩:=hm
 subst hc
 unfold leaving noteFrame
 simp only[hf]
 refine aj (aj (rh he hd h1 ?_))
 rw[if_neg (by decide)]
 exact DY jQ hl hf he hd uW (nU.mp h1).1 h
theorem Jk{base:Heap}{env:Env}{outer:List Env}{L e T:Addr}{c:Value}{Q:Unit->ah->Prop}(jQ:A.frames=some (env::outer))(hl:s.heap.FunFrames base (env::outer))(hf:env.frame=some L)(ht:o4 s.heap e T c .none)
  (h:∀ h' T',Kp (fO (env::outer)) (fun b=>b=e\/b=T) s.heap h'->o4 h' e T' c .none->s.heap.objs.size<=T'->Q () { s with heap:=h' }) :
  wpAny M A (noteFrame (.ref e) env) (fun _ s2=>wpAny M A (setFlight (.ref e) none) Q E s2) E s:=by
 obtain⟨oe,vs,oT,ts,he,BB,⟨hd,uW⟩,h1,rT,hT,hdT,h3⟩:=ht
 subst BB
 unfold noteFrame
 simp only[hf]
 refine aj (rh he hd h1 ?_)
 rw[if_pos (show(Value.ref T != Value.none)=true from by simp)]
 refine aj (rh hT hdT h3 ?_)
 rw[if_neg (show ¬ ((Value.none == eG L)=true)from by simp[eG])]
 refine aj (um hT hdT (nU.mp h3).1 ?_)
 have other:∀ b,b≠T->(s.heap.update T (pG (·.setIfInBounds 3 Value.none))).get? b=s.heap.get? b:=fun b hb=>rm _ _ (fi hb)
 have noRecord:∀ b o,s.heap.get? b=some o->(∀ vs,o.data≠.fields vs)->b≠T:=fun b o hb uX q=>by
  rw[q,hT]at hb; injection hb with hb; subst hb; exact uX ts hdT
 refine DY jQ (hl.of_keeps fun b o hb uX=>⟨o,(other b (noRecord b o hb uX)).trans hb,rfl⟩) hf ((other e (fi rT)).trans he) hd uW (nU.mp h1).1 fun h' T' k fl hn=>?_
 have k0:Kp (fO (env::outer)) (fun b=>b=T) s.heap (s.heap.update T (pG (·.setIfInBounds 3 Value.none))):=by
  refine⟨fun b o hb _ hx=>(other b hx).trans hb,fun b o hb _ hx=>⟨o.slots,(other b hx).trans hb⟩,fun b o hb=>?_⟩
  by_cases hx:b=T
  ·subst hx
   exact⟨_,rB _ hT (Hf (Be hdT _))⟩
  ·exact⟨o,(other b hx).trans hb⟩
 refine h h' T' ((k0.trans k).imp (fun _ z=>z) fun b o _ z=>z.symm) fl ?_
 have e2:(s.heap.update T (pG (·.setIfInBounds 3 Value.none))).objs.size<=T':=hn
 rwa[Heap.size_update]at e2
theorem LX{base:Heap}{env:Env}{outer:List Env}{L e T:Addr}{c:Value}{Q:Unit->ah->Prop}(jQ:A.frames=some (env::outer))(hl:s.heap.FunFrames base (env::outer))(hf:env.frame=some L)(ht:o4 s.heap e T c .none)
  (h:∀ h' T',Kp (fO (env::outer)) (fun b=>b=e\/b=T) s.heap h'->o4 h' e T' c .none->s.heap.objs.size<=T'->Q () { s with heap:=h' }):wpAny M A (leaving env (.ref e)) Q E s:=by
 unfold leaving
 exact aj (Jk jQ hl hf ht h)
end
end Pu
namespace Pu
open L2
def bX(P:aK)(w:World):gv:=fun outer H s E e s'=>∃ (a T:Addr) (c:Value) (H':Hp),e = .ref a/\s'.os=s.os/\mF s'.gens/\Un (fO outer) [] H H' s.heap s'.heap/\dv P w H' s'.heap/\o4 s'.heap a T c .none /\
 (s.heap.get? a=none/\s.heap.get? T=none/\H' a=none/\H' T=none)/\E c none H'
theorem QV{P:aK}{w:World}{H:Hp}{h:Heap}{a:Addr}{o:HO}(x:cx P w H h a o):∃ u,h.get? a=some u:=by
 cases o with
 | lst xs=>obtain⟨_,_,_,_,e⟩:=x; exact⟨_,e⟩
 | tup xs=>obtain⟨_,_,_,⟨o,e,_⟩,_⟩:=x; exact⟨_,e⟩
 | dK kvs=>obtain⟨_,_,_,_,o,_,_,e,_⟩:=x; exact⟨_,e⟩
 | dT kvs=>obtain⟨_,_,_,_,o,_,_,e,_⟩:=x; exact⟨_,e⟩
 | set S n=>obtain⟨o,_,_,_,e,_⟩:=x; exact⟨_,e⟩
 | ins C dx fs=>obtain⟨_,_,_,e,_⟩:=x; exact⟨_,e⟩
 | own y=>exact x
 | xd fs=>obtain⟨_,⟨_,_,_,e,_⟩,_⟩:=x; exact⟨_,e⟩
 | rng lo hi=>obtain⟨_,_,_,e⟩:=x; exact⟨_,e⟩
 | frz ob u=>obtain⟨e,_⟩:=x; exact⟨_,e⟩
 | tbl ps=>exact⟨_,x⟩
 | met f y=>exact⟨_,x⟩
 | ext φ=>obtain⟨_,e,_⟩:=x; exact e
theorem Kh{P:aK}{w:World}{H:Hp}{h:Heap}{a:Addr}(x:dv P w H h)(e:h.get? a=none):H a=none:=by
 cases q:H a with
 | none=>rfl
 | some u=>obtain⟨o,z⟩:=QV (x a u q); rw[e]at z; cases z
theorem tz{fs:List Addr}{H H':Hp}{h h':Heap}{a:Addr}(u:Un fs [] H H' h h')(e:h'.get? a=none):h.get? a=none:=by
 cases q:h.get? a with
 | none=>rfl
 | some o=>obtain⟨o',z⟩:=u.there a o q (by simp); rw[e]at z; cases z
theorem Dq{fs fs':List Addr}{H H':Hp}{h h1 h2:Heap}{X:Addr->Prop}(u:Un fs [] H H' h h1)(k:Kp fs' X h1 h2)(hf:∀ b o,h.get? b=some o->b∈fs'->b∈fs)(hX:∀ b o,h.get? b=some o->¬ X b):Un fs [] H H' h h2 where
 keep:=fun b o e n hb hx=>k.keep b o (u.keep b o e n hb hx) (fun z=>hb (hf b o e z)) (hX b o e)
 slot:=fun b o e n hb hx=>by
  obtain⟨sl,e1⟩:=u.slot b o e n hb hx
  by_cases hb':b∈fs'
  ·obtain⟨sl2,e2⟩:=k.slot b _ e1 hb' (hX b o e)
   exact⟨sl2,e2⟩
  ·exact⟨sl,k.keep b _ e1 hb' (hX b o e)⟩
 free:=u.free
 there:=fun b o e hx=>let ⟨o',e'⟩:=u.there b o e hx; k.there b o' e'
 tups:=u.tups
 frzs:=u.frzs
 tbls:=u.tbls
theorem CV{P:aK}{w:World}{fs:List Addr}{H:Hp}{h h':Heap}{X:Addr->Prop}(x:dv P w H h)(k:Kp fs X h h')(hf:∀ b∈fs,H b=none)(hX:∀ b,X b->H b=none):dv P w H h':=fun b u e =>
 (x b u e).stay (fun c v hc q=>k.keep c v q (fun z=>by
   have:=hf c z
   rcases hc with rfl | hc
   ·rw[e]at this; cases this
   ·rw[hc]at this; cases this) fun z=>by
   have:=hX c z
   rcases hc with rfl | hc
   ·rw[e]at this; cases this
   ·rw[hc]at this; cases this) (fun _ q=>q) fun _ _ q=>q
section
variable{P:aK}{w:World}{K:ao}{mg:Str->Option Value}{base:Heap}{N:List Str}{qual:Str}{scope:Scope}{f:Addr}{cd:Value}{A:aV}{outer:List Env}{s₀:ah}{H₀:Hp}{E:XK}
theorem c7:ql (bX P w) (jA (bX P w) P w K mg base N qual scope f cd A outer s₀ H₀ E) E:=fun aa σ H s e s' I h=>by
 obtain⟨a,T,c,H',rfl,ho,hg,un,hok,fl,⟨fa,fT,na,nT⟩,hE⟩:=h
 have I':=I.call' (s':=s') (ch:=[]) ho un hok hg (fun b z=>absurd z (by simp))
 refine LX (L:=s₀.heap.objs.size) I.ok.frames I'.stack rfl fl fun g_ T' k fl' fT'=>?_
 have oE:(jA (bX P w) P w K mg base N qual scope f cd A outer s₀ H₀ E).ex=[]:=rfl
 have fa0:s₀.heap.get? a=none:=tz I.base fa
 have fT0:s₀.heap.get? T=none:=tz I.base fT
 have fT0':s₀.heap.get? T'=none:=tz I'.base (GS fT')
 have old:∀ b o,s₀.heap.get? b=some o->b≠a/\b≠T:=fun b o e=>⟨(by rintro rfl; rw[fa0]at e; cases e),(by rintro rfl; rw[fT0]at e; cases e)⟩
 refine⟨a,T',c,H',rfl,I'.os,I'.bare,Dq I'.base k (fun b o e z=>?_) (fun b o e z=>z.elim (old b o e).1 (old b o e).2),CV I'.hok k I'.stkFree (fun b z=>by rcases z with rfl | rfl <;> assumption),fl',⟨fa0,fT0',na,I'.hok.fresh fT'⟩,hE⟩
 rcases bH.mp (I.stkSub b z)with q | q
 ·exact absurd (bq e) (by rw[q]; exact fh _)
 ·exact q
end
section
variable{X:Cx}{E:XK}{pin:List Nat}{e:Expr}{de:ae->R PV}{x:Str}{C:Addr}{bmB:List Value}{newId initId B:String}{np cpos pos:Pos}
def Dn(X:Cx)(E:XK):Prop:=∀ (aa:List (Addr×Obj)) (σ:St) (H:Hp) (s:ah) (a:Addr) (c:Value) (h':Heap),Inv X aa σ H s->(∀ b o,s.heap.get? b=some o->h'.get? b=some o)->Made h' a c->s.heap.get? a=none->(E c none H)->X.xe (.ref a) { s with heap:=h' }
def tP(c:Value)(de:ae->R PV):ae->R ax:=fun ε=>(de ε).bind fun _ ε1=>.er c ε1
theorem HV{h h':Heap}{e:Addr}{cls:Value}{args:List Value}(m:Heap.MadeExcOf h h' e cls args):Made h' e cls:=by
 obtain⟨t,he,_,_⟩:=m.there
 exact⟨_,_,he,rfl,⟨rfl,rfl⟩,rfl⟩
theorem w8(hx:Dn X E)(hc:X.calm=true)(O:OwnCls x C bmB newId X.mg X.base)(FB:ExcBaseFacts B newId initId bmB)(he:DE X.nox E0 e de)(hg:Gl X x:=by rfl)(hd:(x == ("__debug__" : Str))=false:=by decide)
  (h1:aZ [e] X.env=[(false,eval e X.env)]:=by rfl):DS X E pin (.Raise (some (.Call (.Name x np) [e] [] cpos)) none pos) (tP (.ref C) (fun ε=>dr (de ε))):=fun F S ε σ H D rl q=>Bx.mk fun aa s I=>by
 obtain⟨tl,N,nm,qn,bs,hdct,sn,sub,ab,col,dd,k0,k1,k2,k3,k5,mN,hC,hN,hni,T⟩:=O.obj
 refine wpAny_Raise_call_subT (C:=C) (nm:=nm) (q:=qn) (N:=N) (bs:=bs) (bm:=tl) (hdct:=hdct) (sn:=sn) (sub:=sub) (ab:=ab) (col:=col) (dd:=dd) (k0:=k0) (k1:=k1) (k2:=k2) (k3:=k3) (k5:=k5)
  FB (mN:=mN) (T.hasType FB.hasBase) (I.ok.hd hc) (by rw[h1]; rfl) hni (yZ I hg O.bound ⟨rfl,?_⟩ hd)
 have q2:Ok X.K E0 σ F S H (de ε) (fun _ ε1 F1 S1 H1=>iL X.K E pin σ F1 S1 H1 (.er (.ref C) ε1) D):=by
  have q:iL X.K E pin σ F S H ((dr (de ε)).bind fun _ ε1=>.er (.ref C) ε1) D:=q
  cases e0:de ε with
  | no=>rw[e0]at q; exact q.elim
  | er c ε'=>rw[e0]at q; exact q.elim
  | ok v ε'=>rw[e0]at q; exact fun F' S' H' r' g'=>q.from g' (jC.refl _ _)
 rw[h1]
 refine G1 (dG (AT (dG ((he F S ε σ H (fun v H1=>∃ F1 S1 ε1,aP X.K F1 S1 ε1 σ H1/\iL X.K E pin σ F1 S1 H1 (.er (.ref C) ε1) D) rl (q2.imp fun v ε1 F1 S1 H1 r1 g1 h v' rv=>⟨F1,S1,ε1,r1,h⟩)).run aa s (I.wish _)) (fun u s1 ⟨v,H1,I1,r1,F1,S1,ε1,rl1,ok⟩=>?_) fun _ _ z=>z.elim)) (fun _ _ z=>z) fun _ _ z=>z)
 have I1:=I1.unwish
 refine GW ⟨rfl,(by show 1<=a7; decide),I1.bk _ _ hC,hN.keeps I1.bk,T.keeps I1.bk,fun h' a m=>?_⟩
 exact hx aa σ H1 s1 a (.ref C) h' I1 m.keeps (HV m) m.new (ok none F1 S1 σ H1 rl1 (bK.refl ..) (jC.refl _ _))
end
section
variable{P:aK}{w:World}{K:ao}{mg:Str->Option Value}{base:Heap}{N:List Str}{qual:Str}{scope:Scope}{f:Addr}{cd:Value}{A:aV}{outer:List Env}{s₀:ah}{H₀:Hp}{E:XK}
theorem vq:Dn (jA (bX P w) P w K mg base N qual scope f cd A outer s₀ H₀ E) E:=fun aa σ H s a c h' I kp md new hE=>by
 have I':Inv _ aa σ H { s with heap:=h' }:=I.kept (t':=s.toks) kp
 refine NJ (s:={ s with heap:=h' }) (L:=s₀.heap.objs.size) I.ok.frames I'.stack rfl md fun g_ T' k fl' fT'=>?_
 have fa0:s₀.heap.get? a=none:=tz I.base new
 have fT0':s₀.heap.get? T'=none:=tz I'.base (GS fT')
 have na:H a=none:=Kh I.hok new
 refine⟨a,T',c,H,rfl,I'.os,I'.bare,Dq I'.base k (fun b o e z=>?_) (fun b o e z=>by rw[show b=a from z,fa0]at e; cases e),CV I'.hok k I'.stkFree (fun b z=>by rw[show b=a from z]; exact na),fl',⟨fa0,fT0',na,I'.hok.fresh fT'⟩,hE⟩
 rcases bH.mp (I.stkSub b z)with q | q
 ·exact absurd (bq e) (by rw[q]; exact fh _)
 ·exact q
end
end Pu
namespace Pu
open L2
def XP(X:Cx)(aa:List (Addr×Obj))(σ:St)(XE:Value->Hp->Prop)(e:Value)(s':ah):Prop:=∃ s1 H1,Inv X aa σ H1 s1/\bX X.prog X.w X.stack H1 s1 (fun c _ H'=>XE c H') e s'
end Pu
namespace Pu
open L2
def Under(h:Heap)(D:Addr)(c:Value):Prop:=∃ C bm N nm q bs hdct sn sub ab col dd k0 k1 k2 k3 k5 newId,c = .ref C/\h.get? C=some (excClassObj nm q C N bs bm hdct sn sub ab col dd k0 k1 k2 k3 k5 newId)/\(Value.ref C::bm).contains (.ref D)=true
def FW(h:Heap)(D:Addr):Prop:=∃ bm N nm q bs hdct sn sub ab col dd k0 k1 k2 k3 k5 newId,h.get? D=some (excClassObj nm q D N bs bm hdct sn sub ab col dd k0 k1 k2 k3 k5 newId)/\bm.contains (.type "BaseException")=true
theorem Under.keeps{h h':Heap}{D:Addr}{c:Value}(x:Under h D c)(k:∀ b o,h.get? b=some o->h'.get? b=some o):Under h' D c:=by
 obtain⟨C,bm,N,nm,q,bs,hdct,sn,sub,ab,col,dd,k0,k1,k2,k3,k5,newId,e,h1,h2⟩:=x
 exact⟨C,bm,N,nm,q,bs,hdct,sn,sub,ab,col,dd,k0,k1,k2,k3,k5,newId,e,k _ _ h1,h2⟩
theorem FW.keeps{h h':Heap}{D:Addr}(x:FW h D)(k:∀ b o,h.get? b=some o->h'.get? b=some o):FW h' D:=by
 obtain⟨bm,N,nm,q,bs,hdct,sn,sub,ab,col,dd,k0,k1,k2,k3,k5,newId,h1,h2⟩:=x
 exact⟨bm,N,nm,q,bs,hdct,sn,sub,ab,col,dd,k0,k1,k2,k3,k5,newId,k _ _ h1,h2⟩
end Pu
namespace Pu
open L2
structure wO(k:Nat)(A:aV):Prop where
 dp:A.depth+3 * k+5<recursionLimit
 un:A.units+16 * k+200<cLine
theorem fe.u{k:Nat}{A:aV}(r:fe k A):wO k A:=⟨r.dp,r.un⟩
theorem wO.deeper{k:Nat}{A:aV}(r:wO (k+1) A)(env:Env):wO k (A.deeper env) :=
 ⟨by have:=r.dp; show A.depth+1+3 * k+5<_; ac_rfl,by have:=r.un; show A.units+3+16 * k+200<_; ac_rfl⟩
theorem wO.units{k:Nat}{A:aV}(r:wO k A):A.units+64<cLine:=by have:=r.un; ac_rfl
end Pu
namespace Pu
open L2
theorem N9(c:Nat)(x:Tx):vE [c] x=x.contains c:=by
 unfold vE
 have:=StrLaws.found_one (tS x) c
 rw[kw]at this
 rw[show(tS [c])=⟨#[c]⟩from rfl,this]
 simp[List.contains_eq_mem]
end Pu
namespace Pu
open L2
section
variable{K:ao}{F F':Addr->Prop}{S S':Nat->Addr->Prop}{ε ε':ae}{σ:St}{H H':Hp}{i:Nat}{po:PO}
variable{a b:Addr}{h_:List (List PV)}{as:List Addr}{j:Nat}{xs:List PV}{vs:List V}
theorem nj.len(h:nj K H F h_ as):as.length=h_.length:=by
 unfold nj at h
 induction h with
 | nil=>rfl
 | cons _ _ ih=>simp[ih]
end
end Pu
namespace Pu
open L2
theorem nj.snoc{K:ao}{H:Hp}{F:Addr->Prop}{h_:List (List PV)}{as:List Addr}{xs:List PV}{b:Addr}{vs:List V}(h:nj K H F h_ as)(hb:H b=some (.lst vs))(hr:a9 K H F xs vs):nj K H F (h_++[xs]) (as++[b]):=Paired.snoc h ⟨vs,hb,hr⟩
end Pu
namespace Pu
open L2
def fF(pin:List Nat):Nat->ae->Bool
 | _,[]=>true
 | i,.own po::ss=>pin.contains i && jB po && fF pin (i+1) ss
 | i,_::ss=>fF pin (i+1) ss
theorem r_{pin:List Nat}:∀ {ss:ae} {k:Nat},fF pin k ss=true->∀ (i:Nat) po,ss[i]?=some (.own po)->k+i∈pin/\jB po=true
 | [],_,_,i,po,e=>by simp at e
 | .own q::ss,k,h,0,po,e=>by
  simp only[List.getElem?_cons_zero,Option.some.injEq,Slot.own.injEq]at e
  subst e
  simp only[fF,gF]at h
  exact⟨by simpa using h.1.1,h.1.2⟩
 | .own q::ss,k,h,i+1,po,e=>by
  simp only[fF,gF]at h
  have:=r_ (k:=k+1) h.2 i po (by simpa using e)
  rwa[xO,ur]at this
 | .val q::ss,k,h,0,po,e=>by simp at e
 | .none::ss,k,h,0,po,e=>by simp at e
 | .val q::ss,k,h,i+1,po,e=>by
  have:=r_ (k:=k+1) (by simpa[fF]using h) i po (by simpa using e)
  rwa[xO,ur]at this
 | .none::ss,k,h,i+1,po,e=>by
  have:=r_ (k:=k+1) (by simpa[fF]using h) i po (by simpa using e)
  rwa[xO,ur]at this
def bo(len:Nat)(pin:List Nat)(g:ae->R Slot):ae->R Slot:=fun ss=>if ss.length=len/\fF pin 0 ss=true then g ss else .no
theorem cG{CX:gv}{P:aK}{w:World}{K:ao}{mg:Str->Option Value}{base:Heap}{x:Str}{st:Stmt}{N ps:List Str}{k n:Nat}{d:ae->R ax}{pin:List Nat}(D:cn K mg x st)(Sc:bZ N ps (aY st))(hn:N.length=ps.length+n)
  (hb:∀ (kV doc pm:Value) (an:Option Addr) (aJ ct:Value) (us:List Value),us.length=ps.length->g7 (kF x x (lw st) (iP st) (aY st) .none kV doc pm an aJ ct) ⟨us,[]⟩=pure (ps.zip us))
  (kM:∀ (f:Addr) (aJ:Value) (A:aV) (outer:List Env) (s:ah) (H:Hp) (E:XK),fe k (A.deeper (j_ x (aY st) s.heap.objs.size f aJ))->jy (jA CX P w K mg base N x (aY st) f aJ A outer s H E) E pin (iP st) d) :
  cf CX P w K mg base x (k+1) ps (bR K (bo ps.length pin (bu n d))):=by
 have no:∀ {ss},bo ps.length pin (bu n d) ss≠.no->ss.length=ps.length/\fF pin 0 ss=true:=fun {ss} h=>by
  unfold bo at h
  by_cases z:ss.length=ps.length/\fF pin 0 ss=true
  ·exact z
  ·rw[if_neg z]at h; exact absurd rfl h
 exact Pw D Sc hn hb (fun ss h=>(no h).1) (fun ss h i po e=>by have:=r_ (no h).2 i po e; rwa[nX]at this) (fun ss h=>by unfold bo; rw[if_pos (no h)]) kM
theorem Jn{f:Addr}{fd:iy}{CX:gv}{P:aK}{w:World}{K:ao}{mg:Str->Option Value}{base:Heap}{x qual:Str}{st:Stmt}{N ps:List Str}{k n:Nat}{d:ae->R ax}{pin:List Nat}(Fn:oR K x qual st f fd)(Sc:bZ N ps (aY st))(hn:N.length=ps.length+n)
  (hb:∀ (kV doc pm:Value) (an:Option Addr) (aJ ct:Value) (us:List Value),us.length=ps.length->g7 (kF x qual (lw st) (iP st) (aY st) .none kV doc pm an aJ ct) ⟨us,[]⟩=pure (ps.zip us))
  (kM:∀ (f:Addr) (aJ:Value) (A:aV) (outer:List Env) (s:ah) (H:Hp) (E:XK),fe k (A.deeper (j_ qual (aY st) s.heap.objs.size f aJ))->jy (jA CX P w K mg base N qual (aY st) f aJ A outer s H E) E pin (iP st) d) :
  kB P w K mg base CX (k+1) f fd ps (bR K (bo ps.length pin (bu n d))):=by
 have no:∀ {ss},bo ps.length pin (bu n d) ss≠.no->ss.length=ps.length/\fF pin 0 ss=true:=fun {ss} h=>by
  unfold bo at h
  by_cases z:ss.length=ps.length/\fF pin 0 ss=true
  ·exact z
  ·rw[if_neg z]at h; exact absurd rfl h
 exact Fx Fn Sc hn hb (fun ss h=>(no h).1) (fun ss h i po e=>by have:=r_ (no h).2 i po e; rwa[nX]at this) (fun ss h=>by unfold bo; rw[if_pos (no h)]) kM
theorem D1{P:List Value->Prop}(h:∀ a,P [a])(us:List Value)(hl:us.length=1):P us:=by
 cases us with
 | nil=>cases hl
 | cons a r=>cases r with
  | nil=>exact h a
  | cons b r=>cases hl
theorem Dr{P:List Value->Prop}(h:∀ a b,P [a,b])(us:List Value)(hl:us.length=2):P us:=by
 cases us with
 | nil=>cases hl
 | cons a r=>exact D1 (P:=fun r=>P (a::r)) (h a) r (xP hl)
theorem ED{P:List Value->Prop}(h:∀ a b c,P [a,b,c])(us:List Value)(hl:us.length=3):P us:=by
 cases us with
 | nil=>cases hl
 | cons a r=>exact Dr (P:=fun r=>P (a::r)) (h a) r (xP hl)
theorem Po{P:List Value->Prop}(h:∀ a b c d,P [a,b,c,d])(us:List Value)(hl:us.length=4):P us:=by
 cases us with
 | nil=>cases hl
 | cons a r=>exact ED (P:=fun r=>P (a::r)) (h a) r (xP hl)
theorem RX{fd:iy}{ps:List Str}(h:∀ a,g7 fd ⟨[a],[]⟩=pure (ps.zip [a]))(us:List Value)(hl:us.length=1):g7 fd ⟨us,[]⟩=pure (ps.zip us):=D1 (P:=fun us=>g7 fd ⟨us,[]⟩=pure (ps.zip us)) h us hl
theorem Rv{fd:iy}{ps:List Str}(h:∀ a b,g7 fd ⟨[a,b],[]⟩=pure (ps.zip [a,b]))(us:List Value)(hl:us.length=2):g7 fd ⟨us,[]⟩=pure (ps.zip us):=Dr (P:=fun us=>g7 fd ⟨us,[]⟩=pure (ps.zip us)) h us hl
theorem RU{fd:iy}{ps:List Str}(h:∀ a b c,g7 fd ⟨[a,b,c],[]⟩=pure (ps.zip [a,b,c]))(us:List Value)(hl:us.length=3):g7 fd ⟨us,[]⟩=pure (ps.zip us):=ED (P:=fun us=>g7 fd ⟨us,[]⟩=pure (ps.zip us)) h us hl
theorem RA{fd:iy}{ps:List Str}(h:∀ a b c d,g7 fd ⟨[a,b,c,d],[]⟩=pure (ps.zip [a,b,c,d]))(us:List Value)(hl:us.length=4):g7 fd ⟨us,[]⟩=pure (ps.zip us):=Po (P:=fun us=>g7 fd ⟨us,[]⟩=pure (ps.zip us)) h us hl
theorem jv{P:aK}{w:World}{X:Cx}:ql (bX P w) X E0:=fun _ _ _ _ _ _ _ h=>by
 obtain⟨a,T,c,H',_,_,_,_,_,_,_,z⟩:=h
 exact z.elim
theorem eB:eE "len" = some (.builtin "len"):=by decide +kernel
theorem E1:eE "all" = some (.builtin "all"):=by decide +kernel
theorem O_:eE "any" = some (.builtin "any"):=by decide +kernel
theorem vo:eE "sorted" = some (.builtin "sorted"):=by decide +kernel
theorem qA:eE "isinstance" = some (.builtin "isinstance"):=by decide +kernel
theorem L0:eE "int" = some (.type "int"):=by decide +kernel
theorem Ma:eE "bool" = some (.type "bool"):=by decide +kernel
theorem Fd:eE "str" = some (.type "str"):=by decide +kernel
theorem IK:eE "list" = some (.type "list"):=by decide +kernel
theorem zv:eE "tuple" = some (.type "tuple"):=by decide +kernel
theorem zZ:eE "set" = some (.type "set"):=by decide +kernel
end Pu
namespace Pu
open L2
def lq:Expr->Bool
 | .Starred _ _=>true
 | _=>false
theorem jG{e:Expr}{es:List Expr}{env:Env}(h:lq e=false):aZ (e::es) env=(false,eval e env)::aZ es env:=by
 cases e <;> first | rfl | cases h
section
variable{X:Cx}{E:XK}{e:Expr}{es:List Expr}{d:ae->R PV}{ds:ae->R (List PV)}{dg:ae->R (List bY)}
theorem aD(ha:DE X E e d)(hr:DA X E es ds)(h:lq e=false:=by rfl):DA X E (e::es) (ak d ds):=KH ha hr (jG h)
theorem aG(ha:DE X E e d)(hr:DG X E es dg)(h:lq e=false:=by rfl):DG X E (e::es) (gV d dg):=Q3 ha hr (jG h)
end
end Pu
namespace Pu
open L2
def wu:List Value:=[.type "ValueError",.type "Exception",.type "BaseException",.type "object"]
theorem JP{K:ao}{h:Heap}{C:Addr}{B:List Value}{nw:String}(X:K.In h)(q:rF K C B nw=true) :
  ∃ bm N nm qn bs hd sn sub ab col dd k0 k1 k2 k3 k5 mN,h.get? C=some (excClassObj nm qn C N bs bm hd sn sub ab col dd k0 k1 k2 k3 k5 nw)/\h.Ns N mN/\mN "__init__" = none/\OwnTail h B bm:=by
 unfold rF at q
 split at q
 case h_2=>cases q
 case h_1 d0 cdata slots look =>
  split at q
  case h_2=>cases q
  case h_1 C2 tl s0 s1 s2 s3 nn s5 em es =>
   rw[gF,gF,gF,gF,gF]at q
   obtain⟨⟨⟨⟨⟨q1,q2⟩,q3⟩,q4⟩,q5⟩,q6⟩:=q
   have r1:=beq_iff_eq.mp q1
   have r2:=beq_iff_eq.mp q2
   have r6:=beq_iff_eq.mp q6
   subst r1 r2
   cases cdata
   dsimp only at em q3 q5 r6
   subst em
   have r3:=Hg _ |>.mp q3
   subst r3
   have r7:slots = #[s0,s1,s2,s3,some (.builtin nn),s5]:=by cases slots; exact congrArg Array.mk es
   subst r7
   exact⟨tl,_,_,_,_,_,_,_,_,_,d0,s0,s1,s2,s3,s5,_,X _ _ look,Heap.Ns.of_isNs (PySem.W.isNs_of_in X q5),PySem.W.nsMap_none_of_in X q5 r6,PySem.W.tail_of_in X q4⟩
theorem zS{K:ao}{h:Heap}{mg:Str->Option Value}{x:Str}{C:Addr}{B:List Value}{nw:String}(X:K.In h)(e:mg x=some (.ref C))(q:rF K C B nw=true):OwnCls x C B nw mg h:=⟨e,JP X q⟩
def subB(K:ao)(D C:Addr):Bool:=match K.lookup C with
 | some ⟨_,_,.cls cd,_⟩=>cd.mro.contains (.ref D)
 | _=>false
def Fb(K:ao)(C:Addr):Bool :=
 xy K (.ref C) "__getattribute__" == some (some (.builtin "BaseException.__getattribute__")) && xy K (.ref C) "__getattr__" == some none && xy K (.ref C) "__class__" == some (some (.builtin "object.__class__")) &&
 PySem.W.specialIn K (.builtin "object.__class__") "__get__" == some (some (.builtin "getset_descriptor.__get__")) && PySem.W.takesIn K (.builtin "object.__class__") == some true && PySem.W.mroIn K C (.type "object") == some true && PySem.W.mroIn K C (.type "BaseException") == some true && (PySem.W.clsIn K C).isSome
def z9(K:ao):Bool:=K.all fun p=>match p.2.cls with
 | .type t=>t != "list"
 | _=>true
theorem Ga{a:Addr}{o:Obj}:∀ {K:ao},K.lookup a=some o->(a,o)∈K
 | [],e=>by cases e
 | (b,u)::K,e=>by
  rw[ka]at e
  cases q:a == b with
  | true=>rw[q]at e; cases e; rw[beq_iff_eq.mp q]; exact mH ..
  | false=>rw[q]at e; exact kD _ (Ga e)
theorem CA{K:ao}{H:Hp}{F:Addr->Prop}:∀ ns:List Int,a9 K H F (ns.map .int) (ns.map V.int)
 | []=>rfl
 | x::ns=>⟨.int x,ns.map V.int,rfl,rfl,CA ns⟩
theorem NH{K:ao}{H:Hp}{a:Addr}{xs:List V}(h:z9 K=true)(s:bO K H a xs):Rd H a (.lst xs):=by
 rcases s with s | ⟨o,its,n,lk,hc,_⟩
 ·exact s
 ·have:=uo.mp h _ (Ga lk)
  rw[hc]at this
  simp at this
theorem HX{K:ao}{g:ae->R Slot}{H:Hp}{a:Addr}{ns:List Int}{E:XK}(hr:Rd H a (.lst (ns.map V.int)))(h:g [.val (.lst (ns.map .int))] = .ok (.val (.bl true)) [.val (.lst (ns.map .int))]):bR K g [.ref a] H (fun v _=>v = .bl true) E:=by
 refine⟨fun b=>b=a,fun _ _=>False,[.val (.lst (ns.map .int))],⟨rfl,fun b e=>?_,fun i pv e=>?_,fun i po e=>?_,fun i b z=>z.elim,fun i j b z=>z.elim⟩,?_⟩
 ·subst e
  rcases hr with hr | ⟨o,hr⟩ <;> exact⟨_,hr⟩
 ·cases i with
  | zero=>cases e; exact⟨_,rfl,a,_,rfl,hr,rfl,CA ns⟩
  | succ i=>simp at e
 ·cases i with
  | zero=>cases e
  | succ i=>simp at e
 ·rw[h]
  exact fun v F' S' H' Sr _ _ rv _ _=>rv.1
theorem RE{K:ao}{x:Str}{i:Int}{t:Tok}(e:dR K cz x=some (some (.int i t))):∃ t,dR K cz x=some (some (.int i t)):=⟨t,e⟩
theorem RO{K:ao}{x:Str}{l:Tx}{t:Tok}(e:dR K cz x=some (some (.str (tS l) t))):∃ t,dR K cz x=some (some (.str (tS l) t)):=⟨t,e⟩
def cr(K:ao)(x:Str)(st:Stmt):Prop:=∃ f oc od kV dc pm an cd ct sl,dR K cz x=some (some (.ref f))/\K.lookup f=some ⟨oc,od,.func (kF x x (lw st) (iP st) (aY st) .none kV dc pm an cd ct),sl⟩/\xB K cd x=true/\uc K (.ref f)=true
theorem RM{K:ao}{x:Str}{st:Stmt}{f:Addr}{oc kV dc pm cd ct:Value}{od an:Option Addr}{sl:Array (Option Value)}(a:dR K cz x=some (some (.ref f)))(l:K.lookup f=some ⟨oc,od,.func (kF x x (lw st) (iP st) (aY st) .none kV dc pm an cd ct),sl⟩)
  (c:xB K cd x=true) (k:uc K (.ref f)=true):cr K x st:=⟨f,oc,od,kV,dc,pm,an,cd,ct,sl,a,l,c,k⟩
theorem cr.at{K:ao}{h:Heap}{mg:Str->Option Value}{x:Str}{st:Stmt}(d:cr K x st)(X:K.In h)(G:h.Ns cz mg):cn K mg x st:=by
 obtain⟨f,oc,od,kV,dc,pm,an,cd,ct,sl,a,l,c,k⟩:=d
 exact⟨f,_,kf X G a,Fs l c k⟩
end Pu
namespace Pu
open L2
def j7(kvs:List (aw×PV))(k:aw):Option PV:=(kvs.find? fun kv=>decide (kv.1=k)).map (·.2)
def qD(kvs:List (aw×PV))(k:aw)(v:PV):List (aw×PV):=if(kvs.any fun kv=>decide (kv.1=k))=true then kvs.map (fun kv=>if kv.1=k then(kv.1,v)else kv)else kvs++[(k,v)]
def jw:PV->Option aw
 | .int i=>some (.inl i)
 | .str x=>some (.inr (tS x))
 | _=>none
section
variable{K:ao}{F:Addr->Prop}{S:Nat->Addr->Prop}{ε:ae}{σ:St}{H:Hp}{i:Nat}{kvs:List (aw×PV)}{ws:List (aw×V)}{a:Addr}
theorem wp{x:PV}{v:V}{k:aw}(r:aT K H F x v)(e:jw x=some k):v=kV k:=by
 cases x <;> simp[jw]at e
 ·subst e; exact r
 ·subst e; exact r.1
theorem eQ.len(h:eQ K H F kvs ws):ws.length=kvs.length:=by
 unfold eQ at h
 induction h with
 | nil=>rfl
 | cons _ _ ih=>simp[ih]
theorem eQ.val(h:eQ K H F kvs ws)(k:aw):(∃ x v,j7 kvs k=some x/\ie ws k=some v/\aT K H F x v)\/(j7 kvs k=none/\ie ws k=none):=by
 unfold eQ at h
 induction h with
 | nil=>exact .inr ⟨rfl,rfl⟩
 | @cons p q ps qs r _ ih =>
  by_cases e:p.1=k
  ·refine .inl ⟨p.2,q.2,by simp[j7,jK,e],?_,r.2⟩
   rw[tw (by rw[← r.1]; exact e)]
  ·have e2:¬ q.1=k:=by rw[← r.1]; exact e
   rw[sK e2]
   have:j7 (p::ps) k=j7 ps k:=by simp[j7,jK,e]
   rw[this]; exact ih
theorem eQ.any(h:eQ K H F kvs ws)(k:aw):(kvs.any fun kv=>decide (kv.1=k))=ws.any fun kv=>decide (kv.1=k):=by
 unfold eQ at h
 induction h with
 | nil=>rfl
 | cons r _ ih=>rw[pB,pB,ih,r.1]
theorem eQ.put(h:eQ K H F kvs ws)(k:aw){x:PV}{v:V}(r:aT K H F x v):eQ K H F (qD kvs k x) (gd ws k v):=by
 unfold qD gd
 rw[h.any k]
 split
 ·rename_i hA
  clear hA
  unfold eQ at h ⊢
  induction h with
  | nil=>exact .nil
  | @cons p q ps qs r1 _ ih =>
   refine .cons ?_ ih
   dsimp only
   by_cases e:p.1=k
   ·rw[if_pos e,if_pos (by rw[← r1.1]; exact e)]; exact⟨r1.1,r⟩
   ·rw[if_neg e,if_neg (by rw[← r1.1]; exact e)]; exact r1
 ·exact Paired.snoc h ⟨rfl,r⟩
theorem aP.dkAt(r:aP K F S ε σ H)(e:ε[i]?=some (.own (.dK kvs))):∃ a ws,σ[i]?=some (some (.ref a))/\H a=some (.dK ws)/\eQ K H F kvs ws/\S i a/\∀ b,S i b->b=a:=by
 obtain⟨a,e1,⟨vs,h1,h2⟩,h3⟩:=r.own i _ e
 exact⟨a,vs,e1,h1,h2,(h3 a).mpr rfl,fun b h=>(h3 b).mp h⟩
theorem aP.updO{po po':PO}{o':HO}(r:aP K F S ε σ H)(e:ε[i]?=some (.own po))(hf:jB po=true)(ea:σ[i]?=some (some (.ref a)))(hn:gb o')
  (h:∀ H',(∀ x v,aT K H F x v->aT K H' F x v)->(∀ x v,a9 K H F x v->a9 K H' F x v)->H' a=some o'->∀ Sa:Addr->Prop,(∀ b,Sa b↔b=a)->fW K H' F po' a Sa) :
  aP K F S (ε.set i (.own po')) σ (L2.upd H a o')/\bK (U S) (U S) F F H (L2.upd H a o'):=by
 obtain⟨a',e1,ow⟩:=r.own i po e
 rw[ea]at e1
 cases e1
 have h34:=FX ow hf
 have h3:S i a:=(h34 a).mpr rfl
 have h4:∀ b,S i b->b=a:=fun b z=>(h34 b).mp z
 have hi:i<ε.length:=(dP.mp e).1
 have g:bK (U S) (U S) F F H (L2.upd H a o'):=⟨fun _ z=>z,fun b o q n=>by rw[bp (by rintro rfl; exact n ⟨i,h3⟩)]; exact q,fun b o q=>by
  by_cases hb:b=a
  ·subst hb; exact⟨_,bA⟩
  ·exact⟨o,by rw[bp hb]; exact q⟩,fun _ z=>.inl z,fun _ z=>.inl z⟩
 refine⟨⟨by rw[ke]; exact r.len,fun b z=>let ⟨o,q⟩:=r.ex b z; g.there b o q,fun j pv q=>?_,fun j po q=>?_,fun j b z=>?_,r.dist⟩,g⟩
 ·have hj:i≠j:=by rintro rfl; rw[gC hi]at q; cases q
  rw[eF hj]at q
  obtain⟨v,q1,q2⟩:=r.val j pv q
  exact⟨v,q1,q2.grow g r.fit⟩
 ·by_cases hj:i=j
  ·subst hj
   rw[gC hi]at q
   cases q
   exact⟨a,ea,h _ (fun _ _ z=>z.grow g r.fit) (fun _ _ z=>z.grow g r.fit) bA _ h34⟩
  ·rw[eF hj]at q
   obtain⟨c,q1,q2⟩:=r.own j po q
   refine⟨c,q1,q2.mono (fun _ _ z=>z.grow g r.fit) (fun _ _ z=>z.grow g r.fit) fun b o z w=>?_⟩
   rw[bp (by rintro rfl; exact hj (r.dist i j b h3 z))]; exact w
 ·obtain⟨⟨po,q1⟩,q2,o,q3,q4⟩:=r.foot j b z
  by_cases hj:i=j
  ·subst hj
   rw[h4 b z]
   exact⟨⟨_,gC hi⟩,by rw[← h4 b z]; exact q2,_,bA,hn⟩
  ·exact⟨⟨po,by rw[eF hj]; exact q1⟩,q2,o,by rw[bp (by rintro rfl; exact hj (r.dist i j b h3 z))]; exact q3,q4⟩
end
def cP(ε:ae)(i:Nat):Option (List (aw×PV)):=match ε[i]? with
 | some (.own (.dK kvs))=>some kvs
 | _=>none
theorem j5{ε:ae}{i:Nat}{kvs:List (aw×PV)}(h:cP ε i=some kvs):ε[i]?=some (.own (.dK kvs)):=by
 unfold cP at h
 split at h
 ·cases h; assumption
 ·cases h
section
variable{X:Cx}{E:XK}{pin:List Nat}{e b c:Expr}{de db dc:ae->R PV}{pos:Pos}
def yB:ae->R PO:=fun ε=>.ok (.dK []) ε
theorem OD:DN X E (.Dict [] [] pos) yB:=fun F S ε σ H Q rl h=>cE Jf fun p hp=>by
 have al:Al F F H (upd H p (.dK [])):=Al.new0 hp
 refine h F S _ (rl.al al) al.grow p (fun b=>b=p) ⟨⟨[],bA,.nil⟩,fun b=>pF⟩ fun b z=>?_
 subst z
 refine⟨hp,fun z=>?_,fun⟨j,z⟩=>?_,_,bA,trivial⟩
 ·obtain⟨o,q⟩:=rl.ex b z; rw[hp]at q; cases q
 ·obtain⟨_,_,o,q,_⟩:=rl.foot j b z; rw[hp]at q; cases q
def kn(i:Nat)(db:ae->R PV):ae->R PV:=fun ε=>(aW (cP ε i) ε).bind fun _ ε=>(db ε).bind fun k ε1=>(aW (cP ε1 i) ε1).bind fun kvs ε1=>aW ((jw k).bind fun k=>j7 kvs k) ε1
theorem Ae(i:Nat){y:Str}{yp:Pos}(hu:X.A.units+64<cLine)(hb:DE X E b db)(hN:X.N[i]?=some y:=by rfl)(gm:ft X.env.scope y:=by first | exact Or.inl rfl | exact Or.inr (Or.inl rfl) | exact Or.inr (Or.inr rfl))
  (hd:(y == ("__debug__" : Str))=false:=by decide) (bF:(y == ("__classdict__" : Str))=false:=by decide) (hs:tD b:=by exact fun _ _=>rfl):DE X E (.Subscript (.Name y yp) b pos) (kn i db):=fun F S ε σ H Q rl h=>by
 unfold kn at h
 cases e0:cP ε i with
 | none=>rw[e0]at h; exact h.elim
 | some kvs0 =>
  rw[e0]at h
  simp only[c_,R.bind_ok]at h
  obtain⟨a,ws0,ea,_⟩:=rl.dkAt (j5 e0)
  refine cE (yL (by ac_rfl) (iw hN gm hd bF) cb hs) ⟨.ref a,ea,hb F S ε σ H _ rl ((Ok.bind h).imp fun k ε1 F1 S1 H1 r1 g1 q u ru=>?_)⟩
  cases e1:cP ε1 i with
  | none=>rw[e1]at q; exact q.elim
  | some kvs =>
   rw[e1]at q
   simp only[c_,R.bind_ok]at q
   obtain⟨a',ws,ea',ha,hk,_⟩:=r1.dkAt (j5 e1)
   rw[ea]at ea'
   cases ea'
   cases e2:jw k with
   | none=>rw[e2]at q; exact q.elim
   | some ky =>
    rw[e2,jf]at q
    rw[wp ru e2]
    rcases hk.val ky with⟨x,v,h1,h2,h3⟩ | ⟨h1,h2⟩
    ·rw[h1]at q
     exact⟨a,v,rfl,by rw[← h2]; exact lF.k ha,q F1 S1 H1 r1 (bK.refl ..) v h3⟩
    ·rw[h1]at q; exact q.elim
def mD(i:Nat)(db dc:ae->R PV):ae->R PV:=fun ε=>(aW (cP ε i) ε).bind fun _ ε=>(db ε).bind fun k ε1=>(dc ε1).bind fun z ε2=>(aW (cP ε2 i) ε2).bind fun kvs ε2=>aW ((jw k).map fun k=>(j7 kvs k).getD z) ε2
theorem GK(i:Nat){y:Str}{yp apos:Pos}(hu:X.A.units+64<cLine)(hb:DE X E b db)(hc:DE X E c dc)(hN:X.N[i]?=some y:=by rfl)(gm:ft X.env.scope y:=by first | exact Or.inl rfl | exact Or.inr (Or.inl rfl) | exact Or.inr (Or.inr rfl))
  (hd:(y == ("__debug__" : Str))=false:=by decide) (bF:(y == ("__classdict__" : Str))=false:=by decide)
  (h1:rj (.Name y yp) "get" X.env (eval (.Name y yp) X.env)=eval (.Name y yp) X.env:=by rfl) (h3:(apos.endLine == pos.line)=true:=by rfl) (s1:lq b=false:=by rfl) (s2:lq c=false:=by rfl) :
  DE X E (.Call (.Attribute (.Name y yp) "get" apos) [b,c] [] pos) (mD i db dc):=fun F S ε σ H Q rl h=>by
 have st:aZ [b,c] X.env=[(false,eval b X.env),(false,eval c X.env)]:=by rw[jG s1,jG s2]; rfl
 have m:M2 X (.Name y yp) "get" apos b c pos:=⟨h1,by rw[st]; rfl,h3,by rw[st]; rfl⟩
 unfold mD at h
 cases e0:cP ε i with
 | none=>rw[e0]at h; exact h.elim
 | some kvs0 =>
  rw[e0]at h
  simp only[c_,R.bind_ok]at h
  obtain⟨a,ws0,ea,ha0,_⟩:=rl.dkAt (j5 e0)
  refine cE (Jl (by ac_rfl) (iw hN gm hd bF) cb cb m) ⟨.ref a,ea,a,rfl,.inl ⟨_,.inl ha0⟩,hb F S ε σ H _ rl ((Ok.bind h).imp fun k ε1 F1 S1 H1 r1 g1 q u ru=>?_)⟩
  refine hc F1 S1 ε1 σ H1 _ r1 ((Ok.bind q).imp fun z ε2 F2 S2 H2 r2 g2 q w rw'=>?_)
  cases e1:cP ε2 i with
  | none=>rw[e1]at q; exact q.elim
  | some kvs =>
   rw[e1]at q
   simp only[c_,R.bind_ok]at q
   obtain⟨a',ws,ea',ha,hk,_⟩:=r2.dkAt (j5 e1)
   rw[ea]at ea'
   cases ea'
   cases e2:jw k with
   | none=>rw[e2]at q; exact q.elim
   | some ky =>
    rw[e2,pE]at q
    rw[wp ru e2]
    rcases hk.val ky with⟨x,v,h1,h2,h3⟩ | ⟨h1,h2⟩
    ·rw[h1]at q
     exact⟨some v,by rw[← h2]; exact lF.k ha,q F2 S2 H2 r2 (bK.refl ..) v h3⟩
    ·rw[h1]at q
     exact⟨none,by rw[← h2]; exact lF.k ha,q F2 S2 H2 r2 (bK.refl ..) w rw'⟩
def iO(i:Nat)(db de:ae->R PV):ae->R ax:=fun ε=>(de ε).bind fun y ε1=>(aW (cP ε1 i) ε1).bind fun _ ε1=>(db ε1).bind fun k ε2=>(aW (cP ε2 i) ε2).bind fun kvs ε2=>(aW (jw k) ε2).bind fun k ε2 =>
 if kvs.length<be then .ok .next (ε2.set i (.own (.dK (qD kvs k y))))else .no
theorem r9(i:Nat){y:Str}{yp tpos:Pos}(hu:X.A.units+64<cLine)(hb:DE X E b db)(he:DE X E e de)(hN:X.N[i]?=some y:=by rfl)(gm:ft X.env.scope y:=by first | exact Or.inl rfl | exact Or.inr (Or.inl rfl) | exact Or.inr (Or.inr rfl))
  (hd:(y == ("__debug__" : Str))=false:=by decide) (bF:(y == ("__classdict__" : Str))=false:=by decide) (hs:nO e (some (.Subscript (.Name y yp) b tpos)) pos.line X.env=pure false:=by rfl) :
  DS X E pin (.Assign [.Subscript (.Name y yp) b tpos] e pos) (iO i db de):=fun F S ε σ H D rl h=>by
 refine iH (Ox (by ac_rfl) (iw hN gm hd bF) cb cb hs) (he F S ε σ H _ rl (h.bindE.imp fun y ε1 F1 S1 H1 r1 g1 q v rv=>?_))
 cases e0:cP ε1 i with
 | none=>rw[e0]at q; exact q.elim
 | some kvs0 =>
  rw[e0]at q
  simp only[c_,R.bind_ok]at q
  obtain⟨a,ws0,ea,ha0,_⟩:=r1.dkAt (j5 e0)
  refine⟨.ref a,ea,hb F1 S1 ε1 σ H1 _ r1 (q.bindE.imp fun k ε2 F2 S2 H2 r2 g2 q2 u ru=>?_)⟩
  cases e1:cP ε2 i with
  | none=>rw[e1]at q2; exact q2.elim
  | some kvs =>
   rw[e1]at q2
   simp only[c_,R.bind_ok]at q2
   obtain⟨a',ws,ea',ha,hk,_⟩:=r2.dkAt (j5 e1)
   rw[ea]at ea'
   cases ea'
   cases e2:jw k with
   | none=>rw[e2]at q2; exact q2.elim
   | some ky =>
    rw[e2]at q2
    simp only[c_,R.bind_ok]at q2
    split at q2
    ·rename_i hl
     rw[wp ru e2]
     have f9:=hk.put ky (rv.grow g2 r1.fit)
     obtain⟨r3,g3⟩:=r2.updO (po':=.dK (qD kvs ky y)) (o':=.dK (gd ws ky v)) (j5 e1) rfl ea trivial fun H' m1 m2 hH' Sa hSa=>⟨⟨_,hH',f9.mono m1⟩,hSa⟩
     exact⟨a,_,rfl,wH.k ha (by rw[hk.len]; exact gB hl mi),q2 F2 S2 σ _ r3 g3 (jC.refl _ _)⟩
    ·exact q2.elim
end
section
variable{X:Cx}
def sX(a d:Addr):HO:=.ext fun h=>h.IsValuesView a d
theorem Nt:yA X "dict.values" (fun x xs H Q=>∃ d kvs,x = .ref d/\xs=[]/\H d=some (.dK kvs)/\∀ a,H a=none->Q (.ref a) (upd H a (sX a d))):=by
 intro aa s σ H x xs v us Q I rx rs h
 obtain⟨d,kvs,rfl,rfl,hd,q⟩:=h
 cases rx
 cases rs.zero
 obtain⟨z,hs,vs,rel,dd⟩:=xh I.hok hd
 refine call_meetsIn PySem.F.slot_dict_values dd.typeIs PySem.F.entry_dict_values (PySem.F.args_dict_values_1 _) (meets_dict_values (fZ X.prog X.w) d hs) ⟨⟨vs,dd⟩,?_⟩
 refine⟨.ref s.heap.objs.size,_,I.laid (a:=s.heap.objs.size) (o:=sX s.heap.objs.size d) (t':=s.toks) (fun _ _ q=>bB _ q) (aL _) ?_,rfl,q _ I.fresh⟩
 exact⟨⟨_,cN _ rfl,rfl,rfl⟩,⟨_,cN _ rfl⟩,fun h1 h2 ⟨o,q1,q2⟩ k=>⟨o,k o q1,q2⟩⟩
theorem KV.at{kvs:List (aw×V)}{vs:List (aw×Value)}(r:KV kvs vs){i:Nat}{k:aw}{u:Value}(h:vs[i]?=some (k,u)):∃ v,kvs[i]?=some (k,v)/\RelV v u:=by
 unfold KV at r
 induction r generalizing i with
 | nil=>simp at h
 | @cons p q ps qs r1 _ ih =>
  cases i with
  | zero =>
   simp at h
   subst h
   exact⟨p.2,by simp[show k=p.1 from r1.1.symm],r1.2⟩
  | succ i=>exact ih (by simpa using h)
def jY(kvs:List (aw×V)):Option Bool:=match kvs with
 | []=>some false
 | (_,.int i)::r=>(jY r).map fun b=>(decide (i≠0)) || b
 | _=>none
theorem Gx:∀ {kvs:List (aw×V)} {b:Bool},jY kvs=some b->(∀ (i:Nat) k v,kvs[i]?=some (k,v)->∃ n,v = .int n)/\b=(bE kvs.length).any fun i=>match kvs[i]? with | some (_,.int n)=>decide (n≠0) | _=>false
 | [],b,h=>by simp[jY]at h; subst h; exact⟨by simp,rfl⟩
 | (k,.int n)::r,b,h=>by
  simp only[jY,AX]at h
  obtain⟨b',h1,h2⟩:=h
  obtain⟨i1,i2⟩:=Gx h1
  refine⟨fun i k' v e=>?_,?_⟩
  ·cases i with
   | zero=>simp at e; exact⟨n,e.2.symm⟩
   | succ i=>exact i1 i k' v (by simpa using e)
  ·rw[dQ,rn,pB,List.any_map,← h2,i2]
   rfl
 | (_,.non)::_,_,h=>by simp[jY]at h
 | (_,.bl _)::_,_,h=>by simp[jY]at h
 | (_,.str _)::_,_,h=>by simp[jY]at h
 | (_,.ref _)::_,_,h=>by simp[jY]at h
 | (_,.ty _)::_,_,h=>by simp[jY]at h
theorem J9(hc:X.calm=true):fP X (.builtin "any") (fun xs H Q=>∃ (p d:Addr) (kvs:List (aw×V)) (b:Bool),xs=[.ref p]/\H p=some (sX p d)/\H d=some (.dK kvs)/\jY kvs=some b/\Q (.bl b) H):=by
 intro aa s σ H xs us Q I r h
 obtain⟨p,d,kvs,b,rfl,hp,hd,ha,q⟩:=h
 obtain⟨u,rfl,ru⟩:=vals1 r
 cases ru
 obtain⟨hv,_,_⟩:=(show cx X.prog X.w H s.heap p (sX p d)from I.hok p _ hp)
 obtain⟨z,hs,vs,rel,dd⟩:=xh I.hok hd
 obtain⟨ep,hat⟩:=dd.dictAt
 obtain⟨i1,i2⟩:=Gx ha
 refine call_any_walk (wpAny_pyIter_values hv hat ?_)
 refine⟨s.heap.objs.size,_,_,_,_,_,fun i=>match kvs[i]? with | some (_,.int n)=>decide (n≠0) | _=>false,rfl,Walks.dictValues (tj (I.ok.hd hc)) _ d (cO hat.lt_size) vs ep,⟨⟨_,cN _ rfl,rfl,rfl⟩,hat.push _⟩,fun i v s' Q' E' hv hQ=>?_,fun h' tk k=>?_⟩
 ·obtain⟨ky,hx⟩:=hv
  obtain⟨w,e1,e2⟩:=KV.at rel hx
  obtain⟨n,rfl⟩:=i1 i ky w e1
  obtain⟨t,rfl⟩:=e2
  dsimp only at hQ
  rw[e1]at hQ
  exact PyProof.Rows.truthy_int (by rw[show(n != 0)=decide (n≠0) by by_cases z:n=0 <;> simp[z]]; exact hQ)
 ·have I1:Inv X aa σ H { s with heap:=s.heap.push { cls:=.type "dict_valueiterator",data:=.fields #[.ref d,.int 0 0,.int vs.length 0,.int ep 0] },toks:=s.toks }:=I.kept (t':=s.toks) fun b o e=>bB _ e
  have e5:(bE vs.length).any (fun i=>match kvs[i]? with | some (_,.int n)=>decide (n≠0) | _=>false)=b:=by rw[← rel.length]; exact i2.symm
  rw[e5]
  exact⟨.bl _,H,Inv.turned (t':=tk) I1 (it:=s.heap.objs.size) (fun b o hb e=>k b o (by simpa using hb) e) I.fresh (nP I.lt) (.inr I.sz) (fun x c e z=>by
   obtain⟨v,qq⟩:=I.cell x c e
   exact absurd qq.lt (by rw[z]; exact fh _)) (fun pp hp z=>absurd (bq (I.pin pp hp).1) (by rw[z]; exact fh _)),rfl,q⟩
end
end Pu
namespace Pu
open L2
section
variable{X:Cx}{E:XK}{pin:List Nat}{e b c:Expr}{de db dc:ae->R PV}{pos:Pos}
def oP:List (aw×PV)->Option Bool
 | []=>some false
 | (_,.int i)::r=>(oP r).map fun b=>(decide (i≠0)) || b
 | _=>none
theorem HS{K:ao}{H:Hp}{F:Addr->Prop}{kvs:List (aw×PV)}{ws:List (aw×V)}{k:Bool}(h:eQ K H F kvs ws)(e:oP kvs=some k):jY ws=some k:=by
 unfold eQ at h
 induction h generalizing k with
 | nil=>exact e
 | @cons p q ps qs r _ ih =>
  obtain⟨pk,pv⟩:=p
  obtain⟨qk,qv⟩:=q
  cases pv <;> simp only[oP,AX]at e <;> try cases e
  obtain⟨r1,r2⟩:=r
  obtain rfl:qv=V.int _:=r2
  rename_i h
  simp only[jY,ih h.1,pE]
  rw[← h.2]
def tE(i:Nat):ae->R PV:=fun ε=>(aW (cP ε i) ε).bind fun kvs ε=>aW ((oP kvs).map .bl) ε
theorem NY(i:Nat){y:Str}{yp p apos cpos:Pos}(hc:X.calm=true)(hm:X.mg "any" = none)(hN:X.N[i]?=some y:=by rfl)(gm:ft X.env.scope y:=by first | exact Or.inl rfl | exact Or.inr (Or.inl rfl) | exact Or.inr (Or.inr rfl))
  (hd:(y == ("__debug__" : Str))=false:=by decide) (bF:(y == ("__classdict__" : Str))=false:=by decide) (hg:Gl X "any":=by rfl)
  (uB:rj (.Name y yp) "values" X.env (eval (.Name y yp) X.env)=eval (.Name y yp) X.env:=by rfl) (uC:(apos.endLine == cpos.line)=true:=by rfl)
  (he:aZ [.Call (.Attribute (.Name y yp) "values" apos) [] [] cpos] X.env=(false,eval (.Call (.Attribute (.Name y yp) "values" apos) [] [] cpos) X.env)::aZ [] X.env:=by rfl) (cL:(eU pos (aZ [] X.env)).any (·.1)=false:=by rfl) :
  DE X E (.Call (.Name "any" p) [.Call (.Attribute (.Name y yp) "values" apos) [] [] cpos] [] pos) (tE i):=fun F S ε σ H Q rl h=>by
 unfold tE at h
 cases e0:cP ε i with
 | none=>rw[e0]at h; exact h.elim
 | some kvs =>
  rw[e0]at h
  simp only[c_,R.bind_ok]at h
  obtain⟨a,ws,ea,ha,hk,ia,_⟩:=rl.dkAt (j5 e0)
  cases e1:oP kvs with
  | none=>rw[e1]at h; exact h.elim
  | some k =>
   rw[e1,pE]at h
   refine cE (pc (J9 hc) hg hm O_ (jU (Oa PySem.F.plainAttrs_dict PySem.F.slot_dict_values PySem.F.type_dict_values Nt (iw hN gm hd bF) uB uC) l9 he) (by decide) (by decide) he cL) ⟨.ref a,ea,.inr (.inr (.inl ⟨rfl,.inl ⟨_,ha⟩⟩)),a,ws,rfl,rfl,ha,fun q hq=>?_⟩
   have al:Al F F H (L2.upd H q (sX q a)):=Al.new0 hq
   have b9:a≠q:=by rintro rfl; rw[ha]at hq; cases hq
   exact⟨q,a,ws,k,rfl,bA,by rw[bp b9]; exact ha,HS hk e1,h F S _ (rl.al al) al.grow _ rfl⟩
def wX(X:Cx)(E:XK)(es:List Expr)(d:ae->R (PO×List bY)):Prop :=
 ∀ F S ε σ H Q,aP X.K F S ε σ H->Ok X.K E σ F S H (d ε) (fun p _ F' S' H'=>∀ a Sa vs,fW X.K H' F' p.1 a Sa->(∀ b,Sa b->H b=none/\¬ F' b/\¬ U S' b/\∃ o,H' b=some o/\gb o)->jz X.K (σ++[some (.ref a)]) F' H' p.2 vs->Q vs H')->ou X es σ H Q
theorem jz.app{K:ao}{σ:St}{F:Addr->Prop}{H:Hp}(τ:St):∀ {as:List bY} {vs:List V},jz K σ F H as vs->jz K (σ++τ) F H as vs
 | [],_,h=>h
 | .inl _::_,_,⟨v,r,e,h1,h2⟩=>⟨v,r,e,h1,h2.app τ⟩
 | .inr i::_,_,⟨v,r,e,h1,h2⟩=>⟨v,r,e,by rw[fJ (dP.mp h1).1]; exact h1,h2.app τ⟩
theorem fW.stay{K:ao}{O O' F F':Addr->Prop}{H H':Hp}{po:PO}{a:Addr}{Sa:Addr->Prop}(ow:fW K H F po a Sa)(g:bK O O' F F' H H')(fit:nJ O F H)(lo:∀ b,Sa b->¬ F b/\¬ O b/\∃ o,H b=some o/\gb o) :
  fW K H' F' po a Sa/\∀ b,Sa b->¬ F' b/\¬ O' b/\∃ o,H' b=some o/\gb o:=by
 refine⟨ow.mono (fun _ _ z=>z.grow g fit) (fun _ _ z=>z.grow g fit) fun b o z w=>(g.stay w (lo b z).2.1 (lo b z).1).1,fun b z=>?_⟩
 obtain⟨l1,l2,o,l3,l4⟩:=lo b z
 obtain⟨s1,s2,s3⟩:=g.stay l3 l2 l1
 exact⟨s2,s3,o,s1,l4⟩
variable{es:List Expr}{dn:ae->R PO}{dg:ae->R (List bY)}{dh:ae->R (PO×List bY)}
def gN(dn:ae->R PO)(dg:ae->R (List bY)):ae->R (PO×List bY):=fun ε=>(dn ε).bind fun po ε1=>(dg ε1).bind fun as ε2=>.ok (po,.inr ε2.length::as) ε2
theorem Me(ha:DN X E e dn)(hr:DG X E es dg)(hs:lq e=false:=by rfl):wX X E (e::es) (gN dn dg):=fun F S ε σ H Q rl h=>by
 refine oA (jU cb gy (jG hs)) (ha F S ε σ H _ rl ((Ok.bind h).imp fun po ε1 F1 S1 H1 r1 g1 h1 a Sa ow lo=>?_))
 refine hr F1 S1 ε1 σ H1 _ r1 ((Ok.bind h1).imp fun as ε2 F2 S2 H2 r2 g2 h2 vs av=>?_)
 obtain⟨ow2,lo2⟩:=ow.stay g2 r1.fit fun b z=>(lo b z).2
 refine h2 F2 S2 H2 r2 (bK.refl ..) a Sa (.ref a::vs) ow2 (fun b z=>⟨(lo b z).1,lo2 b z⟩) ⟨.ref a,vs,rfl,?_,av.app _⟩
 rw[r2.len,jJ (aL _),Nat.sub_self]
 rfl
def qZ(d:ae->R PV)(dh:ae->R (PO×List bY)):ae->R (PO×List bY):=fun ε=>(d ε).bind fun x ε1=>(dh ε1).bind fun p ε2=>.ok (p.1,.inl x::p.2) ε2
theorem EI(ha:DE X E e de)(hr:wX X E es dh)(hs:lq e=false:=by rfl):wX X E (e::es) (qZ de dh):=fun F S ε σ H Q rl h=>by
 refine oA (jU cb gy (jG hs)) (ha F S ε σ H _ rl ((Ok.bind h).imp fun x ε1 F1 S1 H1 r1 g1 h1 v rv=>?_))
 refine hr F1 S1 ε1 σ H1 _ r1 ((Ok.bind h1).imp fun p ε2 F2 S2 H2 r2 g2 h2 a Sa vs ow lo av=>?_)
 exact h2 F2 S2 H2 r2 (bK.refl ..) a Sa _ ow (fun b z=>⟨nB g1 (lo b z).1,(lo b z).2⟩) ⟨v,vs,rfl,rv.grow g2 r1.fit,av⟩
theorem aP.push{K:ao}{F:Addr->Prop}{S:Nat->Addr->Prop}{ε:ae}{σ:St}{H:Hp}{po:PO}{a:Addr}{Sa:Addr->Prop}(r:aP K F S ε σ H)(ow:fW K H F po a Sa)(lo:∀ b,Sa b->¬ F b/\¬ U S b/\∃ o,H b=some o/\gb o) :
  aP K F (fun j b=>S j b\/(j=ε.length/\Sa b)) (ε++[.own po]) (σ++[some (.ref a)]) H:=by
 have lt:∀ j b,S j b->j<ε.length:=fun j b z=>by obtain⟨⟨p,q⟩,_⟩:=r.foot j b z; exact(dP.mp q).1
 refine⟨by simp[r.len],r.ex,fun j pv q=>?_,fun j p q=>?_,fun j b z=>?_,fun j k b z1 z2=>?_⟩
 ·by_cases hj:j<ε.length
  ·rw[fJ hj]at q
   obtain⟨v,q1,q2⟩:=r.val j pv q
   exact⟨v,by rw[fJ (by rw[← r.len]; exact hj)]; exact q1,q2⟩
  ·rw[jJ (by ac_rfl)]at q
   cases hk:j-ε.length with
   | zero=>rw[hk]at q; simp at q
   | succ n=>rw[hk]at q; simp at q
 ·by_cases hj:j<ε.length
  ·rw[fJ hj]at q
   obtain⟨v,q1,q2⟩:=r.own j p q
   refine⟨v,by rw[fJ (by rw[← r.len]; exact hj)]; exact q1,?_⟩
   have:(fun b=>S j b\/(j=ε.length/\Sa b))=S j:=by
    funext b
    exact propext ⟨fun z=>z.elim id fun z=>absurd z.1 (cO hj),.inl⟩
   rw[this]; exact q2
  ·rw[jJ (by ac_rfl)]at q
   cases hk:j-ε.length with
   | zero =>
    rw[hk]at q
    simp at q
    subst q
    have ej:j=ε.length:=by ac_rfl
    subst ej
    refine⟨a,by rw[r.len,jJ (aL _),Nat.sub_self]; rfl,?_⟩
    have:(fun b=>S ε.length b\/(ε.length=ε.length/\Sa b))=Sa:=by
     funext b
     exact propext ⟨fun z=>z.elim (fun z=>absurd (lt _ _ z) (fh _)) (·.2),fun z=>.inr ⟨rfl,z⟩⟩
    rw[this]; exact ow
   | succ n=>rw[hk]at q; simp at q
 ·rcases z with z | ⟨rfl,z⟩
  ·obtain⟨⟨p,q⟩,q2⟩:=r.foot j b z
   exact⟨⟨p,by rw[fJ (lt j b z)]; exact q⟩,q2⟩
  ·obtain⟨l1,l2,l3⟩:=lo b z
   exact⟨⟨po,by rw[jJ (aL _),Nat.sub_self]; rfl⟩,l1,l3⟩
 ·rcases z1 with z1 | ⟨rfl,z1⟩ <;> rcases z2 with z2 | ⟨rfl,z2⟩
  ·exact r.dist j k b z1 z2
  ·exact absurd ⟨j,z1⟩ (lo b z2).2.1
  ·exact absurd ⟨k,z2⟩ (lo b z1).2.1
  ·rfl
theorem aP.pop{K:ao}{F:Addr->Prop}{S:Nat->Addr->Prop}{ε:ae}{sl:Slot}{σ:St}{u:Option V}{H:Hp}(r:aP K F S (ε++[sl]) (σ++[u]) H):aP K F (fun j b=>S j b/\j<ε.length) ε σ H:=by
 have len:ε.length=σ.length:=by have:=r.len; simpa using this
 refine⟨len,r.ex,fun j pv q=>?_,fun j p q=>?_,fun j b z=>?_,fun j k b z1 z2=>r.dist j k b z1.1 z2.1⟩
 ·have hj:=(dP.mp q).1
  obtain⟨v,q1,q2⟩:=r.val j pv (by rw[fJ hj]; exact q)
  exact⟨v,by rw[fJ (by rw[← len]; exact hj)]at q1; exact q1,q2⟩
 ·have hj:=(dP.mp q).1
  obtain⟨v,q1,q2⟩:=r.own j p (by rw[fJ hj]; exact q)
  refine⟨v,by rw[fJ (by rw[← len]; exact hj)]at q1; exact q1,?_⟩
  have:(fun b=>S j b/\j<ε.length)=S j:=by funext b; simp[hj]
  rw[this]; exact q2
 ·obtain⟨⟨p,q⟩,q2⟩:=r.foot j b z.1
  exact⟨⟨p,by rw[fJ z.2]at q; exact q⟩,q2⟩
def FD{α:Type}:R α->R α
 | .ok s ε=>.ok s ε.dropLast
 | .er c ε=>.er c ε.dropLast
 | .no=>.no
def ti(g:ae->R Slot)(dh:ae->R (PO×List bY)):ae->R Slot:=fun ε=>(dh ε).bind fun p ε1=>(aW (if(cS p.2).Nodup then e_ (ε1++[.own p.1]) p.2 else none) ε1).bind fun ss ε1=>FD (ig (ε1++[.own p.1]) p.2 (g ss))
theorem DZ{ε:ae}{n:Nat}(h:ε.length=n+1):∃ l x,ε=l++[x]/\l.length=n:=by
 refine⟨ε.dropLast,ε.getLast (by intro z; rw[z]at h; cases h),(List.dropLast_concat_getLast _).symm,by rw[Bf,h]; rfl⟩
theorem bK.pushed{K:ao}{F F':Addr->Prop}{S S2:Nat->Addr->Prop}{H0 H H':Hp}{n:Nat}{Sa:Addr->Prop}(g:bK (U fun j b=>S j b\/(j=n/\Sa b)) (U S2) F F' H H'){F0:Addr->Prop}{S0:Nat->Addr->Prop}(g0:bK (U S0) (U S) F0 F H0 H)(fr:∀ b,Sa b->H0 b=none) :
  bK (U S0) (U fun j b=>S2 j b/\j<n) F0 F' H0 H' where
 fro:=fun b z=>g.fro b (g0.fro b z)
 keep:=fun b o q no=>g.keep b o (g0.keep b o q no) fun⟨j,z⟩=>by
  rcases z with z | ⟨_,z⟩
  ·rcases g0.onew b ⟨j,z⟩with w | w
   ·exact no w
   ·rw[w]at q; cases q
  ·rw[fr b z]at q; cases q
 there:=fun b o q=>let ⟨o',q'⟩:=g0.there b o q; g.there b o' q'
 fnew:=fun b z=>by
  rcases g.fnew b z with w | w | ⟨j,w | ⟨_,w⟩⟩
  ·exact g0.fnew b w
  ·exact .inr (.inl (nB g0 w))
  ·exact .inr ((g0.onew b ⟨j,w⟩).symm)
  ·exact .inr (.inl (fr b w))
 onew:=fun b ⟨j,z,_⟩=>by
  rcases g.onew b ⟨j,z⟩with⟨k,w | ⟨_,w⟩⟩ | w
  ·exact g0.onew b ⟨k,w⟩
  ·exact .inr (fr b w)
  ·exact .inr (nB g0 w)
variable{CX:gv}{x:Str}{k:Nat}{ps:List Str}{g:ae->R Slot}{p:Pos}
theorem QI(c:cf CX X.prog X.w X.K X.mg X.base x k ps (bR X.K g))(hr:fe k X.A)(hx:ql CX X E)(ha:wX X E (e::es) dh)(hg:Gl X x:=by rfl)
  (hd:(x == ("__debug__" : Str))=false:=by decide) (h1:aZ (e::es) X.env=(false,eval e X.env)::aZ es X.env:=by rfl) (h2:(eU pos (aZ es X.env)).any (·.1)=false:=by rfl) :
  DR X E (.Call (.Name x p) (e::es) [] pos) (ti g dh):=fun F S ε σ H Q rl h=>by
 obtain⟨f,fd,hm,Fn,hb,hk⟩:=c.ex
 refine cE (DL Fn hr hg hm hk hb .nil hx gy hd h1 h2) (ha F S ε σ H _ rl ?_)
 unfold ti at h
 cases ed:dh ε with
 | no=>rw[ed]at h; exact h.elim
 | er cv ε1=>rw[ed]at h; exact h
 | ok pa ε1 =>
  obtain⟨po,as⟩:=pa
  rw[ed]at h
  simp only[R.bind_ok]at h
  intro F1 S1 H1 r1 g1 a Sa vs ow lo av
  dsimp only at h av ow
  have rp:=r1.push ow fun b z=>(lo b z).2
  by_cases nd:(cS as).Nodup
  ·rw[if_pos nd]at h
   cases es:e_ (ε1++[.own po]) as with
   | none=>rw[es]at h; exact h.elim
   | some ss =>
    rw[es]at h
    simp only[c_,R.bind_ok]at h
    rw[iz]
    refine⟨F1,mr as _,ss,rp.cal av es nd,?_⟩
    have len:∀ aE,(fA (ε1++[.own po]) as aE).length=ε1.length+1:=fun aE=>by rw[xv]; simp
    cases eg:g ss with
    | no=>rw[eg]at h; exact h.elim
    | er cv aE =>
     rw[eg]at h
     intro y F' S' H' r' g'
     unfold ig at h
     dsimp only at h
     by_cases kp:fU as aE=true
     ·rw[if_pos kp]at h
      obtain⟨S2,r2,g2,_⟩:=rp.called av es nd r' g' (fun _ z=>z) (oX kp)
      obtain⟨l,sl,el,ll⟩:=DZ (len aE)
      rw[el]at r2
      have h:Ok X.K E σ F S H (R.er cv (fA (ε1++[.own po]) as aE).dropLast:R Slot) _:=h
      rw[el,List.dropLast_concat]at h
      have gp:=bK.pushed (K:=X.K) g2 g1 fun b z=>(lo b z).1
      rw[← ll]at gp
      exact h y F' _ H' r2.pop gp
     ·rw[if_neg kp]at h; exact h.elim
    | ok s aE =>
     rw[eg]at h
     intro v F' S' H' Sr r' g' rv lo' fr
     unfold ig at h
     dsimp only at h
     by_cases kp:fU as aE=true
     ·rw[if_pos kp]at h
      obtain⟨S2,r2,g2,u2⟩:=rp.called av es nd r' g' (fun _ z=>.inl z) (oX kp)
      obtain⟨l,sl,el,ll⟩:=DZ (len aE)
      rw[el]at r2
      have h:Ok X.K E σ F S H (R.ok s (fA (ε1++[.own po]) as aE).dropLast:R Slot) _:=h
      rw[el,List.dropLast_concat]at h
      have gp:=bK.pushed (K:=X.K) g2 g1 fun b z=>(lo b z).1
      rw[← ll]at gp
      refine h F' _ H' r2.pop gp v Sr rv fun b z=>⟨nB g1 (fr b z),(lo' b z).1,fun⟨j,w,_⟩=>?_,(lo' b z).2.2⟩
      rcases u2 b ⟨j,w⟩with w | ⟨i,w⟩
      ·exact(lo' b z).2.1 w
      ·obtain⟨_,_,o,y1,_⟩:=rp.foot i b w
       rw[fr b z]at y1; cases y1
     ·rw[if_neg kp]at h; exact h.elim
  ·rw[if_neg nd]at h; exact h.elim
end
end Pu
namespace Pu
open L2
section
variable{X:Cx}{E:XK}{pin:List Nat}{e b c o:Expr}{de db dc d:ae->R PV}{ds:ae->R (List PV)}{pos p q pos':Pos}
def IG(X:Cx)(r:List V->Hp->VK->Prop):List V->Hp->VK->Prop:=fun xs H Q=>∃ (p:Addr) (ls:List Tx),xs=[.ref p]/\bO X.K H p (cm ls)/\(bP ls).length<4000/\∀ a,H a=none->r [.ref a] (upd H a (gQ X a (bP ls))) Q
def vF(i j:Nat)(d:ae->R PV):ae->R ax:=fun ε=>(d ε).bind fun x ε1=>match x with
 | .tup [a,b]=>.ok .next ((ε1.set i (.val a)).set j (.val b))
 | _=>.no
theorem PQ(i j:Nat){x y:Str}{k:Nat}{tp px py:Pos}(hc:X.calm=true)(hN:X.N.Nodup)(he:DE X E e de)(hp:i∉pin:=by decide)(dS:j∉pin:=by decide)(hi:X.N[i]?=some x:=by rfl)(hj:X.N[j]?=some y:=by rfl)
  (hx:Loc X.env.scope x:=by first | exact Or.inl rfl | exact Or.inr rfl) (hy:Loc X.env.scope y:=by first | exact Or.inl rfl | exact Or.inr rfl)
  (hf:X.fn x=true\/X.env.scope.names.lookup x=some .local:=by first | exact .inl rfl | exact .inr rfl) (pR:X.fn y=true\/X.env.scope.names.lookup y=some .local:=by first | exact .inl rfl | exact .inr rfl)
  (hs:swapsWithSole [.Tuple [.Name x px,.Name y py] k tp] e pos.line X.env=pure false:=by rfl) (hw:swappedStores [.Tuple [.Name x px,.Name y py] k tp] e X.env=pure none:=by rfl) :
  DS X E pin (.Assign [.Tuple [.Name x px,.Name y py] k tp] e pos) (vF i j de):=fun F S ε σ H D rl h=>by
 refine iH (Lk cb (Pa hc (BQ (AB hN hi hx hf) (BQ (AB hN hj hy pR) Of))) hs hw rfl) (he F S ε σ H _ rl (h.bindE.imp fun z ε1 F1 S1 H1 r1 g1 h1 v rv=>?_))
 split at h1
 ·rename_i a b
  obtain⟨p,us,rfl,g9,ru⟩:=rv
  obtain⟨va,ra,rfl,r2,vb,rb,rfl,r3,rfl⟩:=ru
  refine⟨p,_,rfl,cJ.of g9,rfl,va,_,rfl,vb,_,rfl,rfl,?_⟩
  exact h1 F1 _ _ H1 ((r1.set r2).set r3) ((bK.less i).trans (bK.less j)) ((jC.set hp).trans (jC.set dS))
 ·exact h1.elim
end
end Pu
namespace Pu
open L2
def dw:List Tx->Tx
 | []=>[]
 | x::r=>r.foldl (fun b y=>if y<b then y else b) x
theorem NK(l:List Tx)(y:Tx)(h:l≠[]):dw (l++[y])=if y<dw l then y else dw l:=by
 cases l with
 | nil=>exact absurd rfl h
 | cons x r =>
  show(r++[y]).foldl _ x=_
  rw[A9]; rfl
theorem zO(bt:Nat->Nat->Bool):∀ k,kJ bt k<=k
 | 0=>aL _
 | k+1=>by
  unfold kJ
  split
  ·exact aL _
  ·exact Nat.le_succ_of_le (zO bt k)
theorem Gw(ls:List Tx):∀ k,k<ls.length->ls[kJ (fun i j=>decide (ls.getD i []<ls.getD j [])) k]?=some (dw (ls.take (k+1)))
 | 0,h=>by
  cases ls with
  | nil=>cases h
  | cons x r=>simp[kJ,dw]
 | k+1,h=>by
  have ih:=Gw ls k (by ac_rfl)
  have e:ls.take (k+1+1)=ls.take (k+1)++[ls[k+1]]:=by rw[Hh h]
  have hb:=zO (fun i j=>decide (ls.getD i []<ls.getD j [])) k
  rw[e,NK _ _ (by intro z; have:=congrArg pt z; rw[gE,nS]at this; ac_rfl)]
  unfold kJ
  have e1:ls.getD (k+1) []=ls[k+1]:=by simp[ro,h]
  have e2:ls.getD (kJ (fun i j=>decide (ls.getD i []<ls.getD j [])) k) []=dw (ls.take (k+1)):=by
   rw[rG,ih]; rfl
  rw[e1,e2]
  by_cases c:ls[k+1]<dw (ls.take (k+1))
  ·rw[if_pos (by simpa using c),if_pos c]; simp[h]
  ·rw[if_neg (by simpa using c),if_neg c]; exact ih
section
variable{X:Cx}
theorem z6{ls:List Tx}{its:List Value}(r:bh (cm ls) its){i:Nat}{v:Value}(h:its.toArray[i]?=some v):∃ t,v = .str (tS (ls.getD i [])) t:=by
 have hl:=r.length
 rw[qF]at hl
 have hi:i<its.length:=by have:=(nU.mp h).1; simpa using this
 have e:(cm ls)[i]?=some (tV (ls.getD i [])):=by
  unfold cm
  rw[iA,eV (by ac_rfl)]
  simp[ro,eV (show i<ls.length by ac_rfl)]
 obtain⟨u,e1,e2⟩:=r.get e
 have:its[i]?=some v:=by simpa using h
 rw[this]at e1
 cases e1
 exact e2
theorem CI(hc:X.calm=true):fP X (.builtin "min") (fun xs H Q=>∃ (p:Addr) (ls:List Tx),xs=[.ref p]/\bO X.K H p (cm ls)/\ls≠[]/\Q (tV (dw ls)) H):=by
 intro aa s σ H xs us Q I r h
 obtain⟨p,ls,rfl,hq,b9,q⟩:=h
 obtain⟨u,rfl,ru⟩:=vals1 r
 cases ru
 obtain⟨its,rv,pl,hz⟩:=I.list hq
 have hl:=rv.length
 rw[qF]at hl
 have hn:0<ls.length:=by cases ls with | nil=>exact absurd rfl b9 | cons=>simp
 refine call_min_walk (xF pl.isList ?_)
 have BD:p≠s.heap.objs.size:=by
  obtain⟨o,ho,_⟩:=pl.isList
  exact cO (bq ho)
 refine⟨s.heap.objs.size,_,_,_,_,_,fun i j=>decide (ls.getD i []<ls.getD j []),rfl,Walks.list (tj (I.ok.hd hc)) s.heap.objs.size p BD its.toArray,⟨⟨_,cN _ rfl,rfl,rfl⟩,?_⟩,?_,by rw[cA]; ac_rfl,fun i j vi vj s' Q' E' hi hj hQ=>?_,fun v h' tk hv k=>?_⟩
 ·obtain⟨o,ho,hc,hd⟩:=pl.isList
  exact⟨o,bB _ ho,hc,hd⟩
 ·intro b hb
  obtain⟨o,ho,_⟩:=pl.isList
  have lX:p<s.heap.objs.size:=bq ho
  have sz:∀ o:Obj,(s.heap.push o).objs.size=s.heap.objs.size+1:=fun o=>by simp[Heap.push]
  rcases bH.mp hb with rfl | hb
  ·show _<(s.heap.push _).objs.size
   rw[sz]; exact j8 _
  ·rw[f8.mp hb]
   show _<(s.heap.push _).objs.size
   rw[sz]; exact kc lX
 ·obtain⟨t,rfl⟩:=z6 rv hi
  obtain⟨t',rfl⟩:=z6 rv hj
  refine lt_str ?_
  rw[kw,kw]; exact hQ
 ·obtain⟨t,rfl⟩:=z6 rv hv
  have e:ls.getD (kJ (fun i j=>decide (ls.getD i []<ls.getD j [])) (its.toArray.size-1)) []=dw ls:=by
   rw[cA,← hl,rG,Gw ls _ (by ac_rfl),show ls.length-1+1=ls.length by ac_rfl,pH]; rfl
  rw[e]
  have I1:Inv X aa σ H { s with heap:=s.heap.push { cls:=.type "list_iterator",data:=.fields #[.ref p,.int 0 0] },toks:=s.toks }:=I.kept (t':=s.toks) fun b o e=>bB _ e
  exact⟨tV (dw ls),H,Inv.turned (t':=tk) I1 (it:=s.heap.objs.size) (fun b o hb e=>k b o (by simpa using hb) e) I.fresh (nP I.lt) (.inr I.sz) (fun x c e z=>by
   obtain⟨v,qq⟩:=I.cell x c e
   exact absurd qq.lt (by rw[z]; exact fh _)) (fun pp hp z=>absurd (bq (I.pin pp hp).1) (by rw[z]; exact fh _)),⟨t,rfl⟩,q⟩
def lc:List PV->Option PV
 | [.lst xs]=>(fR xs).bind fun ls=>if ls≠[] then some (.str (dw ls))else none
 | _=>none
theorem Aa:∀ {ls:List Tx},ls≠[]->dw ls∈ls:=by
 have gen:∀ (r:List Tx) (x:Tx),r.foldl (fun b y=>if y<b then y else b) x∈x::r:=by
  intro r
  induction r with
  | nil=>intro x; simp
  | cons y r ih =>
   intro x
   rw[iT]
   have:=ih (if y<x then y else x)
   rcases bH.mp this with h | h
   ·rw[h]; split <;> simp
   ·simp[h]
 intro ls h
 cases ls with
 | nil=>exact absurd rfl h
 | cons x r=>exact gen r x
theorem CO{K:ao}:PL K (fun xs H Q=>∃ (p:Addr) (ls:List Tx),xs=[.ref p]/\bO K H p (cm ls)/\ls≠[]/\Q (tV (dw ls)) H) lc:=fun F H xs vs Q pv rs e q=>by
 unfold lc at e
 split at e
 ·obtain⟨v,rfl,a,us,rfl,ha,_,ru⟩:=gs rs
  obtain⟨ls,e1,e2⟩:=Bg.mp e
  rw[sB e1]at ru
  obtain⟨rfl,hl⟩:=RB.mp ru
  split at e2
  ·rename_i hh
   cases e2
   exact⟨a,ls,rfl,.inl ha,hh,q _ F H (Al.refl ..) ⟨rfl,hl _ (Aa hh)⟩⟩
  ·cases e2
 ·cases e
theorem Ch:eE "min" = some (.builtin "min"):=by decide +kernel
theorem eQ.keys{K:ao}{H:Hp}{F:Addr->Prop}{kvs:List (aw×PV)}{ws:List (aw×V)}(h:eQ K H F kvs ws):ws.map (·.1)=kvs.map (·.1):=by
 unfold eQ at h
 induction h with
 | nil=>rfl
 | cons r _ ih=>rw[dq,dq,ih,r.1]
end
end Pu
namespace L2
def wd:Bool->Keyed->Array Keyed->Nat->Nat->Nat->StateT bN Sem (Option Nat):=sortPriv% PySem.Builtin.gallop
def CJ:Array Keyed->Array Keyed->StateT bN Sem (Array Keyed):=sortPriv% PySem.Builtin.mergeLo
def D6:Array Keyed->Array Keyed->StateT bN Sem (Array Keyed):=sortPriv% PySem.Builtin.mergeHi
def kO(κ:KeyKind)(p:Keyed):κ.α:=(κ.keyOf p.1).getD κ.dflt
def gu(κ:KeyKind)(p:Keyed):Prop:=∃ a,κ.keyOf p.1=some a
theorem gu.k{κ:KeyKind}{p:Keyed}(h:gu κ p):κ.keyOf p.1=some (kO κ p):=by
 obtain⟨a,e⟩:=h; unfold kO; rw[e]; rfl
structure SB(st:bN):Prop where
 kind:kindOf st=oneType'
 failed:failedOf st=none
section
variable{prog:aK}{w:World}{A:aV}{E:Value->ah->Prop}{s:ah}{κ:KeyKind}
theorem t8(hO:κ.OneLt){st:bN}{x y:Keyed}{Q:Option Bool->bN->Prop}(hk:SB st)(hx:gu κ x)(hy:gu κ y)
  (h:Q (some (κ.blt (kO κ x) (kO κ y))) st):wpS (model prog w) A E s (lt' x y) Q st:=by
 rw[lt'_eq]
 refine au (kK ?_)
 rw[hk.kind,keyLt'_oneType]
 exact au (pI (wpAny_attempt (hO prog w A _ s x.1 y.1 _ _ hx.k hy.k ⟨rfl,aB h⟩)))
theorem eP{st:bN}{arr:Array Keyed}{i:Nat}(hi:i<arr.size){Q:Keyed->bN->Prop}(h:Q arr[i] st):wpS (model prog w) A E s (elem' arr i) Q st:=by
 rw[elem'_eq,getElem?_pos arr i hi]; exact aB h
def CF(left:Bool)(key:Keyed)(arr:Array Keyed)(base i:Nat):StateT bN Sem (Option Bool) :=
 elem' arr (base+i) >>= fun x=>if left=true then lt' x key else lt' key x >>= fun b=>pure (b.map (!·))
def k_(κ:KeyKind)(left:Bool)(key x:Keyed):Bool:=if left=true then κ.blt (kO κ x) (kO κ key)else !κ.blt (kO κ key) (kO κ x)
theorem L4(hO:κ.OneLt){st:bN}{left:Bool}{key:Keyed}{arr:Array Keyed}{base i:Nat}{Q:Option Bool->bN->Prop}(hk:SB st)(hx:gu κ key)(hi:base+i<arr.size)(hy:gu κ arr[base+i])
  (h:Q (some (k_ κ left key arr[base+i])) st):wpS (model prog w) A E s (CF left key arr base i) Q st:=by
 refine au (eP hi ?_)
 cases left
 ·rw[if_neg (by simp)]
  exact au (t8 hO hk hx hy (aB h))
 ·rw[if_pos rfl]
  exact t8 hO hk hy hx h
theorem EN(hO:κ.OneLt){st:bN}(hk:SB st){left:Bool}{key:Keyed}{arr:Array Keyed}{base n hint:Nat}{Q:Option Nat->bN->Prop}(gI:gu κ key)(hn:base+n<=arr.size)
  (hA:∀ i (hi:i<arr.size),gu κ arr[i]) (B:Nat->Bool) (hB:∀ i (hi:i<n),B i=k_ κ left key (arr[base+i]'(by ac_rfl)))
  (mono:∀ i j,i<=j->j<n->B j=true->B i=true) (hh:hint<n)
  (h:∀ r,r<=n->(∀ i,i<r->B i=true)->(∀ i,r<=i->i<n->B i=false)->Q (some r) st) :
  wpS (model prog w) A E s (wd left key arr base n hint) Q st:=by
 have hb:∀ {i:Nat} {Q:Option Bool->bN->Prop},i<n->Q (some (B i)) st->wpS (model prog w) A E s (CF left key arr base i) Q st:=fun {i Q} hi q =>
  L4 hO hk gI (by ac_rfl) (hA _ _) (by rw[← hB i hi]; exact q)
 have dn:∀ {i j:Nat},i<=j->j<n->B i=false->B j=false:=fun {i j} bJ hj hf=>by
  cases e:B j with
  | false=>rfl
  | true=>rw[mono i j bJ hj e]at hf; cases hf
 unfold wd
 refine au (hb hh ?_)
 cases hr:B hint with
 | true =>
  dsimp only
  rw[if_pos rfl]
  refine au (fj (fk (I:=fun x c ap=>ap=st/\∃ l o,c=(none,l,o)/\l<o/\x<o/\l<n-hint/\B (hint+l)=true)
   (Q:=fun c ap=>ap=st/\∃ l o,c=(none,l,o)/\l<o/\l<n-hint/\B (hint+l)=true/\(n-hint<=o\/(o<n-hint/\B (hint+o)=false))) ?_ ?_ ?_) ?_)
  ·rintro x c ap _ hx ⟨rfl,l,o,rfl,h1,h2,h3,h4⟩
   dsimp only
   by_cases fM:o ≥ n-hint
   ·rw[if_pos fM]; exact aB ⟨rfl,l,o,rfl,h1,h3,h4,.inl fM⟩
   ·rw[if_neg fM]
    refine au (hb (by ac_rfl) ?_)
    cases e:B (hint+o)with
    | true=>exact aB ⟨rfl,o,2 * o+1,rfl,by ac_rfl,by ac_rfl,by ac_rfl,e⟩
    | false=>exact aB ⟨rfl,l,o,rfl,h1,h3,h4,.inr ⟨by ac_rfl,e⟩⟩
  ·rintro c ap ⟨rfl,l,o,rfl,h1,h2,h3,h4⟩
   exact⟨rfl,l,o,rfl,h1,h3,h4,.inl (by ac_rfl)⟩
  ·exact⟨rfl,0,1,rfl,by ac_rfl,by ac_rfl,by ac_rfl,hr⟩
  rintro c ap ⟨rfl,l,o,rfl,h1,h3,h4,h5⟩
  dsimp only
  have g1:hint+l+1<=hint+min o (n-hint):=by ac_rfl
  have g2:hint+min o (n-hint)<=n:=by ac_rfl
  have g3:∀ i,i<hint+l+1->B i=true:=fun i hi=>mono i (hint+l) (by ac_rfl) (by ac_rfl) h4
  have g4:∀ i,hint+min o (n-hint)<=i->i<n->B i=false:=by
   intro i hi gn
   rcases h5 with h5 | ⟨h5,h6⟩
   ·ac_rfl
   ·exact dn (i:=hint+o) (by ac_rfl) gn h6
  clear h5
  generalize hint+l+1=lo at *
  generalize hint+min o (n-hint)=hi at *
  refine au (fj (fk (I:=fun x c cc=>cc=ap/\∃ l r,c=(none,l,r)/\l<=r/\r<=n/\r-l<=n-x/\(∀ i,i<l->B i=true)/\(∀ i,r<=i->i<n->B i=false))
   (Q:=fun c cc=>cc=ap/\∃ l r,c=(none,l,r)/\r<=n/\(∀ i,i<r->B i=true)/\(∀ i,r<=i->i<n->B i=false)) ?_ ?_ ?_) ?_)
  ·rintro x c cc _ hx ⟨rfl,l,r,rfl,a1,a2,a3,a4,a5⟩
   dsimp only
   by_cases fM:l ≥ r
   ·rw[if_pos fM]
    have:l=r:=by ac_rfl
    subst this
    exact aB ⟨rfl,l,l,rfl,a2,a4,a5⟩
   ·rw[if_neg fM]
    refine au (hb (by ac_rfl) ?_)
    cases e:B (l+(r-l) / 2)with
    | true=>exact aB ⟨rfl,_,r,rfl,by ac_rfl,a2,by ac_rfl,fun i hi=>mono _ _ (by ac_rfl) (by ac_rfl) e,a5⟩
    | false=>exact aB ⟨rfl,l,_,rfl,by ac_rfl,by ac_rfl,by ac_rfl,a4,fun i hi gn=>dn (i:=l+(r-l) / 2) hi gn e⟩
  ·rintro c cc ⟨rfl,l,r,rfl,a1,a2,a3,a4,a5⟩
   have:l=r:=by ac_rfl
   subst this
   exact⟨rfl,l,l,rfl,a2,a4,a5⟩
  ·exact⟨rfl,lo,hi,rfl,g1,g2,by ac_rfl,g3,g4⟩
  ·rintro c cc ⟨rfl,l,r,rfl,a2,a4,a5⟩
   exact aB (h r a2 a4 a5)
 | false =>
  dsimp only
  rw[if_neg (by simp)]
  refine au (fj (fk (I:=fun x c ap=>ap=st/\∃ l o,c=(none,l,o)/\l<o/\x<o/\l<=hint/\B (hint-l)=false)
   (Q:=fun c ap=>ap=st/\∃ l o,c=(none,l,o)/\l<o/\l<=hint/\B (hint-l)=false/\(hint+1<=o\/(o<=hint/\B (hint-o)=true))) ?_ ?_ ?_) ?_)
  ·rintro x c ap _ hx ⟨rfl,l,o,rfl,h1,h2,h3,h4⟩
   dsimp only
   by_cases fM:o ≥ hint+1
   ·rw[if_pos fM]; exact aB ⟨rfl,l,o,rfl,h1,h3,h4,.inl fM⟩
   ·rw[if_neg fM]
    refine au (hb (by ac_rfl) ?_)
    cases e:B (hint-o)with
    | false=>exact aB ⟨rfl,o,2 * o+1,rfl,by ac_rfl,by ac_rfl,by ac_rfl,e⟩
    | true=>exact aB ⟨rfl,l,o,rfl,h1,h3,h4,.inr ⟨by ac_rfl,e⟩⟩
  ·rintro c ap ⟨rfl,l,o,rfl,h1,h2,h3,h4⟩
   exact⟨rfl,l,o,rfl,h1,h3,h4,.inl (by ac_rfl)⟩
  ·exact⟨rfl,0,1,rfl,by ac_rfl,by ac_rfl,by ac_rfl,hr⟩
  rintro c ap ⟨rfl,l,o,rfl,h1,h3,h4,h5⟩
  dsimp only
  have g1:hint+1-min o (hint+1)<=hint-l:=by ac_rfl
  have g2:hint-l<=n:=by ac_rfl
  have g3:∀ i,i<hint+1-min o (hint+1)->B i=true:=by
   intro i hi
   rcases h5 with h5 | ⟨h5,h6⟩
   ·ac_rfl
   ·exact mono i (hint-o) (by ac_rfl) (by ac_rfl) h6
  have g4:∀ i,hint-l<=i->i<n->B i=false:=fun i hi gn=>dn (i:=hint-l) (by ac_rfl) gn h4
  clear h5 h4
  generalize hint+1-min o (hint+1)=lo at *
  generalize hint-l=hi at *
  refine au (fj (fk (I:=fun x c cc=>cc=ap/\∃ l r,c=(none,l,r)/\l<=r/\r<=n/\r-l<=n-x/\(∀ i,i<l->B i=true)/\(∀ i,r<=i->i<n->B i=false))
   (Q:=fun c cc=>cc=ap/\∃ l r,c=(none,l,r)/\r<=n/\(∀ i,i<r->B i=true)/\(∀ i,r<=i->i<n->B i=false)) ?_ ?_ ?_) ?_)
  ·rintro x c cc _ hx ⟨rfl,l,r,rfl,a1,a2,a3,a4,a5⟩
   dsimp only
   by_cases fM:l ≥ r
   ·rw[if_pos fM]
    have:l=r:=by ac_rfl
    subst this
    exact aB ⟨rfl,l,l,rfl,a2,a4,a5⟩
   ·rw[if_neg fM]
    refine au (hb (by ac_rfl) ?_)
    cases e:B (l+(r-l) / 2)with
    | true=>exact aB ⟨rfl,_,r,rfl,by ac_rfl,a2,by ac_rfl,fun i hi=>mono _ _ (by ac_rfl) (by ac_rfl) e,a5⟩
    | false=>exact aB ⟨rfl,l,_,rfl,by ac_rfl,by ac_rfl,by ac_rfl,a4,fun i hi gn=>dn (i:=l+(r-l) / 2) hi gn e⟩
  ·rintro c cc ⟨rfl,l,r,rfl,a1,a2,a3,a4,a5⟩
   have:l=r:=by ac_rfl
   subst this
   exact⟨rfl,l,l,rfl,a2,a4,a5⟩
  ·exact⟨rfl,lo,hi,rfl,g1,g2,by ac_rfl,g3,g4⟩
  ·rintro c cc ⟨rfl,l,r,rfl,a2,a4,a5⟩
   exact aB (h r a2 a4 a5)
end
end L2
namespace L2
section
variable{κ:KeyKind}
def bG(κ:KeyKind)(x y:Keyed):Prop:=κ.kle (kO κ x) (kO κ y)
theorem bG.trans{x y z:Keyed}(h1:bG κ x y)(h2:bG κ y z):bG κ x z:=lT h1 h2
structure MS(κ:KeyKind)(T o ra rb:List Keyed):Prop where
 perm:(o++(ra++rb)).Perm T
 so:o.Pairwise (bG κ)
 sa:ra.Pairwise (bG κ)
 sb:rb.Pairwise (bG κ)
 oa:∀ x∈o,∀ y∈ra,bG κ x y
 ob:∀ x∈o,∀ y∈rb,bG κ x y
theorem MS.stepA{T o x ra rb:List Keyed}(h:MS κ T o (x++ra) rb)(hx:∀ u∈x,∀ v∈rb,bG κ u v):MS κ T (o++x) ra rb:=by
 obtain⟨h1,h2,h3,h4,h5,h6⟩:=h
 rw[Hi]at h3
 refine⟨by simpa[gh]using h1,?_,h3.2.1,h4,?_,?_⟩
 ·rw[Hi]
  exact⟨h2,h3.1,fun u hu v hv=>h5 u hu v (AO _ hv)⟩
 ·intro u hu v hv
  rcases dO.mp hu with hu | hu
  ·exact h5 u hu v (lN _ hv)
  ·exact h3.2.2 u hu v hv
 ·intro u hu v hv
  rcases dO.mp hu with hu | hu
  ·exact h6 u hu v hv
  ·exact hx u hu v hv
theorem MS.swap{T o ra rb:List Keyed}(h:MS κ T o ra rb):MS κ T o rb ra :=
 ⟨(Hc _ List.perm_append_comm).trans h.perm,h.so,h.sb,h.sa,h.ob,h.oa⟩
theorem MS.stepB{T o x ra rb:List Keyed}(h:MS κ T o ra (x++rb))(hx:∀ u∈x,∀ v∈ra,bG κ u v):MS κ T (o++x) ra rb :=
 (h.swap.stepA hx).swap
def ga(κ:KeyKind)(T:List Keyed)(r:Array Keyed):Prop:=r.toList.Perm T/\r.toList.Pairwise (bG κ)
theorem MS.endA{T o ra:List Keyed}{r:Array Keyed}(h:MS κ T o ra [])(e:r.toList=o++ra):ga κ T r:=by
 obtain⟨h1,h2,h3,h4,h5,h6⟩:=h
 refine⟨by rw[e]; simpa using h1,?_⟩
 rw[e,Hi]; exact⟨h2,h3,h5⟩
theorem MS.last{T o ra rb:List Keyed}{r:Array Keyed}(h:MS κ T o ra rb)(hx:∀ u∈rb,∀ v∈ra,bG κ u v)(e:r.toList=o++(rb++ra)):ga κ T r:=by
 have h':MS κ T o ra (rb++[]):=by simpa using h
 exact(h'.stepB hx).endA (by rw[e]; simp)
theorem kx(a:Array Keyed)(i j:Nat):(a.extract i j).toList=(a.toList.drop i).take (j-i):=by
 simp[Hj,List.extract_eq_take_drop]
theorem qQ(a:Array Keyed)(i:Nat):(a.extract i a.size).toList=a.toList.drop i:=by
 rw[kx,kH]; simp
theorem Cp{a:Array Keyed}{i:Nat}(h:i<a.size):a.toList.drop i=a[i]::a.toList.drop (i+1):=by
 rw[xN (by simpa using h)]; simp
theorem Ex(a:Array Keyed)(i k:Nat):a.toList.drop i=(a.extract i (i+k)).toList++a.toList.drop (i+k):=by
 rw[kx,show i+k-i=k by ac_rfl,← List.drop_drop,lU]
theorem qX{a:Array Keyed}{i:Nat}{x:Keyed}(h:x∈a.toList.drop i):∃ j,∃ hj:j<a.size,i<=j/\a[j]=x:=by
 obtain⟨k,hk,e⟩:=xQ h
 rw[Hk]at e
 have uV:i+k<a.size:=by simp at hk; ac_rfl
 exact⟨i+k,uV,by ac_rfl,by simpa using e⟩
theorem C0{a:Array Keyed}{i k:Nat}{x:Keyed}(h:x∈(a.extract i (i+k)).toList):∃ j,∃ hj:j<a.size,i<=j/\j<i+k/\a[j]=x:=by
 rw[kx]at h
 obtain⟨m,hm,e⟩:=xQ h
 rw[Hl,Hk]at e
 refine⟨i+m,?_,by ac_rfl,?_,by simpa using e⟩
 all_goals simp at hm; ac_rfl
def tq(κ:KeyKind)(a:Array Keyed):Prop:=∀ i j (hj:j<a.size) (bJ:i<=j),bG κ (a[i]'(by ac_rfl)) a[j]
theorem tq.pw{a:Array Keyed}(h:tq κ a):a.toList.Pairwise (bG κ):=by
 rw[List.pairwise_iff_getElem]
 intro i j hi hj bJ
 have:=h i j (by simpa using hj) (by ac_rfl)
 simpa using this
structure fu(κ:KeyKind)(a b out:Array Keyed)(ia ib:Nat):Prop where
 ms:MS κ (a.toList++b.toList) out.toList (a.toList.drop ia) (b.toList.drop ib)
 la:ia<=a.size
 lb:ib<=b.size
variable{a b out:Array Keyed}{ia ib:Nat}
theorem fu.pushA(h:fu κ a b out ia ib)(hi:ia<a.size)(hx:∀ j (hj:j<b.size),ib<=j->bG κ a[ia] b[j]):fu κ a b (out.push a[ia]) (ia+1) ib:=by
 refine⟨?_,hi,h.lb⟩
 rw[ui]
 refine MS.stepA (by rw[Bh,← Cp hi]; exact h.ms) fun u hu v hv=>?_
 obtain⟨j,hj,fo,rfl⟩:=qX hv
 rw[f8.mp hu]; exact hx j hj fo
theorem fu.pushB(h:fu κ a b out ia ib)(hi:ib<b.size)(hx:∀ j (hj:j<a.size),ia<=j->bG κ b[ib] a[j]):fu κ a b (out.push b[ib]) ia (ib+1):=by
 refine⟨?_,h.la,hi⟩
 rw[ui]
 refine MS.stepB (by rw[Bh,← Cp hi]; exact h.ms) fun u hu v hv=>?_
 obtain⟨j,hj,fo,rfl⟩:=qX hv
 rw[f8.mp hu]; exact hx j hj fo
theorem fu.extA{k:Nat}(h:fu κ a b out ia ib)(hk:ia+k<=a.size)(hx:∀ i (hi:i<a.size),ia<=i->i<ia+k->∀ j (hj:j<b.size),ib<=j->bG κ a[i] b[j]):fu κ a b (out++a.extract ia (ia+k)) (ia+k) ib:=by
 refine⟨?_,hk,h.lb⟩
 rw[iC]
 refine MS.stepA (by rw[← Ex]; exact h.ms) fun u hu v hv=>?_
 obtain⟨j,hj,fo,rfl⟩:=qX hv
 obtain⟨i,hi,h1,h2,rfl⟩:=C0 hu
 exact hx i hi h1 h2 j hj fo
theorem fu.extB{k:Nat}(h:fu κ a b out ia ib)(hk:ib+k<=b.size)(hx:∀ i (hi:i<b.size),ib<=i->i<ib+k->∀ j (hj:j<a.size),ia<=j->bG κ b[i] a[j]):fu κ a b (out++b.extract ib (ib+k)) ia (ib+k):=by
 refine⟨?_,h.la,hk⟩
 rw[iC]
 refine MS.stepB (by rw[← Ex]; exact h.ms) fun u hu v hv=>?_
 obtain⟨j,hj,fo,rfl⟩:=qX hv
 obtain⟨i,hi,h1,h2,rfl⟩:=C0 hu
 exact hx i hi h1 h2 j hj fo
theorem fu.doneA(h:fu κ a b out ia ib)(e:ib=b.size):ga κ (a.toList++b.toList) (out++a.extract ia a.size++b.extract ib b.size):=by
 have:=h.ms
 rw[show b.toList.drop ib=[] by rw[Bi]; simp[e]]at this
 refine this.endA ?_
 rw[iC,iC,qQ,qQ,show b.toList.drop ib=[] by rw[Bi]; simp[e],iz]
theorem fu.doneB(h:fu κ a b out ia ib)(e:ia=a.size):ga κ (a.toList++b.toList) (out++a.extract ia a.size++b.extract ib b.size):=by
 have:=h.ms
 rw[show a.toList.drop ia=[] by rw[Bi]; simp[e]]at this
 refine this.swap.endA ?_
 rw[iC,iC,qQ,qQ,show a.toList.drop ia=[] by rw[Bi]; simp[e],iz]
theorem fu.last(h:fu κ a b out ia ib)(e:ia+1=a.size)(hl:∀ j (hj:j<b.size),bG κ b[j] (a[ia]'(by ac_rfl))):ga κ (a.toList++b.toList) (out++b.extract ib b.size++a.extract ia a.size):=by
 refine h.ms.last (fun u hu v hv=>?_) (by rw[iC,iC,qQ,qQ,gh])
 obtain⟨j,hj,h1,rfl⟩:=qX hu
 obtain⟨i,hi,h2,rfl⟩:=qX hv
 have:i=ia:=by ac_rfl
 subst this; exact hl j hj
end
section
variable{prog:aK}{w:World}{A:aV}{E:Value->ah->Prop}{s:ah}{κ:KeyKind}
theorem AI(hO:κ.OneLt){st:bN}(hk:SB st){key:Keyed}{arr:Array Keyed}{base n hint:Nat}{Q:Option Nat->bN->Prop}(gI:gu κ key)(hn:base+n<=arr.size)
  (hA:∀ i (hi:i<arr.size),gu κ arr[i]) (hs:∀ i j (bJ:i<=j) (hj:j<base+n),base<=i->bG κ (arr[i]'(by ac_rfl)) (arr[j]'(by ac_rfl))) (hh:hint<n)
  (h:∀ r,r<=n->(∀ i (hi:i<arr.size),base<=i->i<base+r->bG κ arr[i] key)->(∀ i (hi:i<arr.size),base+r<=i->i<base+n->κ.klt (kO κ key) (kO κ arr[i]))->Q (some r) st) :
  wpS (model prog w) A E s (wd false key arr base n hint) Q st:=by
 refine EN hO hk gI hn hA (fun i=>if hi:i<n then k_ κ false key (arr[base+i]'(by ac_rfl))else false) (fun i hi=>by rw[dif_pos hi]) ?_ hh ?_
 ·intro i j bJ hj e
  rw[dif_pos hj]at e; rw[dif_pos (by ac_rfl)]
  simp only[k_,nW,if_false,Hg]at e ⊢
  exact lT (hs (base+i) (base+j) (by ac_rfl) (by ac_rfl) (by ac_rfl)) e
 ·intro r hr h1 h2
  refine h r hr (fun i hi hb aX=>?_) (fun i hi hb aX=>?_)
  ·have:=h1 (i-base) (by ac_rfl)
   rw[dif_pos (by ac_rfl)]at this
   simp only[k_,nW,if_false,Hg,show base+(i-base)=i by ac_rfl]at this
   exact this
  ·have:=h2 (i-base) (by ac_rfl) (by ac_rfl)
   rw[dif_pos (by ac_rfl)]at this
   simp only[k_,nW,if_false,Bool.not_eq_false',show base+(i-base)=i by ac_rfl]at this
   exact this
theorem z_(hO:κ.OneLt){st:bN}(hk:SB st){key:Keyed}{arr:Array Keyed}{base n hint:Nat}{Q:Option Nat->bN->Prop}(gI:gu κ key)(hn:base+n<=arr.size)
  (hA:∀ i (hi:i<arr.size),gu κ arr[i]) (hs:∀ i j (bJ:i<=j) (hj:j<base+n),base<=i->bG κ (arr[i]'(by ac_rfl)) (arr[j]'(by ac_rfl))) (hh:hint<n)
  (h:∀ r,r<=n->(∀ i (hi:i<arr.size),base<=i->i<base+r->κ.klt (kO κ arr[i]) (kO κ key))->(∀ i (hi:i<arr.size),base+r<=i->i<base+n->bG κ key arr[i])->Q (some r) st) :
  wpS (model prog w) A E s (wd true key arr base n hint) Q st:=by
 refine EN hO hk gI hn hA (fun i=>if hi:i<n then k_ κ true key (arr[base+i]'(by ac_rfl))else false) (fun i hi=>by rw[dif_pos hi]) ?_ hh ?_
 ·intro i j bJ hj e
  rw[dif_pos hj]at e; rw[dif_pos (by ac_rfl)]
  simp only[k_,if_true]at e ⊢
  exact KeyOrd.klt_of_kle_of_klt (hs (base+i) (base+j) (by ac_rfl) (by ac_rfl) (by ac_rfl)) e
 ·intro r hr h1 h2
  refine h r hr (fun i hi hb aX=>?_) (fun i hi hb aX=>?_)
  ·have:=h1 (i-base) (by ac_rfl)
   rw[dif_pos (by ac_rfl)]at this
   simp only[k_,if_true,show base+(i-base)=i by ac_rfl]at this
   exact this
  ·have:=h2 (i-base) (by ac_rfl) (by ac_rfl)
   rw[dif_pos (by ac_rfl)]at this
   simp only[k_,if_true,show base+(i-base)=i by ac_rfl]at this
   exact this
end
end L2
namespace L2
structure gc(st ap:bN):Prop where
 kind:kindOf ap=kindOf st
 arr:arrOf ap=arrOf st
 pend:a_ ap=a_ st
 failed:failedOf ap=failedOf st
theorem gc.rfl{st:bN}:gc st st:=⟨_root_.rfl,_root_.rfl,_root_.rfl,_root_.rfl⟩
theorem gc.sb{st ap:bN}(h:gc st ap)(k:SB st):SB ap:=⟨h.kind.trans k.kind,h.failed.trans k.failed⟩
section
variable{prog:aK}{w:World}{A:aV}{E:Value->ah->Prop}{s:ah}{κ:KeyKind}
theorem cg{σ α:Type}{M:Model}{c:Prop}[Decidable c]{t e:StateT σ Sem α}{Q:α->σ->Prop}{st:σ}(h1:c->wpS M A E s t Q st)(h2:¬ c->wpS M A E s e Q st):wpS M A E s (if c then t else e) Q st:=by
 split
 ·exact h1 ‹_›
 ·exact h2 ‹_›
def Q7:Nat->StateT bN Sem Unit:=sortPriv% PySem.Builtin.setMinGallop
theorem gc.trans{a b c:bN}(h1:gc a b)(h2:gc b c):gc a c:=⟨h2.kind.trans h1.kind,h2.arr.trans h1.arr,h2.pend.trans h1.pend,h2.failed.trans h1.failed⟩
theorem yS{st jn:bN}{g:Nat}{Q:Unit->bN->Prop}(hS:gc jn st)(h:∀ ap,gc jn ap->Q () ap):wpS (model prog w) A E s (Q7 g) Q st :=
 mQ (h _ (hS.trans ⟨rfl,rfl,rfl,rfl⟩))
theorem P4(hO:κ.OneLt){st:bN}(hk:SB st){a b:Array Keyed}{Q:Array Keyed->bN->Prop}(ha:0<a.size)(hb:0<b.size)
  (hA:∀ i (hi:i<a.size),gu κ a[i]) (hB:∀ i (hi:i<b.size),gu κ b[i]) (sa:tq κ a) (sb:tq κ b)
  (h0:bG κ b[0] a[0]) (hl:∀ j (hj:j<b.size),bG κ b[j] a[a.size-1])
  (h:∀ r ap,gc st ap->ga κ (a.toList++b.toList) r->Q r ap) :
  wpS (model prog w) A E s (CJ a b) Q st:=by
 have jS:∀ {i:Nat} (hi:i<a.size),i+1=a.size->∀ j (hj:j<b.size),bG κ b[j] a[i]:=fun {i} hi e j hj=>by
  have:i=a.size-1:=by ac_rfl
  subst this; exact hl j hj
 have I0:fu κ a b #[b[0]] 0 1:=by
  have h1:fu κ a b #[] 0 0:=⟨⟨by simp,by simp,by simpa using sa.pw,by simpa using sb.pw,by simp,by simp⟩,by ac_rfl,by ac_rfl⟩
  exact h1.pushB hb fun j hj _=>h0.trans (sa 0 j hj (by ac_rfl))
 unfold CJ
 refine au (pI (jL ⟨rfl,?_⟩))
 refine au (eP hb ?_)
 by_cases e1:1=b.size
 ·rw[if_pos (by simp[← e1])]
  exact aB (h _ _ .rfl (I0.doneA e1))
 rw[if_neg (by simpa using e1)]
 by_cases e2:0+1=a.size
 ·rw[if_pos (by simp[← e2])]
  exact aB (h _ _ .rfl (I0.last e2 (jS (by ac_rfl) (by ac_rfl))))
 rw[if_neg (by simpa using e2)]
 refine au (kK ?_)
 refine au (fj (fk (I:=fun x c ap=>gc st ap/\∃ out ia ib mg,c=(none,out,ia,ib,mg)/\fu κ a b out ia ib/\ia+1<a.size/\ib<b.size/\x+1<=ia+ib)
  (Q:=fun c ap=>gc st ap/\∃ r,c.1=some r/\ga κ (a.toList++b.toList) r) ?_ ?_ ?_) ?_)
 rotate_left
 ·rintro c ap ⟨_,out,ia,ib,mg,rfl,hI,h1,h2,h3⟩
  ac_rfl
 ·exact⟨.rfl,_,0,1,_,rfl,I0,by ac_rfl,by ac_rfl,by ac_rfl⟩
 ·rintro⟨c1,c⟩ ap ⟨hS,r,rfl,hD⟩
  exact aB (h r ap hS hD)
 rintro x c ap _ hx ⟨hS,out,ia,ib,mg,rfl,hI,h1,h2,h3⟩
 refine au (fj (fk (I:=fun y c cc=>cc=ap/\∃ out ia ib ac bc,c=(none,out,ia,ib,ac,bc)/\fu κ a b out ia ib/\ia+1<a.size/\ib<b.size/\x+1+y<=ia+ib)
  (Q:=fun c cc=>cc=ap/\((∃ r c',c=(some r,c')/\ga κ (a.toList++b.toList) r)\/∃ out ia ib ac bc,c=(none,out,ia,ib,ac,bc)/\fu κ a b out ia ib/\ia+1<a.size/\ib<b.size/\x+1+1<=ia+ib)) ?_ ?_ ?_) ?_)
 ·rintro y c cc _ hy ⟨rfl,out,ia,ib,ac,bc,rfl,hI,h1,h2,h3⟩
  dsimp only
  refine au (eP h2 (au (eP (by ac_rfl) (au (t8 hO (hS.sb hk) (hB ib h2) (hA ia (by ac_rfl)) ?_)))))
  cases e:κ.blt (kO κ b[ib]) (kO κ (a[ia]'(by ac_rfl)))with
  | true =>
   dsimp only
   rw[if_pos rfl]
   refine au (eP h2 ?_)
   have kY:=hI.pushB h2 fun j hj fo=>bG.trans (kg e) (sa ia j hj fo)
   by_cases e3:ib+1=b.size
   ·rw[if_pos (by simp[e3])]
    exact aB ⟨rfl,.inl ⟨_,_,rfl,kY.doneA e3⟩⟩
   rw[if_neg (by simpa using e3)]
   split
   ·exact aB ⟨rfl,.inr ⟨_,_,_,_,_,rfl,kY,by ac_rfl,by ac_rfl,by ac_rfl⟩⟩
   ·exact aB ⟨rfl,_,_,_,_,_,rfl,kY,by ac_rfl,by ac_rfl,by ac_rfl⟩
  | false =>
   dsimp only
   rw[if_neg (by simp)]
   refine au (eP (by ac_rfl) ?_)
   have kY:=hI.pushA (by ac_rfl) fun j hj fo=>bG.trans (show bG κ (a[ia]'(by ac_rfl)) b[ib] from e) (sb ib j hj fo)
   by_cases e3:ia+1+1=a.size
   ·rw[if_pos (by simp[e3])]
    exact aB ⟨rfl,.inl ⟨_,_,rfl,kY.last e3 (jS (by ac_rfl) (by ac_rfl))⟩⟩
   rw[if_neg (by simpa using e3)]
   split
   ·exact aB ⟨rfl,.inr ⟨_,_,_,_,_,rfl,kY,by ac_rfl,by ac_rfl,by ac_rfl⟩⟩
   ·exact aB ⟨rfl,_,_,_,_,_,rfl,kY,by ac_rfl,by ac_rfl,by ac_rfl⟩
 ·rintro c cc ⟨rfl,out,ia,ib,ac,bc,rfl,hI,h1,h2,h3⟩
  ac_rfl
 ·exact⟨rfl,_,_,_,_,_,rfl,hI,h1,h2,by ac_rfl⟩
 rintro c cc ⟨rfl,⟨r,c',rfl,hD⟩ | ⟨out,ia,ib,ac,bc,rfl,hI,h1,h2,h3⟩⟩
 ·exact aB ⟨hS,r,rfl,hD⟩
 refine au (pI (jL ⟨rfl,?_⟩))
 refine au (fj (fk (I:=fun y c cc=>gc st cc/\∃ out ia ib mg ac bc,c=(none,out,ia,ib,mg,ac,bc)/\fu κ a b out ia ib/\ia+1<a.size/\ib<b.size/\x+2+y<=ia+ib)
  (Q:=fun c cc=>gc st cc/\((∃ r c',c=(some r,c')/\ga κ (a.toList++b.toList) r)\/∃ out ia ib mg ac bc,c=(none,out,ia,ib,mg,ac,bc)/\fu κ a b out ia ib/\ia+1<a.size/\ib<b.size/\x+1+1<=ia+ib)) ?_ ?_ ?_) ?_)
 rotate_left
 ·rintro c cc ⟨_,out,ia,ib,mg,ac,bc,rfl,hI,h1,h2,h3⟩
  ac_rfl
 ·exact⟨hS,_,_,_,_,_,_,rfl,hI,h1,h2,by ac_rfl⟩
 ·rintro c cc ⟨hS,⟨r,c',rfl,hD⟩ | ⟨out,ia,ib,mg,ac,bc,rfl,hI,h1,h2,h3⟩⟩
  ·exact aB ⟨hS,r,rfl,hD⟩
  ·dsimp only
   refine au (mQ (aB ⟨⟨hS.kind,hS.arr,hS.pend,hS.failed⟩,_,_,_,_,rfl,hI,h1,h2,by ac_rfl⟩))
 clear h1 h2 h3 hI hS I0 e1 e2
 rintro y c cc _ hy ⟨hS,out,ia,ib,mg,ac,bc,rfl,hI,h1,h2,h3⟩
 clear hx hy
 have jm:∀ {i j:Nat} (bJ:i<=j) (hj:j<b.size),bG κ (b[i]'(by ac_rfl)) b[j]:=fun {i j} bJ hj=>sb i j hj bJ
 have pT:∀ {i j:Nat} (bJ:i<=j) (hj:j<a.size),bG κ (a[i]'(by ac_rfl)) a[j]:=fun {i j} bJ hj=>sa i j hj bJ
 refine(?_:wpS (model prog w) A E s _ ?Q _)
 extract_lets -merge x1 x2 x3 x4 x5 x6 x7 x8 x9 xa xb xc jp
 have hj:∀ g aI,gc st aI->wpS (model prog w) A E s (jp () g) ?Q aI:=by
  intro g aI fN
  dsimp -zeta only[jp,x1,x2,x3,x4,x5,x6,x7,x8,x9,xa,xb,xc]
  refine au (yS fN fun aI fN=>?_)
  refine au (eP h2 ?_)
  refine au (AI hO (fN.sb hk) (base:=ia) (n:=a.size-ia) (hint:=0) (hB ib h2) (by ac_rfl) hA (fun i j bJ hj _=>pT bJ (by ac_rfl)) (by ac_rfl) fun k mV f9 cX=>?_)
  dsimp -zeta only
  extract_lets -merge y1 jp2
  have uY:∀ o n,fu κ a b o n ib->ia+k<=n->n+1<a.size->wpS (model prog w) A E s (jp2 () o n) ?Q aI:=by
   intro o n uZ n_ e4
   dsimp -zeta only[jp2,y1]
   refine au (eP h2 ?_)
   have hI3:=uZ.pushB h2 fun j hj g=>kg (cX j hj (by ac_rfl) (by ac_rfl))
   refine cg (fun e5=>?_) fun e5=>?_
   ·exact aB ⟨fN,.inl ⟨_,_,rfl,hI3.doneA (by simpa using e5)⟩⟩
   have e5':ib+1≠b.size:=by simpa using e5
   refine au (eP (by ac_rfl) ?_)
   refine au (z_ hO (fN.sb hk) (base:=ib+1) (n:=b.size-(ib+1)) (hint:=0) (hA _ _) (by ac_rfl) hB (fun i j bJ hj _=>jm bJ (by ac_rfl)) (by ac_rfl) fun k' m1 m2 m3=>?_)
   dsimp -zeta only
   extract_lets -merge z1 z2 jp3
   have u0:∀ o m,fu κ a b o n m->ib+1+k'<=m->m<b.size->wpS (model prog w) A E s (jp3 () o m) ?Q aI:=by
    intro o m u5 e6 e7
    dsimp -zeta only[jp3,z1,z2]
    refine au (eP (by ac_rfl) ?_)
    have u6:=u5.pushA (by ac_rfl) (fun j hj g=>m3 j hj (by ac_rfl) (by ac_rfl))
    refine cg (fun e7=>?_) fun e7=>?_
    ·have e7':n+1+1=a.size:=by simpa using e7
     exact aB ⟨fN,.inl ⟨_,_,rfl,u6.last e7' (jS (by ac_rfl) e7')⟩⟩
    have e7':n+1+1≠a.size:=by simpa using e7
    refine cg (fun e8=>?_) fun e8=>?_
    ·exact aB ⟨fN,.inr ⟨_,_,_,_,_,_,rfl,u6,by ac_rfl,by ac_rfl,by ac_rfl⟩⟩
    ·exact aB ⟨fN,_,_,_,_,_,_,rfl,u6,by ac_rfl,by ac_rfl,by ac_rfl⟩
   clear_value jp3
   refine cg (fun BE=>?_) (fun BE=>?_)
   ·have u5:=hI3.extB (k:=k') (by ac_rfl) (fun i hi g1 g2 j hj g3=>bG.trans (kg (m2 i hi g1 g2)) (pT g3 hj))
    refine cg (fun e6=>?_) fun e6=>?_
    ·exact aB ⟨fN,.inl ⟨_,_,rfl,u5.doneA (by simpa using e6)⟩⟩
    have e6':ib+1+k'≠b.size:=by simpa using e6
    exact u0 _ _ u5 (by ac_rfl) (by ac_rfl)
   ·exact u0 _ _ hI3 (by ac_rfl) (by ac_rfl)
  clear_value jp2
  refine cg (fun hk0=>?_) (fun hk0=>?_)
  ·have uZ:fu κ a b (out++a.extract ia (ia+k)) (ia+k) ib:=hI.extA (by ac_rfl) fun i hi g1 g2 j hj g3=>(f9 i hi g1 g2).trans (jm g3 hj)
   refine cg (fun e3=>?_) fun e3=>?_
   ·have n_:ia+k+1=a.size:=by simpa using e3
    exact aB ⟨fN,.inl ⟨_,_,rfl,uZ.last n_ (jS (by ac_rfl) n_)⟩⟩
   have n_:ia+k+1≠a.size:=by simpa using e3
   refine cg (fun e4=>?_) fun e4=>?_
   ·exact aB ⟨fN,.inl ⟨_,_,rfl,uZ.doneB (by simpa using e4)⟩⟩
   have e4':ia+k≠a.size:=by simpa using e4
   exact uY _ _ uZ (by ac_rfl) (by ac_rfl)
  ·exact uY _ _ hI (by ac_rfl) (by ac_rfl)
 exact cg (fun _=>hj _ _ hS) fun _=>hj _ _ hS
end
end L2
namespace L2
def zm(κ:KeyKind):KeyKind where
 α:=κ.α
 blt:=fun a b=>κ.blt b a
 irrefl:=κ.irrefl
 trans:=fun a b c h1 h2=>κ.trans c b a h2 h1
 negTrans:=fun a b c h=>(κ.negTrans c b a h).symm
 total:=fun a b h1 h2=>κ.total a b h2 h1
 keyOf:=κ.keyOf
 dflt:=κ.dflt
section
variable{κ:KeyKind}
theorem sO{x y:Keyed}(h:bG κ y x):bG (zm κ) x y:=h
theorem E7{a:Array Keyed}{n:Nat}(h:0<n)(hn:n<=a.size):(a.toList.take n).reverse=(a[n-1]'(by ac_rfl))::(a.toList.take (n-1)).reverse:=by
 obtain⟨m,rfl⟩:∃ m,n=m+1:=⟨n-1,by ac_rfl⟩
 rw[Hh (by simp; ac_rfl),Hm]
 simp
theorem GC(a:Array Keyed)(p n:Nat)(hp:p<=n):a.toList.take n=a.toList.take p++(a.extract p n).toList:=by
 rw[kx]
 conv=>lhs; rw[show n=p+(n-p) by ac_rfl]
 rw[List.take_add]
theorem qR{a:Array Keyed}{n:Nat}(hn:n<=a.size){x:Keyed}(h:x∈a.toList.take n):∃ j,∃ hj:j<a.size,j<n/\a[j]=x:=by
 obtain⟨m,hm,e⟩:=xQ h
 rw[Hl]at e
 have h1:m<n:=by simp at hm; ac_rfl
 exact⟨m,by ac_rfl,h1,by simpa using e⟩
theorem yE{a:Array Keyed}{p n:Nat}(hn:n<=a.size){x:Keyed}(h:x∈(a.extract p n).toList):∃ j,∃ hj:j<a.size,p<=j/\j<n/\a[j]=x:=by
 rw[kx]at h
 obtain⟨m,hm,e⟩:=xQ h
 rw[Hl,Hk]at e
 have h1:p+m<n:=by simp at hm; ac_rfl
 exact⟨p+m,by ac_rfl,by ac_rfl,h1,by simpa using e⟩
theorem oE(a:Array Keyed)(n:Nat):(a.extract 0 n).toList=a.toList.take n:=by
 rw[kx]; simp
structure fE(κ:KeyKind)(a b out:Array Keyed)(na nb:Nat):Prop where
 ms:MS (zm κ) (a.toList++b.toList) out.toList (a.toList.take na).reverse (b.toList.take nb).reverse
 la:na<=a.size
 lb:nb<=b.size
variable{a b out:Array Keyed}{na nb:Nat}
theorem fE.pushA(h:fE κ a b out na nb)(hn:0<na)(og:na-1<a.size)(hx:∀ j (hj:j<b.size),j<nb->bG κ b[j] a[na-1]):fE κ a b (out.push a[na-1]) (na-1) nb:=by
 refine⟨?_,by ac_rfl,h.lb⟩
 rw[ui]
 refine MS.stepA (by rw[Bh,← E7 hn h.la]; exact h.ms) fun u hu v hv=>?_
 obtain⟨j,hj,fo,rfl⟩:=qR h.lb (pJ.mp hv)
 rw[f8.mp hu]; exact sO (hx j hj fo)
theorem fE.pushB(h:fE κ a b out na nb)(hn:0<nb)(hlb:nb-1<b.size)(hx:∀ j (hj:j<a.size),j<na->bG κ a[j] b[nb-1]):fE κ a b (out.push b[nb-1]) na (nb-1):=by
 refine⟨?_,h.la,by ac_rfl⟩
 rw[ui]
 refine MS.stepB (by rw[Bh,← E7 hn h.lb]; exact h.ms) fun u hu v hv=>?_
 obtain⟨j,hj,fo,rfl⟩:=qR h.la (pJ.mp hv)
 rw[f8.mp hu]; exact sO (hx j hj fo)
theorem fE.extA{p:Nat}(h:fE κ a b out na nb)(hp:p<=na)(hx:∀ i (hi:i<a.size),p<=i->i<na->∀ j (hj:j<b.size),j<nb->bG κ b[j] a[i]):fE κ a b (out++(a.extract p na).reverse) p nb:=by
 refine⟨?_,cp hp h.la,h.lb⟩
 rw[iC,Array.toList_reverse]
 refine MS.stepA (by rw[← Hm,← GC _ _ _ hp]; exact h.ms) fun u hu v hv=>?_
 obtain⟨j,hj,fo,rfl⟩:=qR h.lb (pJ.mp hv)
 obtain⟨i,hi,h1,h2,rfl⟩:=yE h.la (pJ.mp hu)
 exact sO (hx i hi h1 h2 j hj fo)
theorem fE.extB{p:Nat}(h:fE κ a b out na nb)(hp:p<=nb)(hx:∀ i (hi:i<b.size),p<=i->i<nb->∀ j (hj:j<a.size),j<na->bG κ a[j] b[i]):fE κ a b (out++(b.extract p nb).reverse) na p:=by
 refine⟨?_,h.la,cp hp h.lb⟩
 rw[iC,Array.toList_reverse]
 refine MS.stepB (by rw[← Hm,← GC _ _ _ hp]; exact h.ms) fun u hu v hv=>?_
 obtain⟨j,hj,fo,rfl⟩:=qR h.la (pJ.mp hv)
 obtain⟨i,hi,h1,h2,rfl⟩:=yE h.lb (pJ.mp hu)
 exact sO (hx i hi h1 h2 j hj fo)
theorem At{T:List Keyed}{r q:Array Keyed}(h:ga (zm κ) T q)(e:r.toList=q.toList.reverse):ga κ T r:=by
 refine⟨by rw[e]; exact(Hn _).trans h.1,?_⟩
 rw[e,Ho]
 exact h.2
theorem fE.doneA(h:fE κ a b out na nb)(e:na=0):ga κ (a.toList++b.toList) (a.extract 0 na++b.extract 0 nb++out.reverse):=by
 have:=h.ms
 rw[e,Bd,List.reverse_nil]at this
 refine At (q:=(out.toList++(b.toList.take nb).reverse).toArray) (this.swap.endA (by simp)) ?_
 rw[iC,iC,oE,oE,e]; simp
theorem fE.doneB(h:fE κ a b out na nb)(e:nb=0):ga κ (a.toList++b.toList) (a.extract 0 na++b.extract 0 nb++out.reverse):=by
 have:=h.ms
 rw[e,Bd,List.reverse_nil]at this
 refine At (q:=(out.toList++(a.toList.take na).reverse).toArray) (this.endA (by simp)) ?_
 rw[iC,iC,oE,oE,e]; simp
theorem fE.first(h:fE κ a b out na nb)(e:nb=1)(hf:∀ j (hj:j<a.size),bG κ (b[0]'(by have:=h.lb; ac_rfl)) a[j]):ga κ (a.toList++b.toList) (b.extract 0 nb++a.extract 0 na++out.reverse):=by
 refine At (q:=(out.toList++((a.toList.take na).reverse++(b.toList.take nb).reverse)).toArray) (h.ms.swap.last (fun u hu v hv=>?_) (by simp)) ?_
 ·obtain⟨i,hi,h1,rfl⟩:=qR h.la (pJ.mp hu)
  obtain⟨j,hj,h2,rfl⟩:=qR h.lb (pJ.mp hv)
  have:j=0:=by ac_rfl
  subst this; exact sO (hf i hi)
 ·rw[iC,iC,oE,oE]; simp
end
end L2
namespace L2
section
variable{prog:aK}{w:World}{A:aV}{E:Value->ah->Prop}{s:ah}{κ:KeyKind}
theorem Qu(hO:κ.OneLt){st:bN}(hk:SB st){a b:Array Keyed}{Q:Array Keyed->bN->Prop}(ha:0<a.size)(hb:0<b.size)
  (hA:∀ i (hi:i<a.size),gu κ a[i]) (hB:∀ i (hi:i<b.size),gu κ b[i]) (sa:tq κ a) (sb:tq κ b)
  (h0:bG κ b[0] a[0]) (hl:∀ j (hj:j<b.size),bG κ b[j] a[a.size-1])
  (h:∀ r ap,gc st ap->ga κ (a.toList++b.toList) r->Q r ap) :
  wpS (model prog w) A E s (D6 a b) Q st:=by
 have jm:∀ {i j:Nat} (bJ:i<=j) (hj:j<b.size),bG κ (b[i]'(by ac_rfl)) b[j]:=fun {i j} bJ hj=>sb i j hj bJ
 have pT:∀ {i j:Nat} (bJ:i<=j) (hj:j<a.size),bG κ (a[i]'(by ac_rfl)) a[j]:=fun {i j} bJ hj=>sa i j hj bJ
 have hf:∀ j (hj:j<a.size),bG κ b[0] a[j]:=fun j hj=>h0.trans (pT (by ac_rfl) hj)
 have I0:fE κ a b #[a[a.size-1]] (a.size-1) b.size:=by
  have h1:fE κ a b #[] a.size b.size:=by
   refine⟨⟨?_,by simp,?_,?_,by simp,by simp⟩,by ac_rfl,by ac_rfl⟩
   ·simp only[← gD,pH,fL]
    exact List.Perm.append (Hn _) (Hn _)
   ·simp only[← gD,pH,Ho]
    exact sa.pw
   ·simp only[← gD,pH,Ho]
    exact sb.pw
  exact h1.pushA ha (by ac_rfl) fun j hj _=>hl j hj
 unfold D6
 refine au (pI (jL ⟨rfl,?_⟩))
 refine au (eP (by ac_rfl) ?_)
 refine cg (fun e1=>aB (h _ _ .rfl (I0.doneA (by simpa using e1)))) fun e1=>?_
 have fq:a.size-1≠0:=by simpa using e1
 refine cg (fun e2=>?_) fun e2=>?_
 ·have kU:b.size=1:=by simpa using e2
  exact aB (h _ _ .rfl (I0.first kU hf))
 have kU:b.size≠1:=by simpa using e2
 refine au (kK ?_)
 refine au (fj (fk (I:=fun x c ap=>gc st ap/\∃ out na nb mg,c=(none,na,nb,out,mg)/\fE κ a b out na nb/\0<na/\na<=a.size/\1<nb/\nb<=b.size/\x+1+na+nb<=a.size+b.size)
  (Q:=fun c ap=>gc st ap/\∃ r,c.1=some r/\ga κ (a.toList++b.toList) r) ?_ ?_ ?_) ?_)
 rotate_left
 ·rintro c ap ⟨_,out,na,nb,mg,rfl,hI,h1,iX,h2,iY,h3⟩
  ac_rfl
 ·exact⟨.rfl,_,_,_,_,rfl,I0,by ac_rfl,by ac_rfl,by ac_rfl,by ac_rfl,by ac_rfl⟩
 ·rintro⟨c1,c⟩ ap ⟨hS,r,rfl,hD⟩
  exact aB (h r ap hS hD)
 rintro x c ap _ hx ⟨hS,out,na,nb,mg,rfl,hI,h1,iX,h2,iY,h3⟩
 refine au (fj (fk (I:=fun y c cc=>cc=ap/\∃ out na nb ac bc,c=(none,na,nb,out,ac,bc)/\fE κ a b out na nb/\0<na/\na<=a.size/\1<nb/\nb<=b.size/\x+1+y+na+nb<=a.size+b.size)
  (Q:=fun c cc=>cc=ap/\((∃ r c',c=(some r,c')/\ga κ (a.toList++b.toList) r)\/∃ out na nb ac bc,c=(none,na,nb,out,ac,bc)/\fE κ a b out na nb/\0<na/\na<=a.size/\1<nb/\nb<=b.size/\x+1+1+na+nb<=a.size+b.size)) ?_ ?_ ?_) ?_)
 ·rintro y c cc _ hy ⟨rfl,out,na,nb,ac,bc,rfl,hI,h1,iX,h2,iY,h3⟩
  dsimp only
  refine au (eP (by ac_rfl) (au (eP (by ac_rfl) (au (t8 hO (hS.sb hk) (hB (nb-1) (by ac_rfl)) (hA (na-1) (by ac_rfl)) ?_)))))
  cases e:κ.blt (kO κ (b[nb-1]'(by ac_rfl))) (kO κ (a[na-1]'(by ac_rfl)))with
  | true =>
   dsimp only
   rw[if_pos rfl]
   refine au (eP (by ac_rfl) ?_)
   have kY:=hI.pushA h1 (by ac_rfl) fun j hj fo=>bG.trans (jm (show j<=nb-1 by ac_rfl) (by ac_rfl)) (kg e)
   refine cg (fun e3=>?_) fun e3=>?_
   ·exact aB ⟨rfl,.inl ⟨_,_,rfl,kY.doneA (by simpa using e3)⟩⟩
   have n_:na-1≠0:=by simpa using e3
   refine cg (fun e4=>?_) fun e4=>?_
   ·exact aB ⟨rfl,.inr ⟨_,_,_,_,_,rfl,kY,by ac_rfl,by ac_rfl,by ac_rfl,by ac_rfl,by ac_rfl⟩⟩
   ·exact aB ⟨rfl,_,_,_,_,_,rfl,kY,by ac_rfl,by ac_rfl,by ac_rfl,by ac_rfl,by ac_rfl⟩
  | false =>
   dsimp only
   rw[if_neg (by simp)]
   refine au (eP (by ac_rfl) ?_)
   have kY:=hI.pushB (by ac_rfl) (by ac_rfl) fun j hj fo=>bG.trans (pT (show j<=na-1 by ac_rfl) (by ac_rfl)) (show bG κ (a[na-1]'(by ac_rfl)) (b[nb-1]'(by ac_rfl))from e)
   refine cg (fun e3=>?_) fun e3=>?_
   ·exact aB ⟨rfl,.inl ⟨_,_,rfl,kY.first (by simpa using e3) hf⟩⟩
   have n_:nb-1≠1:=by simpa using e3
   refine cg (fun e4=>?_) fun e4=>?_
   ·exact aB ⟨rfl,.inr ⟨_,_,_,_,_,rfl,kY,by ac_rfl,by ac_rfl,by ac_rfl,by ac_rfl,by ac_rfl⟩⟩
   ·exact aB ⟨rfl,_,_,_,_,_,rfl,kY,by ac_rfl,by ac_rfl,by ac_rfl,by ac_rfl,by ac_rfl⟩
 ·rintro c cc ⟨rfl,out,na,nb,ac,bc,rfl,hI,h1,iX,h2,iY,h3⟩
  ac_rfl
 ·exact⟨rfl,_,_,_,_,_,rfl,hI,h1,iX,h2,iY,by ac_rfl⟩
 rintro c cc ⟨rfl,⟨r,c',rfl,hD⟩ | ⟨out,na,nb,ac,bc,rfl,hI,h1,iX,h2,iY,h3⟩⟩
 ·exact aB ⟨hS,r,rfl,hD⟩
 refine au (pI (jL ⟨rfl,?_⟩))
 refine au (fj (fk (I:=fun y c cc=>gc st cc/\∃ out na nb mg ac bc,c=(none,na,nb,out,mg,ac,bc)/\fE κ a b out na nb/\0<na/\na<=a.size/\1<nb/\nb<=b.size/\x+2+y+na+nb<=a.size+b.size)
  (Q:=fun c cc=>gc st cc/\((∃ r c',c=(some r,c')/\ga κ (a.toList++b.toList) r)\/∃ out na nb mg ac bc,c=(none,na,nb,out,mg,ac,bc)/\fE κ a b out na nb/\0<na/\na<=a.size/\1<nb/\nb<=b.size/\x+1+1+na+nb<=a.size+b.size)) ?_ ?_ ?_) ?_)
 rotate_left
 ·rintro c cc ⟨_,out,na,nb,mg,ac,bc,rfl,hI,h1,iX,h2,iY,h3⟩
  ac_rfl
 ·exact⟨hS,_,_,_,_,_,_,rfl,hI,h1,iX,h2,iY,by ac_rfl⟩
 ·rintro c cc ⟨hS,⟨r,c',rfl,hD⟩ | ⟨out,na,nb,mg,ac,bc,rfl,hI,h1,iX,h2,iY,h3⟩⟩
  ·exact aB ⟨hS,r,rfl,hD⟩
  ·dsimp only
   exact au (yS hS fun aI fN=>aB ⟨fN,_,_,_,_,rfl,hI,h1,iX,h2,iY,by ac_rfl⟩)
 clear h1 iX h2 iY h3 hI hS I0 e1 e2
 rintro y c cc _ hy ⟨hS,out,na,nb,mg,ac,bc,rfl,hI,h1,iX,h2,iY,h3⟩
 clear hx hy
 refine(?_:wpS (model prog w) A E s _ ?Q _)
 extract_lets -merge x1 x2 x3 x4 x5 x6 x7 x8 x9 xa xb xc jp
 have hj:∀ g aI,gc st aI->wpS (model prog w) A E s (jp () g) ?Q aI:=by
  intro g aI fN
  dsimp -zeta only[jp,x1,x2,x3,x4,x5,x6,x7,x8,x9,xa,xb,xc]
  refine au (yS fN fun aI fN=>?_)
  refine au (eP (by ac_rfl) ?_)
  refine au (AI hO (fN.sb hk) (base:=0) (n:=na) (hint:=na-1) (hB (nb-1) (by ac_rfl)) (by ac_rfl) hA (fun i j bJ hj _=>pT bJ (by ac_rfl)) (by ac_rfl) fun p mV f9 cX=>?_)
  dsimp -zeta only
  extract_lets -merge y1 y2 jp2
  have uY:∀ n o,fE κ a b o n nb->0<n->n<=p->wpS (model prog w) A E s (jp2 () n o) ?Q aI:=by
   intro n o uZ n_ e4
   dsimp -zeta only[jp2,y1,y2]
   refine au (eP (by ac_rfl) ?_)
   have hI3:=uZ.pushB (by ac_rfl) (by ac_rfl) fun j hj g=>f9 j hj (by ac_rfl) (by ac_rfl)
   refine cg (fun e5=>?_) fun e5=>?_
   ·exact aB ⟨fN,.inl ⟨_,_,rfl,hI3.first (by simpa using e5) hf⟩⟩
   have e5':nb-1≠1:=by simpa using e5
   refine au (eP (by ac_rfl) ?_)
   refine au (z_ hO (fN.sb hk) (base:=0) (n:=nb-1) (hint:=nb-1-1) (hA _ _) (by ac_rfl) hB (fun i j bJ hj _=>jm bJ (by ac_rfl)) (by ac_rfl) fun p' m1 m2 m3=>?_)
   dsimp -zeta only
   extract_lets -merge z1 z2 z3 jp3
   have u0:∀ m o,fE κ a b o n m->1<m->m<=p'->wpS (model prog w) A E s (jp3 () m o) ?Q aI:=by
    intro m o u5 e6 e7
    dsimp -zeta only[jp3,z1,z2,z3]
    refine au (eP (by ac_rfl) ?_)
    have u6:=u5.pushA (by ac_rfl) (by ac_rfl) (fun j hj g=>kg (m2 j hj (by ac_rfl) (by ac_rfl)))
    refine cg (fun e7=>?_) fun e7=>?_
    ·exact aB ⟨fN,.inl ⟨_,_,rfl,u6.doneA (by simpa using e7)⟩⟩
    have e7':n-1≠0:=by simpa using e7
    refine cg (fun e8=>?_) fun e8=>?_
    ·exact aB ⟨fN,.inr ⟨_,_,_,_,_,_,rfl,u6,by ac_rfl,by ac_rfl,by ac_rfl,by ac_rfl,by ac_rfl⟩⟩
    ·exact aB ⟨fN,_,_,_,_,_,_,rfl,u6,by ac_rfl,by ac_rfl,by ac_rfl,by ac_rfl,by ac_rfl⟩
   clear_value jp3
   refine cg (fun BE=>?_) (fun BE=>?_)
   ·have u5:=hI3.extB (p:=p') (by ac_rfl) (fun i hi g1 g2 j hj g3=>bG.trans (pT (show j<=n-1 by ac_rfl) (by ac_rfl)) (m3 i hi (by ac_rfl) (by ac_rfl)))
    refine cg (fun e6=>?_) fun e6=>?_
    ·exact aB ⟨fN,.inl ⟨_,_,rfl,u5.first (by simpa using e6) hf⟩⟩
    refine cg (fun e9=>?_) fun e9=>?_
    ·exact aB ⟨fN,.inl ⟨_,_,rfl,u5.doneB (by simpa using e9)⟩⟩
    have e6':p'≠1:=by simpa using e6
    have e9':p'≠0:=by simpa using e9
    exact u0 _ _ u5 (by ac_rfl) (by ac_rfl)
   ·exact u0 _ _ hI3 (by ac_rfl) (by ac_rfl)
  clear_value jp2
  refine cg (fun hk0=>?_) (fun hk0=>?_)
  ·have uZ:fE κ a b (out++(a.extract p na).reverse) p nb:=hI.extA (by ac_rfl) fun i hi g1 g2 j hj g3=>bG.trans (jm (show j<=nb-1 by ac_rfl) (by ac_rfl)) (kg (cX i hi (by ac_rfl) (by ac_rfl)))
   refine cg (fun e3=>?_) fun e3=>?_
   ·exact aB ⟨fN,.inl ⟨_,_,rfl,uZ.doneA (by simpa using e3)⟩⟩
   have n_:p≠0:=by simpa using e3
   exact uY _ _ uZ (by ac_rfl) (by ac_rfl)
  ·exact uY _ _ hI (by ac_rfl) (by ac_rfl)
 exact cg (fun _=>hj _ _ hS) fun _=>hj _ _ hS
end
end L2
namespace L2
def putL(a:Array Keyed)(lo:Nat)(l:List Keyed):Array Keyed:=l.zipIdx.foldl (fun a (pj:Keyed×Nat)=>a.setIfInBounds (lo+pj.2) pj.1) a
theorem zu:∀ (l:List Keyed) (n lo:Nat) (a:Array Keyed),lo+n+l.length<=a.size ->
  ((l.zipIdx n).foldl (fun a (pj:Keyed×Nat)=>a.setIfInBounds (lo+pj.2) pj.1) a).size=a.size /\
  ∀ k,((l.zipIdx n).foldl (fun a (pj:Keyed×Nat)=>a.setIfInBounds (lo+pj.2) pj.1) a)[k]?=if lo+n<=k/\k<lo+n+l.length then l[k-(lo+n)]? else a[k]?
 | [],n,lo,a,_=>⟨rfl,fun k=>by rw[if_neg (by simp)]; rfl⟩
 | x::l,n,lo,a,h=>by
  have h':lo+(n+1)+l.length<=(a.setIfInBounds (lo+n) x).size:=by simp at h ⊢; ac_rfl
  obtain⟨e1,e2⟩:=zu l (n+1) lo (a.setIfInBounds (lo+n) x) h'
  rw[List.zipIdx_cons,iT]
  refine⟨by rw[e1]; simp,fun k=>?_⟩
  rw[e2]
  by_cases h1:lo+n=k
  ·subst h1
   rw[if_neg (by ac_rfl),if_pos (by simp)]
   rw[Array.getElem?_setIfInBounds_self_of_lt (by simp at h; ac_rfl)]
   simp
  ·by_cases h2:lo+(n+1)<=k/\k<lo+(n+1)+l.length
   ·rw[if_pos h2,if_pos (by simp; ac_rfl)]
    rw[show k-(lo+n)=k-(lo+(n+1))+1 by ac_rfl,List.getElem?_cons_succ]
   ·rw[if_neg h2,if_neg (by simp; ac_rfl),Array.getElem?_setIfInBounds_ne h1]
theorem Nc{a:Array Keyed}{lo:Nat}{l:List Keyed}(h:lo+l.length<=a.size):(putL a lo l).size=a.size:=(zu l 0 lo a (by ac_rfl)).1
theorem yO{a:Array Keyed}{lo:Nat}{l:List Keyed}(h:lo+l.length<=a.size)(k:Nat):(putL a lo l)[k]?=if lo<=k/\k<lo+l.length then l[k-lo]? else a[k]? :=
 (zu l 0 lo a (by ac_rfl)).2 k
theorem QB{a:Array Keyed}{lo n:Nat}{l:List Keyed}(h:lo+n<=a.size)(hp:l.Perm ((a.toList.drop lo).take n)):(putL a lo l).toList.Perm a.toList:=by
 have hl:l.length=n:=by rw[hp.length_eq,gE,je]; simp; ac_rfl
 have e:(putL a lo l).toList=a.toList.take lo++(l++a.toList.drop (lo+n)):=by
  apply jN
  intro k
  rw[Bc,yO (by ac_rfl),List.getElem?_append,List.getElem?_append,gE,iD,jO,hl]
  simp only[gD,Bc]
  rw[show min lo a.size=lo by ac_rfl]
  by_cases h1:k<lo
  ·rw[if_neg (by ac_rfl),if_pos h1,if_pos h1]
  ·rw[if_neg h1]
   by_cases h2:k<lo+n
   ·rw[if_pos (by ac_rfl),if_pos (by ac_rfl)]
   ·rw[if_neg (by ac_rfl),if_neg (by ac_rfl)]; congr 1; ac_rfl
 rw[e]
 have e2:a.toList=a.toList.take lo++((a.toList.drop lo).take n++a.toList.drop (lo+n)):=by
  rw[← List.drop_drop,lU,lU]
 conv=>rhs; rw[e2]
 exact Hc _ (List.Perm.append_right _ hp)
section
variable{κ:KeyKind}
def Run(κ:KeyKind)(a:Array Keyed)(lo n:Nat):Prop:=∀ i j x y,lo<=i->i<=j->j<lo+n->a[i]?=some x->a[j]?=some y->bG κ x y
theorem bG.refl(x:Keyed):bG κ x x:=iU _
structure Wr(a a':Array Keyed)(lo n:Nat):Prop where
 perm:a'.toList.Perm a.toList
 size:a'.size=a.size
 out:∀ k,k<lo\/lo+n<=k->a'[k]?=a[k]?
theorem Run.keep{a a':Array Keyed}{lo n lo' n':Nat}(h:Run κ a lo n)(w:Wr a a' lo' n')(d:lo+n<=lo'\/lo'+n'<=lo):Run κ a' lo n:=by
 intro i j x y h1 h2 h3 hx hy
 rw[w.out i (by ac_rfl)]at hx
 rw[w.out j (by ac_rfl)]at hy
 exact h i j x y h1 h2 h3 hx hy
end
section
variable{prog:aK}{w:World}{A:aV}{E:Value->ah->Prop}{s:ah}{κ:KeyKind}
theorem Iu{σ:Type}{M:Model}{Q:PUnit->σ->Prop}{st ap:σ}(h:Q ⟨⟩ ap):wpS M A E s (set ap:StateT σ Sem PUnit) Q st:=by
 unfold wpS; rw[StateT.run_set]; exact ar ⟨rfl,h⟩
theorem J5(a:Array Keyed){p q t:Nat}(h1:p<=q)(h2:q<=t):(a.extract p q).toList++(a.extract q t).toList=(a.extract p t).toList:=by
 rw[kx,kx,kx,show t-p=(q-p)+(t-q) by ac_rfl,List.take_add,List.drop_drop,show p+(q-p)=q by ac_rfl]
theorem LW{arr:Array Keyed}{sa na nb k nb':Nat}(hsz:sa+na+nb<=arr.size)(hk:k<na)(h0:0<nb')(hnb:nb'<=nb)(r1:Run κ arr sa na)(r2:Run κ arr (sa+na) nb)
  (a1:∀ i (hi:i<arr.size),sa<=i->i<sa+k->bG κ arr[i] (arr[sa+na]'(by ac_rfl))) (b2:∀ i (hi:i<arr.size),sa+na+nb'<=i->i<sa+na+nb->bG κ (arr[sa+na-1]'(by ac_rfl)) arr[i])
  {r:Array Keyed} (hD:ga κ ((arr.extract (sa+k) (sa+na)).toList++(arr.extract (sa+na) (sa+na+nb')).toList) r) :
  Wr arr (putL arr (sa+k) r.toList) sa (na+nb)/\Run κ (putL arr (sa+k) r.toList) sa (na+nb):=by
 rw[J5 _ (by ac_rfl) (by ac_rfl)]at hD
 have b7:r.toList.length=na-k+nb':=by
  rw[hD.1.length_eq,kx,gE,je,gD]; ac_rfl
 have hb:sa+k+r.toList.length<=arr.size:=by ac_rfl
 have hm:∀ m∈r.toList,∃ t,∃ ht:t<arr.size,sa+k<=t/\t<sa+na+nb'/\arr[t]=m:=fun m hm=>yE (by ac_rfl) (hD.1.mem_iff.mp hm)
 have g1:∀ {i j:Nat} (bJ:i<=j) (hj:j<sa+na),sa<=i->bG κ (arr[i]'(by ac_rfl)) (arr[j]'(by ac_rfl)):=fun {i j} bJ hj hi =>
  r1 i j _ _ hi bJ hj (getElem?_pos _ _ _) (getElem?_pos _ _ _)
 have g2:∀ {i j:Nat} (bJ:i<=j) (hj:j<sa+na+nb),sa+na<=i->bG κ (arr[i]'(by ac_rfl)) (arr[j]'(by ac_rfl)):=fun {i j} bJ hj hi =>
  r2 i j _ _ hi bJ hj (getElem?_pos _ _ _) (getElem?_pos _ _ _)
 have pS:∀ i (hi:i<arr.size) j (hj:j<arr.size),sa<=i->i<sa+k->sa+na<=j->j<sa+na+nb->bG κ arr[i] arr[j]:=fun i hi j hj c1 c2 c3 c4 =>
  (a1 i hi c1 c2).trans (g2 c3 c4 (aL _))
 refine⟨⟨?_,Nc hb,fun q hq=>?_⟩,?_⟩
 ·refine QB (n:=na-k+nb') (by ac_rfl) ?_
  have:=hD.1
  rwa[kx,show sa+na+nb'-(sa+k)=na-k+nb' by ac_rfl]at this
 ·rw[yO hb,if_neg (by ac_rfl)]
 ·intro i j x y h1 h2 h3 hx hy
  rw[yO hb]at hx hy
  by_cases ci:sa+k<=i/\i<sa+k+r.toList.length
  ·rw[if_pos ci]at hx
   obtain⟨t,ht,t1,t2,rfl⟩:=hm x (ud hx)
   by_cases cj:sa+k<=j/\j<sa+k+r.toList.length
   ·rw[if_pos cj]at hy
    by_cases eij:i=j
    ·subst eij; rw[hx]at hy; cases hy; exact bG.refl _
    ·obtain⟨u1,u2⟩:=dP.mp hx
     obtain⟨v1,v2⟩:=dP.mp hy
     have:=List.pairwise_iff_getElem.mp hD.2 (i-(sa+k)) (j-(sa+k)) u1 v1 (by ac_rfl)
     rw[u2,v2]at this
     exact this
   ·rw[if_neg cj]at hy
    obtain⟨hj,rfl⟩:=nU.mp hy
    by_cases ct:t<sa+na
    ·exact(g1 (show t<=sa+na-1 by ac_rfl) (by ac_rfl) (by ac_rfl)).trans (b2 j hj (by ac_rfl) (by ac_rfl))
    ·exact g2 (by ac_rfl) (by ac_rfl) (by ac_rfl)
  ·rw[if_neg ci]at hx
   obtain⟨hi,rfl⟩:=nU.mp hx
   by_cases cj:sa+k<=j/\j<sa+k+r.toList.length
   ·rw[if_pos cj]at hy
    obtain⟨t,ht,t1,t2,rfl⟩:=hm y (ud hy)
    by_cases ct:t<sa+na
    ·exact g1 (by ac_rfl) ct (by ac_rfl)
    ·exact pS i hi t ht (by ac_rfl) (by ac_rfl) (by ac_rfl) (by ac_rfl)
   ·rw[if_neg cj]at hy
    obtain⟨hj,rfl⟩:=nU.mp hy
    by_cases c2:i<sa+k
    ·by_cases c3:j<sa+k
     ·exact g1 h2 (by ac_rfl) h1
     ·exact pS i hi j hj (by ac_rfl) c2 (by ac_rfl) (by ac_rfl)
    ·exact g2 h2 (by ac_rfl) (by ac_rfl)
theorem EB{arr:Array Keyed}{sa na nb:Nat}(hsz:sa+na+nb<=arr.size)(hna:0<na)(hnb:0<nb)(r1:Run κ arr sa na)(r2:Run κ arr (sa+na) nb)
  (hj:bG κ (arr[sa+na-1]'(by ac_rfl)) (arr[sa+na]'(by ac_rfl))):Run κ arr sa (na+nb):=by
 intro i j x y h1 h2 h3 hx hy
 by_cases c1:j<sa+na
 ·exact r1 i j x y h1 h2 c1 hx hy
 ·by_cases c2:i<sa+na
  ·exact((r1 i (sa+na-1) x _ h1 (by ac_rfl) (by ac_rfl) hx (getElem?_pos _ _ _)).trans hj).trans (r2 (sa+na) j _ y (by ac_rfl) (by ac_rfl) (by ac_rfl) (getElem?_pos _ _ _) hy)
  ·exact r2 i j x y (by ac_rfl) h2 (by ac_rfl) hx hy
theorem Wr.same{a:Array Keyed}{lo n:Nat}:Wr a a lo n:=⟨lS _,rfl,fun _ _=>rfl⟩
theorem Lr(hO:κ.OneLt){st:bN}(hk:SB st)(hA:∀ i (hi:i<(arrOf st).size),gu κ (arrOf st)[i]){i sa na pw nb pw':Nat}
  (p1:(a_ st)[i]?=some (sa,na,pw)) (p2:(a_ st)[i+1]?=some (sa+na,nb,pw')) (hna:0<na) (hnb:0<nb) (hsz:sa+na+nb<=(arrOf st).size)
  (r1:Run κ (arrOf st) sa na) (r2:Run κ (arrOf st) (sa+na) nb) {Q:Bool->bN->Prop}
  (h:∀ ap,SB ap->a_ ap=((a_ st).setIfInBounds i (sa,na+nb,pw)).eraseIdxIfInBounds (i+1)->Wr (arrOf st) (arrOf ap) sa (na+nb)->Run κ (arrOf ap) sa (na+nb)->Q true ap) :
  wpS (model prog w) A E s (mergeAt' i) Q st:=by
 obtain⟨kd,arr,pd,mg,fl⟩:=st
 have hkd:kd=oneType':=hk.kind
 have hfl:fl=none:=hk.failed
 subst hkd hfl
 replace hA:∀ i (hi:i<arr.size),gu κ arr[i]:=hA
 replace hsz:sa+na+nb<=arr.size:=hsz
 replace r1:Run κ arr sa na:=r1
 replace r2:Run κ arr (sa+na) nb:=r2
 replace p1:pd[i]?=some (sa,na,pw):=p1
 replace p2:pd[i+1]?=some (sa+na,nb,pw'):=p2
 replace h:∀ ap,SB ap->a_ ap=(pd.setIfInBounds i (sa,na+nb,pw)).eraseIdxIfInBounds (i+1)->Wr arr (arrOf ap) sa (na+nb)->Run κ (arrOf ap) sa (na+nb)->Q true ap:=h
 have g1:∀ {i j:Nat} (bJ:i<=j) (hj:j<sa+na),sa<=i->bG κ (arr[i]'(by ac_rfl)) (arr[j]'(by ac_rfl)):=fun {i j} bJ hj hi =>
  r1 i j _ _ hi bJ hj (getElem?_pos _ _ _) (getElem?_pos _ _ _)
 have g2:∀ {i j:Nat} (bJ:i<=j) (hj:j<sa+na+nb),sa+na<=i->bG κ (arr[i]'(by ac_rfl)) (arr[j]'(by ac_rfl)):=fun {i j} bJ hj hi =>
  r2 i j _ _ hi bJ hj (getElem?_pos _ _ _) (getElem?_pos _ _ _)
 unfold mergeAt'
 refine au (kK ?_)
 dsimp only
 rw[p1,p2]
 dsimp only
 refine au (Iu ?_)
 generalize (pd.setIfInBounds i (sa,na+nb,pw)).eraseIdxIfInBounds (i+1)=pend at *
 refine au (eP (by ac_rfl) ?_)
 refine au (AI hO ⟨rfl,rfl⟩ (base:=sa) (n:=na) (hint:=0) (hA _ _) (by ac_rfl) hA (fun i j bJ hj hi=>g1 bJ hj hi) hna fun k m1 m2 m3=>?_)
 dsimp only
 refine cg (fun e1=>?_) fun e1=>?_
 ·have fq:na<=k:=by have:na-k=0:=(by simpa using e1); ac_rfl
  refine aB (h _ ⟨rfl,rfl⟩ rfl Wr.same (EB hsz hna hnb r1 r2 (m2 _ _ (by ac_rfl) (by ac_rfl))))
 have fq:k<na:=by have:na-k≠0:=(by simpa using e1); ac_rfl
 refine au (eP (by ac_rfl) ?_)
 refine au (z_ hO ⟨rfl,rfl⟩ (base:=sa+na) (n:=nb) (hint:=nb-1) (hA _ _) (by ac_rfl) hA (fun i j bJ hj hi=>g2 bJ hj hi) (by ac_rfl) fun nb' n1 n2 n3=>?_)
 dsimp only
 have hidx:sa+k+(na-k)-1=sa+na-1:=by ac_rfl
 simp only[hidx]at n2 n3
 refine cg (fun e2=>?_) fun e2=>?_
 ·have kU:nb'=0:=by simpa using e2
  refine aB (h _ ⟨rfl,rfl⟩ rfl Wr.same (EB hsz hna hnb r1 r2 (n3 _ _ (by ac_rfl) (by ac_rfl))))
 have kU:nb'≠0:=by simpa using e2
 have xs:(arr.extract (sa+k) (sa+na)).size=na-k:=by simp; ac_rfl
 have ys:(arr.extract (sa+na) (sa+na+nb')).size=nb':=by simp; ac_rfl
 refine cg (fun _=>?_) fun _=>?_
 all_goals
  first
   | refine au (P4 hO ⟨rfl,rfl⟩ (by ac_rfl) (by ac_rfl) ?_ ?_ ?_ ?_ ?_ ?_ ?_)
   | refine au (Qu hO ⟨rfl,rfl⟩ (by ac_rfl) (by ac_rfl) ?_ ?_ ?_ ?_ ?_ ?_ ?_)
  ·intro j hj; rw[mR]; exact hA _ _
  ·intro j hj; rw[mR]; exact hA _ _
  ·intro i j hj bJ
   rw[mR,mR]
   exact g1 (by ac_rfl) (by ac_rfl) (by ac_rfl)
  ·intro i j hj bJ
   rw[mR,mR]
   exact g2 (by ac_rfl) (by ac_rfl) (by ac_rfl)
  ·rw[mR,mR]
   exact kg (m3 _ _ (by ac_rfl) (by ac_rfl))
  ·intro j hj
   rw[mR,mR]
   have:=n2 (sa+na+j) (by ac_rfl) (by ac_rfl) (by ac_rfl)
   have e:sa+k+((arr.extract (sa+k) (sa+na)).size-1)=sa+na-1:=by ac_rfl
   simp only[e]
   exact kg this
  ·rintro r ⟨kd',arr',pd',mg',fl'⟩ ⟨c1,c2,c3,c4⟩ hD
   change kd'=oneType' at c1
   change arr'=arr at c2
   change pd'=pend at c3
   change fl'=none at c4
   subst c1 c2 c3 c4
   refine au (mQ ?_)
   refine au (kK ?_)
   obtain⟨w1,w2⟩:=LW hsz fq (by ac_rfl) n1 r1 r2 (fun i hi c1 c2=>m2 i hi c1 c2) (fun i hi c1 c2=>n3 i hi c1 c2) hD
   exact aB (h _ ⟨rfl,rfl⟩ rfl w1 w2)
end
end L2
namespace L2
section
variable{κ:KeyKind}
theorem zN{a:Array Keyed}{i:Nat}{x:Keyed}(h:a[i]?=some x):KK κ a i=kO κ x:=by unfold KK kO; rw[h]
theorem xx{a:Array Keyed}{i:Nat}(h:i<a.size):KK κ a i=kO κ a[i]:=zN (getElem?_pos _ _ _)
def fz(κ:KeyKind)(a:Array Keyed)(lo n:Nat):Prop:=∀ i j,lo<=i->i<=j->j<lo+n->κ.kle (KK κ a i) (KK κ a j)
def lf(κ:KeyKind)(a:Array Keyed)(lo n:Nat):Prop:=∀ i j,lo<=i->i<=j->j<lo+n->κ.kle (KK κ a j) (KK κ a i)
theorem fz.run{a:Array Keyed}{lo n:Nat}(h:fz κ a lo n):Run κ a lo n:=by
 intro i j x y h1 h2 h3 hx hy
 have:=h i j h1 h2 h3
 rw[zN hx,zN hy]at this
 exact this
theorem Wr.trans{a b c:Array Keyed}{lo n:Nat}(h1:Wr a b lo n)(h2:Wr b c lo n):Wr a c lo n :=
 ⟨h2.perm.trans h1.perm,h2.size.trans h1.size,fun k hk=>(h2.out k hk).trans (h1.out k hk)⟩
theorem Wr.mono{a b:Array Keyed}{lo n lo' n':Nat}(h:Wr a b lo n)(h1:lo'<=lo)(h2:lo+n<=lo'+n'):Wr a b lo' n' :=
 ⟨h.perm,h.size,fun k hk=>h.out k (by ac_rfl)⟩
theorem K0{a:Array Keyed}{i j:Nat}(hj:j<=a.size)(bJ:i<=j):Wr a (mirror a i j ((j-i) / 2)) i (j-i) :=
 ⟨Hq.mp (mirror_perm _ _ _ _),mirror_size _ _ _ _,fun k hk=>by rw[getElem?_mirror_all hj,if_neg (by ac_rfl)]⟩
theorem Nf{a:Array Keyed}{src d:Nat}(hs:src<a.size)(hd:d<=src):Wr a (bubble a src d) (src-d) (d+1) :=
 ⟨Hq.mp (bubble_perm _ _ _),bubble_size _ _ _,fun k hk=>by rw[getElem?_bubble hs d hd,if_neg (by ac_rfl),if_neg (by ac_rfl)]⟩
def AllK(κ:KeyKind)(a:Array Keyed):Prop:=∀ i (hi:i<a.size),gu κ a[i]
theorem AllK.of{a b:Array Keyed}(h:AllK κ a)(p:b.toList.Perm a.toList):AllK κ b:=by
 intro i hi
 have hm:b[i]∈a.toList:=p.mem_iff.mp (by simp)
 obtain⟨j,hj,e⟩:=xQ hm
 rw[← e]
 simpa using h j (by simpa using hj)
end
section
variable{prog:aK}{w:World}{A:aV}{E:Value->ah->Prop}{s:ah}{κ:KeyKind}
theorem kz(hO:κ.OneLt){st:bN}(hk:SB st)(hA:AllK κ (arrOf st)){i j:Nat}{Q:Option Bool->bN->Prop}(hi:i<(arrOf st).size)(hj:j<(arrOf st).size)
  (h:Q (some (κ.blt (KK κ (arrOf st) i) (KK κ (arrOf st) j))) st):wpS (model prog w) A E s (ltAt' i j) Q st:=by
 rw[xx hi,xx hj]at h
 rw[ltAt'_eq]
 refine au (kK ?_)
 exact au (eP hi (au (eP hj (t8 hO hk (hA i hi) (hA j hj) h))))
theorem mx{jn st:bN}{lo n i j:Nat}{Q:Unit->bN->Prop}(hk:SB st)(hp:a_ st=a_ jn)(hw:Wr (arrOf jn) (arrOf st) lo n)(bJ:i<=j)(hj:j<=(arrOf jn).size)(c1:lo<=i)(c2:j<=lo+n)
  (h:∀ a8,SB a8->a_ a8=a_ jn->Wr (arrOf jn) (arrOf a8) lo n->(∀ k,KK κ (arrOf a8) k=if i<=k/\k<j then KK κ (arrOf st) (i+j-1-k)else KK κ (arrOf st) k)->Q () a8) :
  wpS (model prog w) A E s (reverseSlice' i j) Q st:=by
 have eu:j<=(arrOf st).size:=by rw[hw.size]; exact hj
 exact wpS_reverse (h _ ⟨hk.kind,hk.failed⟩ hp (hw.trans ((K0 eu bJ).mono c1 (by ac_rfl))) fun k=>KK_mirror eu k)
theorem Nh(hO:κ.OneLt){st:bN}(hk:SB st)(hA:AllK κ (arrOf st)){lo bC:Nat}(h1:1<=bC)(hsz:lo+bC<=(arrOf st).size){Q:Option Nat->bN->Prop}
  (h:∀ n ap,SB ap->a_ ap=a_ st->Wr (arrOf st) (arrOf ap) lo bC->1<=n->n<=bC->fz κ (arrOf ap) lo n->Q (some n) ap) :
  wpS (model prog w) A E s (countRun' lo bC) Q st:=by
 have one:fz κ (arrOf st) lo 1:=fun i j a1 a2 a3=>by
  have:i=j:=by ac_rfl
  subst this; exact iU _
 have go:∀ {bn:bN},Wr (arrOf st) (arrOf bn) lo bC->(arrOf bn).size=(arrOf st).size:=fun w=>w.size
 unfold countRun'
 refine au (fj (fk (I:=fun x c bQ=>bQ=st/\c=(none,x)/\fz κ (arrOf st) lo x)
  (Q:=fun c bQ=>bQ=st/\∃ n,c=(none,n)/\1<=n/\n<=bC/\fz κ (arrOf st) lo n/\(n=bC\/κ.klt (KK κ (arrOf st) (lo+n)) (KK κ (arrOf st) (lo+n-1)))) ?_ ?_ ?_) ?_)
 ·rintro x c bQ mW kZ ⟨rfl,rfl,hr⟩
  dsimp only
  refine au (kz hO hk hA (by ac_rfl) (by ac_rfl) ?_)
  cases e:κ.blt (KK κ (arrOf bQ) (lo+x)) (KK κ (arrOf bQ) (lo+x-1))with
  | true=>exact aB ⟨rfl,x,rfl,by ac_rfl,by ac_rfl,hr,.inr e⟩
  | false =>
   refine aB ⟨rfl,rfl,fun i j a1 a2 a3=>?_⟩
   by_cases hj:j<lo+x
   ·exact hr i j a1 a2 hj
   ·have eu:j=lo+x:=by ac_rfl
    subst eu
    by_cases hi:i=lo+x
    ·subst hi; exact iU _
    ·exact lT (hr i (lo+x-1) a1 (by ac_rfl) (by ac_rfl)) e
 ·rintro c bQ ⟨rfl,rfl,hr⟩
  rw[show max 1 bC=bC by ac_rfl]at hr ⊢
  exact⟨rfl,bC,rfl,by ac_rfl,by ac_rfl,hr,.inl rfl⟩
 ·exact⟨rfl,rfl,one⟩
 rintro c ap ⟨rfl,n,rfl,n1,n2,hr,hn⟩
 dsimp only
 refine cg (fun e1=>aB (h n ap hk rfl Wr.same n1 n2 hr)) fun e1=>?_
 have fq:n≠bC:=by simpa using e1
 replace hn:κ.klt (KK κ (arrOf ap) (lo+n)) (KK κ (arrOf ap) (lo+n-1)):=hn.resolve_left fq
 refine cg (fun en=>?_) fun en=>?_
 ·refine au (kz hO hk hA (by ac_rfl) (by ac_rfl) ?_)
  cases e2:κ.blt (KK κ (arrOf ap) lo) (KK κ (arrOf ap) (lo+n-1))with
  | true=>exact aB (h n ap hk rfl Wr.same n1 n2 hr)
  | false =>
   dsimp only
   rw[if_neg (by simp)]
   have rN:∀ i,lo<=i->i<lo+n->KK κ (arrOf ap) i=KK κ (arrOf ap) lo:=fun i a1 a2 =>
    Hr (lT (hr i (lo+n-1) a1 (by ac_rfl) (by ac_rfl)) e2) (hr lo i (aL _) a1 a2)
   refine au (mx (κ:=κ) (lo:=lo) (n:=bC) hk rfl Wr.same (by ac_rfl) (by ac_rfl) (by ac_rfl) (by ac_rfl) fun a8 f9 dS oh oj=>?_)
   have hD:lf κ (arrOf a8) lo (n+1):=by
    have hv:∀ i,lo<=i->i<lo+n->KK κ (arrOf a8) i=KK κ (arrOf ap) lo:=fun i a1 a2=>by
     rw[oj,if_pos ⟨a1,a2⟩]; exact rN _ (by ac_rfl) (by ac_rfl)
    have hl:κ.klt (KK κ (arrOf a8) (lo+n)) (KK κ (arrOf ap) lo):=by
     rw[oj,if_neg (by ac_rfl),← rN (lo+n-1) (by ac_rfl) (by ac_rfl)]; exact hn
    intro i j a1 a2 a3
    by_cases hj:j<lo+n
    ·rw[hv i a1 (by ac_rfl),hv j (by ac_rfl) hj]; exact iU _
    ·have eu:j=lo+n:=by ac_rfl
     subst eu
     by_cases hi:i=lo+n
     ·subst hi; exact iU _
     ·rw[hv i a1 (by ac_rfl)]; exact kg hl
   refine au (pI (jL ⟨rfl,?_⟩))
   refine au (fj (fk (I:=fun x c aI=>∃ neq,c=(none,x,neq)/\SB aI/\a_ aI=a_ ap/\Wr (arrOf ap) (arrOf aI) lo bC/\lf κ (arrOf aI) lo x/\neq+1<=x/\(∀ i,lo+x-(neq+1)<=i->i<lo+x->KK κ (arrOf aI) i=KK κ (arrOf aI) (lo+x-1)))
    (Q:=fun c aI=>∃ m neq,c=(none,m,neq)/\SB aI/\a_ aI=a_ ap/\Wr (arrOf ap) (arrOf aI) lo bC/\1<=m/\m<=bC/\lf κ (arrOf aI) lo m/\neq+1<=m/\(∀ i,lo+m-(neq+1)<=i->i<lo+m->KK κ (arrOf aI) i=KK κ (arrOf aI) (lo+m-1))) ?_ ?_ ?_) ?_)
   ·rintro x c aI mW kZ ⟨neq,rfl,cX,cW,d9,hd,hq,he⟩
    have sz3:=d9.size
    dsimp only
    refine au (kz hO cX (hA.of d9.perm) (by ac_rfl) (by ac_rfl) ?_)
    cases e3:κ.blt (KK κ (arrOf aI) (lo+x)) (KK κ (arrOf aI) (lo+x-1))with
    | true =>
     have pP:lf κ (arrOf aI) lo (x+1):=fun i j a1 a2 a3=>by
      by_cases hj:j<lo+x
      ·exact hd i j a1 a2 hj
      ·have eu:j=lo+x:=by ac_rfl
       subst eu
       by_cases hi:i=lo+x
       ·subst hi; exact iU _
       ·exact lT (kg e3) (hd i (lo+x-1) a1 (by ac_rfl) (by ac_rfl))
     dsimp only
     rw[if_pos rfl]
     refine cg (fun pN=>?_) fun pN=>?_
     ·refine au (mx (κ:=κ) (lo:=lo) (n:=bC) cX cW d9 (by ac_rfl) (by ac_rfl) (by ac_rfl) (by ac_rfl) fun bx gq eX kh pO=>?_)
      have kN:∀ k,KK κ (arrOf bx) k=KK κ (arrOf aI) k:=fun k=>by
       rw[pO]
       split
       ·rw[he _ (by ac_rfl) (by ac_rfl),he k (by ac_rfl) (by ac_rfl)]
       ·rfl
      exact aB ⟨0,rfl,gq,eX,kh,fun i j a1 a2 a3=>by rw[kN,kN]; exact pP i j a1 a2 a3,by ac_rfl,fun i a1 a2=>by congr 1; ac_rfl⟩
     ·exact aB ⟨0,rfl,cX,cW,d9,pP,by ac_rfl,fun i a1 a2=>by congr 1; ac_rfl⟩
    | false =>
     dsimp only
     rw[if_neg (by simp)]
     refine au (kz hO cX (hA.of d9.perm) (by ac_rfl) (by ac_rfl) ?_)
     cases e4:κ.blt (KK κ (arrOf aI) (lo+x-1)) (KK κ (arrOf aI) (lo+x))with
     | true=>exact aB ⟨x,neq,rfl,cX,cW,d9,by ac_rfl,by ac_rfl,hd,hq,he⟩
     | false =>
      have ex:KK κ (arrOf aI) (lo+x)=KK κ (arrOf aI) (lo+x-1):=Hr e4 e3
      refine aB ⟨neq+1,rfl,cX,cW,d9,fun i j a1 a2 a3=>?_,by ac_rfl,fun i a1 a2=>?_⟩
      ·by_cases hj:j<lo+x
       ·exact hd i j a1 a2 hj
       ·have eu:j=lo+x:=by ac_rfl
        subst eu
        by_cases hi:i=lo+x
        ·subst hi; exact iU _
        ·rw[ex]; exact hd i (lo+x-1) a1 (by ac_rfl) (by ac_rfl)
      ·rw[show lo+(x+1)-1=lo+x by ac_rfl]
       by_cases hi:i=lo+x
       ·rw[hi]
       ·rw[he i (by ac_rfl) (by ac_rfl),ex]
   ·rintro c aI ⟨neq,rfl,cX,cW,d9,hd,hq,he⟩
    rw[show max (n+1) bC=bC by ac_rfl]at hd hq he ⊢
    exact⟨bC,neq,rfl,cX,cW,d9,by ac_rfl,by ac_rfl,hd,hq,he⟩
   ·exact⟨0,rfl,f9,dS,oh,hD,by ac_rfl,fun i a1 a2=>by congr 1; ac_rfl⟩
   rintro c aI ⟨m,neq,rfl,cX,cW,d9,m1,m2,hd,hq,he⟩
   dsimp only
   refine cg (fun pN=>?_) fun pN=>?_
   ·refine au (mx (κ:=κ) (lo:=lo) (n:=bC) cX cW d9 (by ac_rfl) (by ac_rfl) (by ac_rfl) (by ac_rfl) fun bx gq eX kh pO=>?_)
    have kN:∀ k,KK κ (arrOf bx) k=KK κ (arrOf aI) k:=fun k=>by
     rw[pO]
     split
     ·rw[he _ (by ac_rfl) (by ac_rfl),he k (by ac_rfl) (by ac_rfl)]
     ·rfl
    have pU:lf κ (arrOf bx) lo m:=fun i j a1 a2 a3=>by rw[kN,kN]; exact hd i j a1 a2 a3
    refine au (mx (κ:=κ) (lo:=lo) (n:=bC) gq eX kh (by ac_rfl) (by ac_rfl) (by ac_rfl) (by ac_rfl) fun bn i5 pV k7 kP=>?_)
    have pW:fz κ (arrOf bn) lo m:=fun i j a1 a2 a3=>by
     rw[kP,kP,if_pos ⟨a1,by ac_rfl⟩,if_pos ⟨by ac_rfl,a3⟩]
     exact pU _ _ (by ac_rfl) (by ac_rfl) (by ac_rfl)
    have sz5:=k7.size
    refine au (fj (fk (I:=fun x c bQ=>bQ=bn/\c=(none,x)/\fz κ (arrOf bn) lo x)
     (Q:=fun c bQ=>bQ=bn/\∃ n,c=(none,n)/\1<=n/\n<=bC/\fz κ (arrOf bn) lo n/\(n=bC\/κ.klt (KK κ (arrOf bn) (lo+n)) (KK κ (arrOf bn) (lo+n-1)))) ?_ ?_ ?_) ?_)
    ·rintro x c bQ mW kZ ⟨rfl,rfl,hr⟩
     dsimp only
     refine au (kz hO i5 (hA.of k7.perm) (by ac_rfl) (by ac_rfl) ?_)
     cases e:κ.blt (KK κ (arrOf bQ) (lo+x)) (KK κ (arrOf bQ) (lo+x-1))with
     | true=>exact aB ⟨rfl,x,rfl,by ac_rfl,by ac_rfl,hr,.inr e⟩
     | false =>
      refine aB ⟨rfl,rfl,fun i j a1 a2 a3=>?_⟩
      by_cases hj:j<lo+x
      ·exact hr i j a1 a2 hj
      ·have eu:j=lo+x:=by ac_rfl
       subst eu
       by_cases hi:i=lo+x
       ·subst hi; exact iU _
       ·exact lT (hr i (lo+x-1) a1 (by ac_rfl) (by ac_rfl)) e
    ·rintro c bQ ⟨rfl,rfl,hr⟩
     rw[show max m bC=bC by ac_rfl]at hr ⊢
     exact⟨rfl,bC,rfl,by ac_rfl,by ac_rfl,hr,.inl rfl⟩
    ·exact⟨rfl,rfl,pW⟩
    rintro c bQ ⟨rfl,q,rfl,q1,q2,pX,_⟩
    exact aB (h q bQ i5 pV k7 q1 q2 pX)
   ·have gq:=cX
    have eX:=cW
    have kh:=d9
    have pU:=hd
    refine au (mx (κ:=κ) (lo:=lo) (n:=bC) gq eX kh (by ac_rfl) (by ac_rfl) (by ac_rfl) (by ac_rfl) fun bn i5 pV k7 kP=>?_)
    have pW:fz κ (arrOf bn) lo m:=fun i j a1 a2 a3=>by
     rw[kP,kP,if_pos ⟨a1,by ac_rfl⟩,if_pos ⟨by ac_rfl,a3⟩]
     exact pU _ _ (by ac_rfl) (by ac_rfl) (by ac_rfl)
    have sz5:=k7.size
    refine au (fj (fk (I:=fun x c bQ=>bQ=bn/\c=(none,x)/\fz κ (arrOf bn) lo x)
     (Q:=fun c bQ=>bQ=bn/\∃ n,c=(none,n)/\1<=n/\n<=bC/\fz κ (arrOf bn) lo n/\(n=bC\/κ.klt (KK κ (arrOf bn) (lo+n)) (KK κ (arrOf bn) (lo+n-1)))) ?_ ?_ ?_) ?_)
    ·rintro x c bQ mW kZ ⟨rfl,rfl,hr⟩
     dsimp only
     refine au (kz hO i5 (hA.of k7.perm) (by ac_rfl) (by ac_rfl) ?_)
     cases e:κ.blt (KK κ (arrOf bQ) (lo+x)) (KK κ (arrOf bQ) (lo+x-1))with
     | true=>exact aB ⟨rfl,x,rfl,by ac_rfl,by ac_rfl,hr,.inr e⟩
     | false =>
      refine aB ⟨rfl,rfl,fun i j a1 a2 a3=>?_⟩
      by_cases hj:j<lo+x
      ·exact hr i j a1 a2 hj
      ·have eu:j=lo+x:=by ac_rfl
       subst eu
       by_cases hi:i=lo+x
       ·subst hi; exact iU _
       ·exact lT (hr i (lo+x-1) a1 (by ac_rfl) (by ac_rfl)) e
    ·rintro c bQ ⟨rfl,rfl,hr⟩
     rw[show max m bC=bC by ac_rfl]at hr ⊢
     exact⟨rfl,bC,rfl,by ac_rfl,by ac_rfl,hr,.inl rfl⟩
    ·exact⟨rfl,rfl,pW⟩
    rintro c bQ ⟨rfl,q,rfl,q1,q2,pX,_⟩
    exact aB (h q bQ i5 pV k7 q1 q2 pX)
 ·have en':n=1:=by ac_rfl
  subst en'
  obtain⟨a8,uG⟩:∃ a8,a8=ap:=⟨_,rfl⟩
  have f9:SB a8:=by rw[uG]; exact hk
  have dS:a_ a8=a_ ap:=by rw[uG]
  have oh:Wr (arrOf ap) (arrOf a8) lo bC:=by rw[uG]; exact Wr.same
  have hD:lf κ (arrOf a8) lo (1+1):=by
   rw[uG]
   intro i j a1 a2 a3
   by_cases hi:i=j
   ·subst hi; exact iU _
   ·have e1:i=lo+1-1:=by ac_rfl
    have e2:j=lo+1:=by ac_rfl
    rw[e1,e2]; exact kg hn
  rw[← uG]
  refine au (pI (jL ⟨rfl,?_⟩))
  refine au (fj (fk (I:=fun x c aI=>∃ neq,c=(none,x,neq)/\SB aI/\a_ aI=a_ ap/\Wr (arrOf ap) (arrOf aI) lo bC/\lf κ (arrOf aI) lo x/\neq+1<=x/\(∀ i,lo+x-(neq+1)<=i->i<lo+x->KK κ (arrOf aI) i=KK κ (arrOf aI) (lo+x-1)))
   (Q:=fun c aI=>∃ m neq,c=(none,m,neq)/\SB aI/\a_ aI=a_ ap/\Wr (arrOf ap) (arrOf aI) lo bC/\1<=m/\m<=bC/\lf κ (arrOf aI) lo m/\neq+1<=m/\(∀ i,lo+m-(neq+1)<=i->i<lo+m->KK κ (arrOf aI) i=KK κ (arrOf aI) (lo+m-1))) ?_ ?_ ?_) ?_)
  ·rintro x c aI mW kZ ⟨neq,rfl,cX,cW,d9,hd,hq,he⟩
   have sz3:=d9.size
   dsimp only
   refine au (kz hO cX (hA.of d9.perm) (by ac_rfl) (by ac_rfl) ?_)
   cases e3:κ.blt (KK κ (arrOf aI) (lo+x)) (KK κ (arrOf aI) (lo+x-1))with
   | true =>
    have pP:lf κ (arrOf aI) lo (x+1):=fun i j a1 a2 a3=>by
     by_cases hj:j<lo+x
     ·exact hd i j a1 a2 hj
     ·have eu:j=lo+x:=by ac_rfl
      subst eu
      by_cases hi:i=lo+x
      ·subst hi; exact iU _
      ·exact lT (kg e3) (hd i (lo+x-1) a1 (by ac_rfl) (by ac_rfl))
    dsimp only
    rw[if_pos rfl]
    refine cg (fun pN=>?_) fun pN=>?_
    ·refine au (mx (κ:=κ) (lo:=lo) (n:=bC) cX cW d9 (by ac_rfl) (by ac_rfl) (by ac_rfl) (by ac_rfl) fun bx gq eX kh pO=>?_)
     have kN:∀ k,KK κ (arrOf bx) k=KK κ (arrOf aI) k:=fun k=>by
      rw[pO]
      split
      ·rw[he _ (by ac_rfl) (by ac_rfl),he k (by ac_rfl) (by ac_rfl)]
      ·rfl
     exact aB ⟨0,rfl,gq,eX,kh,fun i j a1 a2 a3=>by rw[kN,kN]; exact pP i j a1 a2 a3,by ac_rfl,fun i a1 a2=>by congr 1; ac_rfl⟩
    ·exact aB ⟨0,rfl,cX,cW,d9,pP,by ac_rfl,fun i a1 a2=>by congr 1; ac_rfl⟩
   | false =>
    dsimp only
    rw[if_neg (by simp)]
    refine au (kz hO cX (hA.of d9.perm) (by ac_rfl) (by ac_rfl) ?_)
    cases e4:κ.blt (KK κ (arrOf aI) (lo+x-1)) (KK κ (arrOf aI) (lo+x))with
    | true=>exact aB ⟨x,neq,rfl,cX,cW,d9,by ac_rfl,by ac_rfl,hd,hq,he⟩
    | false =>
     have ex:KK κ (arrOf aI) (lo+x)=KK κ (arrOf aI) (lo+x-1):=Hr e4 e3
     refine aB ⟨neq+1,rfl,cX,cW,d9,fun i j a1 a2 a3=>?_,by ac_rfl,fun i a1 a2=>?_⟩
     ·by_cases hj:j<lo+x
      ·exact hd i j a1 a2 hj
      ·have eu:j=lo+x:=by ac_rfl
       subst eu
       by_cases hi:i=lo+x
       ·subst hi; exact iU _
       ·rw[ex]; exact hd i (lo+x-1) a1 (by ac_rfl) (by ac_rfl)
     ·rw[show lo+(x+1)-1=lo+x by ac_rfl]
      by_cases hi:i=lo+x
      ·rw[hi]
      ·rw[he i (by ac_rfl) (by ac_rfl),ex]
  ·rintro c aI ⟨neq,rfl,cX,cW,d9,hd,hq,he⟩
   rw[show max (1+1) bC=bC by ac_rfl]at hd hq he ⊢
   exact⟨bC,neq,rfl,cX,cW,d9,by ac_rfl,by ac_rfl,hd,hq,he⟩
  ·exact⟨0,rfl,f9,dS,oh,hD,by ac_rfl,fun i a1 a2=>by congr 1; ac_rfl⟩
  rintro c aI ⟨m,neq,rfl,cX,cW,d9,m1,m2,hd,hq,he⟩
  dsimp only
  refine cg (fun pN=>?_) fun pN=>?_
  ·refine au (mx (κ:=κ) (lo:=lo) (n:=bC) cX cW d9 (by ac_rfl) (by ac_rfl) (by ac_rfl) (by ac_rfl) fun bx gq eX kh pO=>?_)
   have kN:∀ k,KK κ (arrOf bx) k=KK κ (arrOf aI) k:=fun k=>by
    rw[pO]
    split
    ·rw[he _ (by ac_rfl) (by ac_rfl),he k (by ac_rfl) (by ac_rfl)]
    ·rfl
   have pU:lf κ (arrOf bx) lo m:=fun i j a1 a2 a3=>by rw[kN,kN]; exact hd i j a1 a2 a3
   refine au (mx (κ:=κ) (lo:=lo) (n:=bC) gq eX kh (by ac_rfl) (by ac_rfl) (by ac_rfl) (by ac_rfl) fun bn i5 pV k7 kP=>?_)
   have pW:fz κ (arrOf bn) lo m:=fun i j a1 a2 a3=>by
    rw[kP,kP,if_pos ⟨a1,by ac_rfl⟩,if_pos ⟨by ac_rfl,a3⟩]
    exact pU _ _ (by ac_rfl) (by ac_rfl) (by ac_rfl)
   have sz5:=k7.size
   refine au (fj (fk (I:=fun x c bQ=>bQ=bn/\c=(none,x)/\fz κ (arrOf bn) lo x)
    (Q:=fun c bQ=>bQ=bn/\∃ n,c=(none,n)/\1<=n/\n<=bC/\fz κ (arrOf bn) lo n/\(n=bC\/κ.klt (KK κ (arrOf bn) (lo+n)) (KK κ (arrOf bn) (lo+n-1)))) ?_ ?_ ?_) ?_)
   ·rintro x c bQ mW kZ ⟨rfl,rfl,hr⟩
    dsimp only
    refine au (kz hO i5 (hA.of k7.perm) (by ac_rfl) (by ac_rfl) ?_)
    cases e:κ.blt (KK κ (arrOf bQ) (lo+x)) (KK κ (arrOf bQ) (lo+x-1))with
    | true=>exact aB ⟨rfl,x,rfl,by ac_rfl,by ac_rfl,hr,.inr e⟩
    | false =>
     refine aB ⟨rfl,rfl,fun i j a1 a2 a3=>?_⟩
     by_cases hj:j<lo+x
     ·exact hr i j a1 a2 hj
     ·have eu:j=lo+x:=by ac_rfl
      subst eu
      by_cases hi:i=lo+x
      ·subst hi; exact iU _
      ·exact lT (hr i (lo+x-1) a1 (by ac_rfl) (by ac_rfl)) e
   ·rintro c bQ ⟨rfl,rfl,hr⟩
    rw[show max m bC=bC by ac_rfl]at hr ⊢
    exact⟨rfl,bC,rfl,by ac_rfl,by ac_rfl,hr,.inl rfl⟩
   ·exact⟨rfl,rfl,pW⟩
   rintro c bQ ⟨rfl,q,rfl,q1,q2,pX,_⟩
   exact aB (h q bQ i5 pV k7 q1 q2 pX)
  ·have gq:=cX
   have eX:=cW
   have kh:=d9
   have pU:=hd
   refine au (mx (κ:=κ) (lo:=lo) (n:=bC) gq eX kh (by ac_rfl) (by ac_rfl) (by ac_rfl) (by ac_rfl) fun bn i5 pV k7 kP=>?_)
   have pW:fz κ (arrOf bn) lo m:=fun i j a1 a2 a3=>by
    rw[kP,kP,if_pos ⟨a1,by ac_rfl⟩,if_pos ⟨by ac_rfl,a3⟩]
    exact pU _ _ (by ac_rfl) (by ac_rfl) (by ac_rfl)
   have sz5:=k7.size
   refine au (fj (fk (I:=fun x c bQ=>bQ=bn/\c=(none,x)/\fz κ (arrOf bn) lo x)
    (Q:=fun c bQ=>bQ=bn/\∃ n,c=(none,n)/\1<=n/\n<=bC/\fz κ (arrOf bn) lo n/\(n=bC\/κ.klt (KK κ (arrOf bn) (lo+n)) (KK κ (arrOf bn) (lo+n-1)))) ?_ ?_ ?_) ?_)
   ·rintro x c bQ mW kZ ⟨rfl,rfl,hr⟩
    dsimp only
    refine au (kz hO i5 (hA.of k7.perm) (by ac_rfl) (by ac_rfl) ?_)
    cases e:κ.blt (KK κ (arrOf bQ) (lo+x)) (KK κ (arrOf bQ) (lo+x-1))with
    | true=>exact aB ⟨rfl,x,rfl,by ac_rfl,by ac_rfl,hr,.inr e⟩
    | false =>
     refine aB ⟨rfl,rfl,fun i j a1 a2 a3=>?_⟩
     by_cases hj:j<lo+x
     ·exact hr i j a1 a2 hj
     ·have eu:j=lo+x:=by ac_rfl
      subst eu
      by_cases hi:i=lo+x
      ·subst hi; exact iU _
      ·exact lT (hr i (lo+x-1) a1 (by ac_rfl) (by ac_rfl)) e
   ·rintro c bQ ⟨rfl,rfl,hr⟩
    rw[show max m bC=bC by ac_rfl]at hr ⊢
    exact⟨rfl,bC,rfl,by ac_rfl,by ac_rfl,hr,.inl rfl⟩
   ·exact⟨rfl,rfl,pW⟩
   rintro c bQ ⟨rfl,q,rfl,q1,q2,pX,_⟩
   exact aB (h q bQ i5 pV k7 q1 q2 pX)
end
end L2
namespace L2
section
variable{prog:aK}{w:World}{A:aV}{E:Value->ah->Prop}{s:ah}{κ:KeyKind}
theorem Im{jn st:bN}{lo n src dst:Nat}{Q:Unit->bN->Prop}(hk:SB st)(hp:a_ st=a_ jn)(hw:Wr (arrOf jn) (arrOf st) lo n)(bJ:dst<=src)(hj:src<(arrOf jn).size)(c1:lo<=dst)(c2:src<lo+n)
  (h:∀ a8,SB a8->a_ a8=a_ jn->Wr (arrOf jn) (arrOf a8) lo n->(∀ k,KK κ (arrOf a8) k=if k=dst then KK κ (arrOf st) src else if dst<k/\k<=src then KK κ (arrOf st) (k-1)else KK κ (arrOf st) k)->Q () a8) :
  wpS (model prog w) A E s (moveDown' src dst) Q st:=by
 have eu:src<(arrOf st).size:=by rw[hw.size]; exact hj
 rw[moveDown'_eq]
 refine mQ (h _ ⟨hk.kind,hk.failed⟩ hp (hw.trans ((Nf eu (show src-dst<=src by ac_rfl)).mono (by ac_rfl) (by ac_rfl))) fun k=>?_)
 have:=KK_bubble (κ:=κ) eu (show src-dst<=src by ac_rfl) k
 rw[show src-(src-dst)=dst by ac_rfl]at this
 exact this
theorem PU(hO:κ.OneLt){st:bN}(hk:SB st)(hA:AllK κ (arrOf st)){lo n ok:Nat}(hok:ok<=n)(hsz:lo+n<=(arrOf st).size)(hr:fz κ (arrOf st) lo ok){Q:Bool->bN->Prop}
  (h:∀ ap,SB ap->a_ ap=a_ st->Wr (arrOf st) (arrOf ap) lo n->fz κ (arrOf ap) lo n->Q true ap) :
  wpS (model prog w) A E s (binarySort' lo n ok) Q st:=by
 unfold binarySort'
 refine au (fj (fk (I:=fun k c b_=>c=(none,())/\SB b_/\a_ b_=a_ st/\Wr (arrOf st) (arrOf b_) lo n/\fz κ (arrOf b_) lo (min k n))
  (Q:=fun c b_=>c=(none,())/\SB b_/\a_ b_=a_ st/\Wr (arrOf st) (arrOf b_) lo n/\fz κ (arrOf b_) lo n) ?_ ?_ ?_) ?_)
 ·rintro k c b_ mV f9 ⟨rfl,rV,eY,pY,jT⟩
  have sz:=pY.size
  rw[show min k n=k by ac_rfl]at jT
  refine au (fj (fk (I:=fun x c a8=>a8=b_/\∃ l r,c=(none,l,r)/\l<=r/\r<=k/\r-l<=k-x /\
    (∀ i,i<l->κ.kle (KK κ (arrOf b_) (lo+i)) (KK κ (arrOf b_) (lo+k)))/\(∀ i,r<=i->i<k->κ.klt (KK κ (arrOf b_) (lo+k)) (KK κ (arrOf b_) (lo+i))))
   (Q:=fun c a8=>a8=b_/\∃ l r,c=(none,l,r)/\l<=k /\
    (∀ i,i<l->κ.kle (KK κ (arrOf b_) (lo+i)) (KK κ (arrOf b_) (lo+k)))/\(∀ i,l<=i->i<k->κ.klt (KK κ (arrOf b_) (lo+k)) (KK κ (arrOf b_) (lo+i)))) ?_ ?_ ?_) ?_)
  ·rintro x c a8 _ hx ⟨rfl,l,r,rfl,a1,a2,a3,a4,a5⟩
   dsimp only
   refine cg (fun fM=>?_) fun fM=>?_
   ·have:l=r:=by ac_rfl
    subst this
    exact aB ⟨rfl,l,l,rfl,a2,a4,a5⟩
   ·refine au (kz hO rV (hA.of pY.perm) (by ac_rfl) (by ac_rfl) ?_)
    cases e:κ.blt (KK κ (arrOf a8) (lo+k)) (KK κ (arrOf a8) (lo+(l+r) / 2))with
    | true=>exact aB ⟨rfl,l,(l+r) / 2,rfl,by ac_rfl,by ac_rfl,by ac_rfl,a4,fun i h1 h2=>KeyOrd.klt_of_klt_of_kle e (jT _ _ (by ac_rfl) (by ac_rfl) (by ac_rfl))⟩
    | false=>exact aB ⟨rfl,(l+r) / 2+1,r,rfl,by ac_rfl,by ac_rfl,by ac_rfl,fun i h1=>lT (jT (lo+i) (lo+(l+r) / 2) (by ac_rfl) (by ac_rfl) (by ac_rfl)) e,a5⟩
  ·rintro c a8 ⟨rfl,l,r,rfl,a1,a2,a3,a4,a5⟩
   have:l=r:=by ac_rfl
   subst this
   exact⟨rfl,l,l,rfl,a2,a4,a5⟩
  ·exact⟨rfl,0,k,rfl,by ac_rfl,by ac_rfl,by ac_rfl,fun i hi=>by ac_rfl,fun i h1 h2=>by ac_rfl⟩
  ·rintro c a8 ⟨rfl,l,r,rfl,a2,a4,a5⟩
   dsimp only
   refine au (Im (κ:=κ) (lo:=lo) (n:=n) rV eY pY (by ac_rfl) (by ac_rfl) (by ac_rfl) (by ac_rfl) fun aI hb3 cW d9 oj=>aB ⟨rfl,hb3,cW,d9,?_⟩)
   rw[show min (k+1) n=k+1 by ac_rfl]
   intro i j c1 c2 c3
   rw[oj,oj]
   repeat' split
   all_goals first
    | (exfalso; ac_rfl)
    | exact iU _
    | (have:=a4 (i-lo) (by ac_rfl); rw[show lo+(i-lo)=i by ac_rfl]at this; exact this)
    | (have:=a5 (j-1-lo) (by ac_rfl) (by ac_rfl); rw[show lo+(j-1-lo)=j-1 by ac_rfl]at this; exact kg this)
    | exact jT _ _ (by ac_rfl) (by ac_rfl) (by ac_rfl)
 ·rintro c b_ ⟨rfl,rV,eY,pY,jT⟩
  rw[show min (max (max ok 1) n) n=n by ac_rfl]at jT
  exact⟨rfl,rV,eY,pY,jT⟩
 ·refine⟨rfl,hk,rfl,Wr.same,fun i j c1 c2 c3=>?_⟩
  by_cases h1:ok=0
  ·have:i=j:=by ac_rfl
   subst this; exact iU _
  ·exact hr i j c1 c2 (by ac_rfl)
 ·rintro c b_ ⟨rfl,rV,eY,pY,jT⟩
  exact aB (h b_ rV eY pY jT)
end
end L2
namespace L2
theorem Mb{c:Prop}[Decidable c]{a b n:Nat}(h1:a+1<n)(h2:b+1<n):(if c then a else b)+1<n:=by
 split <;> assumption
def j3:Nat->List (Nat×Nat)->Nat->Prop
 | f,[],t=>f=t
 | f,(a,n)::l,t=>a=f/\0<n/\j3 (f+n) l t
theorem j3.app:∀ {l1:List (Nat×Nat)} {f t:Nat} {l2:List (Nat×Nat)},j3 f (l1++l2) t↔∃ m,j3 f l1 m/\j3 m l2 t
 | [],f,t,l2=>by simp[j3]
 | (a,n)::l1,f,t,l2=>by
  simp only[List.cons_append,j3,j3.app (l1:=l1)]
  constructor
  ·rintro⟨h1,h2,m,h3,h4⟩; exact⟨m,⟨h1,h2,h3⟩,h4⟩
  ·rintro⟨m,⟨h1,h2,h3⟩,h4⟩; exact⟨h1,h2,m,h3,h4⟩
theorem j3.le:∀ {l:List (Nat×Nat)} {f t:Nat},j3 f l t->f+l.length<=t/\∀ e∈l,f<=e.1/\e.1+e.2<=t
 | [],f,t,h=>⟨by cases h; simp,by simp⟩
 | (a,n)::l,f,t,⟨h1,h2,h3⟩=>by
  obtain⟨i1,i2⟩:=j3.le h3
  refine⟨by simp; ac_rfl,fun e he=>?_⟩
  rcases bH.mp he with rfl | he
  ·subst h1; exact⟨aL _,by simp; ac_rfl⟩
  ·have:=i2 e he; exact⟨by ac_rfl,this.2⟩
def PL(pd:Array (Nat×Nat×Nat)):List (Nat×Nat):=pd.toList.map fun e=>(e.1,e.2.1)
structure ip(κ:KeyKind)(arr:Array Keyed)(pd:Array (Nat×Nat×Nat))(lo:Nat):Prop where
 ch:j3 0 (PL pd) lo
 run:∀ e∈PL pd,Run κ arr e.1 e.2
theorem vC(pd:Array (Nat×Nat×Nat)):(PL pd).length=pd.size:=by simp[PL]
theorem nr(pd:Array (Nat×Nat×Nat))(e:Nat×Nat×Nat):PL (pd.push e)=PL pd++[(e.1,e.2.1)]:=by simp[PL]
theorem xn(pd:Array (Nat×Nat×Nat))(k pw:Nat):PL (pd.modify k fun x=>(x.1,x.2.1,pw))=PL pd:=by
 apply jN
 intro i
 simp only[PL,iA,Bc,Array.getElem?_modify]
 split
 ·cases pd[i]? <;> rfl
 ·rfl
theorem JJ{pd:Array (Nat×Nat×Nat)}{i:Nat}(h:i+1<pd.size):∃ l1 l2 sa na pa sb nb pb,pd[i]?=some (sa,na,pa)/\pd[i+1]?=some (sb,nb,pb)/\PL pd=l1++(sa,na)::(sb,nb)::l2 /\
  PL ((pd.setIfInBounds i (sa,na+nb,pa)).eraseIdxIfInBounds (i+1))=l1++(sa,na+nb)::l2:=by
 obtain⟨l⟩:=pd
 simp only[cA]at h
 have e:l=l.take i++l[i]::l[i+1]::l.drop (i+2):=by
  rw[← xN,← xN,lU]
 obtain⟨l1,x,y,l2,hl,e2⟩:∃ l1 x y l2,l1.length=i/\l=l1++x::y::l2:=⟨l.take i,l[i],l[i+1],l.drop (i+2),by simp; ac_rfl,e⟩
 subst hl e2
 obtain⟨sa,na,pa⟩:=x
 obtain⟨sb,nb,pb⟩:=y
 refine⟨l1.map fun e=>(e.1,e.2.1),l2.map fun e=>(e.1,e.2.1),sa,na,pa,sb,nb,pb,by simp,by simp[jJ],by simp[PL],?_⟩
 have e3:((l1++(sa,na,pa)::(sb,nb,pb)::l2).toArray.setIfInBounds l1.length (sa,na+nb,pa)).eraseIdxIfInBounds (l1.length+1)=(l1++(sa,na+nb,pa)::l2).toArray:=by
  rw[List.setIfInBounds_toArray,List.set_append_right _ _ (aL _),List.eraseIdxIfInBounds_toArray]
  congr 1
  rw[List.eraseIdx_append_of_length_le (by ac_rfl)]
  simp
 rw[e3]
 simp[PL]
section
variable{prog:aK}{w:World}{A:aV}{E:Value->ah->Prop}{s:ah}{κ:KeyKind}
theorem ip.keep{a a':Array Keyed}{pd:Array (Nat×Nat×Nat)}{lo n:Nat}(h:ip κ a pd lo)(w:Wr a a' lo n):ip κ a' pd lo :=
 ⟨h.ch,fun e he=>(h.run e he).keep w (.inl (h.ch.le.2 e he).2)⟩
theorem zJ(hO:κ.OneLt){st:bN}(hk:SB st)(hA:AllK κ (arrOf st)){i lo:Nat}(hP:ip κ (arrOf st) (a_ st) lo)(hlo:lo<=(arrOf st).size)(hi:i+1<(a_ st).size){Q:Bool->bN->Prop}
  (h:∀ ap,SB ap->Wr (arrOf st) (arrOf ap) 0 lo->ip κ (arrOf ap) (a_ ap) lo->(a_ ap).size+1=(a_ st).size->Q true ap) :
  wpS (model prog w) A E s (mergeAt' i) Q st:=by
 obtain⟨l1,l2,sa,na,pa,sb,nb,pb,e1,e2,e3,e4⟩:=JJ hi
 have hc:=hP.ch
 rw[e3]at hc
 obtain⟨m,c1,c2,c3,c4,c5,c6⟩:=j3.app.mp hc
 subst c2 c4
 have b1:=c1.le
 have b2:=c6.le
 have r1:Run κ (arrOf st) sa na:=hP.run (sa,na) (by rw[e3]; simp)
 have r2:Run κ (arrOf st) (sa+na) nb:=hP.run (sa+na,nb) (by rw[e3]; simp)
 refine Lr hO hk hA e1 e2 c3 c5 (by ac_rfl) r1 r2 fun ap uV g9 hw hr=>h ap uV (hw.mono (by ac_rfl) (by ac_rfl)) ⟨?_,?_⟩ ?_
 ·rw[g9,e4]
  exact j3.app.mpr ⟨sa,c1,rfl,by ac_rfl,by rw[← ur]; exact c6⟩
 ·rw[g9,e4]
  intro e he
  rcases dO.mp he with he | he
  ·exact(hP.run e (by rw[e3]; exact AO _ he)).keep hw (.inl (b1.2 e he).2)
  ·rcases bH.mp he with rfl | he
   ·exact hr
   ·exact(hP.run e (by rw[e3]; simp[he])).keep hw (.inr (by have:=(b2.2 e he).1; ac_rfl))
 ·have q1:=vC (a_ ap)
  have q2:=vC (a_ st)
  rw[g9,e4]at q1
  rw[e3]at q2
  rw[g9,← q1,← q2]; simp; ac_rfl
theorem Jt(hO:κ.OneLt){st:bN}(hk:SB st)(hA:AllK κ (arrOf st))(hp:a_ st = #[]){Q:Unit->bN->Prop}
  (h:∀ ap,SB ap->(arrOf ap).toList.Perm (arrOf st).toList->Run κ (arrOf ap) 0 (arrOf st).size->Q () ap) :
  wpS (model prog w) A E s sortRuns' Q st:=by
 unfold sortRuns'
 refine au (kK ?_)
 dsimp only
 obtain⟨size,Rm⟩:∃ size,size=(arrOf st).size:=⟨_,rfl⟩
 have Rb:((sortPriv% PySem.Builtin.SortState.a) st).size=size:=Rm.symm
 simp only[Rb]
 refine au (fj (fk (I:=fun x c b_=>∃ lo,c=(none,lo)/\x<=lo/\lo<=size/\SB b_/\(arrOf b_).toList.Perm (arrOf st).toList/\(arrOf b_).size=size/\ip κ (arrOf b_) (a_ b_) lo)
  (Q:=fun c b_=>c=(none,size)/\SB b_/\(arrOf b_).toList.Perm (arrOf st).toList/\(arrOf b_).size=size/\ip κ (arrOf b_) (a_ b_) size) ?_ ?_ ?_) ?_)
 rotate_left
 ·rintro c b_ ⟨lo,rfl,b1,b2,mV,eY,pZ,hP⟩
  have:lo=size:=by ac_rfl
  subst this
  exact⟨rfl,mV,eY,pZ,hP⟩
 ·exact⟨0,rfl,by ac_rfl,by ac_rfl,hk,lS _,Rm.symm,by rw[hp]; exact⟨rfl,by simp[PL]⟩⟩
 ·rintro c b_ ⟨rfl,mV,eY,pZ,hP⟩
  dsimp only
  refine au (fj (fk (I:=fun x c a8=>c=(none,())/\SB a8/\(arrOf a8).toList.Perm (arrOf st).toList/\(arrOf a8).size=size/\ip κ (arrOf a8) (a_ a8) size/\(a_ a8).size+x<=size+1)
   (Q:=fun c a8=>c=(none,())/\SB a8/\(arrOf a8).toList.Perm (arrOf st).toList/\(arrOf a8).size=size/\ip κ (arrOf a8) (a_ a8) size/\(a_ a8).size<=1) ?_ ?_ ?_) ?_)
  ·rintro x c a8 _ hx ⟨rfl,f9,dS,jk,u7,hb⟩
   refine au (kK ?_)
   refine cg (fun e1=>aB ⟨rfl,f9,dS,jk,u7,e1⟩) fun e1=>?_
   have fq:1<(a_ a8).size:=Nat.lt_of_not_le e1
   refine au (zJ hO f9 (hA.of dS) u7 (by ac_rfl) ?_ fun aI cX d9 u8 hq=>?_)
   ·exact Mb (show(a_ a8).size-2-1+1<(a_ a8).size by ac_rfl) (show(a_ a8).size-2+1<(a_ a8).size by ac_rfl)
   ·exact aB ⟨rfl,cX,d9.perm.trans dS,d9.size.trans jk,u8,by ac_rfl⟩
  ·rintro c a8 ⟨rfl,f9,dS,jk,u7,hb⟩
   exact⟨rfl,f9,dS,jk,u7,by ac_rfl⟩
  ·have:=hP.ch.le.1
   rw[vC]at this
   exact⟨rfl,mV,eY,pZ,hP,by ac_rfl⟩
  ·rintro c a8 ⟨rfl,f9,dS,jk,u7,hb⟩
   refine aB (h a8 f9 dS ?_)
   rw[← Rm]
   have hc:=u7.ch
   have hr:=u7.run
   have hl:=vC (a_ a8)
   match hq:PL (a_ a8),hc,hr,hl with
   | [],hc,hr,hl =>
    cases hc
    intro i j x y a1 a2 a3; ac_rfl
   | [(a,n)],hc,hr,hl =>
    obtain⟨d1,d2,d3⟩:=hc
    cases d1
    have d3':0+n=size:=d3
    have:=hr (0,n) (by simp)
    rw[show size=n by ac_rfl]; exact this
   | _::_::_,hc,hr,hl=>simp at hl; ac_rfl
 rintro x c b_ _ hx ⟨lo,rfl,b1,b2,mV,eY,pZ,hP⟩
 dsimp only
 refine cg (fun e1=>?_) fun e1=>?_
 ·have:lo=size:=by ac_rfl
  subst this
  exact aB ⟨rfl,mV,eY,pZ,hP⟩
 refine au (Nh hO mV (hA.of eY) (by ac_rfl) (by ac_rfl) fun cV a8 f9 u9 oh f1 f2 n9=>?_)
 dsimp only
 refine cg (fun e2=>?_) fun e2=>?_
 ·refine au (pI (jL ⟨rfl,?_⟩))
  refine au (PU hO f9 ((hA.of eY).of oh.perm) (by ac_rfl) (by rw[oh.size]; ac_rfl) n9 fun aI cX hq3 d9 hr3=>?_)
  rw[if_neg (by simp)]
  have hw:Wr (arrOf b_) (arrOf aI) lo (size-lo):=oh.trans (d9.mono (by ac_rfl) (by ac_rfl))
  have u_:a_ aI=a_ b_:=hq3.trans u9
  generalize hn:min (size-lo) _=n at *
  have n1:0<n:=by ac_rfl
  have n2:lo+n<=size:=by ac_rfl
  clear f9 oh n9 u9 d9 hq3
  have u8:ip κ (arrOf aI) (a_ aI) lo:=by rw[u_]; exact hP.keep hw
  have cW:(arrOf aI).toList.Perm (arrOf st).toList:=hw.perm.trans eY
  have n8:(arrOf aI).size=size:=hw.size.trans pZ
  have hR:Run κ (arrOf aI) lo n:=hr3.run
  clear hw u_
  refine au (kK ?_)
  obtain⟨kd,arr,pd,mg,fl⟩:=aI
  dsimp only
  cases hbk:pd.back? with
  | none =>
   dsimp only
   refine au (mQ (aB ⟨lo+n,rfl,by ac_rfl,n2,⟨cX.kind,cX.failed⟩,cW,n8,?_⟩))
   refine⟨?_,?_⟩
   ·show j3 0 (PL (pd.push (lo,n,0))) _
    rw[nr]; exact j3.app.mpr ⟨lo,u8.ch,rfl,n1,rfl⟩
   ·show ∀ e∈PL (pd.push (lo,n,0)),_
    rw[nr]
    intro e he
    rcases dO.mp he with he | he
    ·exact u8.run e he
    ·rw[f8.mp he]; exact hR
  | some bk =>
   obtain⟨s1,m1,q1⟩:=bk
   dsimp only
   refine au (fj (fk (I:=fun x c bx=>c=(none,())/\SB bx/\(arrOf bx).toList.Perm (arrOf st).toList/\(arrOf bx).size=size/\ip κ (arrOf bx) (a_ bx) lo/\Run κ (arrOf bx) lo n)
    (Q:=fun c bx=>c=(none,())/\SB bx/\(arrOf bx).toList.Perm (arrOf st).toList/\(arrOf bx).size=size/\ip κ (arrOf bx) (a_ bx) lo/\Run κ (arrOf bx) lo n) ?_ (fun _ _ hh=>hh) ?_) ?_)
   ·rintro y c bx _ hy ⟨rfl,gq,eX,mX,p0,p7⟩
    refine au (kK ?_)
    have uD:∀ {bn:bN},bn=bx->((none,()):Option Unit×Unit)=(none,())/\SB bn/\(arrOf bn).toList.Perm (arrOf st).toList/\(arrOf bn).size=size/\ip κ (arrOf bn) (a_ bn) lo/\Run κ (arrOf bn) lo n:=fun e=>by
     subst e; exact⟨rfl,gq,eX,mX,p0,p7⟩
    by_cases hg:1<(a_ bx).size
    ·obtain⟨kd4,arr4,pd4,mg4,fl4⟩:=bx
     have kW:pd4.size > 1:=hg
     dsimp only
     rw[if_pos kW,getElem?_pos pd4 (pd4.size-2) (by ac_rfl)]
     obtain⟨u1,u2,u3⟩:=pd4[pd4.size-2]
     dsimp only
     refine cg (fun _=>aB (uD rfl)) fun _=>?_
     refine au (zJ hO gq (hA.of eX) p0 (by ac_rfl) (show pd4.size-2+1<pd4.size by ac_rfl) fun bn i5 k7 hP5 _=>?_)
     exact aB ⟨rfl,i5,k7.perm.trans eX,k7.size.trans mX,hP5,p7.keep k7 (.inr (by ac_rfl))⟩
    ·obtain⟨kd4,arr4,pd4,mg4,fl4⟩:=bx
     have kW:¬ pd4.size > 1:=hg
     dsimp only
     rw[if_neg kW]
     exact aB (uD rfl)
   ·exact⟨rfl,cX,cW,n8,u8,hR⟩
   rintro c bx ⟨rfl,gq,eX,mX,p0,p7⟩
   obtain⟨kd4,arr4,pd4,mg4,fl4⟩:=bx
   dsimp only
   refine au (mQ (au (mQ (aB ⟨lo+n,rfl,by ac_rfl,n2,⟨gq.kind,gq.failed⟩,eX,mX,?_⟩))))
   refine⟨?_,?_⟩
   ·show j3 0 (PL ((pd4.modify (pd4.size-1) fun x=>(x.1,x.2.1,_)).push (lo,n,0))) _
    rw[nr,xn]; exact j3.app.mpr ⟨lo,p0.ch,rfl,n1,rfl⟩
   ·show ∀ e∈PL ((pd4.modify (pd4.size-1) fun x=>(x.1,x.2.1,_)).push (lo,n,0)),_
    rw[nr,xn]
    intro e he
    rcases dO.mp he with he | he
    ·exact p0.run e he
    ·rw[f8.mp he]; exact p7
 ·have cX:=f9
  have hr3:=n9
  have hw:Wr (arrOf b_) (arrOf a8) lo (size-lo):=oh
  have u_:a_ a8=a_ b_:=u9
  have n1:0<cV:=by ac_rfl
  have n2:lo+cV<=size:=by ac_rfl
  have u8:ip κ (arrOf a8) (a_ a8) lo:=by rw[u_]; exact hP.keep hw
  have cW:(arrOf a8).toList.Perm (arrOf st).toList:=hw.perm.trans eY
  have n8:(arrOf a8).size=size:=hw.size.trans pZ
  have hR:Run κ (arrOf a8) lo cV:=hr3.run
  clear hw u_
  refine au (kK ?_)
  obtain⟨kd,arr,pd,mg,fl⟩:=a8
  dsimp only
  cases hbk:pd.back? with
  | none =>
   dsimp only
   refine au (mQ (aB ⟨lo+cV,rfl,by ac_rfl,n2,⟨cX.kind,cX.failed⟩,cW,n8,?_⟩))
   refine⟨?_,?_⟩
   ·show j3 0 (PL (pd.push (lo,cV,0))) _
    rw[nr]; exact j3.app.mpr ⟨lo,u8.ch,rfl,n1,rfl⟩
   ·show ∀ e∈PL (pd.push (lo,cV,0)),_
    rw[nr]
    intro e he
    rcases dO.mp he with he | he
    ·exact u8.run e he
    ·rw[f8.mp he]; exact hR
  | some bk =>
   obtain⟨s1,m1,q1⟩:=bk
   dsimp only
   refine au (fj (fk (I:=fun x c bx=>c=(none,())/\SB bx/\(arrOf bx).toList.Perm (arrOf st).toList/\(arrOf bx).size=size/\ip κ (arrOf bx) (a_ bx) lo/\Run κ (arrOf bx) lo cV)
    (Q:=fun c bx=>c=(none,())/\SB bx/\(arrOf bx).toList.Perm (arrOf st).toList/\(arrOf bx).size=size/\ip κ (arrOf bx) (a_ bx) lo/\Run κ (arrOf bx) lo cV) ?_ (fun _ _ hh=>hh) ?_) ?_)
   ·rintro y c bx _ hy ⟨rfl,gq,eX,mX,p0,p7⟩
    refine au (kK ?_)
    have uD:∀ {bn:bN},bn=bx->((none,()):Option Unit×Unit)=(none,())/\SB bn/\(arrOf bn).toList.Perm (arrOf st).toList/\(arrOf bn).size=size/\ip κ (arrOf bn) (a_ bn) lo/\Run κ (arrOf bn) lo cV:=fun e=>by
     subst e; exact⟨rfl,gq,eX,mX,p0,p7⟩
    by_cases hg:1<(a_ bx).size
    ·obtain⟨kd4,arr4,pd4,mg4,fl4⟩:=bx
     have kW:pd4.size > 1:=hg
     dsimp only
     rw[if_pos kW,getElem?_pos pd4 (pd4.size-2) (by ac_rfl)]
     obtain⟨u1,u2,u3⟩:=pd4[pd4.size-2]
     dsimp only
     refine cg (fun _=>aB (uD rfl)) fun _=>?_
     refine au (zJ hO gq (hA.of eX) p0 (by ac_rfl) (show pd4.size-2+1<pd4.size by ac_rfl) fun bn i5 k7 hP5 _=>?_)
     exact aB ⟨rfl,i5,k7.perm.trans eX,k7.size.trans mX,hP5,p7.keep k7 (.inr (by ac_rfl))⟩
    ·obtain⟨kd4,arr4,pd4,mg4,fl4⟩:=bx
     have kW:¬ pd4.size > 1:=hg
     dsimp only
     rw[if_neg kW]
     exact aB (uD rfl)
   ·exact⟨rfl,cX,cW,n8,u8,hR⟩
   rintro c bx ⟨rfl,gq,eX,mX,p0,p7⟩
   obtain⟨kd4,arr4,pd4,mg4,fl4⟩:=bx
   dsimp only
   refine au (mQ (au (mQ (aB ⟨lo+cV,rfl,by ac_rfl,n2,⟨gq.kind,gq.failed⟩,eX,mX,?_⟩))))
   refine⟨?_,?_⟩
   ·show j3 0 (PL ((pd4.modify (pd4.size-1) fun x=>(x.1,x.2.1,_)).push (lo,cV,0))) _
    rw[nr,xn]; exact j3.app.mpr ⟨lo,p0.ch,rfl,n1,rfl⟩
   ·show ∀ e∈PL ((pd4.modify (pd4.size-1) fun x=>(x.1,x.2.1,_)).push (lo,cV,0)),_
    rw[nr,xn]
    intro e he
    rcases dO.mp he with he | he
    ·exact p0.run e he
    ·rw[f8.mp he]; exact p7
end
end L2
namespace L2
theorem wZ{n:Nat}(h:n<=1000000):n<a7:=uh h (by decide)
theorem Run.sortedTo{κ:KeyKind}{a:Array Keyed}{n:Nat}(h:Run κ a 0 n)(hn:n<=a.size):SortedToK κ a n:=by
 intro i j bJ hj
 have:=h i j _ _ (j9 _) bJ (by ac_rfl) (getElem?_pos a i (by ac_rfl)) (getElem?_pos a j (by ac_rfl))
 rw[xx (show i<a.size by ac_rfl),xx (show j<a.size by ac_rfl)]
 exact this
theorem KeysOf.all{κ:KeyKind}{a:Array Keyed}(h:KeysOf κ a):AllK κ a:=fun i hi=>h _ (by simp)
section
variable{P:aK}{w:World}{A:aV}{E:Value->ah->Prop}{s:ah}
theorem Lj{κ:KeyKind}(hO:κ.OneLt){a:Addr}{vs:List Value}{n:Nat}{F:Fin->ah->Prop}(ho:s.heap.get? a=some (kI "list" vs.toArray n))
  (h0:KeysOf κ (pairsOf vs)) (oj:∀ v₁ v₂ rest,vs=v₁::v₂::rest->keyKind' (v₁::v₂::rest).toArray=pure oneType') (hz:vs.length<=1000000)
  (h:∀ ap:bN,(arrOf ap).Perm (pairsOf vs)->SortedToK κ (arrOf ap) (pairsOf vs).size->F (.done (.ret .none)) { s with heap:=sortedHeap s.heap a vs ((arrOf ap).map (·.2)) }) :
  wpAny (model P w) A (Builtin.«list.sort» ⟨[.ref a],[]⟩) F E s:=by
 by_cases hZ:vs.length<64
 ·exact list_sort_treeK hO ho h0 oj hZ h
 obtain⟨v₁,v₂,rest,rfl⟩:∃ v₁ v₂ rest,vs=v₁::v₂::rest:=by
  match vs,hZ with
  | [],hZ=>simp at hZ
  | [_],hZ=>simp at hZ
  | v₁::v₂::rest,_=>exact⟨v₁,v₂,rest,rfl⟩
 rw[list_sort_plain]
 have ha:a<s.heap.objs.size:=bq ho
 have hl:(v₁::v₂::rest).length<=a7:=lM (wZ hz)
 refine aj (listItems_at ho rfl ?_)
 refine aj (Bj ho rfl ?_)
 obtain⟨e1,lY⟩:∃ e1,(s.heap.update a (nR fun _=>#[])).get? a=some (kI "list" #[] e1):=⟨_,get?_update_seq ho (fun _=>#[])⟩
 refine aj (seqEpoch_at lY rfl ?_)
 refine aj (wpAny_newTuple ?_ (hsz:=by rw[Hs]; exact hl))
 refine aj (wpAny_newList ?_)
 refine kG ?_
 have ho6:(((s.heap.update a (nR fun _=>#[])).push (kI "tuple" (v₁::v₂::rest).toArray 0)).push (kI "list" #[] 0)).get? a=some (kI "list" #[] e1):=by
  rw[Heap.get?_push_ne _ _ _ (by rw[jg,Heap.size_update]; exact cO (kc ha)),Heap.get?_push_ne _ _ _ (by rw[Heap.size_update]; exact cO ha)]
  exact lY
 show wpAny (model P w) A _ F E { s with heap:=((s.heap.update a (nR fun _=>#[])).push (kI "tuple" (v₁::v₂::rest).toArray 0)).push (kI "list" #[] 0) }
 dsimp only
 have h2:¬ (v₁::v₂::rest).toArray.size<2:=by simp
 rw[if_neg h2,if_neg h2,oj _ _ _ rfl]
 refine aj (ar ?_)
 refine aj (dG (Jt (κ:=κ) hO (st:=SortSt.mk' oneType' ((v₁::v₂::rest).toArray.zip (v₁::v₂::rest).toArray) #[] 7 none)
  (Q:=fun _ ap=>SB ap/\(arrOf ap).toList.Perm (pairsOf (v₁::v₂::rest)).toList/\Run κ (arrOf ap) 0 (pairsOf (v₁::v₂::rest)).size)
  ⟨rfl,rfl⟩ (KeysOf.all h0) rfl fun ap a1 a2 a3=>⟨a1,a2,a3⟩) ?_ fun _ _ e=>e)
 rintro⟨⟨⟩,ap⟩ s' ⟨rfl,hb,hp,hs⟩
 have g9:(arrOf ap).Perm (pairsOf (v₁::v₂::rest)):=Hq.mpr hp
 dsimp only
 refine aj (seqEpoch_at ho6 rfl ?_)
 refine aj (Bj ho6 rfl ?_ (hsz2:=by refine cp (lO ((Array.size_map ..).trans (g9.size_eq.trans (pairsOf_size _)))) (Nat.le_succ_of_le hl)))
 rw[show failedOf ap=none from hb.failed]
 simp only[bne_self_eq_false,nW,if_false]
 exact ar (h ap g9 (hs.sortedTo (by rw[g9.size_eq]; exact aL _)))
end
section
variable{P:aK}{w:World}{A:aV}{E:Value->ah->Prop}{s:ah}
theorem DP{v:Value}{Q:Value->ah->Prop}
  (hc:wpAny (model P w) A.in1 (collect v) (fun vs s1=>∃ ss:List Str,dH vs ss/\vs.length<=1000000/\∀ (h':Heap) (out:Array Value) (aE:List Str) (e:Nat),(∀ b o,s1.heap.get? b=some o->h'.get? b=some o) ->
   h'.get? s1.heap.objs.size=some (kI "list" out e)->dH out.toList aE->aE.Perm ss->sortedS aE=true->Q (.ref s1.heap.objs.size) { s1 with heap:=h' }) E s) :
  wpAny (model P w) A (call (.builtin "sorted") [v]) Q E s:=by
 refine Calls.call_function_entry kind_sorted plain_sorted entry_sorted (args_sorted1 _) ?_
 unfold Builtin.«sorted»
 refine aj (m:=checkCount "sorted" 1 1 _) (ar ?_)
 refine aj (aH hc fun vs s1 ⟨ss,hS,hZ,fin⟩=>?_)
 refine aj (wpAny_newList ?_)
 have uI:(s1.heap.push (kI "list" vs.toArray 0)).get? s1.heap.objs.size=some (kI "list" vs.toArray 0):=cN _ rfl
 refine aj (kG (ue slot_list_sort ⟨_,uI,rfl⟩ entry_list_sort (Lj strKind_oneLt uI hS.keysOf (fun a b c e=>keyKind_strs (by rw[← e]; exact hS)) hZ fun ap hp hs=>⟨_,rfl,?_⟩) (args_list_sort _)))
 obtain⟨aE,a1,a2,a3⟩:=sorted_out_str hS hp hs
 obtain⟨e,he⟩:=sortedHeap_at (out:=(arrOf ap).map (·.2)) uI
 refine ar ⟨_,rfl,fin _ _ aE e (fun b o hb=>?_) he a1 a2 a3⟩
 have aX:b<s1.heap.objs.size:=bq hb
 rw[sortedHeap_old (cO aX) (by rw[jg]; exact kc aX)]
 exact bB _ hb
end
section
variable{X:Cx}
theorem Inv.sorted2{aa:List (Addr×Obj)}{σ:St}{H:Hp}{s1:ah}{ls:List Tx}{ss aE:List Str}{h':Heap}{out:Array Value}{e:Nat}(I:Inv X aa σ H s1)(hl:ss=ls.map tS)(hZ:ls.length<=1000000)
  (k:∀ b o,s1.heap.get? b=some o->h'.get? b=some o) (ho:h'.get? s1.heap.objs.size=some (kI "list" out e)) (a1:dH out.toList aE) (a2:aE.Perm ss) (a3:sortedS aE=true) :
  Inv X aa σ (upd H s1.heap.objs.size (.lst (cm (bD ls)))) { s1 with heap:=h' }:=by
 have e1:aE.map (fun z=>z.cps.toList)=bD ls:=by
  refine t5 ?_ (CD a3)
  have:=a2.map fun z=>z.cps.toList
  rw[hl,dy]at this
  have e2:(ls.map ((fun z:Str=>z.cps.toList) ∘ tS))=ls:=by
   simp[G7,kw]
  rw[e2]at this
  exact this
 have hv:bh (cm (bD ls)) out.toList:=by rw[← e1]; exact zE a1
 refine I.laid (t':=s1.toks) k (aL _) ⟨?_,out.toList,e,hv,?_⟩
 ·rw[qF,Ar]
  exact lM (wZ (by ac_rfl))
 ·rw[Array.toArray_toList]; exact ho
theorem ES:fP X (.builtin "sorted") (fun xs H Q=>∃ (p:Addr) (ls:List Tx),xs=[.ref p]/\(bO X.K H p (cm ls)\/cJ X.K H p (cm ls))/\ls.length<=1000000/\∀ l,H l=none->Q (.ref l) (upd H l (.lst (cm (bD ls))))):=by
 intro aa s σ H xs us Q I r h
 obtain⟨p,ls,rfl,hq,hZ,q⟩:=h
 obtain⟨u,rfl,ru⟩:=vals1 r
 cases ru
 have core:∀ (T:String) (o:Obj) (its:List Value) (n:Nat),(T = "list"\/T = "tuple")->s.heap.get? p=some o->o.cls = .type T->o.data = .seq its.toArray n->bh (cm ls) its ->
   wpAny (model X.prog X.w) X.A (call (.builtin "sorted") [Value.ref p]) (EP X aa σ Q) X.xe s:=fun T o its n hT ho hc hd rv=>by
  have hl:=rv.length
  rw[qF]at hl
  have h1000:=wZ (n:=its.length) (by ac_rfl)
  refine DP (wpAny_collect_seq p hT ho hc hd (fun h1 k1=>?_) (by rw[cA]; ac_rfl))
  have I1:=I.kept (t':=s.toks) k1
  refine⟨_,As rv,by rw[Hs]; ac_rfl,fun h' out aE e k ho a1 a2 a3=>?_⟩
  exact⟨.ref _,_,Inv.sorted2 I1 rfl hZ k ho a1 a2 a3,rfl,q _ I1.fresh⟩
 rcases hq with hq | hq
 ·obtain⟨its,rv,pl,hz⟩:=I.list hq
  obtain⟨o,e,hc,n,hd⟩:=pl.isList
  exact core "list" o its n (.inl rfl) e hc hd rv
 ·obtain⟨its,rv,⟨o,e,hc,n,hd⟩,hz⟩:=I.tuple hq
  exact core "tuple" o its n (.inr rfl) e hc hd rv
end
end L2
namespace Pu
open L2
section
variable{X:Cx}{K:ao}
def oO:List PV->Option PO
 | [.lst xs]=>(fR xs).bind fun ls=>if ls.length<=1000000 then some (.lst (af (bD ls)))else none
 | [.tup xs]=>(fR xs).bind fun ls=>if ls.length<=1000000 then some (.lst (af (bD ls)))else none
 | _=>none
theorem El:ox K (fun xs H Q=>∃ (p:Addr) (ls:List Tx),xs=[.ref p]/\(bO K H p (cm ls)\/cJ K H p (cm ls))/\ls.length<=1000000/\∀ l,H l=none->Q (.ref l) (upd H l (.lst (cm (bD ls))))) oO:=fun F H xs vs Q po hF rs e q=>by
 have fin:∀ {ys:List PV} {us:List V} {a:Addr},((fR ys).bind fun ls=>if ls.length<=1000000 then some (PO.lst (af (bD ls)))else none)=some po->a9 K H F ys us->(bO K H a us\/cJ K H a us) ->
   ∃ (p:Addr) (ls:List Tx),[V.ref a]=[.ref p]/\(bO K H p (cm ls)\/cJ K H p (cm ls))/\ls.length<=1000000/\∀ l,H l=none->Q (.ref l) (upd H l (.lst (cm (bD ls)))):=fun {ys us a} e ra hs=>by
  cases q1:fR ys with
  | none=>rw[q1]at e; cases e
  | some ls =>
   rw[q1]at e
   simp only[jf]at e
   split at e
   ·rename_i hZ
    cases e
    rw[sB q1]at ra
    obtain⟨rfl,hm⟩:=RB.mp ra
    refine⟨a,ls,rfl,hs,hZ,fun l hl=>q l F _ _ (Al.new0 hl) (xm hl (RB.mpr ⟨rfl,fun x hx=>hm x ((jF ls).mem_iff.mp hx)⟩)) (xi hl hF trivial)⟩
   ·cases e
 unfold oO at e
 split at e
 ·obtain⟨v,rfl,a,us,rfl,ha,_,ra⟩:=gs rs
  exact fin e ra (.inl (.inl ha))
 ·obtain⟨v,rfl,a,us,rfl,ha,ra⟩:=gs rs
  exact fin e ra (.inr (cJ.of ha))
 ·cases e
end
end Pu
namespace Pu
open L2
theorem yQ(H:Hp)(p:Addr)(a b:HO):L2.upd (L2.upd H p a) p b=L2.upd H p b:=by
 funext q
 by_cases h:q=p
 ·subst h; rw[bA,bA]
 ·rw[bp h,bp h,bp h]
end Pu
namespace L2
section
variable{P:aK}{w:World}{A:aV}{E:Value->ah->Prop}{s:ah}
theorem K2{I a:Addr}{es:Array (Int×Value)}{ep:Nat}{t:f7}(b9:a≠I)(hf:t.fits es.size=true)(hb:cH w=false)(h1:es.size=0)(hh:A.handled=none) :
  Walks P w A I [I,a] [I] 0 (fun i v=>(es.toList.map (·.2))[i]?=some v) (fun i h=>h.get? I=some (iJ (eG 0) 0 a es.size ep)/\h.get? a=some (oY es ep t)):=by
 have he:es = #[]:=Array.eq_empty_of_size_eq_zero h1
 have body:∀ (s:ah) (slot:Nat) (i:Nat) (Q:Option (Value×Nat)->ah->Prop) (E:Value->ah->Prop),s.heap.get? a=some (oY es ep t) ->
   Q none s->wpAny (model P w) A.in1 (mM a slot i ep) Q E s:=fun s slot i Q E ha hq=>by
  unfold mM
  refine aj (gG ha rfl hf ?_)
  unfold mP
  refine aj (aj (kb (ar ?_)))
  show wpAny _ _ (if cH w=true then _ else _) _ _ s
  rw[if_neg (by rw[hb]; decide)]
  refine fK (fun hc=>absurd (show(!t.plain && decide (es.size > 1))=true from hc) (by rw[h1]; simp)) (fun _=>?_)
  refine aj ?_
  refine dG (Q:=fun _ s'=>s'=s) (E:=E) ?_ (fun _ s' uU=>?_) (fun _ _ x=>x)
  ·refine fK (fun hc=>absurd (show(!t.led && !es.isEmpty)=true from hc) (by rw[he]; simp)) (fun _=>ar rfl)
  ·subst uU
   rw[he]
   have e2:∀ k:Nat,(#[]:Array (Int×Value))[k]?=none:=fun k=>by simp
   dsimp only
   rw[e2]
   exact ar hq
 refine⟨fun b hb=>by simp at hb; simp[hb],fun i h h' st k=>⟨k I (by simp) _ st.1,k a (by simp) _ st.2⟩,fun i s Q E hi st hQ=>absurd hi (Nat.not_lt_zero i),fun s Q E st hQ=>?_,fun i s Q E st hQ=>wm st.1 hQ⟩
 refine oH st.2 hf st.1 ?_
 show wpAny _ _ (mM a (0:Int).toNat ((0:Nat):Int).toNat (ep:Int).toNat >>= _) _ _ s
 simp only[lR,Int.toNat_zero]
 refine aj (body s 0 0 _ _ st.2 ?_)
 dsimp only
 refine aj (vg st.1 fun h1 iZ _=>?_)
 exact wq (s:={ s with heap:=h1 }) hh fun h2 k2=>hQ h2 s.toks fun b o hb e=>k2 b o ((iZ.2 b (by simpa using hb)).trans e)
theorem Lo{a:Addr}{ks:List Str}{Q:Value->ah->Prop}(S:bL P w s.heap a ks)(h:∀ s' I fp n Pv St,D_ P w s s' a I ks fp n Pv St->Q (.ref I) s'):wpAny (model P w) A (pyIter (.ref a)) Q E s:=by
 obtain⟨es,ep,t,ss,ho,hS,hp,eW,hsz,hf,gk,cL⟩:=S.ex
 have hT:s.TypeIs (.ref a) "set":=⟨_,ho,rfl⟩
 have fD:=bq ho
 have ordP:∀ l:List (Int×Value),l.Perm es.toList->∃ aE,dH (l.map (·.2)) aE/\aE.Perm ks:=fun l pl=>by
  obtain⟨aE,q1,q2⟩:=su (pl.map (fun e:Int×Value=>e.2)) hS
  exact⟨aE,q1,q2.trans hp⟩
 refine wpAny_pyIter_slot hT F.slot_set_iter (ue F.slot_set_iter hT P9 ?_ (F.args_set_iter_1 _))
 unfold Builtin.«frozenset.__iter__» Builtin.Frozenset.slot0 slotArgs Builtin.Frozenset.addrOf Ht
 refine aj (ar ?_)
 refine aj (aj (Ba ho rfl hf (ar ?_)))
 unfold setDrawn
 refine aj (aj (gG ho rfl hf ?_))
 unfold mP
 refine aj (aj (kb (ar ?_)))
 refine ar ?_
 have fin:∀ (first:Value) (s1:ah) (fp:List Addr) (n:Nat) (Pv:Nat->Value->Prop) (St:Nat->Heap->Prop),s1.heap.get? a=some { cls:=.type "set",dict:=none,data:=.set es ep t } ->
   D_ P w s { s1 with heap:=s1.heap.push (iJ first 0 a es.size ep) } a s1.heap.objs.size ks fp n Pv St ->
   wpAny (model P w) A.in1 (do
    let e ← setEpoch a
    let f ← newFields "set_iterator" [first,eG 0,Value.ref a,eG (es.size:Nat),eG (e:Nat)]
    ret f) (fun fin s'=>∃ v,fin=Fin.done (Flow.ret v)/\∃ T' r,s'.TypeIs v T'/\typeLookup (Value.type T') (Str.ofString "__next__")=pure (some r)/\Q v s') E s1:=fun first s1 fp n Pv St ha W=>by
  refine aj (xR ha rfl hf ?_)
  refine aj (mI ?_)
  exact ar ⟨_,rfl,"set_iterator",_,⟨_,cN _ rfl,rfl⟩,Do.lookup,h _ _ fp n Pv St W⟩
 refine fK (fun hc=>?_) (fun hc=>?_)
 ·have gK:(!cH w && (!t.plain && decide (es.size > 1)))=true:=hc
  refine aj (Fq es.size (bE es.size) s _ (by simp) fun ys d hy=>?_)
  refine aj (wpAny_newTuple ?_ (hsz:=by rw[cq,hy.length_eq,List.length_range]; exact lM (Dw (by ac_rfl))))
  refine fin _ _ _ _ _ _ (bB _ ho) ⟨fun A' hA=>OP (T:=s.heap.objs.size) (cO (by rw[jg]; exact kc fD)) (cO (by rw[jg]; exact j8 _)) hf hy hA,⟨cN _ rfl,?_,?_⟩,?_,?_,?_,rfl,?_,hsz,?_⟩
  ·exact bB _ (bB _ ho)
  ·exact bB _ (cN _ rfl)
  ·exact fun b o e=>bB _ (bB _ e)
  ·rw[jg]; exact xE _
  ·intro b hb
   simp only[bH,jM,or_false]at hb
   rw[jg,jg]
   rcases hb with rfl | rfl | rfl
   ·rw[jg]; exact j8 _
   ·exact kc (kc fD)
   ·exact kc (j8 _)
  ·intro am kQ
   have e0:(ys.filterMap fun j=>(es[j]?).map (·.2))=(ys.filterMap fun j=>es[j]?).map (·.2):=by
    rw[List.map_filterMap]
   have pl:(ys.filterMap fun j=>es[j]?).Perm es.toList:=by
    have:=hy.filterMap fun j=>es[j]?
    rwa[filterMap_getElem?_range]at this
   rw[e0]at kQ
   rw[wD (by rw[cq,pl.length_eq]; simp) kQ]
   exact ordP _ pl
  ·intro b hb
   simp only[bH,jM,or_false]at hb
   rcases hb with rfl | rfl | rfl
   ·rw[jg]; exact .inr (xE _)
   ·exact .inl rfl
   ·exact .inr (aL _)
 ·have gK:¬ (!cH w && (!t.plain && decide (es.size > 1)))=true:=hc
  refine aj (ar ?_)
  cases hb:cH w with
  | true =>
   refine fin _ _ _ _ _ _ ho ⟨fun A' hA=>O0 (cO fD) hf hb hA,⟨cN _ rfl,bB _ ho⟩,fun b o e=>bB _ e,aL _,?_,rfl,?_,hsz,fun b hb=>?_⟩
   ·intro b hb
    simp only[bH,jM,or_false]at hb
    rw[jg]
    rcases hb with rfl | rfl
    ·exact j8 _
    ·exact kc fD
   ·intro am kQ
    have pl:=yo (w.params.setOrder a ep) es
    rw[wD (by rw[cq,pl.length_eq]; simp) kQ]
    exact ordP _ pl
   ·simp only[bH,jM,or_false]at hb
    exact hb.elim (fun z=>.inr (lO z.symm)) .inl
  | false =>
   have h01:es.size=1\/es.size=0:=by
    by_cases hk:ks=[]
    ·right
     have e1:=hp.length_eq
     have e2:ss.length=es.size:=by rw[← hS.strs]; simp
     rw[hk,nS]at e1
     ac_rfl
    ·rw[hb,cL hk]at gK
     simp at gK
     ac_rfl
   rcases h01 with h1 | h1
   ·refine fin _ _ _ _ _ _ ho ⟨fun A' hA=>Ie (cO fD) hf hb (by rw[gk,hb]; rfl) h1 hA,⟨cN _ rfl,bB _ ho⟩,fun b o e=>bB _ e,aL _,?_,rfl,?_,by decide,fun b hb=>?_⟩
    ·intro b hb
     simp only[bH,jM,or_false]at hb
     rw[jg]
     rcases hb with rfl | rfl
     ·exact j8 _
     ·exact kc fD
    ·intro am kQ
     rw[wD (by simp[h1]) kQ]
     exact ordP _ (lS _)
    ·simp only[bH,jM,or_false]at hb
     exact hb.elim (fun z=>.inr (lO z.symm)) .inl
   ·refine fin _ _ _ _ _ _ ho ⟨fun A' hA=>K2 (cO fD) hf hb h1 hA,⟨cN _ rfl,bB _ ho⟩,fun b o e=>bB _ e,aL _,?_,rfl,?_,by decide,fun b hb=>?_⟩
    ·intro b hb
     simp only[bH,jM,or_false]at hb
     rw[jg]
     rcases hb with rfl | rfl
     ·exact j8 _
     ·exact kc fD
    ·intro am kQ
     rw[wD (by simp[h1]) kQ]
     exact ordP _ (lS _)
    ·simp only[bH,jM,or_false]at hb
     exact hb.elim (fun z=>.inr (lO z.symm)) .inl
theorem Qj{a:Addr}{ks:List Str}{Q:List Value->ah->Prop}(hh:A.handled=none)(S:bL P w s.heap a ks)
  (h:∀ (s':ah) (vs:List Value) (ss:List Str),dH vs ss->ss.Perm ks->vs.length<4090->(∀ b o,s.heap.get? b=some o->s'.heap.get? b=some o)->s'.gens=s.gens->s'.os=s.os->Q vs s'):wpAny (model P w) A (collect (.ref a)) Q E s:=by
 obtain⟨es,ep,t,_,ho,_⟩:=S.ex
 have fD:=bq ho
 unfold collect
 refine aj (wpAny_runValue (uk F.entry_proto_collect ?_))
 rw[xJ F.plain_proto_collect _]
 show wpAny _ A.in1 (newList [] >>= fun l=>again (.builtin "list.__iadd__" ⟨[l,.ref a],[]⟩)) _ _ s
 refine aj (mI ?_)
 refine ar ⟨A_ F.plain_list_iadd _,uk F.entry_list_iadd ?_⟩
 rw[xJ F.plain_list_iadd _]
 show wpAny _ A.in1 (Builtin.List.listExtendWith (.ref s.heap.objs.size) (.ref a) (.ref s.heap.objs.size)) _ _ _
 unfold Builtin.List.listExtendWith
 have hT:∀ s1:ah,s1.heap.get? a=some { cls:=.type "set",dict:=none,data:=.set es ep t }->s1.TypeIs (.ref a) "set":=fun s1 e=>⟨_,e,rfl⟩
 have lY:(s.heap.push { cls:=.type "list",data:=.seq ([]:List Value).toArray }).get? a=some { cls:=.type "set",dict:=none,data:=.set es ep t }:=bB _ ho
 refine aj (wpAny_typeOf (hT _ lY) ?_)
 have h1:Builtin.List.listSameRef (.ref s.heap.objs.size) (.ref a)=false:=by
  have:¬ (s.heap.objs.size=a):=nP fD
  simp[Builtin.List.listSameRef,this]
 rw[if_neg (by rw[h1]; decide)]
 refine aj (Lo (S.at fun o e=>bB _ e) fun s2 I fp n Pv St W=>?_)
 have n5:=W.old a _ lY
 refine aj (kG ?_)
 unfold Builtin.List.listLengthHint
 refine aj (wpAny_specialOf (hT _ n5) Mp ?_)
 wp_delta
 refine aj (xK (T:="set") (b:=true) (hT _ n5) (by rw[isSubtype_type]; kernel_rfl) ?_)
 show wpAny _ A.in1 (typeOf (Value.ref a) >>= _) _ _ _
 refine aj (wpAny_typeOf (T:="set") (hT _ n5) ?_)
 refine ar ?_
 rw[if_pos (by decide)]
 refine aj (jL ?_)
 have hL:(s.heap.push { cls:=.type "list",data:=.seq ([]:List Value).toArray }).get? s.heap.objs.size=some { cls:=.type "list",data:=.seq ([]:List Value).toArray }:=cN _ rfl
 have hL2:=W.old _ _ hL
 unfold Builtin.List.listTouch
 refine aj (aj (Bj hL2 rfl ?_ (by decide) (by show 1<=a7+1; decide)))
 have hL3:=get?_update_seq hL2 (fun a:Array Value=>a.push Value.none)
 refine Bj hL3 rfl ?_ (by show 1<=a7; decide) (by show 0<=a7+1; decide)
 have hL4:=get?_update_seq hL3 (fun a:Array Value=>a.pop)
 have HH:s.heap.objs.size∉fp:=fun z=>by
  rcases W.fps _ z with q | q
  ·exact absurd fD (by rw[← q]; exact fh _)
  ·rw[jg]at q
   exact absurd (j8 _) (Nat.not_lt.mpr q)
 have k4:∀ b o,b≠s.heap.objs.size->s2.heap.get? b=some o->(((s2.heap.update s.heap.objs.size (nR fun a=>a.push Value.none)).update s.heap.objs.size (nR fun a=>a.pop))).get? b=some o:=fun b o hb e=>by
  rw[Heap.get?_update_ne _ _ _ _ hb,Heap.get?_update_ne _ _ _ _ hb]; exact e
 have bx:St 0 (((s2.heap.update s.heap.objs.size (nR fun a=>a.push Value.none)).update s.heap.objs.size (nR fun a=>a.pop))):=(W.wk A.in1 hh).frame 0 _ _ W.st fun b hb o e=>k4 b o (fun z=>HH (z ▸ hb)) e
 refine ar ⟨A_ F.plain_extend_loop _,codeAny_extend_loopS (W.wk A.in1 hh).toS (lM (Dw (by have:=W.len; ac_rfl))) _ HH _ n 0 _ _ _ rfl (j9 _) bx hL4 (ItemsOf.nil _) fun s' acc' c' hm uT kQ=>?_⟩
 show wpAny _ A (load s.heap.objs.size >>= _) _ _ s'
 refine aj (wpAny_load uT ?_)
 obtain⟨ss,q1,q2⟩:=W.ord acc' kQ
 refine ar (h s' acc'.toList ss q1 q2 (by rw[gD,kQ.1]; exact W.len) (fun b o e=>?_) ?_ ?_)
 ·have aX:=bq e
  refine hm.heap b o (fun hb=>?_) (k4 b o (cO aX) (W.old b o (bB _ e)))
  rcases bH.mp hb with z | z
  ·exact absurd aX (by rw[z]; exact fh _)
  ·rw[f8.mp z]at aX
   have:=W.new
   rw[jg]at this
   exact absurd aX (Nat.not_lt.mpr (Nat.le_of_succ_le this))
 ·rw[hm.gens,W.rest]
 ·rw[hm.os,W.rest]
end
section
variable{X:Cx}
theorem Dm(hc:X.calm=true):fP X (.builtin "sorted") (fun xs H Q=>∃ (p:Addr) (ls:List Tx),xs=[.ref p]/\H p=some (gQ X p ls)/\ls.length<4000/\∀ l,H l=none->Q (.ref l) (upd H l (.lst (cm (bD ls))))):=by
 intro aa s σ H xs us Q I r h
 obtain⟨p,ls,rfl,hq,hZ,q⟩:=h
 obtain⟨u,rfl,ru⟩:=vals1 r
 cases ru
 obtain⟨S,_,_⟩:=(show cx X.prog X.w H s.heap p (gQ X p ls)from I.hok p _ hq)
 refine DP (Qj (tj (I.ok.hd hc)) S fun s' vs ss a1 a2 a3 k eg eo=>?_)
 obtain⟨h',g',d',t',o'⟩:=s'
 obtain rfl:g'=s.gens:=eg
 obtain rfl:o'=s.os:=eo
 have I1:Inv X aa σ H { s with heap:=h',drawn:=d',toks:=t' }:=by
  have:=Inv.call (ch:=[]) I (g':=s.gens) (d':=d') (t':=t') (Un.kept (fs:=fO X.stack) (ex:=[]) k) (I.hok.kept k) I.bare (fun b hb=>absurd hb (by simp))
  exact this
 refine⟨ss,a1,by ac_rfl,fun h2 out aE e k2 ho b1 b2 b3=>?_⟩
 exact⟨.ref _,_,Inv.sorted2 (s1:={ s with heap:=h',drawn:=d',toks:=t' }) (ss:=ls.map tS) I1 rfl (by ac_rfl) k2 ho b1 (b2.trans a2) b3,rfl,q _ I1.fresh⟩
end
end L2
namespace L2
theorem bL.perm{P:aK}{w:World}{h:Heap}{a:Addr}{ks ls:List Str}(S:bL P w h a ks)(p:ks.Perm ls):bL P w h a ls:=by
 obtain⟨es,ep,t,ss,e,h1,h2,h3,h4,h5,h6,h7⟩:=S.ex
 exact⟨es,ep,t,ss,e,h1,h2.trans p,h3,h4,h5,h6,fun z=>h7 fun q=>z (by subst q; exact p.symm.eq_nil)⟩
section
variable{P:aK}{w:World}{A:aV}{E:Value->ah->Prop}{s:ah}
theorem oJ(x y:Str)(t':Tok):(cU P w).is x (.str y t')=decide (y=x):=by
 show pe x (.str y t')=_
 rw[ph]
 simp[pe]
 try exact eq_comm
theorem LR{a:Addr}{ks:List Str}{x:Str}{tk:Tok}{Q:Option Nat->ah->Prop}(S:bL P w s.heap a ks)(h:∀ r:Option Nat,r.isSome=decide (x∈ks)->Q r s) :
  wpAny (model P w) A (setFind a (.str x tk) ((cU P w).hash x)) Q E s:=by
 obtain⟨es,ep,t,ss,ho,hS,hp,eW,hsz,hf,gk,cL⟩:=S.ex
 have gI:(cU P w).is x (.str x tk)=true:=by rw[oJ]; simp
 have hb:es.size<scanBound:=mJ hsz (by decide)
 have memx:x∈ks↔∃ e∈es.toList,(cU P w).is x e.2=true:=by
  rw[← hp.mem_iff,vD hS x]
  constructor
  ·rintro⟨t',q⟩
   obtain⟨e,he,ee⟩:=b0.mp q
   exact⟨e,he,by rw[ee,oJ]; simp⟩
  ·rintro⟨e,he,q⟩
   obtain⟨y,t',ey⟩:=hS.all e.2 (b0.mpr ⟨e,he,rfl⟩)
   rw[ey,oJ]at q
   have:y=x:=of_decide_eq_true q
   subst this
   exact⟨t',b0.mpr ⟨e,he,ey⟩⟩
 unfold setFind setFindIn
 refine aj (gG ho rfl hf ?_)
 dsimp only
 rw[byScan_of (knd:=cU P w) (x:=.str x tk) rfl hb eW]
 simp only[if_true]
 refine aj (jL (aj (wpAny_setScan_of gI ho rfl hf eW ?_)))
 cases hr:List.findIdx? (fun e=>(cU P w).is x e.2) es.toList with
 | some j =>
  obtain⟨hj,uS,_⟩:=G_.mp hr
  exact ar (h _ (by rw[decide_eq_true (memx.mpr ⟨_,List.getElem_mem hj,uS⟩)]; rfl))
 | none =>
  refine ar (h _ ?_)
  rw[decide_eq_false fun hm=>by
   obtain⟨e,he,q⟩:=memx.mp hm
   have:=Ha.mp hr e he
   rw[q]at this
   exact Bool.noConfusion this]
  rfl
structure qI(P:aK)(w:World)(ks:List Str)(arr:Array (Int×Value)):Prop where
 ex:∃ ss:List Str,arr.toList.map (fun e=>e.1)=ss.map (cU P w).hash/\dH (arr.toList.map (·.2)) ss/\ss.Perm ks
theorem Cs:∀ {l:List (Int×Value)} {ss:List Str},ElemsOf (cU P w) l->dH (l.map (·.2)) ss->l.map (fun e=>e.1)=ss.map (cU P w).hash
 | [],[],_,_=>rfl
 | [],_::_,_,h=>by cases h
 | e::l,[],_,h=>absurd h.length (by simp)
 | e::l,x::ss,he,h=>by
  obtain⟨h1,v⟩:=e
  cases h with
  | cons _ t hr =>
   obtain⟨⟨k,q1,q2⟩,_⟩:=he.head
   rw[oJ]at q1
   have:x=k:=of_decide_eq_true q1
   subst this
   rw[dq,dq,Cs he.tail hr,q2]
theorem qI.of{es arr:Array (Int×Value)}{ss ks:List Str}(hS:dH (es.toList.map (·.2)) ss)(hp:ss.Perm ks)(eW:ElemsOf (cU P w) es.toList)(p:arr.toList.Perm es.toList):qI P w ks arr:=by
 obtain⟨aE,q1,q2⟩:=su (p.map (fun e:Int×Value=>e.2)) hS
 exact⟨aE,Cs (eW.perm p) q1,q1,q2.trans hp⟩
theorem Fg{a:Addr}{ks:List Str}{Q:Array (Int×Value)->ah->Prop}(S:bL P w s.heap a ks)(hq:cH w=true\/(∃ es ep t,s.heap.get? a=some { cls:=.type "set",dict:=none,data:=.set es ep t }/\(t.plain=true\/es.size<=1)))
  (h:∀ arr,qI P w ks arr->Q arr s):wpAny (model P w) A (setWalk a) Q E s:=by
 obtain⟨es,ep,t,ss,ho,hS,hp,eW,hsz,hf,gk,cL⟩:=S.ex
 unfold setWalk
 refine aj (gG ho rfl hf ?_)
 unfold mP
 dsimp only
 refine aj (aj (kb (ar ?_)))
 show wpAny _ _ (if cH w=true then _ else _) _ _ s
 cases hb:cH w with
 | true =>
  rw[if_pos rfl]
  refine aj (kb (ar ?_))
  exact h _ (qI.of hS hp eW (yo _ _))
 | false =>
  rw[if_neg (by decide)]
  have hq':t.plain=true\/es.size<=1:=by
   rcases hq with hq | ⟨es',ep',t',e',q⟩
   ·rw[hb]at hq; cases hq
   ·rw[ho]at e'; cases e'; exact q
  refine fK (fun hc=>absurd (show(!t.plain && decide (es.size > 1))=true from hc) ?_) (fun _=>?_)
  ·rcases hq' with q | q
   ·rw[q]; simp
   ·rw[decide_eq_false (by ac_rfl)]; simp
  refine aj ?_
  refine dG (Q:=fun _ s'=>s'=s) (E:=E) ?_ (fun _ s' uU=>?_) (fun _ _ x=>x)
  ·refine fK (fun hc=>absurd (show(!t.led && decide (es.size > 1))=true from hc) (by rw[gk,hb]; simp)) (fun _=>ar rfl)
  ·subst uU
   exact ar (h _ (qI.of hS hp eW (lS _)))
theorem Pq:∀ (sets:List Addr),(∀ b∈sets,∃ ls,bL P w s.heap b ls)->∀ {Q:Bool->ah->Prop},Q true s->wpAny (model P w) A (setsQuiet sets) Q E s:=by
 intro sets hs Q hq
 unfold setsQuiet
 refine aj (dG (wpAny_forIn_list _ (fun rest (c:Option Bool×Unit) s'=>s'=s/\c=(none,())/\∀ b∈rest,b∈sets) (fun c s'=>s'=s/\c=(none,())) ?_ (fun c s' h=>⟨h.1,h.2.1⟩) sets _ ⟨rfl,rfl,fun b hb=>hb⟩) (fun c s' hc=>?_) (fun _ _ x=>x))
 ·rintro b rest c s' ⟨rfl,rfl,hm⟩
  obtain⟨ls,S⟩:=hs b (hm b (by simp))
  obtain⟨es,ep,t,ss,ho,hS,hp,eW,hsz,hf,gk,cL⟩:=S.ex
  refine aj (Ba ho rfl hf ?_)
  refine aj (dG (wpAny_forIn_array' _ (fun rest (c:Option Bool×Unit) s''=>s''=s'/\c=(none,())/\∀ e∈rest,e∈es.toList) (fun c s''=>s''=s'/\c=(none,())) ?_ (fun c s'' h=>⟨h.1,h.2.1⟩) es _ ⟨rfl,rfl,fun e he=>he⟩) (fun c s'' hc=>?_) (fun _ _ x=>x))
  ·rintro e r2 c2 s2 ⟨rfl,rfl,k8⟩
   obtain⟨y,t',ey⟩:=hS.all e.2 (b0.mpr ⟨e,k8 e (by simp),rfl⟩)
   obtain⟨h1,v⟩:=e
   obtain rfl:v = .str y t':=ey
   exact ar ⟨rfl,rfl,fun e he=>k8 e (by simp[he])⟩
  ·obtain⟨rfl,rfl⟩:=hc
   exact ar ⟨rfl,rfl,fun b hb=>hm b (by simp[hb])⟩
 ·obtain⟨rfl,rfl⟩:=hc
  exact ar hq
theorem JU{a r:Addr}{ks:List Str}{others:List Addr}{Q:Array (Int×Value)->ah->Prop}(S:bL P w s.heap a ks)(R:bL P w s.heap r [])(oth:∀ b∈others,∃ ls,bL P w s.heap b ls)
  (h:∀ h' arr,ix r s.heap h'->bL P w h' r []->qI P w ks arr->Q arr { s with heap:=h' }):wpAny (model P w) A (Bk a others (some r)) Q E s:=by
 obtain⟨es,ep,t,ss,ho,hS,hp,eW,hsz,hf,gk,cL⟩:=id S.ex
 obtain⟨er,epr,tr,sr,hor,hSr,hpr,helr,HI,jQ,HD,hplr⟩:=id R.ex
 unfold Bk
 refine aj (gG ho rfl hf ?_)
 unfold mP
 dsimp only
 refine aj (aj (kb (ar ?_)))
 have same:∀ arr,qI P w ks arr->Q arr s:=fun arr wk=>h s.heap arr (xI r s.heap) R wk
 refine fK (fun hc=>?_) (fun hc=>?_)
 ·have gK:(cH w || (t.led && t.plain) || decide (es.size<=1))=true:=hc
  refine Fg S ?_ same
  simp only[xH,gF,decide_eq_true_eq]at gK
  rcases gK with(z | z) | z
  ·exact .inl z
  ·exact .inr ⟨es,ep,t,ho,.inl z.2⟩
  ·exact .inr ⟨es,ep,t,ho,.inr z⟩
 ·refine aj (Pq (a::others) (fun b hb=>?_) ?_)
  ·rcases bH.mp hb with rfl | hb
   ·exact⟨_,S⟩
   ·exact oth b hb
  refine fK (fun hc=>absurd hc (by decide)) (fun _=>?_)
  refine aj (jL ?_)
  refine aj (gG hor rfl jQ ?_)
  dsimp only
  refine fK (fun hc=>?_) (fun hc=>?_)
  ·have hl:(tr.led && t.led)=tr.led:=by rw[HD,gk]; cases cH w <;> rfl
   have pR:({ tr with led:=tr.led && t.led,plain:=tr.plain && t.plain }:f7).fits er.size=true:=jQ
   refine aj (rD hor rfl ?_ (uj (mJ HI (by decide))))
   refine ar (h _ _ (mL ..) ⟨er,epr+1,_,sr,bL.put hor,hSr,hpr,helr,HI,pR,?_,fun z=>absurd rfl z⟩ (qI.of hS hp eW (lS _)))
   show(tr.led && t.led)=_
   rw[hl,HD]
  ·refine ar ?_
   exact same _ (qI.of hS hp eW (lS _))
end
end L2
namespace L2
section
variable{P:aK}{w:World}{A:aV}{E:Value->ah->Prop}{s:ah}
theorem bL.ty{a:Addr}{ks:List Str}(S:bL P w s.heap a ks):s.TypeIs (.ref a) "set":=by
 obtain⟨es,ep,t,ss,ho,_⟩:=S.ex
 exact⟨_,ho,rfl⟩
theorem vm{a:Addr}{ks:List Str}{Q:Bool->ah->Prop}(S:bL P w s.heap a ks)(h:Q true s):wpAny (model P w) A (Builtin.Frozenset.isAnySet (.ref a)) Q E s:=by
 unfold Builtin.Frozenset.isAnySet
 refine aj (xK S.ty sub_set_self ?_)
 exact ar h
theorem vG{a:Addr}{ks:List Str}{Q:Nat->ah->Prop}(S:bL P w s.heap a ks)(h:Q ks.length s):wpAny (model P w) A (Ht a) Q E s:=by
 obtain⟨es,ep,t,ss,ho,hS,hp,eW,hsz,hf,gk,cL⟩:=S.ex
 have klen:ks.length=es.size:=by
  have e1:=hp.length_eq
  have e2:ss.length=es.size:=by rw[← hS.strs]; simp
  ac_rfl
 unfold Ht
 refine aj (Ba ho rfl hf (ar ?_))
 rw[← klen]; exact h
theorem QH{Q:Value->ah->Prop}(h:∀ h',bL P w h' s.heap.objs.size []->(∀ b o,s.heap.get? b=some o->h'.get? b=some o)->h'.objs.size=s.heap.objs.size+1->Q (.ref s.heap.objs.size) { s with heap:=h' }) :
  wpAny (model P w) A (newSet (.type "set")) Q E s:=by
 unfold newSet mP
 refine aj (aj (kb (ar ?_)))
 dsimp only
 simp only[newObj]
 refine aj (wpAny_alloc (ar (h _ ⟨#[],0,_,[],cN _ rfl,.nil,lS _,fun e he=>by simp at he,by decide,rfl,rfl,fun h=>absurd rfl h⟩ (fun b o e=>bB _ e) (jg ..))))
end
section
variable{X:Cx}
theorem Pb{ls:List Tx}(h:ls.Nodup):(ls.map tS).Nodup:=by
 rw[List.Nodup,A7]
 exact h.imp fun ne e=>ne (qy e)
end
end L2
namespace Pu
open L2
section
variable{X:Cx}{E:XK}{pin:List Nat}{e e2:Expr}{ds ds2:ae->R (List PV)}{pos p q pos' p4 q2 pos2:Pos}
theorem Lw(l:List Tx):(bP l).Nodup:=by
 unfold bP
 have:∀ (l am:List Tx),am.Nodup->(l.foldl (fun ks x=>if x∈ks then ks else ks++[x]) am).Nodup:=by
  intro l
  induction l with
  | nil=>exact fun am h=>h
  | cons x l ih =>
   intro am h
   rw[iT]
   refine ih _ ?_
   split
   ·exact h
   ·rename_i hx
    rw[xM]
    exact⟨h,by simp,fun y hy z hz e=>by simp at hz; subst hz; subst e; exact hx hy⟩
 exact this l [] List.nodup_nil
def ku:List PV->Option PO
 | [.lst xs]=>(fR xs).bind fun ls=>if(bP ls).length<4000 then some (.lst (af (bD (bP ls))))else none
 | _=>none
def JO(X:Cx):List V->Hp->VK->Prop:=fun xs H Q=>∃ (p:Addr) (ls:List Tx),xs=[.ref p]/\H p=some (gQ X p ls)/\ls.length<4000/\∀ l,H l=none->Q (.ref l) (upd H l (.lst (cm (bD ls))))
theorem Mr:ox X.K (IG X (JO X)) ku:=fun F H xs vs Q po hF rs e q=>by
 unfold ku at e
 split at e
 ·obtain⟨v,rfl,a,us,rfl,ha,_,ru⟩:=gs rs
  obtain⟨ls,e1,e2⟩:=Bg.mp e
  rw[sB e1]at ru
  obtain⟨rfl,hl⟩:=RB.mp ru
  split at e2
  ·rename_i hh
   cases e2
   refine⟨a,ls,rfl,.inl ha,hh,fun b hb=>⟨b,bP ls,rfl,bA,hh,fun l jS=>?_⟩⟩
   have hlb:l≠b:=by rintro rfl; rw[bA]at jS; cases jS
   have iF:H l=none:=by rw[bp hlb]at jS; exact jS
   have al:Al F F H (upd (upd H b (gQ X b (bP ls))) l (.lst (cm (bD (bP ls))))):=(Al.new0 hb).trans (Al.new0 jS)
   refine q l F _ (fun c=>c=l) al ⟨⟨_,bA,RB.mpr ⟨rfl,fun x hx=>hl x ((lx _ _).mp ((jF _).mem_iff.mp hx))⟩⟩,fun c=>pF⟩ fun c z=>?_
   subst z
   exact⟨iF,fun z=>Exists.elim (hF _ z) (fun o w=>by rw[iF]at w; cases w),_,bA,trivial⟩
  ·cases e2
 ·cases e
theorem y_(hc:X.calm=true)(ha:DA X E [e] ds)(hm:X.mg "sorted" = none)(k8:X.mg "set" = none)(hg:Gl X "sorted":=by rfl)(hg2:Gl X "set":=by rfl)(h:lq e=false:=by rfl) :
  DN X E (.Call (.Name "sorted" p) [.Call (.Name "set" q) [e] [] pos'] [] pos) (dL ku ds):=fun F S ε σ H Q rl h' =>
 cE (pc (Dm hc) hg hm vo (jU (t6 (zh hc) hg2 k8 zZ gy (by decide) (by decide) (jG h) rfl) l9 (jG rfl)) (by decide) (by decide) (jG rfl) rfl) (xf Mr ha rl h')
def qE:List PV->Option (List Tx)
 | [.lst xs]=>(fR xs).bind fun ls=>if(bP ls).length<4000 then some (bP ls)else none
 | _=>none
theorem C8{H:Hp}{F:Addr->Prop}{xs:List PV}{vs:List V}{ls:List Tx}(rs:a9 X.K H F xs vs)(e:qE xs=some ls) :
  ∃ (p:Addr) (zs:List Tx),vs=[.ref p]/\bO X.K H p (cm zs)/\(bP zs).length<4000/\ls=bP zs/\∀ x∈zs,x.length<=be:=by
 unfold qE at e
 split at e
 ·obtain⟨v,rfl,a,us,rfl,ha,_,ru⟩:=gs rs
  obtain⟨zs,e1,e2⟩:=Bg.mp e
  rw[sB e1]at ru
  obtain⟨rfl,hl⟩:=RB.mp ru
  split at e2
  ·cases e2; exact⟨a,zs,rfl,.inl ha,by assumption,rfl,hl⟩
  ·cases e2
 ·cases e
end
end Pu
namespace Pu
open L2
def i7:List Int->Int
 | []=>0
 | x::r=>r.foldl (fun b y=>if y > b then y else b) x
theorem Nx(l:List Int)(y:Int)(h:l≠[]):i7 (l++[y])=if y > i7 l then y else i7 l:=by
 cases l with
 | nil=>exact absurd rfl h
 | cons x r =>
  show(r++[y]).foldl _ x=_
  rw[A9]; rfl
theorem Fc(ls:List Int):∀ k,k<ls.length->ls[kJ (fun i j=>decide (ls.getD i 0 > ls.getD j 0)) k]?=some (i7 (ls.take (k+1)))
 | 0,h=>by
  cases ls with
  | nil=>cases h
  | cons x r=>simp[kJ,i7]
 | k+1,h=>by
  have ih:=Fc ls k (by ac_rfl)
  have e:ls.take (k+1+1)=ls.take (k+1)++[ls[k+1]]:=by rw[Hh h]
  have hb:=zO (fun i j=>decide (ls.getD i 0 > ls.getD j 0)) k
  rw[e,Nx _ _ (by intro z; have:=congrArg pt z; rw[gE,nS]at this; ac_rfl)]
  unfold kJ
  have e1:ls.getD (k+1) 0=ls[k+1]:=by simp[ro,h]
  have e2:ls.getD (kJ (fun i j=>decide (ls.getD i 0 > ls.getD j 0)) k) 0=i7 (ls.take (k+1)):=by
   rw[rG,ih]; rfl
  rw[e1,e2]
  by_cases c:ls[k+1] > i7 (ls.take (k+1))
  ·rw[if_pos (by simpa using c),if_pos c]; simp[h]
  ·rw[if_neg (by simpa using c),if_neg c]; exact ih
section
variable{X:Cx}
theorem Ag{ls:List Int}{its:List Value}(r:bh (ls.map V.int) its){i:Nat}{v:Value}(h:its.toArray[i]?=some v):∃ t,v = .int (ls.getD i 0) t:=by
 have hl:=r.length
 rw[cq]at hl
 have hi:i<its.length:=by have:=(nU.mp h).1; simpa using this
 have e:(ls.map V.int)[i]?=some (V.int (ls.getD i 0)):=by
  rw[iA,eV (by ac_rfl)]
  simp[ro,eV (show i<ls.length by ac_rfl)]
 obtain⟨u,e1,e2⟩:=r.get e
 have:its[i]?=some v:=by simpa using h
 rw[this]at e1
 cases e1
 exact e2
theorem Mt(hc:X.calm=true):fP X (.builtin "max") (fun xs H Q=>∃ (p:Addr) (ls:List Int),xs=[.ref p]/\bO X.K H p (ls.map V.int)/\ls≠[]/\Q (.int (i7 ls)) H):=by
 intro aa s σ H xs us Q I r h
 obtain⟨p,ls,rfl,hq,b9,q⟩:=h
 obtain⟨u,rfl,ru⟩:=vals1 r
 cases ru
 obtain⟨its,rv,pl,hz⟩:=I.list hq
 have hl:=rv.length
 rw[cq]at hl
 have hn:0<ls.length:=by cases ls with | nil=>exact absurd rfl b9 | cons=>simp
 refine call_max_walk (xF pl.isList ?_)
 have BD:p≠s.heap.objs.size:=by
  obtain⟨o,ho,_⟩:=pl.isList
  exact cO (bq ho)
 refine⟨s.heap.objs.size,_,_,_,_,_,fun i j=>decide (ls.getD i 0 > ls.getD j 0),rfl,Walks.list (tj (I.ok.hd hc)) s.heap.objs.size p BD its.toArray,⟨⟨_,cN _ rfl,rfl,rfl⟩,?_⟩,?_,by rw[cA]; ac_rfl,fun i j vi vj s' Q' E' hi hj hQ=>?_,fun v h' tk hv k=>?_⟩
 ·obtain⟨o,ho,hc,hd⟩:=pl.isList
  exact⟨o,bB _ ho,hc,hd⟩
 ·intro b hb
  obtain⟨o,ho,_⟩:=pl.isList
  have lX:p<s.heap.objs.size:=bq ho
  have sz:∀ o:Obj,(s.heap.push o).objs.size=s.heap.objs.size+1:=fun o=>by simp[Heap.push]
  rcases bH.mp hb with rfl | hb
  ·show _<(s.heap.push _).objs.size
   rw[sz]; exact j8 _
  ·rw[f8.mp hb]
   show _<(s.heap.push _).objs.size
   rw[sz]; exact kc lX
 ·obtain⟨t,rfl⟩:=Ag rv hi
  obtain⟨t',rfl⟩:=Ag rv hj
  exact gt_int hQ
 ·obtain⟨t,rfl⟩:=Ag rv hv
  have e:ls.getD (kJ (fun i j=>decide (ls.getD i 0 > ls.getD j 0)) (its.toArray.size-1)) 0=i7 ls:=by
   rw[cA,← hl,rG,Fc ls _ (by ac_rfl),show ls.length-1+1=ls.length by ac_rfl,pH]; rfl
  rw[e]
  have I1:Inv X aa σ H { s with heap:=s.heap.push { cls:=.type "list_iterator",data:=.fields #[.ref p,.int 0 0] },toks:=s.toks }:=I.kept (t':=s.toks) fun b o e=>bB _ e
  exact⟨.int (i7 ls),H,Inv.turned (t':=tk) I1 (it:=s.heap.objs.size) (fun b o hb e=>k b o (by simpa using hb) e) I.fresh (nP I.lt) (.inr I.sz) (fun x c e z=>by
   obtain⟨v,qq⟩:=I.cell x c e
   exact absurd qq.lt (by rw[z]; exact fh _)) (fun pp hp z=>absurd (bq (I.pin pp hp).1) (by rw[z]; exact fh _)),⟨t,rfl⟩,q⟩
def io:List PV->Option (List Int)
 | []=>some []
 | .int i::r=>(io r).map (i::·)
 | _=>none
theorem BW{K:ao}{H:Hp}{F:Addr->Prop}:∀ {xs:List PV} {vs:List V} {is:List Int},a9 K H F xs vs->io xs=some is->vs=is.map V.int
 | [],_,_,r,e=>by cases e; exact r
 | .int i::xs,_,is,⟨v,r,rfl,h1,h2⟩,e=>by
  cases q:io xs with
  | none=>simp[io,q]at e
  | some js =>
   simp[io,q]at e
   subst e
   rw[BW h2 q,show v=V.int i from h1]; rfl
 | .non::_,_,_,_,e=>by simp[io]at e
 | .bl _::_,_,_,_,e=>by simp[io]at e
 | .str _::_,_,_,_,e=>by simp[io]at e
 | .tup _::_,_,_,_,e=>by simp[io]at e
 | .lst _::_,_,_,_,e=>by simp[io]at e
 | .raw _::_,_,_,_,e=>by simp[io]at e
 | .exc _::_,_,_,_,e=>by simp[io]at e
def tX:List PV->Option PV
 | [.lst xs]=>(io xs).bind fun is=>if is≠[] then some (.int (i7 is))else none
 | _=>none
theorem Ou:PL X.K (fun xs H Q=>∃ (p:Addr) (ls:List Int),xs=[.ref p]/\bO X.K H p (ls.map V.int)/\ls≠[]/\Q (.int (i7 ls)) H) tX:=fun F H xs vs Q pv rs e q=>by
 unfold tX at e
 split at e
 ·obtain⟨v,rfl,a,us,rfl,ha,_,ru⟩:=gs rs
  obtain⟨is,e1,e2⟩:=Bg.mp e
  have:=BW ru e1
  subst this
  split at e2
  ·rename_i hh
   cases e2
   exact⟨a,is,rfl,.inl ha,hh,q _ F H (Al.refl ..) rfl⟩
  ·cases e2
 ·cases e
end
theorem Df:eE "max" = some (.builtin "max"):=by decide +kernel
end Pu
namespace Pu
open L2
section
variable{K:ao}{H:Hp}{F:Addr->Prop}
theorem qe.len{fs:List (Str×PV)}{ws:List (Str×V)}(h:qe K H F fs ws):ws.length=fs.length:=by
 unfold qe at h
 induction h with
 | nil=>rfl
 | cons _ _ ih=>simp[ih]
end
end Pu
namespace Mx
theorem MI(p:Nat):∃ o,5 ^ (2 ^ p)=1+2 ^ (p+2) * (2 * o+1):=by
 induction p with
 | zero=>exact⟨0,by decide⟩
 | succ p ih =>
  obtain⟨o,h⟩:=ih
  refine⟨o+2 ^ p * (2 * o+1) * (2 * o+1),?_⟩
  rw[show 2 ^ (p+1)=2 ^ p * 2 from pK ..,Nat.pow_mul,h]
  rw[show(2:Nat) ^ (p+1+2)=8 * 2 ^ p from by rw[Nat.pow_add,pK]; ac_rfl,show(2:Nat) ^ (p+2)=4 * 2 ^ p from by rw[Nat.pow_add]; ac_rfl]
  generalize 2 ^ p=q
  grind
def F5:Nat->Nat->Nat
 | 0,x=>x
 | n+1,x=>F5 n (5 * x+1)
theorem Nu(m n x:Nat):F5 (m+n) x=F5 n (F5 m x):=by
 induction m generalizing x with
 | zero=>simp[F5]
 | succ m ih=>rw[xO]; exact ih _
theorem Qx(n x:Nat):4 * F5 n x+1=5 ^ n * (4 * x+1):=by
 induction n generalizing x with
 | zero=>simp[F5]
 | succ n ih=>show 4 * F5 n (5 * x+1)+1=_; rw[ih,pK]; grind
theorem Nl(p x:Nat):∃ o,F5 (2 ^ p) x=x+2 ^ p * (2 * o+1):=by
 obtain⟨o,h⟩:=MI p
 have c:=Qx (2 ^ p) x
 rw[h,show(2:Nat) ^ (p+2)=4 * 2 ^ p from by rw[Nat.pow_add]; ac_rfl]at c
 refine⟨o * (4 * x+1)+2 * x,?_⟩
 generalize 2 ^ p=q at c
 generalize F5 q x=y at c
 grind
theorem Ow(p:Nat):∀ x y,y<2 ^ p->∃ n,n<2 ^ p/\F5 n x % 2 ^ p=y:=by
 induction p with
 | zero=>intro x y h; exact⟨0,by decide,by simp at h; subst h; simp[Nat.mod_one]⟩
 | succ p ih =>
  intro x y hy
  obtain⟨n,hn,e⟩:=ih x (y % 2 ^ p) (pD _ (Nat.two_pow_pos p))
  have hp:(2:Nat) ^ (p+1)=2 * 2 ^ p:=by rw[pK]; ac_rfl
  obtain⟨o,j⟩:=Nl p (F5 n x)
  have pos:=Nat.two_pow_pos p
  by_cases q:F5 n x % 2 ^ (p+1)=y
  ·exact⟨n,by ac_rfl,q⟩
  ·refine⟨n+2 ^ p,by ac_rfl,?_⟩
   rw[Nu,j]
   rw[hp]at q hy ⊢
   generalize 2 ^ p=N at *
   generalize F5 n x=z at *
   have h1:z % (2 * N) % N=z % N:=Nat.mod_mod_of_dvd _ ⟨2,by ac_rfl⟩
   have h2:(z+N * (2 * o+1)) % (2 * N)=(z+N) % (2 * N):=by
    rw[show z+N * (2 * o+1)=(z+N)+(2 * N) * o by grind,Nat.add_mul_mod_self_left]
   rw[h2]
   have hz:=pD z (show 2 * N > 0 by ac_rfl)
   have h3:(z+N) % (2 * N)=(z % (2 * N)+N) % (2 * N):=by rw[rH]; simp[rH,nY (show N<2 * N by ac_rfl)]
   rw[h3]
   generalize z % (2 * N)=u at *
   rw[← h1]at e
   have a1:=Nat.div_add_mod u N
   have a2:=Nat.div_add_mod y N
   have b1:u / N<2:=Nat.div_lt_of_lt_mul (by rw[xS]; exact hz)
   have b2:y / N<2:=Nat.div_lt_of_lt_mul (by rw[xS]; exact hy)
   rw[e]at a1
   generalize u / N=uq at a1 b1
   generalize y / N=yq at a2 b2
   have m1:=pD y pos
   rcases(show uq=0\/uq=1 by ac_rfl)with c1 | c1 <;> rcases(show yq=0\/yq=1 by ac_rfl)with c2 | c2 <;> subst c1 <;> subst c2 <;> simp only[Nat.mul_zero,Nat.mul_one,nX]at a1 a2
   ·exact absurd (a1.symm.trans a2) q
   ·rw[nY (by ac_rfl)]; ac_rfl
   ·rw[show u+N=y+2 * N by ac_rfl,Nat.add_mod_right,nY (by ac_rfl)]
   ·exact absurd (a1.symm.trans a2) q
end Mx
namespace L2
open Mx
def gZ(mask:Nat):Nat->Nat->Nat->Nat×Nat
 | 0,i,p=>(i,p)
 | n+1,i,p=>gZ mask n (SetTable.leap mask i p).1 (SetTable.leap mask i p).2
theorem F7(mask:Nat):∀ (m n i p:Nat),gZ mask (m+n) i p=gZ mask n (gZ mask m i p).1 (gZ mask m i p).2
 | 0,n,i,p=>by rw[nX]; rfl
 | m+1,n,i,p=>by rw[xO]; exact F7 mask m n _ _
theorem EY(mask:Nat):∀ (m i p:Nat),(gZ mask m i p).2=p / 32 ^ m
 | 0,i,p=>by simp[gZ]
 | m+1,i,p=>by
  show(gZ mask m _ _).2=_
  rw[EY mask m]
  show p / 32 / 32 ^ m=_
  rw[Nat.div_div_eq_div_mul,pK,xS]
theorem BU(mask:Nat):∀ (n i:Nat),(gZ mask n i 0).1 % (mask+1)=F5 n i % (mask+1)
 | 0,i=>rfl
 | n+1,i=>by
  show(gZ mask n ((i * 5+1+0 / 32) % (mask+1)) (0 / 32)).1 % _=F5 n (5 * i+1) % _
  rw[show 0 / 32=0 from rfl,BU mask n,Nat.add_zero,xS i 5]
  exact F5_mod n (mask+1) (5 * i+1)
where
 F5_mod:∀ (n N x:Nat),F5 n (x % N) % N=F5 n x % N
  | 0,N,x=>by simp[F5]
  | n+1,N,x=>by
   show F5 n (5 * (x % N)+1) % N=F5 n (5 * x+1) % N
   rw[← F5_mod n N (5 * (x % N)+1),← F5_mod n N (5 * x+1)]
   congr 2
   rw[rH,Nat.mul_mod,Nat.mod_mod,← Nat.mul_mod,← rH]
theorem CS(mask:Nat):∀ (n i p:Nat),(gZ mask (n+1) i p).1<mask+1
 | 0,i,p=>pD _ (Nat.succ_pos _)
 | n+1,i,p=>CS mask n _ _
theorem Fj{mask:Nat}{owner:Array (Option Nat)}:∀ (bw i p:Nat),(∃ t,t<bw/\(owner.getD (gZ mask t i p).1 (some 0)).isNone=true)->∃ j,ut mask owner bw i p=some j/\(owner.getD j (some 0)).isNone=true
 | 0,i,p,⟨t,h,_⟩=>absurd h (Nat.not_lt_zero _)
 | bw+1,i,p,⟨t,h,e⟩=>by
  unfold ut
  cases q:(bE (SetTable.runEnd mask i+1-i)).find? (fun k=>(owner.getD (i+k) (some 0)).isNone)with
  | some k=>exact⟨i+k,rfl,by have:=List.find?_some q; exact this⟩
  | none =>
   cases t with
   | zero =>
    have:=Hu.mp q 0 (by rw[nM]; unfold SetTable.runEnd; split <;> ac_rfl)
    exact absurd (show(owner.getD (i+0) (some 0)).isNone=true from e) this
   | succ t=>exact Fj bw _ _ ⟨t,by ac_rfl,e⟩
theorem Nv{mask q:Nat}{owner:Array (Option Nat)}(hm:mask+1=2 ^ q)(hs:owner.size=mask+1){y:Nat}(hy:y<owner.size)(he:owner[y]?=some none)(i p:Nat)(hp:p<2 ^ 64) :
  ∃ j,ut mask owner (uu mask) i p=some j/\owner[j]?=some none:=by
 obtain⟨n,hn,e⟩:=Ow q (gZ mask 13 i p).1 y (by rw[← hm,← hs]; exact hy)
 have h0:(gZ mask 13 i p).2=0:=by
  rw[EY]
  exact Nat.div_eq_of_lt (gB hp (by decide))
 have aX:(gZ mask (13+n) i p).1<mask+1:=by rw[show 13+n=(12+n)+1 by ac_rfl]; exact CS mask _ _ _
 have e1:(gZ mask (13+n) i p).1=y:=by
  have e2:(gZ mask (13+n) i p).1 % (mask+1)=y:=by
   rw[F7,h0,BU,hm]; exact e
  rwa[nY aX]at e2
 obtain⟨j,f1,f2⟩:=Fj (mask:=mask) (owner:=owner) (uu mask) i p ⟨13+n,by unfold uu; ac_rfl,by rw[e1,Hv,he]; rfl⟩
 refine⟨j,f1,?_⟩
 rw[Hv]at f2
 cases hj:owner[j]? with
 | none=>rw[hj]at f2; cases f2
 | some o =>
  rw[hj]at f2
  cases o with
  | none=>rfl
  | some v=>cases f2
theorem B6:∀ (l:List (Option Nat)) (j k:Nat),l[j]?=some none->((l.set j (some k)).filterMap id).Perm (k::l.filterMap id)
 | [],j,k,h=>by simp at h
 | x::l,0,k,h=>by
  simp at h
  subst h
  simp
 | x::l,j+1,k,h=>by
  have ih:=B6 l j k (by simpa using h)
  cases x with
  | none=>simpa using ih
  | some v =>
   simp only[List.set_cons_succ,mG,id]
   exact(ih.cons v).trans (List.Perm.swap ..)
theorem BN:∀ (l:List (Option Nat)),(∀ y,y<l.length->l[y]?≠some none)->(l.filterMap id).length=l.length
 | [],_=>rfl
 | x::l,h=>by
  have ih:=BN l fun y hy e=>h (y+1) (by simp; ac_rfl) (by simpa using e)
  cases x with
  | none=>exact absurd rfl (h 0 (by simp))
  | some v=>simp[ih]
def Laid(mask:Nat)(owner:Array (Option Nat))(k:Nat):Prop:=owner.size=mask+1/\(owner.toList.filterMap id).Perm (bE k)
theorem P5{mask q k:Nat}{owner:Array (Option Nat)}(hm:mask+1=2 ^ q)(L:Laid mask owner k)(hk:k<mask+1)(h:Int) :
  ∃ j,ut mask owner (uu mask) (nZ h % (mask+1)) (nZ h)=some j/\Laid mask (owner.setIfInBounds j (some k)) (k+1):=by
 obtain⟨hs,hp⟩:=L
 have:∃ y,y<owner.toList.length/\owner.toList[y]?=some none:=by
  by_cases z:∃ y,y<owner.toList.length/\owner.toList[y]?=some none
  ·exact z
  ·have:=BN owner.toList fun y hy e=>z ⟨y,hy,e⟩
   have:=hp.length_eq
   simp at this
   simp at *
   ac_rfl
 obtain⟨y,hy,he⟩:=this
 have hb:nZ h<2 ^ 64:=by
  unfold nZ
  have:=Bl h (show(0:Int)<2 ^ 64 by decide)
  have:=Bm h (show(2 ^ 64:Int)≠0 by decide)
  ac_rfl
 obtain⟨j,f1,f2⟩:=Nv hm hs (by simpa using hy) (by simpa using he) (nZ h % (mask+1)) _ hb
 refine⟨j,f1,by simpa using hs,?_⟩
 rw[Array.toList_setIfInBounds,rq]
 exact(B6 owner.toList j k (by simpa using f2)).trans ((hp.cons k).trans (List.perm_append_singleton ..).symm)
theorem KD{mask q:Nat}(hm:mask+1=2 ^ q)(Rc:Array Int)(hn:Rc.size<=mask):∃ owner,G9 mask Rc=some owner/\Laid mask owner Rc.size:=by
 unfold G9
 have gen:∀ (l:List Int) (owner:Array (Option Nat)) (k:Nat),Laid mask owner k->k+l.length<=mask+1->∃ owner',l.foldl (fun am h=>do
   let (owner,k) ← am
   let j ← ut mask owner (uu mask) (nZ h % (mask+1)) (nZ h)
   pure (owner.setIfInBounds j (some k),k+1)) (some (owner,k))=some (owner',k+l.length)/\Laid mask owner' (k+l.length):=by
  intro l
  induction l with
  | nil=>intro owner k L _; exact⟨owner,rfl,L⟩
  | cons h l ih =>
   intro owner k L hk
   simp only[dQ]at hk
   obtain⟨j,f1,L2⟩:=P5 hm L (by ac_rfl) h
   obtain⟨owner',e,L3⟩:=ih _ _ L2 (by ac_rfl)
   refine⟨owner',?_,by rw[dQ,show k+(l.length+1)=k+1+l.length by ac_rfl]; exact L3⟩
   rw[iT]
   show l.foldl _ ((ut mask owner (uu mask) (nZ h % (mask+1)) (nZ h)).bind fun j=>some (owner.setIfInBounds j (some k),k+1))=_
   rw[f1,dQ,show k+(l.length+1)=k+1+l.length by ac_rfl]
   exact e
 obtain⟨owner',e,L⟩:=gen Rc.toList (Array.replicate (mask+1) none) 0 ⟨by simp,by simp⟩ (by simp; ac_rfl)
 refine⟨owner',?_,by simpa using L⟩
 rw[← Array.foldl_toList]
 have e':=congrArg (Option.map (·.1)) e
 exact e'
end L2
namespace L2
open Mx
theorem Km(n:Nat)(hn:n<2 ^ 60):∃ q,mK n=2 ^ q/\n<mK n/\(mK n<=2 * n\/mK n=8)/\8<=mK n:=by
 have gen:∀ (bw size:Nat),(∃ q,size=2 ^ q)->(size<=2 * n\/size=8)->8<=size->n<size * 2 ^ bw->∃ q,uv n bw size=2 ^ q/\n<uv n bw size/\(uv n bw size<=2 * n\/uv n bw size=8)/\8<=uv n bw size:=by
  intro bw
  induction bw with
  | zero=>intro size ⟨q,hq⟩ h1 h8 h2; exact⟨q,hq,by show n<size; simpa using h2,h1,h8⟩
  | succ bw ih =>
   intro size ⟨q,hq⟩ h1 h8 h2
   unfold uv
   split
   ·refine ih (size * 2) ⟨q+1,by rw[hq,pK]⟩ (.inl (by ac_rfl)) (by ac_rfl) ?_
    rw[pK]at h2
    rw[Nat.mul_assoc,xS 2]; exact h2
   ·rename_i h
    exact⟨q,hq,by ac_rfl,h1,h8⟩
 exact gen 64 8 ⟨3,rfl⟩ (.inr rfl) (aL _) (gB hn (by decide))
theorem GM{mask q finger moves:Nat}{led plain:Bool}(hm:mask+1=2 ^ q)(es:Array (Int×Value))(hn:es.size<=mask) :
  ∃ (t:f7) (order:Array Nat),SetTable.laid mask finger moves led plain (es.map (·.1))=some (t,order)/\order.toList.Perm (bE es.size)/\t.fits es.size=true/\t.led=led/\t.plain=plain/\t.dummies = #[]/\t.mask=mask/\t.place.size=es.size:=by
 obtain⟨owner,e,hs,hp⟩:=KD hm (es.map (·.1)) (by simpa using hn)
 simp only[Array.size_map]at hp
 have e2:((bE (mask+1)).filterMap fun j=>(owner.getD j none).map (j,·)).map (·.2)=owner.toList.filterMap id:=by
  rw[List.map_filterMap]
  have:(fun x=>Option.map (fun x:Nat×Nat=>x.2) (Option.map (fun x_1=>(x,x_1)) (owner.getD x none)))=fun j=>owner.getD j none:=by
   funext j; cases owner.getD j none <;> rfl
  rw[this,← hs]
  have gen:∀ (l:List (Option Nat)),(bE l.length).filterMap (fun j=>l.getD j none)=l.filterMap id:=by
   intro l
   induction l with
   | nil=>rfl
   | cons x l ih =>
    rw[dQ,rn,mG,GZ,mG]
    have e3:((fun j=>(x::l).getD j none) ∘ Nat.succ)=fun j=>l.getD j none:=by funext j; simp
    rw[e3,ih]
    cases x <;> rfl
  have:=gen owner.toList
  rw[gD]at this
  rw[← this]
  congr 1
  funext j
  simp[Hv,rG]
 have b7:((bE (mask+1)).filterMap fun j=>(owner.getD j none).map (j,·)).length=es.size:=by
  rw[← cq (f:=fun x:Nat×Nat=>x.2),e2]
  have:=hp.length_eq
  simpa using this
 refine⟨_,_,by unfold SetTable.laid; rw[e]; rfl,?_,?_,rfl,rfl,rfl,rfl,?_⟩
 ·show(((bE (mask+1)).filterMap fun j=>(owner.getD j none).map (j,·)).map (·.2)).toArray.toList.Perm _
  rw[Hs,e2]; exact hp
 ·unfold rE rJ
  simp only[cA,cq,b7]
  simp[hn]
 ·show(((bE (mask+1)).filterMap fun j=>(owner.getD j none).map (j,·)).map (·.1)).toArray.size=_
  rw[cA,cq,b7]
theorem QT{es:Array (Int×Value)}{order:Array Nat}(h:order.toList.Perm (bE es.size)):(order.filterMap (es[·]?)).toList.Perm es.toList:=by
 rw[Array.toList_filterMap]
 refine(h.filterMap _).trans ?_
 have:(bE es.size).filterMap (fun x=>es[x]?)=es.toList:=by
  have gen:∀ l:List (Int×Value),(bE l.length).filterMap (fun x=>l[x]?)=l:=by
   intro l
   induction l with
   | nil=>rfl
   | cons x l ih =>
    rw[dQ,rn,mG,GZ]
    have e3:((fun j=>(x::l)[j]?) ∘ Nat.succ)=fun j=>l[j]?:=by funext j; simp
    rw[e3,ih]; rfl
  have:=gen es.toList
  rw[gD]at this
  simpa using this
 rw[this]
end L2
namespace L2
open Mx
section
variable{P:aK}{w:World}{A:aV}{E:Value->ah->Prop}{s:ah}
structure zw(P:aK)(w:World)(h:Heap)(a:Addr)(ks:List Str)(es:Array (Int×Value))(ep:Nat)(t:f7)(ss:List Str):Prop where
 at_:h.get? a=some { cls:=.type "set",dict:=none,data:=.set es ep t }
 texts:dH (es.toList.map (·.2)) ss
 perm:ss.Perm ks
 el:ElemsOf (cU P w) es.toList
 sz:es.size<4090
 fits:t.fits es.size=true
 led:t.led=(!cH w)
 plain:t.plain=false
 dum:t.dummies = #[]
 mask:7<=t.mask
theorem zw.toS{h:Heap}{a:Addr}{ks:List Str}{es:Array (Int×Value)}{ep:Nat}{t:f7}{ss:List Str}(x:zw P w h a ks es ep t ss):bL P w h a ks :=
 ⟨es,ep,t,ss,x.at_,x.texts,x.perm,x.el,x.sz,x.fits,x.led,fun _=>x.plain⟩
theorem bL.len{h:Heap}{a:Addr}{ks:List Str}{es:Array (Int×Value)}{ss:List Str}(hS:dH (es.toList.map (·.2)) ss)(hp:ss.Perm ks):ks.length=es.size:=by
 have e1:=hp.length_eq
 have e2:ss.length=es.size:=by rw[← hS.strs]; simp
 ac_rfl
theorem Na{a:Addr}{ks:List Str}{Q:Value->ah->Prop}(S:bL P w s.heap a ks)(h8:8<=ks.length)(hk:ks.length<4000)
  (h:∀ h' es ep t ss,zw P w h' s.heap.objs.size ks es ep t ss->(∀ b o,s.heap.get? b=some o->h'.get? b=some o)->Q (.ref s.heap.objs.size) { s with heap:=h' }) :
  wpAny (model P w) A (Builtin.Frozenset.copyOf a) Q E s:=by
 obtain⟨es,ep,t,ss,ho,hS,hp,eW,hsz,hf,gk,cL⟩:=id S.ex
 have klen:=bL.len (h:=s.heap) (a:=a) hS hp
 have b9:a≠s.heap.objs.size:=cO (bq ho)
 have xZ:t.plain=false:=cL fun z=>by rw[z]at h8; simp at h8
 unfold Builtin.Frozenset.copyOf Builtin.Frozenset.baseOf
 refine aj (aj (xK S.ty sub_set_self (ar ?_)))
 rw[if_pos rfl]
 unfold newSet mP
 refine aj (aj (aj (kb (ar ?_))))
 dsimp only
 simp only[newObj]
 refine aj (wpAny_alloc (ar ?_))
 refine aj (ar ?_)
 generalize hT0:(SetTable.fresh 0 0 _:f7)=t0
 have t0m:t0.mask=7:=by rw[← hT0]; rfl
 have t0p:t0.place = #[]:=by rw[← hT0]; rfl
 have t0d:t0.dummies = #[]:=by rw[← hT0]; rfl
 have t0l:t0.led=(!cH w):=by rw[← hT0]; rfl
 have old:∀ b o,s.heap.get? b=some o->(s.heap.push { cls:=.type "set",data:=.set #[] 0 t0 }).get? b=some o:=fun b o e=>bB _ e
 have hr:(s.heap.push { cls:=.type "set",data:=.set #[] 0 t0 }).get? s.heap.objs.size=some { cls:=.type "set",dict:=none,data:=.set #[] 0 t0 }:=cN _ rfl
 have lY:=old a _ ho
 generalize s.heap.push { cls:=.type "set",data:=.set #[] 0 t0 }=h1 at old hr lY
 unfold setMerge
 refine aj ?_
 refine fK (fun hc=>absurd (show(s.heap.objs.size == a)=true from hc) (by simp; exact fun z=>b9 z.symm)) (fun _=>?_)
 refine aj (gG (s:={ s with heap:=h1 }) lY rfl hf ?_)
 dsimp only
 refine fK (fun hc=>by
  have hc:es.isEmpty=true:=hc
  rw[Array.isEmpty_iff]at hc
  have:es.size=0:=by rw[hc]; rfl
  ac_rfl) (fun _=>?_)
 obtain⟨q,hq,aX,fo,fM⟩:=Km (es.size * 2) (by ac_rfl)
 have relay:∀ {QQ:Unit->ah->Prop},(∀ h2 (t2:f7),h2.get? s.heap.objs.size=some { cls:=.type "set",dict:=none,data:=.set #[] 1 t2 }->t2.mask=mK (es.size * 2)-1->t2.place = #[]->t2.dummies = #[]->t2.led=(!cH w)->ix s.heap.objs.size h1 h2->QQ () { s with heap:=h2 }) ->
   wpAny (model P w) A (setRoomFor s.heap.objs.size es.size) QQ E { s with heap:=h1 }:=fun {QQ} vc=>by
  have hf0:t0.fits (#[]:Array (Int×Value)).size=true:=by unfold rE rJ; rw[t0p,t0d,t0m]; rfl
  unfold setRoomFor
  refine aj (gG (s:={ s with heap:=h1 }) hr rfl hf0 ?_)
  have By:t0.roomFor es.size=some (es.size * 2):=by
   unfold SetTable.roomFor rJ
   rw[t0p,t0d,t0m]
   rw[if_pos (by simp; ac_rfl)]
   simp
  dsimp only
  rw[By]
  show wpAny _ _ (setRelay s.heap.objs.size (es.size * 2)) _ _ _
  unfold setRelay
  refine aj (gG (s:={ s with heap:=h1 }) hr rfl hf0 ?_)
  dsimp only
  refine fK (fun hc=>absurd (show mK (es.size * 2) > a7 from hc) (Nat.not_lt.mpr (lM (wZ (by ac_rfl))))) (fun _=>?_)
  obtain⟨t2,order,l1,l2,l3,l4,l5,l6,l7,l8⟩:=GM (mask:=mK (es.size * 2)-1) (q:=q) (finger:=t0.finger) (moves:=t0.movedTo (mK (es.size * 2)-1)) (led:=t0.led) (plain:=t0.plain) (by ac_rfl) #[] (j9 _)
  have l1':t0.relaid ((#[]:Array (Int×Value)).map (·.1)) (es.size * 2)=some (t2,order):=l1
  rw[l1']
  have ho0:order = #[]:=by
   have:=l2.length_eq
   simp at this
   exact this
  subst ho0
  refine aj (dG (Q:=fun r s'=>r=((#[]:Array (Int×Value)),t2)/\s'={ s with heap:=h1 }) (E:=E) ?_ (fun r s' kj=>?_) (fun _ _ x=>x))
  ·exact ar ⟨rfl,rfl⟩
  ·obtain⟨rfl,rfl⟩:=kj
   refine rD (s:={ s with heap:=h1 }) hr rfl ?_ (j9 _)
   refine vc _ t2 (bL.put hr) l7 (by have:=l8; simpa using this) l6 (l4.trans t0l) (mL ..)
 refine aj (relay fun h2 t2 g1 g2 g3 g4 g5 g6=>?_)
 have pR:t2.fits (#[]:Array (Int×Value)).size=true:=by unfold rE rJ; rw[g3,g4]; simp
 refine aj (gG (s:={ s with heap:=h2 }) g1 rfl pR ?_)
 dsimp only
 have Bz:15<=t2.mask:=by rw[g2]; ac_rfl
 have uE:t2.road t = .slotForSlot/\t2.mask=t.mask/\t.dummies = #[]\/t2.road t = .clean:=by
  unfold SetTable.road rJ
  rw[g3,g4]
  by_cases hc:(t2.mask == t.mask && t.dummies.isEmpty)=true
  ·refine .inl ⟨?_,?_⟩
   ·simp[hc]
   ·rw[gF]at hc
    exact⟨by simpa using hc.1,by simpa using hc.2⟩
  ·refine .inr ?_
   simp[hc]
 have oldF:∀ {h3:Heap},ix s.heap.objs.size h2 h3->∀ b o,s.heap.get? b=some o->h3.get? b=some o:=fun {h3} sb b o e=>by
  have hb:b≠s.heap.objs.size:=cO (bq e)
  exact(sb.2 b hb).trans ((g6.2 b hb).trans (old b o e))
 rcases uE with⟨uE,hm1,k8⟩ | uE
 ·rw[uE]
  dsimp only
  refine rD (s:={ s with heap:=h2 }) g1 rfl ?_ (uj (mJ hsz (by decide)))
  refine ar (h _ es 2 _ ss ⟨bL.put g1,hS,hp,eW,hsz,hf,?_,?_,k8,?_⟩ (oldF (mL ..)))
  ·show(t2.led && t.led)=_
   rw[g5,gk]; cases cH w <;> rfl
  ·show(t2.plain && t.plain)=_
   rw[xZ,A6]
  ·show 7<=t.mask
   rw[← hm1]; ac_rfl
 ·rw[uE]
  dsimp only
  obtain⟨t3,order,l1,l2,l3,l4,l5,l6,l7,l8⟩:=GM (mask:=t2.mask) (q:=q) (finger:=t2.finger) (moves:=t2.moves) (led:=t2.led && t.led) (plain:=t2.plain && t.plain) (by rw[g2,← hq]; ac_rfl) es (by rw[g2]; ac_rfl)
  rw[l1]
  have op:=QT l2
  have osz:(order.filterMap (es[·]?)).size=es.size:=by have:=op.length_eq; rw[gD,gD]at this; exact this
  refine aj (dG (Q:=fun r s'=>r=(order.filterMap (es[·]?),t3)/\s'={ s with heap:=h2 }) (E:=E) ?_ (fun r s' kj=>?_) (fun _ _ x=>x))
  ·refine fK (fun hc=>absurd (show((order.filterMap (es[·]?)).size != es.size)=true from hc) (by rw[osz]; simp)) (fun _=>ar ⟨rfl,rfl⟩)
  ·obtain⟨rfl,rfl⟩:=kj
   refine rD (s:={ s with heap:=h2 }) g1 rfl ?_ (uj (mJ (by rw[osz]; exact hsz) (by decide)))
   obtain⟨aE,u1,u2⟩:=su (op.map (fun e:Int×Value=>e.2)) hS
   refine ar (h _ _ 2 t3 aE ⟨bL.put g1,u1,u2.trans hp,eW.perm op,by rw[osz]; exact hsz,by rw[osz]; exact l3,?_,?_,l6,?_⟩ (oldF (mL ..)))
   ·rw[l4,g5,gk]; cases cH w <;> rfl
   ·rw[l5,xZ,A6]
   ·rw[l7]; ac_rfl
end
end L2
namespace L2
open Mx
theorem HP:entryFor table "set.__sub__" = some Builtin.«frozenset.__sub__»:=entryFor_alias (id':="frozenset.__sub__") (by kernel_rfl) rfl (by decide +kernel) (by kernel_rfl)
section
variable{P:aK}{w:World}{A:aV}{E:Value->ah->Prop}{s:ah}
theorem LJ{asked walked r:Addr}{ks ls:List Str}{arr:Array (Int×Value)}{id:String}{was:Nat}{Q:PUnit->ah->Prop}
  (Sk:bL P w s.heap walked ks) (Sl:bL P w s.heap asked ls) (R:bL P w s.heap r []) (h1:walked≠r) (h2:asked≠r) (nk:ks.Nodup) (hk:ks.length<4000) (wk:qI P w ks arr)
  (hw:∃ es t,s.heap.get? walked=some { cls:=.type "set",dict:=none,data:=.set es was t }/\t.fits es.size=true)
  (h:∀ h',ix r s.heap h'->bL P w h' r (ks.filter (·∉ls))->Q ⟨⟩ { s with heap:=h' }) :
  wpAny (model P w) A (forIn arr PUnit.unit fun x __s=>do
    holding [x.snd] (do
     let f ← setFind asked x.snd x.fst
     let there ← pure f.isSome
     if(!there)=true then do
      let _ ← setAddHashed r x.snd x.fst
      pure ()
     else pure ())
    Bn id walked was
    pure (ForInStep.yield PUnit.unit)) Q E s:=by
 obtain⟨ss,e1,e2,e3⟩:=wk.ex
 have ns:ss.Nodup:=e3.nodup_iff.mpr nk
 have fin:∀ {zs:List Str},zs=ss->(zs.filter (·∉ls)).Perm (ks.filter (·∉ls)):=fun {zs} e=>by subst e; exact e3.filter _
 refine wpAny_forIn_array' _ (fun rest _ s'=>∃ h' iE jl,s'={ s with heap:=h' }/\ss=iE++jl/\rest.map (fun e=>e.1)=jl.map (cU P w).hash/\dH (rest.map (·.2)) jl/\ix r s.heap h'/\bL P w h' r (iE.filter (·∉ls))) Q ?_ ?_ arr _ ⟨s.heap,[],ss,rfl,rfl,e1,e2,xI r s.heap,R⟩
 ·rintro⟨hx,x⟩ rest _ s' ⟨h',iE,jl,rfl,mY,f1,f2,jm,R'⟩
  cases jl with
  | nil=>exact absurd f2.length (by simp)
  | cons y jl =>
   rw[dq,dq,uw]at f1
   obtain⟨f0,f1⟩:=f1
   obtain rfl:hx=(cU P w).hash y:=f0
   cases f2 with
   | cons _ tk f2 =>
    have Sl':bL P w h' asked ls:=Sl.at fun o e=>(jm.2 asked h2).trans e
    have nd:=ns
    rw[mY]at nd
    have hy:y∉iE:=fun hm=>by
     rw[xM]at nd
     exact nd.2.2 y hm y (by simp) rfl
    have b7:(iE.filter (·∉ls)).length<4000:=by
     have q1:=rK (fun z=>decide (z∉ls)) iE
     have q2:=e3.length_eq
     rw[mY,cT]at q2
     ac_rfl
    have stay:∀ g_,ix r h' g_->bL P w g_ r ((iE++[y]).filter (·∉ls))->∀ {QQ:ForInStep PUnit->ah->Prop},(∀ s',(∃ h' iE jl,s'={ s with heap:=h' }/\ss=iE++jl/\rest.map (fun e=>e.1)=jl.map (cU P w).hash/\dH (rest.map (·.2)) jl/\ix r s.heap h'/\bL P w h' r (iE.filter (·∉ls)))->QQ (.yield PUnit.unit) s') ->
      wpAny (model P w) A (do
      Bn id walked was
      pure (ForInStep.yield PUnit.unit)) QQ E { s with heap:=g_ }:=fun g_ eI R2 QQ vc=>by
     obtain⟨es,t,pY,oh⟩:=hw
     have d9:g_.get? walked=some { cls:=.type "set",dict:=none,data:=.set es was t }:=(eI.2 walked h1).trans ((jm.2 walked h1).trans pY)
     unfold Bn
     refine aj (aj (xR (s:={ s with heap:=g_ }) d9 rfl oh ?_))
     refine fK (fun hc=>absurd hc (by simp)) (fun _=>ar (ar ?_))
     exact vc _ ⟨g_,iE++[y],jl,rfl,by rw[mY]; simp,f1,f2,jm.trans eI,R2⟩
    refine aj (kG (aj (LR (s:={ s with heap:=h' }) Sl' fun r' hr=>?_)))
    refine aj (ar ?_)
    by_cases hm:y∈ls
    ·rw[decide_eq_true hm]at hr
     rw[if_neg (by rw[hr]; decide)]
     refine ar (stay h' (xI r h') ?_ fun _ z=>z)
     rw[xT]
     simpa[hm]using R'
    ·rw[decide_eq_false hm]at hr
     rw[if_pos (by rw[hr]; rfl)]
     refine aj (Gh (s:={ s with heap:=h' }) R' b7 fun g_ b eI R2=>ar (stay g_ eI ?_ fun _ z=>z))
     have:iN (iE.filter (·∉ls)) y=(iE++[y]).filter (·∉ls):=by
      unfold iN
      rw[if_neg (fun z=>hy (jc.mp z).1),xT]
      simp[hm]
     rw[← this]; exact R2
 ·rintro _ s' ⟨h',iE,jl,rfl,mY,f1,f2,jm,R'⟩
  cases jl with
  | cons y jl=>exact absurd f2.length (by simp)
  | nil =>
   rw[iz]at mY
   exact h h' jm (R'.perm (fin mY.symm))
theorem vT{α:Type}(xs:Array α)(i:Nat):(mS xs i).toList=xs.toList.eraseIdx i:=by
 unfold mS
 rw[iC,Hj,Hj,List.eraseIdx_eq_take_drop_succ]
 simp[List.extract]
 exact kH (by simp)
theorem DQ:∀ {vs:List Value} {ss:List Str} (i:Nat),dH vs ss->dH (vs.eraseIdx i) (ss.eraseIdx i)
 | _,_,i,.nil=>by simpa using StrsAre.nil
 | _,_,0,.cons y t h=>by simpa using h
 | _,_,i+1,.cons y t h=>by simpa using StrsAre.cons y t (DQ i h)
theorem FR:∀ {ss:List Str} {i:Nat} {x:Str},ss.Nodup->ss[i]?=some x->ss.eraseIdx i=ss.filter (·≠x)
 | [],i,x,_,h=>by simp at h
 | y::ss,0,x,nd,h=>by
  simp at h
  subst h
  have hn:=(iS.mp nd).1
  rw[List.eraseIdx_cons_zero,List.filter_cons_of_neg (by simp)]
  exact(n0.mpr fun z hz=>by simp; rintro rfl; exact hn hz).symm
 | y::ss,i+1,x,nd,h=>by
  have h':ss[i]?=some x:=by simpa using h
  have hn:=iS.mp nd
  have hx:x∈ss:=ud h'
  rw[List.eraseIdx_cons_succ,List.filter_cons_of_pos (by simp; rintro rfl; exact hn.1 hx),FR hn.2 h']
theorem JX{r:Addr}{ks:List Str}{es:Array (Int×Value)}{ep:Nat}{t:f7}{ss:List Str}{x:Str}{tk:Tok}{Q:Bool->ah->Prop}(X:zw P w s.heap r ks es ep t ss)(nk:ks.Nodup)
  (h:∀ h' b (es':Array (Int×Value)) (t':f7) ep',ix r s.heap h'->bL P w h' r (ks.filter (·≠x))->h'.get? r=some { cls:=.type "set",dict:=none,data:=.set es' ep' t' }->t'.fits es'.size=true->t'.dummies.size<=1->7<=t'.mask->Q b { s with heap:=h' }) :
  wpAny (model P w) A (setDiscardHashed r (.str x tk) ((cU P w).hash x)) Q E s:=by
 obtain⟨ho,hS,hp,eW,hsz,hf,gk,cL,BF,Bz⟩:=X
 have ns:ss.Nodup:=hp.nodup_iff.mpr nk
 have gI:(cU P w).is x (.str x tk)=true:=by rw[oJ]; simp
 have hb:es.size<scanBound:=mJ hsz (by decide)
 unfold setDiscardHashed
 refine aj ?_
 unfold setFind setFindIn
 refine aj (gG ho rfl hf ?_)
 dsimp only
 rw[byScan_of (knd:=cU P w) (x:=.str x tk) rfl hb eW]
 simp only[if_true]
 refine aj (jL (aj (wpAny_setScan_of gI ho rfl hf eW ?_)))
 cases hr:List.findIdx? (fun e=>(cU P w).is x e.2) es.toList with
 | some i =>
  obtain⟨hi,uS,_⟩:=G_.mp hr
  refine ar ?_
  dsimp only
  simp only[nX]
  have hi':i<es.size:=by simpa using hi
  have hsi:ss[i]?=some x:=by
   have e1:(es.toList.map (·.2))[i]?=some es.toList[i].2:=by rw[iA,eV hi]; rfl
   have gen:∀ {vs:List Value} {zs:List Str} (j:Nat) (v:Value),dH vs zs->vs[j]?=some v->(cU P w).is x v=true->zs[j]?=some x:=by
    intro vs zs j v hh
    induction hh generalizing j with
    | nil=>intro e _; simp at e
    | cons y t' _ ih =>
     intro e q
     cases j with
     | zero=>simp at e; subst e; rw[oJ]at q; have:y=x:=of_decide_eq_true q; subst this; rfl
     | succ j=>simpa using ih j (by simpa using e) q
   exact gen i _ hS e1 uS
  refine aj (gG ho rfl hf ?_)
  dsimp only
  have lX:t.place.size=es.size:=by
   unfold rE at hf
   simp only[gF,beq_iff_eq]at hf
   exact hf.1
  have BA:t.fill<=t.mask:=by
   unfold rE at hf
   simp only[gF,decide_eq_true_eq]at hf
   exact hf.2
  have hpl2:t.place[i]?=some t.place[i]:=xL (by rw[lX]; exact hi')
  have esz:(mS es i).size=es.size-1:=by
   rw[← gD,vT,Bb,if_pos hi,gD]
  have psz:(mS t.place i).size=es.size-1:=by
   rw[← gD,vT,Bb,if_pos (by rw[gD,lX]; exact hi'),gD,lX]
  have uF:t.drop i={ t with place:=mS t.place i,dummies:=G8 t.dummies (Hd t.dummies t.place[i]) t.place[i] }:=by
   unfold SetTable.drop
   rw[hpl2]
  have dsz:(t.drop i).dummies.size=1:=by
   rw[uF,BF]
   unfold G8
   simp
  have HJ:(t.drop i).fits (mS es i).size=true:=by
   unfold rE rJ
   rw[dsz,esz]
   rw[uF]
   simp only[psz,beq_self_eq_true,A4,decide_eq_true_eq]
   show es.size-1+1<=t.mask
   unfold rJ at BA
   rw[lX,BF]at BA
   simp at BA
   ac_rfl
  refine aj (rD ho rfl ?_ (uj (mJ (show(mS es i).size<4090 by ac_rfl) (by decide))))
  refine aj (wpAny_point (ar ?_))
  have at2:(s.heap.update r (Obj.putSet (mS es i) (t.drop i))).get? r=some { cls:=.type "set",dict:=none,data:=.set (mS es i) (ep+1) (t.drop i) }:=bL.put ho
  refine h _ _ (mS es i) (t.drop i) (ep+1) (mL ..) ⟨_,_,_,ss.eraseIdx i,at2,?_,?_,?_,by ac_rfl,HJ,by rw[uF]; exact gk,fun _=>by rw[uF]; exact cL⟩ at2 HJ (by rw[dsz]; exact aL _) (by rw[uF]; exact Bz)
  ·have em:∀ (l:List (Int×Value)) (j:Nat),(l.eraseIdx j).map (·.2)=(l.map (·.2)).eraseIdx j:=by
    intro l
    induction l with
    | nil=>intro j; rfl
    | cons x l ih=>intro j; cases j with | zero=>rfl | succ j=>simp[ih]
   rw[vT,em]; exact DQ i hS
  ·rw[FR ns hsi]; exact hp.filter _
  ·rw[vT]; exact fun e he=>eW e (List.mem_of_mem_eraseIdx he)
 | none =>
  refine ar ?_
  dsimp only
  have hx:x∉ks:=fun hm=>by
   have k8:=hp.mem_iff.mpr hm
   obtain⟨t',q⟩:=(vD hS x).mp k8
   obtain⟨e,he,ee⟩:=b0.mp q
   have:=Ha.mp hr e he
   rw[ee,oJ]at this
   simp at this
  refine ar (h s.heap _ es t ep (xI ..) ?_ ho hf (by rw[BF]; simp) Bz)
  rw[n0.mpr fun z hz=>by simp; rintro rfl; exact hx hz]
  exact⟨es,ep,t,ss,ho,hS,hp,eW,hsz,hf,gk,fun _=>cL⟩
end
end L2
namespace L2
open Mx
section
variable{P:aK}{w:World}{A:aV}{E:Value->ah->Prop}{s:ah}
theorem LH{a b:Addr}{ks:List Str}{x0:Str}{Q:Value->ah->Prop}(mU:a≠b)(Sa:bL P w s.heap a ks)(Sb:bL P w s.heap b [x0])(nk:ks.Nodup)(hk:ks.length<4000)
  (h:∀ h',bL P w h' s.heap.objs.size (ks.filter (·≠x0))->(∀ c o,s.heap.get? c=some o->h'.get? c=some o)->Q (.ref s.heap.objs.size) { s with heap:=h' }) :
  wpAny (model P w) A (iR .Sub (.ref a) (.ref b)) Q E s:=by
 refine wpAny_binaryOp_same (T:="set") (id:="set.__sub__") Sa.ty Sb.ty F.fills_set_sub F.slot_set_sub ?_
 refine ue F.slot_set_sub Sa.ty HP ?_ (F.args_set_sub_2 _ _)
 unfold Builtin.«frozenset.__sub__»
 refine aj (aj (ar (ar ?_)))
 dsimp only
 refine aj (aj (vm Sa ?_))
 refine(vm Sb ?_)
 refine fK (fun hc=>absurd hc (by decide)) (fun _=>?_)
 refine aj (ar (aj ?_))
 unfold Builtin.Frozenset.difference
 refine aj (vm Sb ?_)
 simp only[xU,nW,if_false,Bool.false_and,if_true]
 have lt:∀ {c:Addr} {zs:List Str},bL P w s.heap c zs->c≠s.heap.objs.size:=fun {c zs} S=>by
  obtain⟨_,_,_,_,e,_⟩:=S.ex
  exact cO (bq e)
 have last:∀ h',bL P w h' s.heap.objs.size (ks.filter (·≠x0))->(∀ c o,s.heap.get? c=some o->h'.get? c=some o)->wpAny (model P w) A.in1 (pure (Value.ref s.heap.objs.size)) (fun a s'=>wpAny (model P w) A.in1 (ret a) (fun fin s'=>∃ v,fin=Fin.done (Flow.ret v)/\v≠Value.notImplemented/\Q v s') E s') E { s with heap:=h' }:=fun h' S k =>
  ar (ar ⟨_,rfl,(by intro z; cases z),h h' S k⟩)
 refine aj (ar ?_)
 refine aj (vG Sb ?_)
 refine aj (vG Sa ?_)
 refine fK (fun hc=>?_) (fun hc=>?_)
 ·have hk8:8<=ks.length:=by simp at hc; ac_rfl
  refine aj (jL ?_)
  refine aj (Na Sa hk8 hk fun h1 es ep t ss X old=>?_)
  refine aj (ar ?_)
  refine aj (kG ?_)
  have Sb1:bL P w h1 b [x0]:=Sb.at fun o e=>old _ _ e
  have hb:=lt Sb
  unfold Builtin.Frozenset.differenceUpdate
  refine fK (fun hc=>absurd (show(Value.ref b == Value.ref s.heap.objs.size)=true from hc) (by simp; exact hb)) (fun _=>?_)
  refine aj (vm (s:={ s with heap:=h1 }) Sb1 ?_)
  simp only[if_true]
  refine aj (ar ?_)
  refine aj (vG (s:={ s with heap:=h1 }) Sb1 ?_)
  refine aj (vG (s:={ s with heap:=h1 }) X.toS ?_)
  refine fK (fun hc=>absurd (show([x0].length / 8 > ks.length)from hc) (by simp)) (fun _=>?_)
  obtain⟨eb,epb,tb,sb,hob,hSb,hpb,helb,hszb,hfb,hledb,hplb⟩:=id Sb1.ex
  refine aj (xR (s:={ s with heap:=h1 }) hob rfl hfb ?_)
  refine aj (kG ?_)
  have lb:eb.size=1:=(bL.len (h:=h1) (a:=b) hSb hpb).symm
  have AA:∀ {QQ:Array (Int×Value)->ah->Prop},(∀ arr,qI P w [x0] arr->QQ arr { s with heap:=h1 })->wpAny (model P w) A.in1 (Bk b [s.heap.objs.size] none) QQ E { s with heap:=h1 }:=fun {QQ} vc=>by
   unfold Bk
   refine aj (gG (s:={ s with heap:=h1 }) hob rfl hfb ?_)
   unfold mP
   dsimp only
   refine aj (aj (kb (ar ?_)))
   refine fK (fun _=>?_) (fun hc=>absurd (show(cH w || (tb.led && tb.plain) || decide (eb.size<=1))=true by rw[lb]; simp) hc)
   exact Fg (s:={ s with heap:=h1 }) Sb1 (.inr ⟨eb,epb,tb,hob,.inr (by ac_rfl)⟩) vc
  refine aj (AA fun arr wk=>?_)
  obtain⟨aE,e1,e2,e3⟩:=wk.ex
  obtain rfl:aE=[x0]:=List.perm_singleton.mp e3
  obtain⟨tk,harr⟩:∃ tk,arr.toList=[((cU P w).hash x0,.str x0 tk)]:=by
   cases hl:arr.toList with
   | nil=>rw[hl]at e1; simp at e1
   | cons p r =>
    rw[hl]at e1 e2
    obtain⟨hx,v⟩:=p
    cases r with
    | cons=>simp at e1
    | nil =>
     simp only[dq,ug,uw,and_true]at e1
     cases e2 with
     | cons _ tk h2=>exact⟨tk,by rw[e1]⟩
  rw[← Array.forIn_toList,harr,List.forIn_cons]
  refine aj (aj (aj (kG (JX (s:={ s with heap:=h1 }) X nk fun h2 bb es' t' ep' eI S2 at2 fit2 dm mk=>?_))))
  have hob2:h2.get? b=some { cls:=.type "set",dict:=none,data:=.set eb epb tb }:=(eI.2 b hb).trans hob
  unfold Bn
  refine aj (aj (xR (s:={ s with heap:=h2 }) hob2 rfl hfb ?_))
  refine fK (fun hc=>absurd hc (by simp)) (fun _=>ar (ar ?_))
  dsimp only
  rw[List.forIn_nil]
  refine ar (ar ?_)
  unfold setTidy
  refine aj (gG (s:={ s with heap:=h2 }) at2 rfl fit2 ?_)
  dsimp only
  refine fK (fun hc=>absurd (show t'.tooManyDummies=true from hc) ?_) (fun _=>ar ?_)
  ·unfold SetTable.tooManyDummies
   simp only[decide_eq_true_eq]
   ac_rfl
  ·exact last h2 S2 fun c o e=>(eI.2 c (cO (bq e))).trans (old c o e)
 ·have Q1:=Sa
  unfold Builtin.Frozenset.baseOf
  refine aj (aj (xK Sa.ty sub_set_self (ar ?_)))
  rw[if_pos rfl]
  refine aj (QH fun h1 R k1 z1=>?_)
  have Sa1:bL P w h1 a ks:=Sa.at fun o e=>k1 _ _ e
  have Sb1:bL P w h1 b [x0]:=Sb.at fun o e=>k1 _ _ e
  refine aj (ar ?_)
  obtain⟨es,ep,t,ss,ho,hS,g9,eW,hsz,hf,gk,cL⟩:=id Sa1.ex
  refine aj (xR (s:={ s with heap:=h1 }) ho rfl hf ?_)
  refine aj (kG ?_)
  refine aj (JU (s:={ s with heap:=h1 }) Sa1 R (fun c hc=>?_) fun h2 arr eI R2 wk=>?_)
  ·simp only[bH,jM,or_false]at hc
   rcases hc with rfl | rfl
   ·exact⟨_,Sb1⟩
   ·exact⟨_,R⟩
  have Sa2:bL P w h2 a ks:=Sa1.at fun o e=>(eI.2 _ (lt Sa)).trans e
  have Sb2:bL P w h2 b [x0]:=Sb1.at fun o e=>(eI.2 _ (lt Sb)).trans e
  refine aj (LJ (s:={ s with heap:=h2 }) Sa2 Sb2 R2 (lt Sa) (lt Sb) nk hk wk ⟨es,t,(eI.2 _ (lt Sa)).trans ho,hf⟩ fun h3 sb3 R3=>?_)
  have e:ks.filter (·∉[x0])=ks.filter (·≠x0):=Hw fun z _=>by simp
  refine ar (last h3 (e ▸ R3) fun c o e=>?_)
  have hc:c≠s.heap.objs.size:=cO (bq e)
  exact(sb3.2 c hc).trans ((eI.2 c hc).trans (k1 c o e))
end
end L2
namespace L2
section
variable{X:Cx}
def dX(ls:List Tx)(x:Tx):List Tx:=ls.filter fun z=>decide (z≠x)
theorem JV(ls:List Tx)(x:Tx):(ls.map tS).filter (fun z=>decide (z≠tS x))=(dX ls x).map tS:=by
 unfold dX
 rw[xV]
 congr 1
 refine Hw fun z _=>?_
 simp only[pL]
 congr 1
 exact propext ⟨fun h e=>h (by rw[e]),fun h e=>h (qy e)⟩
theorem Om:bW X (iR .Sub) (fun x y H Q=>∃ (p q:Addr) (ls:List Tx) (m:Tx),x = .ref p/\y = .ref q/\p≠q/\H p=some (gQ X p ls)/\H q=some (gQ X q [m])/\ls.Nodup/\ls.length<4000 /\
  ∀ a,H a=none->Q (.ref a) (upd H a (gQ X a (dX ls m)))):=by
 intro aa s σ H x y v u Q I rx ry h
 obtain⟨p,q,ls,m,rfl,rfl,hpq,hp,hq,nl,l1,k⟩:=h
 cases rx
 cases ry
 obtain⟨Sp,_,_⟩:=(show cx X.prog X.w H s.heap p (gQ X p ls)from I.hok p _ hp)
 obtain⟨Sq,_,_⟩:=(show cx X.prog X.w H s.heap q (gQ X q [m])from I.hok q _ hq)
 refine LH hpq Sp Sq (Pb nl) (by rw[cq]; exact l1) fun h' S old=>?_
 rw[JV]at S
 refine⟨.ref s.heap.objs.size,_,I.laid (t':=s.toks) (o:=gQ X s.heap.objs.size (dX ls m)) old (aL _) ?_,rfl,k _ I.fresh⟩
 obtain⟨es,ep,t,ss,e,_⟩:=S.ex
 exact⟨S,⟨_,e⟩,fun h1 h2 q1 q2=>q1.at q2⟩
end
end L2
namespace Pu
open L2
section
variable{X:Cx}{E:XK}{e e2:Expr}{ds ds2:ae->R (List PV)}{p q q2 p4 pos pos' pos2:Pos}
def zR(ds ds2:ae->R (List PV)):ae->R PO:=fun ε=>(ds ε).bind fun xs ε1=>(aW (qE xs) ε1).bind fun ls ε1=>(ds2 ε1).bind fun ys ε2=>match ys with
 | [.lst [.str t]]=>.ok (.lst (af (bD (dX ls t)))) ε2
 | _=>.no
theorem Qt(hc:X.calm=true)(ha:DA X E [e] ds)(hb:DA X E [e2] ds2)(hm:X.mg "sorted" = none)(k8:X.mg "set" = none)(hg:Gl X "sorted":=by rfl)(hg2:Gl X "set":=by rfl)(h:lq e=false:=by rfl)(h2:lq e2=false:=by rfl) :
  DN X E (.Call (.Name "sorted" p) [.BinOp (.Call (.Name "set" q) [e] [] pos') .Sub (.Call (.Name "set" q2) [e2] [] pos2) p4] [] pos) (zR ds ds2):=fun F S ε σ H Q rl h'=>by
 refine cE (pc (Dm hc) hg hm vo (jU (FH Om (t6 (zh hc) hg2 k8 zZ gy (by decide) (by decide) (jG h) rfl) (t6 (zh hc) hg2 k8 zZ gy (by decide) (by decide) (jG h2) rfl)) l9 (jG rfl)) (by decide) (by decide) (jG rfl) rfl) ?_
 refine ha F S ε σ H _ rl ((Ok.bind h').imp fun xs ε1 F1 S1 H1 r1 g1 q1 vs i4=>?_)
 cases e1:qE xs with
 | none=>rw[e1]at q1; exact q1.elim
 | some ls =>
  rw[e1]at q1
  obtain⟨p,zs,rfl,hp,hz,rfl,hx⟩:=C8 i4 e1
  refine⟨p,zs,rfl,hp,hz,fun a fa=>?_⟩
  have al1:Al F1 F1 H1 (upd H1 a (gQ X a (bP zs))):=Al.new0 fa
  have q2:Ok X.K E σ F1 S1 H1 ((ds2 ε1).bind fun ys ε2=>match ys with
   | [.lst [.str t]]=>R.ok (PO.lst (af (bD (dX (bP zs) t)))) ε2
   | _=>.no) _:=q1
  have q3:=Ok.from q2 (al1.grow (O:=U S1))
  refine hb F1 S1 ε1 σ _ _ (r1.al al1) ((Ok.bind q3).imp fun ys ε2 F2 S2 H2 r2 g2 q4 vs2 rvs2=>?_)
  have hys:∃ t,ys=[.lst [.str t]]:=by
   revert q4
   split
   ·exact fun _=>⟨_,rfl⟩
   ·exact fun z=>z.elim
  obtain⟨t,rfl⟩:=hys
  have q5:Ok X.K E σ F2 S2 H2 (R.ok (PO.lst (af (bD (dX (bP zs) t)))) ε2) _:=q4
  have elt:qE [.lst [.str t]]=some [t]:=by
   rfl
  obtain⟨p2,zs2,rfl,dS,hz2,hu2,kZ⟩:=C8 rvs2 elt
  have na:¬ U S1 a:=fun⟨i,z⟩=>by
   obtain⟨_,_,o,w,_⟩:=r1.foot i a z
   rw[fa]at w; cases w
  have ha2:H2 a=some (gQ X a (bP zs)):=g2.keep a _ bA na
  refine⟨p2,zs2,rfl,dS,hz2,fun b fb=>?_⟩
  have mU:a≠b:=by rintro rfl; rw[ha2]at fb; cases fb
  refine⟨a,b,bP zs,t,rfl,rfl,mU,by rw[bp mU]; exact ha2,by rw[bA,← hu2],Lw _,hz,fun c fc=>?_⟩
  have b7:(dX (bP zs) t).length<4000:=uh (rK _ _) hz
  refine⟨c,_,rfl,bA,b7,fun l fl=>?_⟩
  have al2:Al F2 F2 H2 (upd (upd (upd H2 b (gQ X b (bP zs2))) c (gQ X c (dX (bP zs) t))) l (.lst (cm (bD (dX (bP zs) t))))):=((Al.new0 fb).trans (Al.new0 fc)).trans (Al.new0 fl)
  have iF:H2 l=none:=by
   have h1:l≠c:=by rintro rfl; rw[bA]at fl; cases fl
   rw[bp h1]at fl
   have h2:l≠b:=by rintro rfl; rw[bA]at fl; cases fl
   rwa[bp h2]at fl
  refine q5 F2 S2 _ (r2.al al2) al2.grow l (fun c=>c=l) ⟨⟨_,bA,RB.mpr ⟨rfl,fun x uQ=>hx x ((lx _ _).mp (jc.mp ((jF _).mem_iff.mp uQ)).1)⟩⟩,fun c=>pF⟩ fun d z=>?_
  subst z
  refine⟨nB (g1.trans (al1.grow.trans g2)) iF,fun z=>?_,fun⟨i,z⟩=>?_,_,bA,trivial⟩
  ·obtain⟨o,w⟩:=r2.ex _ z; rw[iF]at w; cases w
  ·obtain⟨_,_,o,w,_⟩:=r2.foot i _ z; rw[iF]at w; cases w
end
def tu:List PV->Option PV
 | [.int i,.int j]=>some (.int (if j > i then j else i))
 | _=>none
theorem IB{K:ao}:PL K (fun xs H Q=>∃ i j,xs=[.int i,.int j]/\Q (.int (if j > i then j else i)) H) tu:=fun F H xs vs Q pv rs e q=>by
 unfold tu at e
 split at e
 ·cases e
  obtain⟨v,r',rfl,h2,h3⟩:=rs
  obtain⟨u,rfl,h4⟩:=gs h3
  exact⟨_,_,by rw[show v=V.int _ from h2,show u=V.int _ from h4],q _ F H (Al.refl ..) rfl⟩
 ·cases e
end Pu
namespace L2
section
variable{X:Cx}{aa:List (Addr×Obj)}{σ:St}{H:Hp}{s:ah}{a:Addr}
theorem Inv.recast{p q:HO}(I:Inv X aa σ H s)(e:H a=some p)(h1:∀ xs,p≠.tup xs)(h2:∀ o u,X.H₀ a≠some (.frz o u))(h3:∀ ps,p≠.tbl ps)(h4:∀ x,p≠.own x)(new:cx X.prog X.w (upd H a q) s.heap a q):Inv X aa σ (upd H a q) s:=by
 have none_of:∀ b,H b=none->(upd H a q) b=none:=fun b hb=>by rw[bp (by rintro rfl; rw[e]at hb; cases hb)]; exact hb
 refine⟨I.ok,I.os,I.bare,⟨I.base.keep,I.base.slot,fun b o h n hx=>none_of b (I.base.free b o h n hx),I.base.there,fun b xs h=>?_,fun b o u h=>?_,fun b ps h=>?_⟩,I.loc,I.cell,none_of _ I.free,fun x c h=>none_of _ (I.freeC x c h),fun p hp=>?_,fun b u hb=>?_,I.len⟩
 ·have z:=I.base.tups b xs h
  rw[bp (by rintro rfl; rw[e]at z; exact h1 xs (dE z))]; exact z
 ·have z:=I.base.frzs b o u h
  rw[bp (by rintro rfl; exact h2 o u h)]; exact z
 ·obtain⟨more,z⟩:=I.base.tbls b ps h
  exact⟨more,by rw[bp (by rintro rfl; rw[e]at z; exact h3 _ (dE z))]; exact z⟩
 ·obtain⟨a1,a2,a3⟩:=I.pin p hp
  exact⟨a1,none_of _ a2,a3⟩
 ·by_cases hba:b=a
  ·subst hba
   rw[bA]at hb
   cases hb
   exact new
  ·rw[bp hba]at hb
   refine(I.hok b u hb).stay (fun c v _ r=>r) (fun c r=>?_) fun c xs r=>?_
   ·rw[bp (by rintro rfl; rw[e]at r; exact h4 _ (dE r))]; exact r
   ·rw[bp (by rintro rfl; rw[e]at r; exact h1 _ (dE r))]; exact r
def v_(o:Obj):Nat:=match o.data with
 | .dict _ ep=>ep
 | _=>0
theorem zn{P:aK}{w:World}{h:Heap}{o:Obj}{kvs:List (aw×V)}(ho:h.get? a=some o)(k:cx P w H h a (.dK kvs)):(a == lL)=false/\∃ vs,KV kvs vs/\h.DictAt (fZ P w) a vs (v_ o):=by
 obtain⟨_,hs,vs,kv,o',es,ep,gJ,hx,hd,r⟩:=k
 rw[ho]at gJ
 cases gJ
 refine⟨hs,vs,kv,o,es,ho,hx,?_,r⟩
 have:v_ o=ep:=by unfold v_; rw[hd]
 rw[this]; exact hd
theorem Inv.freeze{kvs:List (aw×V)}(I:Inv X aa σ H s)(e:H a=some (.dK kvs)):∃ o,s.heap.get? a=some o/\Inv X aa σ (upd H a (.frz o (.dK kvs))) s:=by
 have k:cx X.prog X.w H s.heap a (.dK kvs):=I.hok a _ e
 obtain⟨z,hs,vs,kv,o,es,ep,ho,r⟩:=id k
 refine⟨o,ho,I.recast e (fun _ q=>by cases q) (fun o u q=>?_) (fun _ q=>by cases q) (fun _ q=>by cases q) ⟨ho,⟨z,hs,vs,kv,o,es,ep,ho,r⟩⟩⟩
 have:=I.base.frzs a o u q
 rw[e]at this; cases this
theorem Inv.thaw{o:Obj}{kvs:List (aw×V)}(I:Inv X aa σ H s)(e:H a=some (.frz o (.dK kvs)))(hn:∀ o u,X.H₀ a≠some (.frz o u)):Inv X aa σ (upd H a (.dK kvs)) s:=by
 obtain⟨ho,z,hs,vs,kv,r⟩:=(show cx X.prog X.w H s.heap a (.frz o (.dK kvs))from I.hok a _ e)
 exact I.recast e (fun _ q=>by cases q) hn (fun _ q=>by cases q) (fun _ q=>by cases q) ⟨z,hs,vs,kv,r⟩
end
def t4(a:Addr)(o:Obj)(kvs:List (aw×V)):It :=
 ⟨fun i H=>H a=some (.frz o (.dK kvs))/\i<kvs.length,fun i H x H'=>H'=H/\∃ p,kvs[i]?=some p/\x=kV p.1,fun i H=>H a=some (.frz o (.dK kvs))/\kvs.length<=i⟩
theorem Qd{P:aK}{w:World}{k:aw}{u:Value}(h:(fZ P w).is k u=true):RelV (kV k) u:=by
 rcases k9 h with⟨i,t,rfl,rfl⟩ | ⟨x,t,rfl,rfl⟩
 ·exact⟨t,rfl⟩
 ·exact⟨t,rfl⟩
theorem KV.at{kvs:List (aw×V)}{vs:List (aw×Value)}(h:KV kvs vs){i:Nat}{p:aw×V}(e:kvs[i]?=some p):∃ q,vs[i]?=some q/\p.1=q.1/\RelV p.2 q.2:=by
 unfold KV at h
 induction h generalizing i with
 | nil=>simp at e
 | cons r _ ih =>
  cases i with
  | zero=>simp at e; subst e; exact⟨_,rfl,r⟩
  | succ i=>exact ih (by simpa using e)
theorem KV.len{kvs:List (aw×V)}{vs:List (aw×Value)}(h:KV kvs vs):kvs.length=vs.length:=by
 unfold KV at h
 induction h with
 | nil=>rfl
 | cons _ _ ih=>simp[ih]
theorem KV.keysD{kvs:List (aw×V)}{vs:List (aw×Value)}(h:KV kvs vs):kvs.map (·.1)=vs.map (·.1):=by
 unfold KV at h
 induction h with
 | nil=>rfl
 | cons r _ ih=>simp[ih,r.1]
theorem LN{P:aK}{w:World}{K:ao}{tg:Expr}(a it:Addr)(o:Obj)(kvs:List (aw×V)):qw P w K tg (t4 a o kvs) [it] it (fun i h=>h.IsKeyIter it a i kvs.length (v_ o)) where
 mem:=by simp
 obj:=fun i h st b hb=>by
  have e:b=it:=by simpa using hb
  subst e
  obtain⟨o,e,c,d⟩:=st
  exact⟨o,e,fun v z=>by rw[d]at z; cases z⟩
 keep:=fun i h h' st k=>st.at fun o e=>k it (by simp) o e
 item:=by
  intro X hP hw hK hc i aa s σ H E I hf st hg
  subst hP hw hK
  obtain⟨hq,hi⟩:=hg
  obtain⟨ho,hk⟩:=(show cx X.prog X.w H s.heap a (.frz o (.dK kvs))from I.hok a _ hq)
  obtain⟨hs,vs,kv,hd⟩:=zn ho hk
  obtain⟨p,hp⟩:∃ p,kvs[i]?=some p:=⟨_,eV hi⟩
  obtain⟨q,hqv,e1,e2⟩:=kv.at hp
  obtain⟨f0,f1,f2,f3,f4,f5⟩:=hf it (by simp)
  rw[kv.len]at st
  refine wpAny_pyNext_dict_item (k:=q.1) (v:=q.2) st hd hqv fun key h' gI ap sb=>?_
  have I1:Inv X aa σ H { s with heap:=h' }:=I.turned (t':=s.toks) (fun b o hb e=>(sb.2 b hb).trans e) f0 f1 f3 f4 f5
  rw[← kv.len]at ap
  obtain⟨oi,e,c,d⟩:=id ap
  exact⟨key,rfl,sv (s:={ s with heap:=h' }) e c d (by decide) ⟨kV p.1,H,I1,by rw[e1]; exact Qd gI,⟨rfl,p,hp,rfl⟩,ap,fun b hb=>(hf b hb).1⟩⟩
 done:=by
  intro X hP hw hK hc i aa s σ H E I hf st hg
  subst hP hw hK
  obtain⟨hq,hi⟩:=hg
  obtain⟨ho,hk⟩:=(show cx X.prog X.w H s.heap a (.frz o (.dK kvs))from I.hok a _ hq)
  obtain⟨hs,vs,kv,hd⟩:=zn ho hk
  obtain⟨f0,f1,f2,f3,f4,f5⟩:=hf it (by simp)
  have hl:=kv.len
  rw[hl]at st
  exact wpAny_pyNext_dict_end (I.ok.hd hc) st hd (iB (by ac_rfl)) fun h' eb=>⟨rfl,I.turned (t':=s.toks) (fun b o hb e=>eb b o hb e) f0 f1 f3 f4 f5⟩
 self:=fun _ _ _ _ _ st h=>wpAny_pyIter_keyiter st h
section
variable{X:Cx}{tg:Expr}
def Pt(td:TE):TI:=fun σ H R=>td σ H fun x H1=>∃ a kvs,x = .ref a/\H1 a=some (.dK kvs)/\∀ o,(kvs.map (·.1)).Nodup->kvs.length<=a7->R (t4 a o kvs) (upd H1 a (.frz o (.dK kvs)))
theorem Q0{d:Expr}{td:TE}(hd:PE X d td):PI X tg d (Pt td):=by
 intro aa s σ H R I h
 refine aH (hd aa s σ H _ I h) fun v s1 ⟨x,H1,I1,r1,q1⟩=>?_
 obtain⟨a,kvs,e,eH,q⟩:=q1
 subst e
 cases r1
 obtain⟨o,ho,I2⟩:=I1.freeze eH
 obtain⟨hs,vs,kv,hda⟩:=zn (o:=o) ho (show cx X.prog X.w H1 s1.heap a (.dK kvs)from I1.hok a _ eH)
 refine wpAny_pyIter_dict hs hda ?_
 rw[← kv.len]
 refine⟨s1.heap.objs.size,[s1.heap.objs.size],_,_,_,rfl,I2.kept (t':=s1.toks) fun b o e=>bB _ e,LN a _ o kvs,⟨_,cN _ rfl,rfl,rfl⟩,fun b hb=>?_,q o (by rw[kv.keysD]; exact hda.nodup) (show cx X.prog X.w H1 s1.heap a (.dK kvs)from I1.hok a _ eH).1⟩
 have e:b=s1.heap.objs.size:=by simpa using hb
 subst e
 exact I2.fpOk (aL _) (I2.hok.fresh (aL _))
end
section
variable{X:Cx}{scope:Scope}{x:Str}{N':List Str}{cap:List Nat}
def Ka(i:Nat)(ts:TT)(te:TE)(cap:List Nat):TE:=fun σ H Q=>∃ a kvs,σ[i]?=some (some (.ref a))/\H a=some (.dK kvs)/\∀ o l,(kvs.map (·.1)).Nodup->kvs.length<=a7->upd H a (.frz o (.dK kvs)) l=none->∃ W:Nat->Nat->List V->Hp->Prop,(∃ m,W 0 m [] (upd (upd H a (.frz o (.dK kvs))) l (.lst [])))/\∀ i m ys H',W i m ys H' ->
 ((t4 a o kvs).stop i H'/\Q (.ref l) (upd H' a (.dK kvs)))\/((t4 a o kvs).go i H'/\∀ v H1,(t4 a o kvs).yld i H' v H1->ts (some v::eZ σ cap) H1 fun b H2=>if b=true then
  te (some v::eZ σ cap) H2 fun y H3=>H3 l=some (.lst ys)/\ys.length<a7/\∃ m',m'<m/\W (i+1) m' (ys++[y]) (upd H3 l (.lst (ys++[y])))
  else ∃ m',m'<m/\W (i+1) m' ys H2)
theorem Ef{elt:Expr}{px pos yp:Pos}{y:Str}{ifs:List Expr}{ts:TT}{te:TE}(i:Nat)(B:km X scope x N' cap)(hc:X.calm=true)(hN:X.N[i]?=some y)(hv:ft X.env.scope y)(hd:(y == ("__debug__" : Str))=false)(bF:(y == ("__classdict__" : Str))=false)
  (ht:∀ C s₀ H₀ ex pn,vU (c8 X scope N' C s₀ H₀ ex pn) ifs ts) (he:∀ C s₀ H₀ ex pn,PE (c8 X scope N' C s₀ H₀ ex pn) elt te) (hs:∀ x,rg (.Name y yp) X.env x=pure x:=by intro _; rfl) :
  PE X (.ListComp elt [⟨.Name x px,.Name y yp,ifs,0⟩] scope pos) (Ka i ts te cap):=by
 intro aa s σ H Q I h
 obtain⟨a,kvs,ea,eH,h⟩:=h
 have hn:∀ o u,X.H₀ a≠some (.frz o u):=fun o u z=>by
  have:=I.base.frzs a o u z
  rw[eH]at this; cases this
 refine aH (B4 B hc (Q0 (iw hN hv hd bF)) ht he hs aa s σ H (fun v H'=>∃ o,H' a=some (.frz o (.dK kvs))/\Q v (upd H' a (.dK kvs))) I ⟨.ref a,ea,a,kvs,rfl,eH,fun o nd hz l hl=>?_⟩) fun v s' ⟨x,H',I',rx,o,e',q⟩=>⟨x,_,I'.thaw e' hn,rx,q⟩
 obtain⟨W,w0,turn⟩:=h o l nd hz hl
 refine⟨W,w0,fun i m ys H' w=>?_⟩
 rcases turn i m ys H' w with⟨st,q⟩ | z
 ·exact .inl ⟨st,o,st.1,q⟩
 ·exact .inr z
end
end L2
namespace Pu
open L2
section
variable{X:Cx}{E:XK}{pin:List Nat}{e b c:Expr}{de db dc:ae->R PV}{pos:Pos}
def nE(i:Nat)(n:Int):ae->R PO:=fun ε=>match ε[i]? with
 | some (.val (.str x))=>.ok (.dK [(.inr (tS x),.int n)]) ε
 | _=>.no
theorem Fk(i:Nat){y:Str}{yp q:Pos}{n:Int}{j:Nat}(hN:X.N[i]?=some y:=by rfl)(gm:ft X.env.scope y:=by first | exact Or.inl rfl | exact Or.inr (Or.inl rfl) | exact Or.inr (Or.inr rfl))
  (hd:(y == ("__debug__" : Str))=false:=by decide) (bF:(y == ("__classdict__" : Str))=false:=by decide):DN X E (.Dict [some (.Name y yp)] [.Constant (.int n) j q] pos) (nE i n):=fun F S ε σ H Q rl h=>by
 unfold nE at h
 split at h
 ·rename_i x ex
  obtain⟨v,e1,e2⟩:=rl.val i _ ex
  obtain⟨e2,hl⟩:=(show v=tV x/\_ from e2)
  subst e2
  refine cE (QJ (Qo (iw hN gm hd bF) Dx Jj) rfl rfl (by simp) (by simp)) fun p hp=>?_
  refine⟨tV x,e1,bA,[(.inr (tS x),.int n)],rfl,by simp,?_⟩
  rw[show qH [] [((Sum.inr (tS x):aw),V.int n)]=[((Sum.inr (tS x):aw),V.int n)] from rfl,yQ]
  have al:Al F F H (upd H p (.dK [(.inr (tS x),.int n)])):=Al.new0 hp
  refine h F S _ (rl.al al) al.grow p (fun b=>b=p) ⟨⟨_,bA,.cons ⟨rfl,rfl⟩ .nil⟩,fun b=>pF⟩ fun b z=>?_
  subst z
  refine⟨hp,fun z=>?_,fun⟨j,z⟩=>?_,_,bA,trivial⟩
  ·obtain⟨o,q⟩:=rl.ex b z; rw[hp]at q; cases q
  ·obtain⟨_,_,o,q,_⟩:=rl.foot j b z; rw[hp]at q; cases q
 ·exact h.elim
def tI(i:Nat):ae->R PV:=fun ε=>(aW (cP ε i) ε).bind fun kvs ε=>.ok (.int (kvs.length:Nat)) ε
theorem HZ(i:Nat){y:Str}{p yp:Pos}(hm:X.mg "len" = none)(hN:X.N[i]?=some y:=by rfl)(gm:ft X.env.scope y:=by first | exact Or.inl rfl | exact Or.inr (Or.inl rfl) | exact Or.inr (Or.inr rfl))
  (hd:(y == ("__debug__" : Str))=false:=by decide) (bF:(y == ("__classdict__" : Str))=false:=by decide) (hg:Gl X "len":=by rfl)
  (he:aZ [.Name y yp] X.env=(false,eval (.Name y yp) X.env)::aZ [] X.env:=by rfl) (cL:(eU pos (aZ [] X.env)).any (·.1)=false:=by rfl):DE X E (.Call (.Name "len" p) [.Name y yp] [] pos) (tI i):=fun F S ε σ H Q r h=>by
 unfold tI at h
 cases e0:cP ε i with
 | none=>rw[e0]at h; exact h.elim
 | some kvs =>
  rw[e0]at h
  obtain⟨a,ws,ea,ha,hk,_⟩:=r.dkAt (j5 e0)
  refine cE (pc Ko hg hm rfl (jU (iw hN gm hd bF) l9 he) (by decide) (by decide) he cL) ⟨_,ea,a,ws,rfl,ha,?_⟩
  rw[hk.len]
  exact h F S H r (bK.refl ..) _ rfl
def jq(neg:Bool)(i:Nat)(db:ae->R PV):ae->R PV:=fun ε=>(db ε).bind fun k ε1=>(aW (cP ε1 i) ε1).bind fun kvs ε1=>aW ((jw k).map fun k=>.bl (neg ^^ (j7 kvs k).isSome)) ε1
theorem M_{i:Nat}(neg:Bool){F:Addr->Prop}{S:Nat->Addr->Prop}{ε:ae}{σ:St}{H:Hp}{Q:VK}(hb:DE X E b db)(rl:aP X.K F S ε σ H)(h:Ok X.K E σ F S H (jq neg i db ε) (fun pv _ F' _ H'=>∀ v,aT X.K H' F' pv v->Q v H')) :
  jb X b σ H fun y H1=>∃ x,σ[i]?=some (some x)/\∃ a o,x = .ref a/\lF H1 a y o/\Q (.bl (neg ^^ o.isSome)) H1:=by
 unfold jq at h
 refine hb F S ε σ H _ rl ((Ok.bind h).imp fun k ε1 F1 S1 H1 r1 g1 q u ru=>?_)
 cases e1:cP ε1 i with
 | none=>rw[e1]at q; exact q.elim
 | some kvs =>
  rw[e1]at q
  simp only[c_,R.bind_ok]at q
  obtain⟨a,ws,ea,ha,hk,_⟩:=r1.dkAt (j5 e1)
  cases e2:jw k with
  | none=>rw[e2]at q; exact q.elim
  | some ky =>
   rw[e2,pE]at q
   rw[wp ru e2]
   refine⟨.ref a,ea,a,ie ws ky,rfl,lF.k ha,?_⟩
   rcases hk.val ky with⟨x,v,h1,h2,h3⟩ | ⟨h1,h2⟩
   ·rw[h1]at q
    rw[h2]
    exact q F1 S1 H1 r1 (bK.refl ..) _ rfl
   ·rw[h1]at q
    rw[h2]
    exact q F1 S1 H1 r1 (bK.refl ..) _ rfl
theorem Gk(i:Nat){y:Str}{yp:Pos}(hu:X.A.units+64<cLine)(hb:DE X E b db)(hN:X.N[i]?=some y:=by rfl)(gm:ft X.env.scope y:=by first | exact Or.inl rfl | exact Or.inr (Or.inl rfl) | exact Or.inr (Or.inr rfl))
  (hd:(y == ("__debug__" : Str))=false:=by decide) (bF:(y == ("__classdict__" : Str))=false:=by decide) (hm:pf .NotIn (.Name y yp)=false:=by rfl):DT X E (.Compare b [.NotIn] [.Name y yp] pos) (dB (jq true i db)):=fun F S ε σ H Q rl h=>by
 refine sE (Ea (Kl (by ac_rfl) cb (iw hN gm hd bF)) hm) ?_
 have:=M_ (Q:=fun v H'=>∃ k,v = .bl k/\Q k H') true hb rl (sU h)
 simp only[xW]at this
 exact this
theorem zz{κ:Type}[DecidableEq κ]:∀ {ws:List (κ×V)} {p:κ×V},(ws.map (·.1)).Nodup->p∈ws->ie ws p.1=some p.2
 | q::ws,p,nd,h=>by
  rw[dq,iS]at nd
  rcases bH.mp h with rfl | h
  ·exact tw rfl
  ·rw[sK fun e=>nd.1 (b0.mpr ⟨p,h,e.symm⟩)]
   exact zz nd.2 h
theorem QL{P:Bool->Hp->Prop}{σ:St}{H:Hp}(h:P true H):GG σ H P:=h
def r8(i:Nat):ae->R PO:=fun ε=>(aW (cP ε i) ε).bind fun kvs ε=>.ok (.lst (kvs.map (·.2))) ε
theorem F8{H:Hp}{a l:Addr}{o:HO}{u v:HO}(e:H a=some v)(hl:l≠a):upd (upd (upd H a o) l u) a v=upd H l u:=by
 funext b
 by_cases hb:b=a
 ·subst hb; rw[bA,bp (fi hl),e]
 ·rw[bp hb]
  by_cases hb2:b=l
  ·subst hb2; rw[bA,bA]
  ·rw[bp hb2,bp hb2,bp hb]
theorem eQ.vals{K:ao}{H:Hp}{F:Addr->Prop}{kvs:List (aw×PV)}{ws:List (aw×V)}(h:eQ K H F kvs ws):a9 K H F (kvs.map (·.2)) (ws.map (·.2)):=by
 unfold eQ at h
 induction h with
 | nil=>rfl
 | cons r _ ih=>exact⟨_,_,rfl,r.2,ih⟩
theorem MD{scope:Scope}{x y:Str}(i:Nat){px p1 p2 p3 yp:Pos}(B:km X scope x [x,y] [i])(hc:X.calm=true)(hu:X.A.units+64<cLine)(hN:X.N[i]?=some y:=by rfl)(gm:ft X.env.scope y:=by first | exact Or.inl rfl | exact Or.inr (Or.inl rfl) | exact Or.inr (Or.inr rfl))
  (hd:(y == ("__debug__" : Str))=false:=by decide) (bF:(y == ("__classdict__" : Str))=false:=by decide)
  (hp0:∀ C s₀ H₀ ex pn,PE (c8 X scope [x,y] C s₀ H₀ ex pn) (.Name x p2) (nG 0):=by intro _ _ _ _ _; exact pv 0) (eY:∀ C s₀ H₀ ex pn,PE (c8 X scope [x,y] C s₀ H₀ ex pn) (.Name y p1) (nG 1):=by intro _ _ _ _ _; exact pv 1)
  (hs:∀ x,rg (.Name y yp) X.env x=pure x:=by intro _; rfl) (jk:tD (.Name x p2):=by exact fun _ _=>rfl) :
  DN X E (.ListComp (.Subscript (.Name y p1) (.Name x p2) p3) [⟨.Name x px,.Name y yp,[],0⟩] scope pos) (r8 i):=fun F S ε σ H Q rl h=>by
 unfold r8 at h
 cases e0:cP ε i with
 | none=>rw[e0]at h; exact h.elim
 | some kvs =>
  rw[e0]at h
  simp only[c_,R.bind_ok]at h
  obtain⟨a,ws,ea,ha,hk,hS,_⟩:=rl.dkAt (j5 e0)
  refine cE (Ef i B hc hN gm hd bF (fun _ _ _ _ _=>EV) (fun C s₀ H₀ ex pn=>yL (show X.A.units+1<cLine by ac_rfl) (eY C s₀ H₀ ex pn) (hp0 C s₀ H₀ ex pn) jk) hs) ⟨a,ws,ea,ha,fun o l nd hz hl=>?_⟩
  have og:l≠a:=by rintro rfl; rw[bA]at hl; cases hl
  have iF:H l=none:=by rw[bp og]at hl; exact hl
  refine⟨fun j m ys H'=>m=ws.length-j/\j<=ws.length/\ys=(ws.take j).map (·.2)/\H'=upd (upd H a (.frz o (.dK ws))) l (.lst ys),⟨_,rfl,j9 _,by simp,rfl⟩,?_⟩
  rintro j m ys H' ⟨rfl,hj,rfl,rfl⟩
  have p8:upd (upd H a (.frz o (.dK ws))) l (.lst ((ws.take j).map (·.2))) a=some (.frz o (.dK ws)):=by rw[bp (fi og),bA]
  by_cases aX:j<ws.length
  ·refine .inr ⟨⟨p8,aX⟩,fun v H1 ⟨e1,p,hp,e2⟩=>?_⟩
   subst e1 e2
   refine QL ?_
   dsimp only
   rw[if_pos rfl]
   refine⟨.ref a,?_,kV p.1,rfl,a,p.2,rfl,.inl ⟨ws,p.1,.inr ⟨o,p8⟩,rfl,?_⟩,bA,?_,_,?_,rfl,aX,?_,?_⟩
   ·show(eZ σ [i])[0]?=_
    unfold eZ
    simp[ea]
   ·exact(zz nd (ud hp)).symm
   ·rw[cq,gE]
    ac_rfl
   ·ac_rfl
   ·rw[List.take_add_one,hp]; simp
   ·rw[yQ]
  ·have e:j=ws.length:=by ac_rfl
   subst e
   refine .inl ⟨⟨p8,aL _⟩,?_⟩
   rw[F8 ha og,pH]
   have al:Al F F H (upd H l (.lst (ws.map (·.2)))):=Al.new0 iF
   refine h F S _ (rl.al al) al.grow l (fun b=>b=l) ⟨⟨_,bA,al.reps hk.vals⟩,fun b=>pF⟩ fun b z=>?_
   subst z
   refine⟨iF,fun z=>?_,fun⟨j,z⟩=>?_,_,bA,trivial⟩
   ·obtain⟨o,q⟩:=rl.ex b z; rw[iF]at q; cases q
   ·obtain⟨_,_,o,q,_⟩:=rl.foot j b z; rw[iF]at q; cases q
def oN:List (aw×PV)->Option (List (Tx×Int))
 | []=>some []
 | (.inr x,.int n)::r=>(oN r).map fun m=>(x.cps.toList,n)::m
 | _::_=>none
theorem yi(x:Str):tS x.cps.toList=x:=by simp[tS]
theorem Fy{K:ao}{H:Hp}{F:Addr->Prop}:∀ {kvs:List (aw×PV)} {ws:List (aw×V)} {m:List (Tx×Int)},eQ K H F kvs ws->oN kvs=some m->ws=m.map fun p=>(Sum.inr (tS p.1),V.int p.2)
 | [],_,m,h,e=>by
  unfold eQ at h
  cases h
  cases e
  rfl
 | (.inr x,.int n)::r,_,m,h,e=>by
  unfold eQ at h
  cases h with
  | cons h1 h2 =>
   obtain⟨m',e1,rfl⟩:=AX.mp e
   rename_i q qs
   obtain⟨q1,q2⟩:=q
   have a1:Sum.inr x=q1:=h1.1
   have a2:q2=V.int n:=h1.2
   rw[Fy (kvs:=r) h2 e1,← a1,a2,dq]
   simp only[yi]
 | (.inl _,_)::r,_,m,h,e=>by cases e
 | (.inr _,.non)::r,_,m,h,e=>by cases e
 | (.inr _,.bl _)::r,_,m,h,e=>by cases e
 | (.inr _,.str _)::r,_,m,h,e=>by cases e
 | (.inr _,.tup _)::r,_,m,h,e=>by cases e
 | (.inr _,.lst _)::r,_,m,h,e=>by cases e
 | (.inr _,.raw _)::r,_,m,h,e=>by cases e
 | (.inr _,.exc _)::r,_,m,h,e=>by cases e
def gY(m:List (Tx×Int))(n:Int):List Tx:=(m.filter fun p=>decide (p.2=n)).map (·.1)
def o8(i j:Nat):ae->R PO:=fun ε=>(aW (cP ε i) ε).bind fun kvs ε=>match ε[j]? with
 | some (.val (.int n))=>(aW (oN kvs) ε).bind fun m ε=>if ∀ p∈m,p.1.length<=be then .ok (.lst (af (gY m n))) ε else .no
 | _=>.no
theorem JK{scope:Scope}{x y z:Str}(i j:Nat){px p1 p2 p3 p4 p5 p6 yp:Pos}(B:km X scope x [x,y,z] [i,j])(hc:X.calm=true)(hu:X.A.units+64<cLine)(hN:X.N[i]?=some y:=by rfl)(gm:ft X.env.scope y:=by first | exact Or.inl rfl | exact Or.inr (Or.inl rfl) | exact Or.inr (Or.inr rfl))
  (hd:(y == ("__debug__" : Str))=false:=by decide) (bF:(y == ("__classdict__" : Str))=false:=by decide)
  (hp0:∀ C s₀ H₀ ex pn,PE (c8 X scope [x,y,z] C s₀ H₀ ex pn) (.Name x p2) (nG 0):=by intro _ _ _ _ _; exact pv 0) (eY:∀ C s₀ H₀ ex pn,PE (c8 X scope [x,y,z] C s₀ H₀ ex pn) (.Name y p1) (nG 1):=by intro _ _ _ _ _; exact pv 1)
  (dS:∀ C s₀ H₀ ex pn,PE (c8 X scope [x,y,z] C s₀ H₀ ex pn) (.Name z p4) (nG 2):=by intro _ _ _ _ _; exact pv 2) (cW:∀ C s₀ H₀ ex pn,PE (c8 X scope [x,y,z] C s₀ H₀ ex pn) (.Name x p6) (nG 0):=by intro _ _ _ _ _; exact pv 0)
  (hs:∀ x,rg (.Name y yp) X.env x=pure x:=by intro _; rfl) (jk:tD (.Name x p2):=by exact fun _ _=>rfl) :
  DN X E (.ListComp (.Name x p6) [⟨.Name x px,.Name y yp,[.Compare (.Subscript (.Name y p1) (.Name x p2) p3) [.Eq] [.Name z p4] p5],0⟩] scope pos) (o8 i j):=fun F S ε σ H Q rl h=>by
 unfold o8 at h
 cases e0:cP ε i with
 | none=>rw[e0]at h; exact h.elim
 | some kvs =>
  rw[e0]at h
  simp only[c_,R.bind_ok]at h
  split at h
  rotate_left
  ·exact h.elim
  rename_i n en
  obtain⟨vn,en1,en2⟩:=rl.val j _ en
  have en2:vn=V.int n:=en2
  subst en2
  cases e1:oN kvs with
  | none=>rw[e1]at h; exact h.elim
  | some m =>
   rw[e1]at h
   simp only[c_,R.bind_ok]at h
   split at h
   rotate_left
   ·exact h.elim
   rename_i hm
   obtain⟨a,ws,ea,ha,hk,hS,_⟩:=rl.dkAt (j5 e0)
   have hws:=Fy hk e1
   refine cE (Ef i B hc hN gm hd bF (fun C s₀ H₀ ex pn=>Eb (Ea (Lx (yL (show X.A.units+1<cLine by ac_rfl) (eY C s₀ H₀ ex pn) (hp0 C s₀ H₀ ex pn) jk) (dS C s₀ H₀ ex pn)))) (fun C s₀ H₀ ex pn=>cW C s₀ H₀ ex pn) hs) ⟨a,ws,ea,ha,fun o l nd hz hl=>?_⟩
   have og:l≠a:=by rintro rfl; rw[bA]at hl; cases hl
   have iF:H l=none:=by rw[bp og]at hl; exact hl
   have uN:ws.length=m.length:=by rw[hws,cq]
   refine⟨fun j m' ys H'=>m'=ws.length-j/\j<=ws.length/\ys=cm (gY (m.take j) n)/\H'=upd (upd H a (.frz o (.dK ws))) l (.lst ys),⟨_,rfl,j9 _,by simp[gY,cm],rfl⟩,?_⟩
   rintro jj m' ys H' ⟨rfl,hj,rfl,rfl⟩
   have p8:upd (upd H a (.frz o (.dK ws))) l (.lst (cm (gY (m.take jj) n))) a=some (.frz o (.dK ws)):=by rw[bp (fi og),bA]
   by_cases aX:jj<ws.length
   ·refine .inr ⟨⟨p8,aX⟩,fun v H1 ⟨e1,p,hp,e2⟩=>?_⟩
    subst e1 e2
    obtain⟨q,hq⟩:∃ q,m[jj]?=some q:=⟨_,eV (by ac_rfl)⟩
    have hpq:p=(Sum.inr (tS q.1),V.int q.2):=by
     rw[hws,iA,hq]at hp
     exact(dE hp).symm
    have HE:gY (m.take (jj+1)) n=gY (m.take jj) n++(if q.2=n then [q.1] else []):=by
     unfold gY
     rw[List.take_add_one,hq,Option.toList_some,xT,nV]
     congr 1
     by_cases c:q.2=n <;> simp[c]
    have b7:(cm (gY (m.take jj) n)).length<=jj:=by
     unfold cm gY
     rw[cq,cq]
     exact cp (rK _ _) (by rw[gE]; ac_rfl)
    refine⟨.ref a,?_,kV p.1,rfl,a,p.2,rfl,.inl ⟨ws,p.1,.inr ⟨o,p8⟩,rfl,(zz nd (ud hp)).symm⟩,V.int n,?_,q.2,n,by rw[hpq],rfl,_,rfl,?_⟩
    ·show(eZ σ [i,j])[0]?=_
     unfold eZ
     simp[ea]
    ·show(eZ σ [i,j])[1]?=_
     unfold eZ
     simp[en1]
    ·dsimp only
     by_cases c:q.2=n
     ·rw[if_pos (decide_eq_true c)]
      refine⟨kV p.1,rfl,bA,by ac_rfl,_,?_,rfl,aX,?_,?_⟩
      ·ac_rfl
      ·rw[HE,if_pos c,hpq]; simp[cm,kV,tV]
      ·rw[yQ]
     ·rw[if_neg (fun z=>c (of_decide_eq_true z))]
      refine⟨_,?_,rfl,aX,?_,rfl⟩
      ·ac_rfl
      ·rw[HE,if_neg c,iz]
   ·have e:jj=ws.length:=by ac_rfl
    subst e
    refine .inl ⟨⟨p8,aL _⟩,?_⟩
    rw[F8 ha og,uN,pH]
    have al:Al F F H (upd H l (.lst (cm (gY m n)))):=Al.new0 iF
    refine h F S _ (rl.al al) al.grow l (fun b=>b=l) ⟨⟨_,bA,RB.mpr ⟨rfl,fun x hx=>?_⟩⟩,fun b=>pF⟩ fun b z=>?_
    ·obtain⟨p,hp,rfl⟩:=b0.mp hx
     exact hm p (jc.mp hp).1
    ·subst z
     refine⟨iF,fun z=>?_,fun⟨j,z⟩=>?_,_,bA,trivial⟩
     ·obtain⟨o,q⟩:=rl.ex b z; rw[iF]at q; cases q
     ·obtain⟨_,_,o,q,_⟩:=rl.foot j b z; rw[iF]at q; cases q
end
end Pu
local macro_rules | `(tactic| simp! [$xs,*]) => `(tactic| simp [Pu.aA, Pu.c0, Pu.dB, Pu.d2, Pu.d1, Pu.dV, Pu.dC, Pu.dL, Pu.dF, Pu.ak, Pu.aq, Pu.cY, Pu.sV, Pu.bz, Pu.cZ, Pu.aF, Pu.gV, Pu.gO, Pu.bM, Pu.ig, Pu.fU, Pu.cS, Pu.e_, Pu.fA, Pu.R.bind, Pu.aW, Pu.bo, Pu.fF, Pu.bu, Pu.back, Pu.jB, Pu.qU, Pu.NO, Pu.D3, Pu.E5, Pu.Jr, Pu.aR, Pu.nA, Pu.bU, Pu.i9, Pu.dD, Pu.FF, Pu.nI, Pu.RS, Pu.lA, Pu.FO, Pu.RF, Pu.yx, Pu.nz, Pu.Rs, Pu.o_, Pu.gX, Pu.iu, Pu.jX, Pu.vv, Pu.tG, Pu.imm, Pu.RV, Pu.qi, bj, pt, $xs,*])
namespace Sh
open L2 Pu
set_option genInjectivity false in
structure Ad where
 SlitError:Addr
 NoText:Addr
 NoWidth:Addr
 NoView:Addr
 NoWindow:Addr
 Never:Addr
 Full:Addr
 Nothing:Addr
 Unlike:Addr
 NoPlace:Addr
 NoLetters:Addr
 BadText:Addr
 Seeker:Addr
 Slit:Addr
def d_has_only(a:Ad):ae->R ax:=cY (dL sq (ak (dF (dU [1] (cQ (dV 0)) (dN) (d2 (qj false) (dV 0) (dV 1)))) (aq)))
def tR(a:Ad):ae->R Slot:=bo 2 [] (bu 0 (d_has_only a))
def d_is_whole_number(a:Ad):ae->R ax:=cY (nz (dL il (ak (dV 0) (ak (dC (.raw (.ty "int"))) (aq)))) (FO (dL il (ak (dV 0) (ak (dC (.raw (.ty "bool"))) (aq))))))
def wb(a:Ad):ae->R Slot:=bo 1 [] (bu 0 (d_is_whole_number a))
def d_is_width(a:Ad):ae->R ax:=cY (nz (aR (aF (wb a) (gV (dV 0) (bM)))) (o_ (gX fun i j=>decide (i<=j)) (gX fun i j=>decide (i<=j)) (dC (.int 1)) (dV 0) (dC (.int 4))))
def oC(a:Ad):ae->R Slot:=bo 1 [] (bu 0 (d_is_width a))
def d_is_window(a:Ad):ae->R ax:=cY (nz (dL il (ak (dV 0) (ak (dC (.raw (.ty "str"))) (aq)))) (nz (d2 (eqT false) (dL ba (ak (dV 0) (aq))) (dV 1)) (aR (aF (tR a) (gV (dV 0) (gV (dV 2) (bM)))))))
def qg(a:Ad):ae->R Slot:=bo 3 [] (bu 0 (d_is_window a))
def d_are_windows(a:Ad):ae->R ax:=aA (c0 (yx (lA (dB (dL il (ak (dV 0) (ak (dC (.raw (.ty "tuple"))) (aq)))))) (lA (dB (o_ (gX fun i j=>decide (i<=j)) (gX fun i j=>decide (i<=j)) (dC (.int 1)) (dL ba (ak (dV 0) (aq))) (dC (.int 9)))))) (cY (dC (.bl false))) (dD))
 (aA (c0 (lA (dB (dL sq (ak (dF (dU [1,2] (cQ (dV 0)) (dN) (aR (aF (qg a) (gV (dV 0) (gV (dV 1) (gV (dV 2) (bM)))))))) (aq))))) (cY (dC (.bl false))) (dD))
 (cY (d2 (eqT false) (dF (dL xp (ak (dV 0) (aq)))) (dF (dL oO (ak (dV 0) (aq)))))))
def m8(a:Ad):ae->R Slot:=bo 3 [] (bu 0 (d_are_windows a))
def d_is_view_with(a:Ad):ae->R ax:=aA (c0 (yx (lA (dB (dL il (ak (dV 0) (ak (dC (.raw (.ty "tuple"))) (aq)))))) (dB (d2 (eqT true) (dL ba (ak (dV 0) (aq))) (dC (.int 2))))) (cY (dC (.bl false))) (dD))
 (cY (nz (aR (aF (oC a) (gV (d2 bi (dV 0) (dC (.int 0))) (bM)))) (aR (aF (m8 a) (gV (d2 bi (dV 0) (dC (.int 1))) (gV (d2 bi (dV 0) (dC (.int 0))) (gV (dV 1) (bM))))))))
def qN(a:Ad):ae->R Slot:=bo 2 [] (bu 0 (d_is_view_with a))
def d_is_view(a:Ad):ae->R ax:=sV (aF (qN a) (gV (dV 0) (gV (dC (.str [97,98,99])) (bM))))
def vM(a:Ad):ae->R Slot:=bo 1 [] (bu 0 (d_is_view a))
def d_check_view(a:Ad):ae->R ax:=c0 (lA (dB (aR (aF (vM a) (gV (dV 0) (bM)))))) (tP (.ref a.NoView) (fun ε=>dr ((dC (.str [97,32,118,105,101,119,32,105,115,32,97,32,116,117,112,108,101,32,111,102,32,97,32,119,105,100,116,104,32,97,110,100,32,97,32,114,105,115,105,110,103,32,116,117,112,108,101,32,111,102,32,49,32,116,111,32,57,32,119,105,110,100,111,119,115])) ε))) (dD)
def wt(a:Ad):ae->R Slot:=bo 1 [] (bu 0 (d_check_view a))
def d_view_of(a:Ad):ae->R ax:=aA (c0 (lA (dB (o_ (gX fun i j=>decide (i<=j)) (gX fun i j=>decide (i<=j)) (dC (.int 1)) (dL ba (ak (dV 1) (aq))) (dC (.int 9))))) (tP (.ref a.NoView) (fun ε=>dr ((dC (.str [97,32,118,105,101,119,32,104,97,115,32,49,32,116,111,32,57,32,119,105,110,100,111,119,115])) ε))) (dD))
 (cY (dL i9 (ak (dV 0) (ak (dL vL (ak (dF (dL oO (ak (dV 1) (aq)))) (aq))) (aq)))))
def wN(a:Ad):ae->R Slot:=bo 2 [] (bu 0 (d_view_of a))
def d_counted(a:Ad):ae->R ax:=aA (cZ 1 (yB))
 (aA (fun ε=>cu (b8 2 (cQ (dV 0)) (iO 1 (dV 2) (d2 ay (mD 1 (dV 2) (dC (.int 0))) (dC (.int 1)))) ε))
 (gA 1))
def se(a:Ad):ae->R Slot:=bo 1 [] (bu 2 (d_counted a))
def d_add_endings(a:Ad)(rc:ae->R Slot):ae->R ax:=aA (c0 (lA (dB (tE 2))) (aA (jX 3 (dV 0))
 (FF (.ret (.val .non)))) (dD))
 (aA (bz 4 (aM aO (dV 0) (az (d2 ay (d2 cF (dL ba (ak (dV 0) (aq))) (dV 1)) (dC (.int 1)))) (bI)))
 (fun ε=>cu (b8 5 (cQ (dC (.str [97,98,99]))) (aA (bz 6 (d2 ay (dV 4) (dV 5)))
 (c0 (dB (d2 (gX fun i j=>decide (j<i)) (mD 2 (dV 6) (dC (.int 0))) (dC (.int 0)))) (aA (iO 2 (dV 6) (d2 cF (kn 2 (dV 6)) (dC (.int 1))))
 (aA (nI (aF (rc) (gV (d2 ay (dV 0) (dV 5)) (gV (dV 1) (gO 2 (gO 3 (bM)))))))
 (iO 2 (dV 6) (d2 ay (kn 2 (dV 6)) (dC (.int 1)))))) (dD))) ε)))
def nK(a:Ad):Nat->ae->R Slot
 | 0=>bo 4 [2,3] (bu 3 ET)
 | k+1=>bo 4 [2,3] (bu 3 (d_add_endings a (nK a k)))
def d_texts(a:Ad):ae->R ax:=aA (nI (aF (wt a) (gV (dV 0) (bM))))
 (aA (bz 1 (d2 bi (dV 0) (dC (.int 0))))
 (aA (cZ 2 (dL bU (aq)))
 (aA (fun ε=>cu (b8 3 (cQ (dF (dL ku (ak (dF (dU [] (cQ (d2 bi (dV 0) (dC (.int 1)))) (dN) (aM aO (dV 0) (bI) (az (d1 gM (dC (.int 1))))))) (aq))))) (nI (ti (nK a 12) (qZ (dV 3) (qZ (dV 1) (gN (nA (aF (se a) (gV (d2 bi (dV 0) (dC (.int 1))) (bM)))) (gO 2 (bM))))))) ε))
 (gA 2))))
def v9(a:Ad):ae->R Slot:=bo 1 [] (bu 3 (d_texts a))
def d_how_many(a:Ad):ae->R ax:=cY (dL ba (ak (aR (aF (v9 a) (gV (dV 0) (bM)))) (aq)))
def oF(a:Ad):ae->R Slot:=bo 1 [] (bu 0 (d_how_many a))
def d_law_cell_at(a:Ad):ae->R ax:=aA (c0 (dB (d2 (gX fun i j=>decide (i<j)) (dV 1) (dL ba (ak (dV 0) (aq))))) (cY (d2 bi (dV 0) (dV 1))) (dD))
 (aA (c0 (dB (d2 (eqT false) (dV 0) (dF (dL bU (aq))))) (cY (dC (.int 0))) (dD))
 (cY (d2 ay (d2 gU (d2 bi (dV 0) (d2 gW (dV 1) (dL ba (ak (dV 0) (aq))))) (dC (.int 31))) (dV 1))))
def qW(a:Ad):ae->R Slot:=bo 2 [] (bu 0 (d_law_cell_at a))
def d_law_mixed(a:Ad):ae->R ax:=aA (bz 3 (d2 gW (d2 ay (d2 ay (d2 gU (aR (aF (qW a) (gV (dV 0) (gV (dV 1) (bM))))) (dC (.int 1103515245))) (d2 gU (dC (.int 7919)) (dV 1))) (dC (.int 12345))) (dC (.int 2147483647))))
 (cY (d2 gW (d2 gW (d2 gW (d2 sx (dV 3) (dC (.int 5))) (dC (.int 2147483647))) (dC (.int 999983))) (dV 2)))
def wU(a:Ad):ae->R Slot:=bo 3 [] (bu 1 (d_law_mixed a))
def d_law_draw(a:Ad):ae->R ax:=aA (jX 1 (dC (.int 0)))
 (sV (aF (wU a) (gV (dV 0) (gV (vv (fun xs=>tG (ba xs)) 1) (gV (dV 2) (bM))))))
def jo(a:Ad):ae->R Slot:=bo 3 [1] (bu 0 (d_law_draw a))
def d_law_pick(a:Ad):ae->R ax:=cY (d2 bi (dV 2) (aR (aF (jo a) (gV (dV 0) (gO 1 (gV (dL ba (ak (dV 2) (aq))) (bM)))))))
def kq(a:Ad):ae->R Slot:=bo 3 [1] (bu 0 (d_law_pick a))
def d_law_text(a:Ad):ae->R ax:=aA (bz 4 (aR (aF (kq a) (gV (dV 0) (gO 1 (gV (dF (dL bU (ak (dC (.int 1)) (ak (dC (.int 2)) (ak (dC (.int 2)) (ak (dC (.int 3)) (ak (dC (.int 3)) (ak (dC (.int 3)) (aq))))))))) (bM)))))))
 (aA (bz 5 (dC (.str [])))
 (aA (fun ε=>cu (b8 6 (dL gx (ak (d2 ay (dV 2) (aR (aF (jo a) (gV (dV 0) (gO 1 (gV (d2 ay (d2 cF (dV 3) (dV 2)) (dC (.int 1))) (bM))))))) (aq))) (bz 5 (d2 ay (dV 5) (d2 bi (dC (.str [97,98,99])) (aR (aF (jo a) (gV (dV 0) (gO 1 (gV (dV 4) (bM))))))))) ε))
 (cY (dV 5))))
def nu(a:Ad):ae->R Slot:=bo 4 [1] (bu 3 (d_law_text a))
def d_is_text_up_to(a:Ad):ae->R ax:=cY (nz (dL il (ak (dV 0) (ak (dC (.raw (.ty "str"))) (aq)))) (nz (o_ (gX fun i j=>decide (i<=j)) (gX fun i j=>decide (i<=j)) (dC (.int 1)) (dL ba (ak (dV 0) (aq))) (dV 1)) (aR (aF (tR a) (gV (dV 0) (gV (dC (.str [97,98,99])) (bM)))))))
def vB(a:Ad):ae->R Slot:=bo 2 [] (bu 0 (d_is_text_up_to a))
def d_check_text(a:Ad):ae->R ax:=c0 (lA (dB (aR (aF (vB a) (gV (dV 0) (gV (dC (.int 12)) (bM))))))) (tP (.ref a.NoText) (fun ε=>dr ((dC (.str [97,32,116,101,120,116,32,104,97,115,32,49,32,116,111,32,49,50,32,108,101,116,116,101,114,115,32,97,44,32,98,44,32,99])) ε))) (dD)
def vV(a:Ad):ae->R Slot:=bo 1 [] (bu 0 (d_check_text a))
def d_check_width(a:Ad):ae->R ax:=c0 (lA (dB (aR (aF (oC a) (gV (dV 0) (bM)))))) (tP (.ref a.NoWidth) (fun ε=>dr ((dC (.str [97,32,119,105,100,116,104,32,105,115,32,97,32,119,104,111,108,101,32,110,117,109,98,101,114,32,102,114,111,109,32,49,32,116,111,32,52])) ε))) (dD)
def wT(a:Ad):ae->R Slot:=bo 1 [] (bu 0 (d_check_width a))
def d_pieces(a:Ad):ae->R ax:=jV (dU [0,1] (dL gx (ak (d2 ay (d2 cF (dL ba (ak (dV 0) (aq))) (dV 1)) (dC (.int 1))) (aq))) (dN) (aM aO (dV 1) (az (dV 0)) (az (d2 ay (dV 0) (dV 2)))))
def qo(a:Ad):ae->R Slot:=bo 2 [] (bu 0 (d_pieces a))
def d_text_view(a:Ad):ae->R ax:=aA (nI (aF (vV a) (gV (dV 0) (bM))))
 (aA (nI (aF (wT a) (gV (dV 1) (bM))))
 (sV (aF (wN a) (gV (dV 1) (gV (aR (aF (qo a) (gV (dV 0) (gV (dV 1) (bM))))) (bM))))))
def nv(a:Ad):ae->R Slot:=bo 2 [] (bu 0 (d_text_view a))
def d_unrolled(a:Ad):ae->R ax:=cY (aM aO (d2 gU (dV 0) (dV 1)) (bI) (az (d2 cF (d2 ay (dL ba (ak (dV 0) (aq))) (dV 1)) (dC (.int 1)))))
def qP(a:Ad):ae->R Slot:=bo 2 [] (bu 0 (d_unrolled a))
def d_exchanges_from(a:Ad):ae->R ax:=aA (cZ 4 (dL bU (aq)))
 (aA (fun ε=>cu (b8 5 (dL gz (ak (d2 ay (dV 2) (dC (.int 1))) (ak (d2 ay (dV 3) (dC (.int 1))) (aq)))) (b8 6 (dL gz (ak (d2 ay (dV 3) (dC (.int 1))) (ak (dL ba (ak (dV 1) (aq))) (aq)))) (c0 (dB (d2 (eqT false) (d2 bi (dV 1) (dV 5)) (d2 bi (dV 1) (dV 6)))) (jX 4 (d2 ay (d2 ay (d2 ay (d2 ay (aM aO (dV 0) (bI) (az (dV 2))) (aM aO (dV 0) (az (dV 3)) (az (dV 6)))) (aM aO (dV 0) (az (dV 5)) (az (dV 3)))) (aM aO (dV 0) (az (dV 2)) (az (dV 5)))) (aM aO (dV 0) (az (dV 6)) (bI)))) (dD))) ε))
 (gA 4))
def sd(a:Ad):ae->R Slot:=bo 4 [] (bu 3 (d_exchanges_from a))
def d_exchanges(a:Ad):ae->R ax:=aA (cZ 2 (dL bU (aq)))
 (aA (fun ε=>cu (b8 3 (dL gx (ak (dL ba (ak (dV 1) (aq))) (aq))) (b8 4 (dL gz (ak (d2 ay (dV 3) (dC (.int 1))) (ak (dL ba (ak (dV 1) (aq))) (aq)))) (c0 (dB (d2 (eqT false) (d2 bi (dV 1) (dV 3)) (d2 bi (dV 1) (dV 4)))) (jZ 2 (aR (aF (sd a) (gV (dV 0) (gV (dV 1) (gV (dV 3) (gV (dV 4) (bM)))))))) (dD))) ε))
 (gA 2))
def zp(a:Ad):ae->R Slot:=bo 2 [] (bu 3 (d_exchanges a))
def d_turns(a:Ad):ae->R ax:=aA (c0 (dB (d2 (eqT true) (d2 bi (dV 1) (dC (.int 0))) (d2 bi (dV 1) (d1 gM (dC (.int 1)))))) (jV (dL bU (aq))) (dD))
 (aA (bz 3 (aM aO (dV 0) (bI) (az (d2 cF (dL ba (ak (dV 1) (aq))) (dC (.int 1))))))
 (jV (dU [3,2] (dL gz (ak (dC (.int 1)) (ak (dL ba (ak (dV 3) (aq))) (aq)))) (dN) (aR (aF (qP a) (gV (d2 ay (aM aO (dV 1) (az (dV 0)) (bI)) (aM aO (dV 1) (bI) (az (dV 0)))) (gV (dV 2) (bM))))))))
def sm(a:Ad):ae->R Slot:=bo 3 [] (bu 1 (d_turns a))
def d_one_step_off(a:Ad):ae->R ax:=aA (bz 2 (aR (aF (qo a) (gV (dV 0) (gV (d2 cF (dV 1) (dC (.int 1))) (bM))))))
 (jV (zR (ak (d2 ay (aR (aF (zp a) (gV (dV 0) (gV (dV 2) (bM))))) (aR (aF (sm a) (gV (dV 0) (gV (dV 2) (gV (dV 1) (bM))))))) (aq)) (ak (dF (dL bU (ak (dV 0) (aq)))) (aq))))
def qC(a:Ad):ae->R Slot:=bo 2 [] (bu 1 (d_one_step_off a))
def d_law_like(a:Ad):ae->R ax:=aA (bz 4 (d2 ay (dC (.int 1)) (aR (aF (kq a) (gV (dV 0) (gO 1 (gV (dF (dL bU (ak (dC (.int 1)) (ak (dC (.int 1)) (ak (dC (.int 2)) (ak (dC (.int 2)) (ak (dC (.int 3)) (aq)))))))) (bM))))))))
 (aA (bz 5 (aR (aF (nu a) (gV (dV 0) (gO 1 (gV (dV 2) (gV (dC (.int 4)) (bM))))))))
 (aA (fun ε=>cu (ez (dB (d2 (gX fun i j=>decide (i<j)) (dL ba (ak (dV 5) (aq))) (d2 cF (dV 3) (dC (.int 2))))) (bz 5 (d2 ay (dV 5) (aR (aF (kq a) (gV (dV 0) (gO 1 (gV (dF (dL bU (ak (aM aO (dV 5) (bI) (az (dC (.int 2)))) (ak (aM aO (dV 5) (bI) (az (dC (.int 3)))) (ak (aM aO (dV 5) (az (dC (.int 1))) (az (dC (.int 3)))) (ak (dC (.str [97])) (ak (dC (.str [98])) (ak (aM aO (dV 5) (az (d1 gM (dC (.int 2)))) (bI)) (aq))))))))) (bM)))))))) 1000 ε))
 (cY (dL i9 (ak (aM aO (dV 5) (bI) (az (dL tu (ak (dV 4) (ak (d2 cF (dV 3) (aR (aF (jo a) (gV (dV 0) (gO 1 (gV (dC (.int 3)) (bM))))))) (aq)))))) (ak (dV 4) (aq)))))))
def o7(a:Ad):ae->R Slot:=bo 4 [1] (bu 2 (d_law_like a))
def d_law_row(a:Ad):ae->R ax:=jV (dU [0,1] (dL gx (ak (d2 ay (d2 cF (dL ba (ak (dV 0) (aq))) (dV 1)) (dC (.int 2))) (aq))) (dN) (aM aO (dV 1) (az (dV 0)) (az (d2 cF (d2 ay (dV 0) (dV 2)) (dC (.int 1))))))
def o0(a:Ad):ae->R Slot:=bo 2 [] (bu 0 (d_law_row a))
def d_law_stretches(a:Ad):ae->R ax:=aA (cZ 4 (dL bU (aq)))
 (aA (fun ε=>cu (b8 5 (dL gz (ak (dV 2) (ak (dV 3) (aq)))) (b8 6 (dL gx (ak (dV 2) (aq))) (c0 (dB (d2 (eqT false) (d2 bi (dV 1) (dV 6)) (d2 bi (dV 1) (dV 5)))) (aA (bz 7 (d2 ay (aM aO (dV 0) (bI) (az (dV 6))) (aM aO (dV 0) (az (dV 5)) (az (dV 3)))))
 (aA (bz 7 (d2 ay (dV 7) (aM aO (dV 0) (az (dV 2)) (az (dV 5)))))
 (jX 4 (d2 ay (d2 ay (dV 7) (aM aO (dV 0) (az (dV 6)) (az (dV 2)))) (aM aO (dV 0) (az (dV 3)) (bI)))))) (dD))) ε))
 (gA 4))
def sj(a:Ad):ae->R Slot:=bo 4 [] (bu 4 (d_law_stretches a))
def d_law_moved(a:Ad):ae->R ax:=aA (bz 2 (aR (aF (o0 a) (gV (dV 0) (gV (dV 1) (bM))))))
 (aA (cZ 3 (dL bU (aq)))
 (aA (fun ε=>cu (b8 4 (dL gx (ak (dL ba (ak (dV 2) (aq))) (aq))) (b8 5 (dL gx (ak (dV 4) (aq))) (c0 (dB (d2 (eqT false) (d2 bi (dV 2) (dV 5)) (d2 bi (dV 2) (dV 4)))) (jZ 3 (aR (aF (sj a) (gV (dV 0) (gV (dV 2) (gV (dV 5) (gV (dV 4) (bM)))))))) (dD))) ε))
 (aA (c0 (dB (d2 (eqT false) (d2 bi (dV 2) (dC (.int 0))) (d2 bi (dV 2) (d1 gM (dC (.int 1)))))) (aA (bz 6 (d2 gU (aM aO (dV 0) (bI) (az (d2 cF (dL ba (ak (dV 2) (aq))) (dC (.int 1))))) (dC (.int 3))))
 (jZ 3 (dF (dU [6,0] (dL gz (ak (dC (.int 1)) (ak (d2 cF (dL ba (ak (dV 2) (aq))) (dC (.int 1))) (aq)))) (dN) (aM aO (dV 1) (az (dV 0)) (az (d2 ay (dV 0) (dL ba (ak (dV 2) (aq)))))))))) (dD))
 (cY (dF (dL ku (ak (dF (dU [0] (cQ (dM 3)) (dB (d2 (eqT true) (dV 0) (dV 1))) (dV 0))) (aq))))))))
def oU(a:Ad):ae->R Slot:=bo 2 [] (bu 5 (d_law_moved a))
def d_spread(a:Ad):ae->R ax:=aA (cZ 4 (dL bU (aq)))
 (aA (fun ε=>cu (b8 5 (cQ (dV 0)) (b8 6 (cQ (aR (aF (qC a) (gV (dV 5) (gV (dV 1) (bM)))))) (c0 (dB (jq true 3 (dV 6))) (aA (iO 3 (dV 6) (d2 ay (dV 2) (dC (.int 1))))
 (jX 4 (dV 6))) (dD))) ε))
 (gA 4))
def qc(a:Ad):ae->R Slot:=bo 4 [3] (bu 3 (d_spread a))
def d_law_levels(a:Ad):ae->R ax:=aA (cZ 2 (nE 0 0))
 (aA (bz 3 (dF (dL bU (ak (dV 0) (aq)))))
 (aA (fun ε=>cu (ez (dB (d2 (eqT true) (dV 3) (dF (dL bU (aq))))) (aA (cZ 4 (dL bU (aq)))
 (aA (b8 5 (cQ (dV 3)) (jZ 4 (dF (dU [2] (cQ (aR (aF (oU a) (gV (dV 5) (gV (dV 1) (bM)))))) (dB (jq true 1 (dV 0))) (dV 0)))))
 (aA (b8 6 (cQ (dM 4)) (iO 2 (dV 6) (d2 ay (kn 2 (d2 bi (dV 3) (dC (.int 0)))) (dC (.int 1)))))
 (bz 3 (dF (dL ku (ak (dV 4) (aq)))))))) 1000 ε))
 (gA 2)))
def sy(a:Ad):ae->R Slot:=bo 2 [] (bu 5 (d_law_levels a))
def d_farthest(a:Ad):ae->R ax:=aA (bz 2 (aR (aF (oF a) (gV (aR (aF (nv a) (gV (dV 0) (gV (dV 1) (bM))))) (bM)))))
 (aA (cZ 3 (nE 0 0))
 (aA (bz 4 (dF (dL bU (ak (dV 0) (aq)))))
 (aA (bz 5 (dC (.int 0)))
 (aA (fun ε=>cu (ez (dB (d2 (gX fun i j=>decide (i<j)) (tI 3) (dV 2))) (aA (bz 4 (aR (aF (qc a) (gV (dV 4) (gV (dV 1) (gV (dV 5) (gO 3 (bM))))))))
 (bz 5 (d2 ay (dV 5) (dC (.int 1))))) 1000 ε))
 (cY (dL i9 (ak (dV 5) (ak (dL lc (ak (dV 4) (aq))) (aq)))))))))
def q0(a:Ad):ae->R Slot:=bo 2 [] (bu 4 (d_farthest a))
end Sh
local macro_rules | `(tactic| and_intros) => `(tactic| (refine' Pu.RM ?a ?l ?c ?k; (case a => k_is); (case l => k_is); (case c => k_is); (case k => k_is)))
namespace K20
open L2 Pu Sh
def cK(i:Nat):Stmt:=PySem.Challenge.pw_slitview_k20_whole_farthest.main.body.getD i (.Pass ⟨0,0,0,0⟩)
abbrev zW:Stmt:=cK 38
abbrev zY:Stmt:=cK 39
abbrev zT:Stmt:=cK 40
abbrev zr:Stmt:=cK 41
abbrev yV:Stmt:=cK 42
abbrev AJ:Stmt:=cK 43
abbrev v5:Stmt:=cK 45
abbrev zD:Stmt:=cK 47
abbrev sC:Stmt:=cK 46
abbrev wV:Stmt:=cK 48
abbrev yG:Stmt:=cK 11
abbrev y8:Stmt:=cK 13
abbrev wn:Stmt:=cK 10
abbrev zF:Stmt:=cK 14
abbrev vk:Stmt:=cK 15
abbrev Aj:Stmt:=cK 16
abbrev yg:Stmt:=cK 17
abbrev yJ:Stmt:=cK 20
abbrev Ai:Stmt:=cK 27
abbrev yu:Stmt:=cK 26
abbrev vz:Stmt:=cK 28
abbrev Aw:Stmt:=cK 29
abbrev AK:Stmt:=cK 12
abbrev yk:Stmt:=cK 18
abbrev ym:Stmt:=cK 19
abbrev Av:Stmt:=cK 22
abbrev wK:Stmt:=cK 21
abbrev yr:Stmt:=cK 23
abbrev y9:Stmt:=cK 31
abbrev Ac:Stmt:=cK 32
abbrev zU:Stmt:=cK 24
abbrev wW:Stmt:=cK 33
abbrev Ak:Stmt:=cK 34
abbrev Am:Stmt:=cK 35
abbrev AM:Stmt:=cK 36
abbrev qd:Stmt:=cK 49
def mw(a:Ad):List Addr:=[a.NoText,a.NoWidth,a.NoView]
structure cD(K:ao)(mg:Str->Option Value)(base:Heap)(a:Ad):Prop where
 d_law_cell_at:cn K mg "_law_cell_at" zW
 d_law_mixed:cn K mg "_law_mixed" zY
 d_law_draw:cn K mg "_law_draw" zT
 d_law_pick:cn K mg "_law_pick" zr
 d_law_text:cn K mg "_law_text" yV
 d_law_like:cn K mg "_law_like" AJ
 d_law_row:cn K mg "_law_row" v5
 d_law_stretches:cn K mg "_law_stretches" zD
 d_law_moved:cn K mg "_law_moved" sC
 d_law_levels:cn K mg "_law_levels" wV
 d_is_whole_number:cn K mg "is_whole_number" yG
 d_is_width:cn K mg "is_width" y8
 d_has_only:cn K mg "has_only" wn
 d_is_window:cn K mg "is_window" zF
 d_are_windows:cn K mg "are_windows" vk
 d_is_view_with:cn K mg "is_view_with" Aj
 d_is_view:cn K mg "is_view" yg
 d_check_view:cn K mg "check_view" yJ
 d_add_endings:cn K mg "add_endings" Ai
 d_counted:cn K mg "counted" yu
 d_texts:cn K mg "texts" vz
 d_how_many:cn K mg "how_many" Aw
 d_is_text_up_to:cn K mg "is_text_up_to" AK
 d_check_text:cn K mg "check_text" yk
 d_check_width:cn K mg "check_width" ym
 d_view_of:cn K mg "view_of" Av
 d_pieces:cn K mg "pieces" wK
 d_text_view:cn K mg "text_view" yr
 d_exchanges_from:cn K mg "exchanges_from" y9
 d_exchanges:cn K mg "exchanges" Ac
 d_unrolled:cn K mg "unrolled" zU
 d_turns:cn K mg "turns" wW
 d_one_step_off:cn K mg "one_step_off" Ak
 d_spread:cn K mg "spread" Am
 d_farthest:cn K mg "farthest" AM
 d_law:cn K mg "law" qd
 m_all:mg "all" = none
 m_any:mg "any" = none
 m_bool:mg "bool" = none
 m_int:mg "int" = none
 m_isinstance:mg "isinstance" = none
 m_len:mg "len" = none
 m_list:mg "list" = none
 m_max:mg "max" = none
 m_min:mg "min" = none
 m_range:mg "range" = none
 m_set:mg "set" = none
 m_sorted:mg "sorted" = none
 m_str:mg "str" = none
 m_tuple:mg "tuple" = none
 v_LETTERS:∃ t,mg "LETTERS" = some (.str (tS [97,98,99]) t)
 v_MOST_LETTERS:∃ t,mg "MOST_LETTERS" = some (.int 12 t)
 v_MOST_WINDOWS:∃ t,mg "MOST_WINDOWS" = some (.int 9 t)
 v_WIDEST:∃ t,mg "WIDEST" = some (.int 4 t)
 c_SlitError:mg "SlitError" = some (.ref a.SlitError)
 c_NoText:mg "NoText" = some (.ref a.NoText)
 c_NoWidth:mg "NoWidth" = some (.ref a.NoWidth)
 c_NoView:mg "NoView" = some (.ref a.NoView)
 o_NoView:OwnCls "NoView" a.NoView [.type "ValueError",.type "Exception",.type "BaseException",.type "object"] "ValueError.__new__" mg base
 o_NoText:OwnCls "NoText" a.NoText [.type "ValueError",.type "Exception",.type "BaseException",.type "object"] "ValueError.__new__" mg base
 o_NoWidth:OwnCls "NoWidth" a.NoWidth [.type "ValueError",.type "Exception",.type "BaseException",.type "object"] "ValueError.__new__" mg base
section
variable{P:aK}{w:World}{K:ao}{mg:Str->Option Value}{base:Heap}{a:Ad}
theorem IE:bZ ["_law_script","_law_k"] ["_law_script","_law_k"] (aY zW):=by ac_nf
theorem OO(G:cD K mg base a):cf (bX P w) P w K mg base "_law_cell_at" 1 ["_law_script","_law_k"] (bR K (qW a)) :=
 cG (k:=0) (pin:=[]) G.d_law_cell_at IE rfl (fun _ _ _ _ _ _ us hl=>Pu.Rv (fun _ _=>rfl) us hl) (fun f aJ A outer s H E hr=>by exact
  (bd (ge (iI zf j4 (ai 1) (cM eD eC G.m_len eB (aD (ai 0) aQ)) rfl) (aU (eK (eN eO eM (ai 0) (ai 1)))) f_)
  (bd (ge (iI (lg hr.units) lm (ai 0) (mZ aQ) rfl) (aU (eK aN)) f_)
  (aU (eK (bf cC cB (bf tm sA (eN eO eM (ai 0) (bf s_ sw (ai 1) (cM eD eC G.m_len eB (aD (ai 0) aQ)))) aN) (ai 1)))))))
theorem Og:bZ ["_law_script","_law_k","_law_many","_law_drawn"] ["_law_script","_law_k","_law_many"] (aY zY):=by ac_nf
theorem Kz(G:cD K mg base a):cf (bX P w) P w K mg base "_law_mixed" 2 ["_law_script","_law_k","_law_many"] (bR K (wU a)) :=
 cG (k:=1) (pin:=[]) G.d_law_mixed Og rfl (fun _ _ _ _ _ _ us hl=>Pu.RU (fun _ _ _=>rfl) us hl) (fun f aJ A outer s H E hr=>by exact
  (bd (eh 3 Og.nd (bf s_ sw (bf cC cB (bf cC cB (bf tm sA ((bT (OO G) (hr.mono (by decide)) c7 (aG (ai 0) (aG (ai 1) bS)))).de aN) (bf tm sA aN (ai 1))) aN) aN))
  (aU (eK (bf s_ sw (bf s_ sw (bf s_ sw (bf LI P_ (ai 3) aN) aN) aN) (ai 2))))))
theorem OE:bZ ["_law_script","_law_town","_law_many"] ["_law_script","_law_town","_law_many"] (aY zT):=by ac_nf
theorem tK(G:cD K mg base a):cf (bX P w) P w K mg base "_law_draw" 3 ["_law_script","_law_town","_law_many"] (bR K (jo a)) :=
 cG (k:=2) (pin:=[1]) G.d_law_draw OE rfl (fun _ _ _ _ _ _ us hl=>Pu.RU (fun _ _ _=>rfl) us hl) (fun f aJ A outer s H E hr=>by exact
  (bd (tF 1 aN)
  (aU (zB (bT (Kz G) (hr.mono (by decide)) c7 (aG (ai 0) (aG (LG 1 eD eC G.m_len eB) (aG (ai 2) bS))))))))
theorem Ih:bZ ["_law_script","_law_town","_law_some"] ["_law_script","_law_town","_law_some"] (aY zr):=by ac_nf
theorem zX(G:cD K mg base a):cf (bX P w) P w K mg base "_law_pick" 4 ["_law_script","_law_town","_law_some"] (bR K (kq a)) :=
 cG (k:=3) (pin:=[1]) G.d_law_pick Ih rfl (fun _ _ _ _ _ _ us hl=>Pu.RU (fun _ _ _=>rfl) us hl) (fun f aJ A outer s H E hr=>by exact
  (aU (eK (eN eO eM (ai 2) ((bT (tK G) (hr.mono (by decide)) c7 (aG (ai 0) (ja 1 (aG (cM eD eC G.m_len eB (aD (ai 2) aQ)) bS))))).de))))
theorem OL:bZ ["_law_script","_law_town","_law_low","_law_most","_law_few","_law_made","_law_k"] ["_law_script","_law_town","_law_low","_law_most"] (aY yV):=by ac_nf
theorem Kc(G:cD K mg base a):cf (bX P w) P w K mg base "_law_text" 5 ["_law_script","_law_town","_law_low","_law_most"] (bR K (nu a)) :=
 cG (k:=4) (pin:=[1]) G.d_law_text OL rfl (fun _ _ _ _ _ _ us hl=>Pu.RA (fun _ _ _ _=>rfl) us hl) (fun f aJ A outer s H E hr=>by exact
  (bd (eh 4 OL.nd ((bT (zX G) (hr.mono (by decide)) c7 (aG (ai 0) (ja 1 (aG (mZ (aD aN (aD aN (aD aN (aD aN (aD aN (aD aN aQ))))))) bS))))).de)
  (bd (eh 5 OL.nd (nc []))
  (bd (j6 (iq 6 gH rfl OL.nd (oW G.m_range (aD (bf cC cB (ai 2) ((bT (tK G) (hr.mono (by decide)) jv (aG (ai 0) (ja 1 (aG (bf cC cB (bf jr ju (ai 3) (ai 2)) aN) bS))))).de) aQ)) (aU (eh 5 OL.nd (bf cC cB (ai 5) (eN eO eM (nc [97,98,99]) ((bT (tK G) (hr.mono (by decide)) jv (aG (ai 0) (ja 1 (aG (ai 4) bS))))).de))))))
  (aU (eK (ai 5)))))))
theorem Jo:bZ ["_law_script","_law_town","_law_low","_law_most","_law_width","_law_made"] ["_law_script","_law_town","_law_low","_law_most"] (aY AJ):=by ac_nf
theorem Q5(G:cD K mg base a):cf (bX P w) P w K mg base "_law_like" 6 ["_law_script","_law_town","_law_low","_law_most"] (bR K (o7 a)) :=
 cG (k:=5) (pin:=[1]) G.d_law_like Jo rfl (fun _ _ _ _ _ _ us hl=>Pu.RA (fun _ _ _ _=>rfl) us hl) (fun f aJ A outer s H E hr=>by exact
  (bd (eh 4 Jo.nd (bf cC cB aN ((bT (zX G) (hr.mono (by decide)) c7 (aG (ai 0) (ja 1 (aG (mZ (aD aN (aD aN (aD aN (aD aN (aD aN aQ)))))) bS))))).de))
  (bd (eh 5 Jo.nd ((bT (Kc G) (hr.mono (by decide)) c7 (aG (ai 0) (ja 1 (aG (ai 2) (aG aN bS)))))).de)
  (bd (j6 (yR (fun _=>1000) gH (iI zf j4 (cM eD eC G.m_len eB (aD (ai 5) aQ)) (bf jr ju (ai 3) aN) rfl) (aU (eh 5 Jo.nd (bf cC cB (ai 5) ((bT (zX G) (hr.mono (by decide)) jv (aG (ai 0) (ja 1 (aG (mZ (aD (d7 dW d4 (ai 5) ij (cI aN)) (aD (d7 dW d4 (ai 5) ij (cI aN)) (aD (d7 dW d4 (ai 5) (cI aN) (cI aN)) (aD (nc [97]) (aD (nc [98]) (aD (d7 dW d4 (ai 5) (cI (vQ wM wE aN)) ij) aQ))))))) bS))))).de)))))
  (aU (eK (xw (aD (d7 dW d4 (ai 5) ij (cI (cM (MU rfl) IB G.m_max Df (aD (ai 4) (aD (bf jr ju (ai 3) ((bT (tK G) (hr.mono (by decide)) c7 (aG (ai 0) (ja 1 (aG aN bS))))).de) aQ))))) (aD (ai 4) aQ)))))))))
theorem PH:bZ ["_law_text_here","_law_width"] ["_law_text_here","_law_width"] (aY v5):=by ac_nf
theorem IV(G:cD K mg base a):cf (bX P w) P w K mg base "_law_row" 1 ["_law_text_here","_law_width"] (bR K (o0 a)) :=
 cG (k:=0) (pin:=[]) G.d_law_row PH rfl (fun _ _ _ _ _ _ us hl=>Pu.Rv (fun _ _=>rfl) us hl) (fun f aJ A outer s H E hr=>by exact
  (aU (tf (mB (cap:=[0,1]) (N':=["_law_at","_law_text_here","_law_width"]) (km.of ["_law_text_here","_law_width"] (aY v5) rfl rfl (by decide +kernel)) rfl (oW G.m_range (aD (bf cC cB (bf jr ju (cM eD eC G.m_len eB (aD (ai 0) aQ)) (ai 1)) aN) aQ)) (fun C s₀ H₀ ex pn=>by exact oZ) (fun C s₀ H₀ ex pn=>by exact(d7 dW d4 (ai 1) (cI (ai 0)) (cI (bf jr ju (bf cC cB (ai 0) (ai 2)) aN))))))))
theorem Mm:bZ ["_law_text_here","_law_row_here","_law_j","_law_l","_law_made","_law_k","_law_i","_law_front"] ["_law_text_here","_law_row_here","_law_j","_law_l"] (aY zD):=by ac_nf
theorem Kd(G:cD K mg base a):cf (bX P w) P w K mg base "_law_stretches" 1 ["_law_text_here","_law_row_here","_law_j","_law_l"] (bR K (sj a)) :=
 cG (k:=0) (pin:=[]) G.d_law_stretches Mm rfl (fun _ _ _ _ _ _ us hl=>Pu.RA (fun _ _ _ _=>rfl) us hl) (fun f aJ A outer s H E hr=>by exact
  (bd (j1 4 Mm.nd (lJ aQ))
  (bd (j6 (iq 5 gH rfl Mm.nd (qp G.m_range (aD (ai 2) (aD (ai 3) aQ))) (aU (iq 6 gH rfl Mm.nd (oW G.m_range (aD (ai 2) aQ)) (aU (ge (iI (lg hr.units) lm (eN eO eM (ai 1) (ai 6)) (eN eO eM (ai 1) (ai 5)) rfl) (bd (eh 7 Mm.nd (bf cC cB (d7 dW d4 (ai 0) ij (cI (ai 6))) (d7 dW d4 (ai 0) (cI (ai 5)) (cI (ai 3)))))
  (bd (eh 7 Mm.nd (bf cC cB (ai 7) (d7 dW d4 (ai 0) (cI (ai 2)) (cI (ai 5)))))
  (aU (tF 4 (bf cC cB (bf cC cB (ai 7) (d7 dW d4 (ai 0) (cI (ai 6)) (cI (ai 2)))) (d7 dW d4 (ai 0) (cI (ai 3)) ij)))))) f_))))))
  (aU (oM 4)))))
theorem Kr:bZ ["_law_text_here","_law_width","_law_row_here","_law_made","_law_l","_law_j","_law_ring"] ["_law_text_here","_law_width"] (aY sC):=by ac_nf
theorem Je(G:cD K mg base a):cf (bX P w) P w K mg base "_law_moved" 2 ["_law_text_here","_law_width"] (bR K (oU a)) :=
 cG (k:=1) (pin:=[]) G.d_law_moved Kr rfl (fun _ _ _ _ _ _ us hl=>Pu.Rv (fun _ _=>rfl) us hl) (fun f aJ A outer s H E hr=>by exact
  (bd (eh 2 Kr.nd ((bT (IV G) (hr.mono (by decide)) c7 (aG (ai 0) (aG (ai 1) bS)))).de)
  (bd (j1 3 Kr.nd (lJ aQ))
  (bd (j6 (iq 4 gH rfl Kr.nd (oW G.m_range (aD (cM eD eC G.m_len eB (aD (ai 2) aQ)) aQ)) (aU (iq 5 gH rfl Kr.nd (oW G.m_range (aD (ai 4) aQ)) (aU (ge (iI (lg hr.units) lm (eN eO eM (ai 2) (ai 5)) (eN eO eM (ai 2) (ai 4)) rfl) (aU (wF 3 ((bT (Kd G) (hr.mono (by decide)) jv (aG (ai 0) (aG (ai 2) (aG (ai 5) (aG (ai 4) bS)))))).de)) f_))))))
  (bd (ge (iI (lg hr.units) lm (eN eO eM (ai 2) aN) (eN eO eM (ai 2) (vQ wM wE aN)) rfl) (bd (eh 6 Kr.nd (bf tm sA (d7 dW d4 (ai 0) ij (cI (bf jr ju (cM eD eC G.m_len eB (aD (ai 2) aQ)) aN))) aN))
  (aU (wF 3 (mB (cap:=[6,0]) (N':=["_law_at","_law_ring","_law_text_here"]) (km.of ["_law_text_here","_law_width","_law_row_here","_law_made","_law_l","_law_j","_law_ring"] (aY sC) rfl rfl (by decide +kernel)) rfl (qp G.m_range (aD aN (aD (bf jr ju (cM eD eC G.m_len eB (aD (ai 2) aQ)) aN) aQ))) (fun C s₀ H₀ ex pn=>by exact oZ) (fun C s₀ H₀ ex pn=>by exact(d7 dW d4 (ai 1) (cI (ai 0)) (cI (bf cC cB (ai 0) (cM eD eC G.m_len eB (aD (ai 2) aQ))))))).de))) f_)
  (aU (eK (y_ rfl (aD (mB (cap:=[0]) (N':=["_law_other","_law_text_here"]) (km.of ["_law_text_here","_law_width","_law_row_here","_law_made","_law_l","_law_j","_law_ring"] (aY sC) rfl rfl (by decide +kernel)) rfl (jW (B2 3)) (fun C s₀ H₀ ex pn=>by exact FS (iI (vX hr.units) vy (ai 0) (ai 1) rfl)) (fun C s₀ H₀ ex pn=>by exact(ai 0))).de aQ) G.m_sorted G.m_set).de)))))))
theorem KZ:bZ ["_law_text_here","_law_width","_law_far","_law_level","_law_later","_law_here","_law_other"] ["_law_text_here","_law_width"] (aY wV):=by ac_nf
theorem QK(G:cD K mg base a):cf (bX P w) P w K mg base "_law_levels" 3 ["_law_text_here","_law_width"] (bR K (sy a)) :=
 cG (k:=2) (pin:=[]) G.d_law_levels KZ rfl (fun _ _ _ _ _ _ us hl=>Pu.Rv (fun _ _=>rfl) us hl) (fun f aJ A outer s H E hr=>by exact
  (bd (j1 2 KZ.nd (Fk 0))
  (bd (eh 3 KZ.nd (mZ (aD (ai 0) aQ)))
  (bd (j6 (yR (fun _=>1000) gH (iI (vX hr.units) vy (ai 3) (mZ aQ) rfl) (bd (j1 4 KZ.nd (lJ aQ))
  (bd (iq 5 gH rfl KZ.nd (jW (ai 3)) (aU (wF 4 (mB (cap:=[2]) (N':=["_law_other","_law_far"]) (km.of ["_law_text_here","_law_width","_law_far","_law_level","_law_later","_law_here","_law_other"] (aY wV) rfl rfl (by decide +kernel)) rfl (jW ((bT (Je G) (hr.mono (by decide)) jv (aG (ai 5) (aG (ai 1) bS)))).de) (fun C s₀ H₀ ex pn=>by exact FS (Gk 1 hr.units (ai 0))) (fun C s₀ H₀ ex pn=>by exact(ai 0))).de)))
  (bd (iq 6 gH rfl KZ.nd (jW (B2 4)) (aU (r9 2 hr.units (ai 6) (bf cC cB (Ae 2 hr.units (eN eO eM (ai 3) aN)) aN))))
  (aU (eh 3 KZ.nd (y_ rfl (aD (ai 4) aQ) G.m_sorted G.m_set).de)))))))
  (aU (oM 2))))))
theorem JM:bZ ["thing"] ["thing"] (aY yG):=by ac_nf
theorem Ia(G:cD K mg base a):cf (bX P w) P w K mg base "is_whole_number" 1 ["thing"] (bR K (wb a)) :=
 cG (k:=0) (pin:=[]) G.d_is_whole_number JM rfl (fun _ _ _ _ _ _ us hl=>Pu.RX (fun _=>rfl) us hl) (fun f aJ A outer s H E hr=>by exact
  (aU (eK (o9 (cM qm qb G.m_isinstance qA (aD (ai 0) (aD (qr G.m_int L0) aQ))) (sh (LU (cM qm qb G.m_isinstance qA (aD (ai 0) (aD (qr G.m_bool Ma) aQ)))))))))
theorem O5:bZ ["thing"] ["thing"] (aY y8):=by ac_nf
theorem EL(G:cD K mg base a):cf (bX P w) P w K mg base "is_width" 2 ["thing"] (bR K (oC a)) :=
 cG (k:=1) (pin:=[]) G.d_is_width O5 rfl (fun _ _ _ _ _ _ us hl=>Pu.RX (fun _=>rfl) us hl) (fun f aJ A outer s H E hr=>by exact
  (aU (eK (o9 ((bT (Ia G) (hr.mono (by decide)) c7 (aG (ai 0) bS))).de (sh (Gu nt nt j4 j4 aN (ai 0) (wG G.v_WIDEST)))))))
theorem PY:bZ ["text","signs"] ["text","signs"] (aY wn):=by ac_nf
theorem Dz(G:cD K mg base a):cf (bX P w) P w K mg base "has_only" 1 ["text","signs"] (bR K (tR a)) :=
 cG (k:=0) (pin:=[]) G.d_has_only PY rfl (fun _ _ _ _ _ _ us hl=>Pu.Rv (fun _ _=>rfl) us hl) (fun f aJ A outer s H E hr=>by exact
  (aU (eK (cM (Gy rfl) GE G.m_all E1 (aD (mB (cap:=[1]) (N':=["sign","signs"]) (km.of ["text","signs"] (aY wn) rfl rfl (by decide +kernel)) rfl (jW (ai 0)) (fun C s₀ H₀ ex pn=>by exact oZ) (fun C s₀ H₀ ex pn=>by exact(ww M8 MX (ai 0) (ai 1) rfl))).de aQ)))))
theorem NV:bZ ["thing","width","signs"] ["thing","width","signs"] (aY zF):=by ac_nf
theorem JQ(G:cD K mg base a):cf (bX P w) P w K mg base "is_window" 2 ["thing","width","signs"] (bR K (qg a)) :=
 cG (k:=1) (pin:=[]) G.d_is_window NV rfl (fun _ _ _ _ _ _ us hl=>Pu.RU (fun _ _ _=>rfl) us hl) (fun f aJ A outer s H E hr=>by exact
  (aU (eK (o9 (cM qm qb G.m_isinstance qA (aD (ai 0) (aD (qr G.m_str Fd) aQ))) (o9 (ww (lg hr.units) lm (cM eD eC G.m_len eB (aD (ai 0) aQ)) (ai 1) rfl) (sh ((bT (Dz G) (hr.mono (by decide)) c7 (aG (ai 0) (aG (ai 2) bS)))).de))))))
theorem J8:bZ ["thing","width","signs"] ["thing","width","signs"] (aY vk):=by ac_nf
theorem Ir(G:cD K mg base a):cf (bX P w) P w K mg base "are_windows" 3 ["thing","width","signs"] (bR K (m8 a)) :=
 cG (k:=2) (pin:=[]) G.d_are_windows J8 rfl (fun _ _ _ _ _ _ us hl=>Pu.RU (fun _ _ _=>rfl) us hl) (fun f aJ A outer s H E hr=>by exact
  (bd (ge ((FK (ma (oK (cM qm qb G.m_isinstance qA (aD (ai 0) (aD (qr G.m_tuple zv) aQ))))) (CY (ma (Dv nt nt j4 j4 aN (cM eD eC G.m_len eB (aD (ai 0) aQ)) (wG G.v_MOST_WINDOWS)))))).dt (aU (eK yN)) f_)
  (bd (ge (ma (oK (cM (Gy rfl) GE G.m_all E1 (aD (mB (cap:=[1,2]) (N':=["window","width","signs"]) (km.of ["thing","width","signs"] (aY vk) rfl rfl (by decide +kernel)) rfl (jW (ai 0)) (fun C s₀ H₀ ex pn=>by exact oZ) (fun C s₀ H₀ ex pn=>by exact((bT (JQ G) (hr.mono (by decide)) jv (aG (ai 0) (aG (ai 1) (aG (ai 2) bS))))).de)).de aQ)))) (aU (eK yN)) f_)
  (aU (eK (ww (lg hr.units) lm (MY N3 LP G.m_list IK (aD (ai 0) aQ)).de (B8 ES El G.m_sorted vo (aD (ai 0) aQ)).de rfl))))))
theorem No:bZ ["thing","signs"] ["thing","signs"] (aY Aj):=by ac_nf
theorem Ng(G:cD K mg base a):cf (bX P w) P w K mg base "is_view_with" 4 ["thing","signs"] (bR K (qN a)) :=
 cG (k:=3) (pin:=[]) G.d_is_view_with No rfl (fun _ _ _ _ _ _ us hl=>Pu.Rv (fun _ _=>rfl) us hl) (fun f aJ A outer s H E hr=>by exact
  (bd (ge ((FK (ma (oK (cM qm qb G.m_isinstance qA (aD (ai 0) (aD (qr G.m_tuple zv) aQ))))) (CY (iI (vX hr.units) vy (cM eD eC G.m_len eB (aD (ai 0) aQ)) aN rfl)))).dt (aU (eK yN)) f_)
  (aU (eK (o9 ((bT (EL G) (hr.mono (by decide)) c7 (aG (eN eO eM (ai 0) aN) bS))).de (sh ((bT (Ir G) (hr.mono (by decide)) c7 (aG (eN eO eM (ai 0) aN) (aG (eN eO eM (ai 0) aN) (aG (ai 1) bS))))).de))))))
theorem Js:bZ ["thing"] ["thing"] (aY yg):=by ac_nf
theorem JZ(G:cD K mg base a):cf (bX P w) P w K mg base "is_view" 5 ["thing"] (bR K (vM a)) :=
 cG (k:=4) (pin:=[]) G.d_is_view Js rfl (fun _ _ _ _ _ _ us hl=>Pu.RX (fun _=>rfl) us hl) (fun f aJ A outer s H E hr=>by exact
  (aU (zB (bT (Ng G) (hr.mono (by decide)) c7 (aG (ai 0) (aG (zV G.v_LETTERS) bS))))))
theorem K7:bZ ["thing"] ["thing"] (aY yJ):=by ac_nf
theorem Jd(G:cD K mg base a):cf (bX P w) P w K mg base "check_view" 6 ["thing"] (bR K (wt a)) :=
 cG (k:=5) (pin:=[]) G.d_check_view K7 rfl (fun _ _ _ _ _ _ us hl=>Pu.RX (fun _=>rfl) us hl) (fun f aJ A outer s H E hr=>by exact
  (aU (ge (ma (oK ((bT (JZ G) (hr.mono (by decide)) c7 (aG (ai 0) bS))).de)) (aU (w8 vq rfl G.o_NoView Bo (nc [97,32,118,105,101,119,32,105,115,32,97,32,116,117,112,108,101,32,111,102,32,97,32,119,105,100,116,104,32,97,110,100,32,97,32,114,105,115,105,110,103,32,116,117,112,108,101,32,111,102,32,49,32,116,111,32,57,32,119,105,110,100,111,119,115]))) f_)))
theorem Fe:bZ ["text","width","left","found","head","letter","window"] ["text","width","left","found"] (aY Ai):=by ac_nf
theorem Io(G:cD K mg base a)(m:Nat):cf (bX P w) P w K mg base "add_endings" (1+m) ["text","width","left","found"] (bR K (nK a m)):=by
 induction m with
 | zero=>exact cG (k:=0) (pin:=[2,3]) G.d_add_endings Fe rfl (fun _ _ _ _ _ _ us hl=>Pu.RA (fun _ _ _ _=>rfl) us hl) (fun f aJ A outer s H E hr=>QU)
 | succ m ih=>exact cG (k:=1+m) (pin:=[2,3]) G.d_add_endings Fe rfl (fun _ _ _ _ _ _ us hl=>Pu.RA (fun _ _ _ _=>rfl) us hl) (fun f aJ A outer s H E hr=>by exact
  (bd (ge (ma (oK (NY 2 rfl G.m_any))) (bd (tF 3 (ai 0))
  (aU J6)) f_)
  (bd (eh 4 Fe.nd (d7 dW d4 (ai 0) (cI (bf cC cB (bf jr ju (cM eD eC G.m_len eB (aD (ai 0) aQ)) (ai 1)) aN)) ij))
  (aU (j6 (iq 5 gH rfl Fe.nd (jW (zV G.v_LETTERS)) (bd (eh 6 Fe.nd (bf cC cB (ai 4) (ai 5)))
  (aU (ge (iI P8 j4 (GK 2 hr.units (ai 6) aN) aN rfl) (bd (r9 2 hr.units (ai 6) (bf jr ju (Ae 2 hr.units (ai 6)) aN))
  (bd (tQ (bT ih (hr.mono (by ac_rfl)) jv (aG (bf cC cB (ai 0) (ai 5)) (aG (ai 1) (ja 2 (ja 3 bS))))))
  (aU (r9 2 hr.units (ai 6) (bf cC cB (Ae 2 hr.units (ai 6)) aN))))) f_)))))))))
theorem Li:bZ ["windows","counts","window"] ["windows"] (aY yu):=by ac_nf
theorem JY(G:cD K mg base a):cf (bX P w) P w K mg base "counted" 1 ["windows"] (bR K (se a)) :=
 cG (k:=0) (pin:=[]) G.d_counted Li rfl (fun _ _ _ _ _ _ us hl=>Pu.RX (fun _=>rfl) us hl) (fun f aJ A outer s H E hr=>by exact
  (bd (j1 1 Li.nd (OD))
  (bd (j6 (iq 2 gH rfl Li.nd (jW (ai 0)) (aU (r9 1 hr.units (ai 2) (bf cC cB (GK 1 hr.units (ai 2) aN) aN)))))
  (aU (oM 1)))))
theorem IP:bZ ["view","width","found","head"] ["view"] (aY vz):=by ac_nf
theorem Qw(G:cD K mg base a):cf (bX P w) P w K mg base "texts" 14 ["view"] (bR K (v9 a)) :=
 cG (k:=13) (pin:=[]) G.d_texts IP rfl (fun _ _ _ _ _ _ us hl=>Pu.RX (fun _=>rfl) us hl) (fun f aJ A outer s H E hr=>by exact
  (bd (tQ (bT (Jd G) (hr.mono (by decide)) c7 (aG (ai 0) bS)))
  (bd (eh 1 IP.nd (eN eO eM (ai 0) aN))
  (bd (j1 2 IP.nd (lJ aQ))
  (bd (j6 (iq 3 gH rfl IP.nd (jW (y_ rfl (aD (mB (cap:=[]) (N':=["window"]) (km.of ["view","width","found","head"] (aY vz) rfl rfl (by decide +kernel)) rfl (jW (eN eO eM (ai 0) aN)) (fun C s₀ H₀ ex pn=>by exact oZ) (fun C s₀ H₀ ex pn=>by exact(d7 dW d4 (ai 0) ij (cI (vQ wM wE aN))))).de aQ) G.m_sorted G.m_set).de) (aU (tQ (QI (Io G 12) (hr.mono (by decide)) jv (EI (ai 3) (EI (ai 1) (Me (((bT (JY G) (hr.mono (by decide)) jv (aG (eN eO eM (ai 0) aN) bS))).dn) (ja 2 bS)))))))))
  (aU (oM 2)))))))
theorem NZ:bZ ["view"] ["view"] (aY Aw):=by ac_nf
theorem IM(G:cD K mg base a):cf (bX P w) P w K mg base "how_many" 15 ["view"] (bR K (oF a)) :=
 cG (k:=14) (pin:=[]) G.d_how_many NZ rfl (fun _ _ _ _ _ _ us hl=>Pu.RX (fun _=>rfl) us hl) (fun f aJ A outer s H E hr=>by exact
  (aU (eK (cM eD eC G.m_len eB (aD ((bT (Qw G) (hr.mono (by decide)) c7 (aG (ai 0) bS))).de aQ)))))
theorem Pr:bZ ["thing","most"] ["thing","most"] (aY AK):=by ac_nf
theorem Mz(G:cD K mg base a):cf (bX P w) P w K mg base "is_text_up_to" 2 ["thing","most"] (bR K (vB a)) :=
 cG (k:=1) (pin:=[]) G.d_is_text_up_to Pr rfl (fun _ _ _ _ _ _ us hl=>Pu.Rv (fun _ _=>rfl) us hl) (fun f aJ A outer s H E hr=>by exact
  (aU (eK (o9 (cM qm qb G.m_isinstance qA (aD (ai 0) (aD (qr G.m_str Fd) aQ))) (o9 (Gu nt nt j4 j4 aN (cM eD eC G.m_len eB (aD (ai 0) aQ)) (ai 1)) (sh ((bT (Dz G) (hr.mono (by decide)) c7 (aG (ai 0) (aG (zV G.v_LETTERS) bS)))).de))))))
theorem Ld:bZ ["thing"] ["thing"] (aY yk):=by ac_nf
theorem Kq(G:cD K mg base a):cf (bX P w) P w K mg base "check_text" 3 ["thing"] (bR K (vV a)) :=
 cG (k:=2) (pin:=[]) G.d_check_text Ld rfl (fun _ _ _ _ _ _ us hl=>Pu.RX (fun _=>rfl) us hl) (fun f aJ A outer s H E hr=>by exact
  (aU (ge (ma (oK ((bT (Mz G) (hr.mono (by decide)) c7 (aG (ai 0) (aG (wG G.v_MOST_LETTERS) bS)))).de)) (aU (w8 vq rfl G.o_NoText Bo (nc [97,32,116,101,120,116,32,104,97,115,32,49,32,116,111,32,49,50,32,108,101,116,116,101,114,115,32,97,44,32,98,44,32,99]))) f_)))
theorem Ij:bZ ["thing"] ["thing"] (aY ym):=by ac_nf
theorem J3(G:cD K mg base a):cf (bX P w) P w K mg base "check_width" 3 ["thing"] (bR K (wT a)) :=
 cG (k:=2) (pin:=[]) G.d_check_width Ij rfl (fun _ _ _ _ _ _ us hl=>Pu.RX (fun _=>rfl) us hl) (fun f aJ A outer s H E hr=>by exact
  (aU (ge (ma (oK ((bT (EL G) (hr.mono (by decide)) c7 (aG (ai 0) bS))).de)) (aU (w8 vq rfl G.o_NoWidth Bo (nc [97,32,119,105,100,116,104,32,105,115,32,97,32,119,104,111,108,101,32,110,117,109,98,101,114,32,102,114,111,109,32,49,32,116,111,32,52]))) f_)))
theorem Nd:bZ ["width","windows"] ["width","windows"] (aY Av):=by ac_nf
theorem MN(G:cD K mg base a):cf (bX P w) P w K mg base "view_of" 1 ["width","windows"] (bR K (wN a)) :=
 cG (k:=0) (pin:=[]) G.d_view_of Nd rfl (fun _ _ _ _ _ _ us hl=>Pu.Rv (fun _ _=>rfl) us hl) (fun f aJ A outer s H E hr=>by exact
  (bd (ge (ma (Dv nt nt j4 j4 aN (cM eD eC G.m_len eB (aD (ai 1) aQ)) (wG G.v_MOST_WINDOWS))) (aU (w8 vq rfl G.o_NoView Bo (nc [97,32,118,105,101,119,32,104,97,115,32,49,32,116,111,32,57,32,119,105,110,100,111,119,115]))) f_)
  (aU (eK (xw (aD (ai 0) (aD (Pk O9 Px G.m_tuple zv (aD (B8 ES El G.m_sorted vo (aD (ai 1) aQ)).de aQ)) aQ)))))))
theorem QO:bZ ["text","length"] ["text","length"] (aY wK):=by ac_nf
theorem Ev(G:cD K mg base a):cf (bX P w) P w K mg base "pieces" 1 ["text","length"] (bR K (qo a)) :=
 cG (k:=0) (pin:=[]) G.d_pieces QO rfl (fun _ _ _ _ _ _ us hl=>Pu.Rv (fun _ _=>rfl) us hl) (fun f aJ A outer s H E hr=>by exact
  (aU (tf (mB (cap:=[0,1]) (N':=["place","text","length"]) (km.of ["text","length"] (aY wK) rfl rfl (by decide +kernel)) rfl (oW G.m_range (aD (bf cC cB (bf jr ju (cM eD eC G.m_len eB (aD (ai 0) aQ)) (ai 1)) aN) aQ)) (fun C s₀ H₀ ex pn=>by exact oZ) (fun C s₀ H₀ ex pn=>by exact(d7 dW d4 (ai 1) (cI (ai 0)) (cI (bf cC cB (ai 0) (ai 2)))))))))
theorem QP:bZ ["text","width"] ["text","width"] (aY yr):=by ac_nf
theorem OT(G:cD K mg base a):cf (bX P w) P w K mg base "text_view" 4 ["text","width"] (bR K (nv a)) :=
 cG (k:=3) (pin:=[]) G.d_text_view QP rfl (fun _ _ _ _ _ _ us hl=>Pu.Rv (fun _ _=>rfl) us hl) (fun f aJ A outer s H E hr=>by exact
  (bd (tQ (bT (Kq G) (hr.mono (by decide)) c7 (aG (ai 0) bS)))
  (bd (tQ (bT (J3 G) (hr.mono (by decide)) c7 (aG (ai 1) bS)))
  (aU (zB (bT (MN G) (hr.mono (by decide)) c7 (aG (ai 1) (aG ((bT (Ev G) (hr.mono (by decide)) c7 (aG (ai 0) (aG (ai 1) bS)))).de bS))))))))
theorem Pi:bZ ["text","row","start","again","found","end","last"] ["text","row","start","again"] (aY y9):=by ac_nf
theorem Ov(G:cD K mg base a):cf (bX P w) P w K mg base "exchanges_from" 1 ["text","row","start","again"] (bR K (sd a)) :=
 cG (k:=0) (pin:=[]) G.d_exchanges_from Pi rfl (fun _ _ _ _ _ _ us hl=>Pu.RA (fun _ _ _ _=>rfl) us hl) (fun f aJ A outer s H E hr=>by exact
  (bd (j1 4 Pi.nd (lJ aQ))
  (bd (j6 (iq 5 gH rfl Pi.nd (qp G.m_range (aD (bf cC cB (ai 2) aN) (aD (bf cC cB (ai 3) aN) aQ))) (aU (iq 6 gH rfl Pi.nd (qp G.m_range (aD (bf cC cB (ai 3) aN) (aD (cM eD eC G.m_len eB (aD (ai 1) aQ)) aQ))) (aU (ge (iI (lg hr.units) lm (eN eO eM (ai 1) (ai 5)) (eN eO eM (ai 1) (ai 6)) rfl) (aU (tF 4 (bf cC cB (bf cC cB (bf cC cB (bf cC cB (d7 dW d4 (ai 0) ij (cI (ai 2))) (d7 dW d4 (ai 0) (cI (ai 3)) (cI (ai 6)))) (d7 dW d4 (ai 0) (cI (ai 5)) (cI (ai 3)))) (d7 dW d4 (ai 0) (cI (ai 2)) (cI (ai 5)))) (d7 dW d4 (ai 0) (cI (ai 6)) ij)))) f_))))))
  (aU (oM 4)))))
theorem ID:bZ ["text","row","found","start","again"] ["text","row"] (aY Ac):=by ac_nf
theorem L_(G:cD K mg base a):cf (bX P w) P w K mg base "exchanges" 2 ["text","row"] (bR K (zp a)) :=
 cG (k:=1) (pin:=[]) G.d_exchanges ID rfl (fun _ _ _ _ _ _ us hl=>Pu.Rv (fun _ _=>rfl) us hl) (fun f aJ A outer s H E hr=>by exact
  (bd (j1 2 ID.nd (lJ aQ))
  (bd (j6 (iq 3 gH rfl ID.nd (oW G.m_range (aD (cM eD eC G.m_len eB (aD (ai 1) aQ)) aQ)) (aU (iq 4 gH rfl ID.nd (qp G.m_range (aD (bf cC cB (ai 3) aN) (aD (cM eD eC G.m_len eB (aD (ai 1) aQ)) aQ))) (aU (ge (iI (lg hr.units) lm (eN eO eM (ai 1) (ai 3)) (eN eO eM (ai 1) (ai 4)) rfl) (aU (wF 2 ((bT (Ov G) (hr.mono (by decide)) jv (aG (ai 0) (aG (ai 1) (aG (ai 3) (aG (ai 4) bS)))))).de)) f_))))))
  (aU (oM 2)))))
theorem Nw:bZ ["ring","width"] ["ring","width"] (aY zU):=by ac_nf
theorem JB(G:cD K mg base a):cf (bX P w) P w K mg base "unrolled" 1 ["ring","width"] (bR K (qP a)) :=
 cG (k:=0) (pin:=[]) G.d_unrolled Nw rfl (fun _ _ _ _ _ _ us hl=>Pu.Rv (fun _ _=>rfl) us hl) (fun f aJ A outer s H E hr=>by exact
  (aU (eK (d7 dW d4 (bf tm sA (ai 0) (ai 1)) ij (cI (bf jr ju (bf cC cB (cM eD eC G.m_len eB (aD (ai 0) aQ)) (ai 1)) aN))))))
theorem OV:bZ ["text","row","width","ring"] ["text","row","width"] (aY wW):=by ac_nf
theorem MV(G:cD K mg base a):cf (bX P w) P w K mg base "turns" 2 ["text","row","width"] (bR K (sm a)) :=
 cG (k:=1) (pin:=[]) G.d_turns OV rfl (fun _ _ _ _ _ _ us hl=>Pu.RU (fun _ _ _=>rfl) us hl) (fun f aJ A outer s H E hr=>by exact
  (bd (ge (iI (vX hr.units) vy (eN eO eM (ai 1) aN) (eN eO eM (ai 1) (vQ wM wE aN)) rfl) (aU (tf (lJ aQ))) f_)
  (bd (eh 3 OV.nd (d7 dW d4 (ai 0) ij (cI (bf jr ju (cM eD eC G.m_len eB (aD (ai 1) aQ)) aN))))
  (aU (tf (mB (cap:=[3,2]) (N':=["place","ring","width"]) (km.of ["text","row","width","ring"] (aY wW) rfl rfl (by decide +kernel)) rfl (qp G.m_range (aD aN (aD (cM eD eC G.m_len eB (aD (ai 3) aQ)) aQ))) (fun C s₀ H₀ ex pn=>by exact oZ) (fun C s₀ H₀ ex pn=>by exact((bT (JB G) (hr.mono (by decide)) jv (aG (bf cC cB (d7 dW d4 (ai 1) (cI (ai 0)) ij) (d7 dW d4 (ai 1) ij (cI (ai 0)))) (aG (ai 2) bS)))).de)))))))
theorem IZ:bZ ["text","width","row"] ["text","width"] (aY Ak):=by ac_nf
theorem JL(G:cD K mg base a):cf (bX P w) P w K mg base "one_step_off" 3 ["text","width"] (bR K (qC a)) :=
 cG (k:=2) (pin:=[]) G.d_one_step_off IZ rfl (fun _ _ _ _ _ _ us hl=>Pu.Rv (fun _ _=>rfl) us hl) (fun f aJ A outer s H E hr=>by exact
  (bd (eh 2 IZ.nd ((bT (Ev G) (hr.mono (by decide)) c7 (aG (ai 0) (aG (bf jr ju (ai 1) aN) bS)))).de)
  (aU (tf (Qt rfl (aD (bf cC cB ((bT (L_ G) (hr.mono (by decide)) c7 (aG (ai 0) (aG (ai 2) bS)))).de ((bT (MV G) (hr.mono (by decide)) c7 (aG (ai 0) (aG (ai 2) (aG (ai 1) bS))))).de) aQ) (aD (mZ (aD (ai 0) aQ)) aQ) G.m_sorted G.m_set)))))
theorem La:bZ ["newest","width","number","far","added","text","other"] ["newest","width","number","far"] (aY Am):=by ac_nf
theorem MG(G:cD K mg base a):cf (bX P w) P w K mg base "spread" 4 ["newest","width","number","far"] (bR K (qc a)) :=
 cG (k:=3) (pin:=[3]) G.d_spread La rfl (fun _ _ _ _ _ _ us hl=>Pu.RA (fun _ _ _ _=>rfl) us hl) (fun f aJ A outer s H E hr=>by exact
  (bd (j1 4 La.nd (lJ aQ))
  (bd (j6 (iq 5 gH rfl La.nd (jW (ai 0)) (aU (iq 6 gH rfl La.nd (jW ((bT (JL G) (hr.mono (by decide)) jv (aG (ai 5) (aG (ai 1) bS)))).de) (aU (ge (Gk 3 hr.units (ai 6)) (bd (r9 3 hr.units (ai 6) (bf cC cB (ai 2) aN))
  (aU (tF 4 (ai 6)))) f_))))))
  (aU (oM 4)))))
theorem Nz:bZ ["text","width","count","far","newest","number"] ["text","width"] (aY AM):=by ac_nf
theorem KA(G:cD K mg base a):cf (bX P w) P w K mg base "farthest" 16 ["text","width"] (bR K (q0 a)) :=
 cG (k:=15) (pin:=[]) G.d_farthest Nz rfl (fun _ _ _ _ _ _ us hl=>Pu.Rv (fun _ _=>rfl) us hl) (fun f aJ A outer s H E hr=>by exact
  (bd (eh 2 Nz.nd ((bT (IM G) (hr.mono (by decide)) c7 (aG ((bT (OT G) (hr.mono (by decide)) c7 (aG (ai 0) (aG (ai 1) bS)))).de bS))).de)
  (bd (j1 3 Nz.nd (Fk 0))
  (bd (eh 4 Nz.nd (mZ (aD (ai 0) aQ)))
  (bd (eh 5 Nz.nd aN)
  (bd (j6 (yR (fun _=>1000) gH (iI zf j4 (HZ 3 G.m_len) (ai 2) rfl) (bd (eh 4 Nz.nd ((bT (MG G) (hr.mono (by decide)) jv (aG (ai 4) (aG (ai 1) (aG (ai 5) (ja 3 bS)))))).de)
  (aU (eh 5 Nz.nd (bf cC cB (ai 5) aN))))))
  (aU (eK (xw (aD (ai 5) (aD (cM (CI rfl) CO G.m_min Ch (aD (ai 4) aQ)) aQ)))))))))))
def d_law(a:Ad):ae->R ax:=aA (cZ 1 (dL bU (aq)))
 (aA (vF 2 3 (aR (aF (o7 a) (gV (dV 0) (gO 1 (gV (dC (.int 2)) (gV (dC (.int 9)) (bM))))))))
 (aA (c0 (dB (d2 (eqT false) (aR (aF (jo a) (gV (dV 0) (gO 1 (gV (dC (.int 4)) (bM)))))) (dC (.int 0)))) (bz 2 (aM aO (dV 2) (bI) (az (d2 ay (dV 3) (dC (.int 1)))))) (dD))
 (aA (cZ 4 (nA (aF (sy a) (gV (dV 2) (gV (dV 3) (bM))))))
 (aA (bz 5 (dL tX (ak (dF (r8 4)) (aq))))
 (cY (d2 (eqT false) (aR (aF (q0 a) (gV (dV 2) (gV (dV 3) (bM))))) (dL i9 (ak (dV 5) (ak (dL lc (ak (dF (o8 4 5)) (aq))) (aq))))))))))
def sD(a:Ad):ae->R Slot:=bo 1 [] (bu 5 (d_law a))
theorem Ni:bZ ["_law_script","_law_town","_law_text_here","_law_width","_law_far","_law_most"] ["_law_script"] (aY qd):=by ac_nf
theorem QS(G:cD K mg base a){f:Addr}{fd:iy}(Fn:oR K "law" "law" qd f fd):kB P w K mg base (bX P w) 17 f fd ["_law_script"] (bR K (sD a)) :=
 Jn (k:=16) (pin:=[]) Fn Ni rfl (fun _ _ _ _ _ _ us hl=>Pu.RX (fun _=>rfl) us hl) (fun f aJ A outer s H E hr=>by exact
  (bd (j1 1 Ni.nd (lJ aQ))
  (bd (PQ 2 3 rfl Ni.nd ((bT (Q5 G) (hr.mono (by decide)) c7 (aG (ai 0) (ja 1 (aG aN (aG aN bS)))))).de)
  (bd (ge (iI (lg hr.units) lm ((bT (tK G) (hr.mono (by decide)) c7 (aG (ai 0) (ja 1 (aG aN bS))))).de aN rfl) (aU (eh 2 Ni.nd (d7 dW d4 (ai 2) ij (cI (bf cC cB (ai 3) aN))))) f_)
  (bd (j1 4 Ni.nd (((bT (QK G) (hr.mono (by decide)) c7 (aG (ai 2) (aG (ai 3) bS)))).dn))
  (bd (eh 5 Ni.nd (cM (Mt rfl) Ou G.m_max Df (aD (MD 4 (km.of ["_law_script","_law_town","_law_text_here","_law_width","_law_far","_law_most"] (aY qd) rfl rfl (by decide +kernel)) rfl hr.units).de aQ)))
  (aU (eK (ww (lg hr.units) lm ((bT (KA G) (hr.mono (by decide)) c7 (aG (ai 2) (aG (ai 3) bS)))).de (xw (aD (ai 5) (aD (cM (CI rfl) CO G.m_min Ch (aD (JK 4 5 (km.of ["_law_script","_law_town","_law_text_here","_law_width","_law_far","_law_most"] (aY qd) rfl rfl (by decide +kernel)) rfl hr.units).de aQ)) aQ))) rfl)))))))))
end
end K20
namespace Mx
open L2 Pu
def ca:Tx:=[97,98,99]
def dA:Nat->List Tx
 | 0=>[[]]
 | k+1=>ca.flatMap fun c=>(dA k).map (c::·)
theorem ol:∀ (k:Nat) (x:Tx),x∈dA k↔x.length=k/\∀ c∈x,c∈ca
 | 0,x=>by
  simp only[dA,f8]
  constructor
  ·rintro rfl; simp
  ·rintro⟨h,_⟩; exact Bp.mp h
 | k+1,x=>by
  simp only[dA,ux,b0]
  constructor
  ·rintro⟨c,hc,y,hy,rfl⟩
   obtain⟨h1,h2⟩:=(ol k y).mp hy
   refine⟨by simp[h1],fun d hd=>?_⟩
   rcases bH.mp hd with rfl | hd
   ·exact hc
   ·exact h2 d hd
  ·rintro⟨h1,h2⟩
   cases x with
   | nil=>cases h1
   | cons c y=>exact⟨c,h2 c (by simp),y,(ol k y).mpr ⟨xP h1,fun d hd=>h2 d (by simp[hd])⟩,rfl⟩
theorem zG:∀ k:Nat,(dA k).length=3 ^ k
 | 0=>rfl
 | k+1=>by
  simp only[dA,ca,kL,List.flatMap_nil,cT,cq,zG k,nS,pK]
  ac_rfl
theorem JS(i j:Nat):dA (i+j)=(dA i).flatMap fun h=>(dA j).map (h++·):=by
 induction i with
 | zero=>simp[dA]
 | succ i ih =>
  rw[show i+1+j=(i+j)+1 by ac_rfl]
  simp only[dA,ih,List.flatMap_assoc,List.map_flatMap,List.flatMap_map,dy,G7,List.cons_append]
theorem AF:∀ k:Nat,(dA k).Pairwise (fun a b=>a<b)
 | 0=>by simp[dA]
 | k+1=>by
  simp only[dA]
  rw[List.pairwise_flatMap]
  refine⟨fun c _=>?_,?_⟩
  ·rw[A7]
   exact(AF k).imp fun h=>List.cons_lt_cons_iff.mpr (.inr ⟨rfl,h⟩)
  ·have:ca.Pairwise (fun a b=>a<b):=by decide
   refine this.imp fun h=>?_
   intro x hx y hy
   obtain⟨x',_,rfl⟩:=b0.mp hx
   obtain⟨y',_,rfl⟩:=b0.mp hy
   exact List.cons_lt_cons_iff.mpr (.inl h)
theorem J7{a b:Tx}(h:a<b):ef a b=true:=by
 simp only[ef,decide_eq_true_eq]
 exact List.le_of_lt h
theorem M7(k:Nat):(dA k).Pairwise (fun a b=>ef a b=true):=(AF k).imp J7
theorem C1(k:Nat):(dA k).Nodup:=(AF k).imp fun h z=>by subst z; exact List.lt_irrefl _ h
def aS(z:Tx)(w:Nat):List Tx:=((bE z.length).filter fun i=>decide (i+w<=z.length)).map fun i=>(z.drop i).take w
theorem FJ(w L:Nat):∀ m:Nat,(bE m).filter (fun i=>decide (i+w<=L))=bE (min m (L+1-w))
 | 0=>by simp
 | m+1=>by
  rw[rq,xT,FJ w L m]
  by_cases h:m+w<=L
  ·rw[show min m (L+1-w)=m by ac_rfl,show min (m+1) (L+1-w)=m+1 by ac_rfl,rq]
   simp[h]
  ·rw[show min (m+1) (L+1-w)=min m (L+1-w) by ac_rfl]
   simp[h]
theorem l0(z:Tx)(w:Nat)(hw:1<=w):aS z w=(bE (z.length+1-w)).map fun i=>(z.drop i).take w:=by
 unfold aS
 rw[FJ,show min z.length (z.length+1-w)=z.length+1-w by ac_rfl]
def nw(w:Nat)(t:Tx):Tx->List Tx
 | []=>[]
 | c::s=>(t.drop (t.length+1-w)++[c])::nw w (t++[c]) s
theorem C5(w:Nat)(hw:1<=w):∀ (s t:Tx),w<=t.length+1->nw w t s=(bE s.length).map fun i=>((t++s).drop (t.length+1-w+i)).take w
 | [],t,_=>by simp[nw]
 | c::s,t,h=>by
  rw[nw,C5 w hw s (t++[c]) (by simp; ac_rfl),dQ,rn,dq,dy]
  congr 1
  ·show _=((t++c::s).drop (t.length+1-w)).take w
   rw[Hx (by ac_rfl),List.take_append]
   have e1:(t.drop (t.length+1-w)).length=w-1:=by rw[je]; ac_rfl
   rw[e1,kH (by rw[e1]; ac_rfl),show w-(w-1)=1 by ac_rfl]
   rfl
  ·refine f6 fun i _=>?_
   simp only[pL]
   rw[cT,xD,show t.length+1+1-w+i=t.length+1-w+Nat.succ i by ac_rfl]
   simp
theorem Cm{w:Nat}(hw:1<=w){h s:Tx}(hh:h.length=w-1):aS (h++s) w=nw w h s:=by
 rw[l0 _ _ hw,C5 w hw s h (by ac_rfl),cT,show h.length+s.length+1-w=s.length by ac_rfl]
 refine f6 fun i _=>?_
 rw[show h.length+1-w+i=i by ac_rfl]
theorem GD{z:Tx}{w:Nat}{x:Tx}(hx:x∈aS z w):x.length=w/\∀ c∈x,c∈z:=by
 simp only[aS,b0,jc,nM,decide_eq_true_eq]at hx
 obtain⟨i,⟨_,h⟩,rfl⟩:=hx
 exact⟨by rw[gE,je]; ac_rfl,fun c hc=>mT (iV hc)⟩
def gR(w:Nat):Nat->Tx->List Tx->List Tx
 | 0,t,_=>[t]
 | r+1,t,q=>ca.flatMap fun c=>if t.drop (t.length+1-w)++[c]∈q then gR w r (t++[c]) (q.erase (t.drop (t.length+1-w)++[c]))else []
theorem Dj(w:Nat):∀ (r:Nat) (t:Tx) (q:List Tx),q.length=r->gR w r t q=((dA r).filter fun s=>(nw w t s).isPerm q).map (t++·)
 | 0,t,q,hq=>by
  have:q=[]:=Bp.mp hq
  subst this
  simp[gR,dA,nw,List.isPerm]
 | r+1,t,q,hq=>by
  simp only[gR,dA,List.filter_flatMap,List.map_flatMap]
  congr 1
  funext c
  rw[xV,dy]
  by_cases h:t.drop (t.length+1-w)++[c]∈q
  ·rw[if_pos h,Dj w r (t++[c]) _ (by rw[Hy h,hq]; rfl)]
   have e:((fun s=>(nw w t s).isPerm q) ∘ fun x=>c::x)=fun s=>(nw w (t++[c]) s).isPerm (q.erase (t.drop (t.length+1-w)++[c])):=by
    funext s
    show(q.contains (t.drop (t.length+1-w)++[c]) && (nw w (t++[c]) s).isPerm (q.erase (t.drop (t.length+1-w)++[c])))=_
    rw[List.contains_iff_mem.mpr h,A4]
   rw[e]
   refine f6 fun s _=>?_
   simp
  ·rw[if_neg h]
   have e:((fun s=>(nw w t s).isPerm q) ∘ fun x=>c::x)=fun _=>false:=by
    funext s
    show(q.contains (t.drop (t.length+1-w)++[c]) && (nw w (t++[c]) s).isPerm (q.erase (t.drop (t.length+1-w)++[c])))=_
    have:q.contains (t.drop (t.length+1-w)++[c])=false:=by
     rw[Bool.eq_false_iff]; intro z; exact h (List.contains_iff_mem.mp z)
    rw[this,Bool.false_and]
   rw[e]
   simp
def kC(w:Nat)(ls:List Tx):List Tx:=(bD (bP (ls.map pM))).flatMap fun h=>gR w ls.length h ls
theorem QC{α β:Type}{l:List α}{f:α->List β}(p:α->Bool)(h:∀ x∈l,p x=false->f x=[]):l.flatMap f=(l.filter p).flatMap f:=by
 induction l with
 | nil=>rfl
 | cons x l ih =>
  rw[kL,ih fun y hy=>h y (by simp[hy]),List.filter_cons]
  cases e:p x with
  | true=>simp
  | false=>rw[h x (by simp) e]; simp
theorem EM{w:Nat}{ls:List Tx}(hw:1<=w)(hn:1<=ls.length)(hl:∀ x∈ls,x.length=w/\∀ c∈x,c∈ca) :
  kC w ls=(dA (w-1+ls.length)).filter fun z=>(aS z w).isPerm ls:=by
 rw[JS,List.filter_flatMap]
 have e1:(fun h=>((dA ls.length).map (h++·)).filter fun z=>(aS z w).isPerm ls)=fun h=>((dA ls.length).filter fun s=>(aS (h++s) w).isPerm ls).map (h++·):=by
  funext h
  rw[xV]; rfl
 rw[e1,QC (fun h=>decide (h∈ls.map pM))]
 ·have e2:(dA (w-1)).filter (fun h=>decide (h∈ls.map pM))=bD (bP (ls.map pM)):=by
   refine t5 ?_ ((M7 (w-1)).filter _)
   refine(Hz ((C1 (w-1)).filter _) (sR _)).mpr fun x=>?_
   rw[jc,decide_eq_true_eq,lx,ol]
   refine⟨fun h=>h.2,fun h=>⟨?_,h⟩⟩
   obtain⟨y,hy,rfl⟩:=b0.mp h
   obtain⟨h1,h2⟩:=hl y hy
   exact⟨by rw[Bf,h1],fun c hc=>h2 c ((List.dropLast_sublist _).mem hc)⟩
  rw[e2]
  unfold kC
  have:∀ l:List Tx,(∀ h∈l,h.length=w-1)->l.flatMap (fun h=>gR w ls.length h ls)=l.flatMap fun h=>((dA ls.length).filter fun s=>(aS (h++s) w).isPerm ls).map (h++·):=by
   intro l
   induction l with
   | nil=>intro _; rfl
   | cons h l ih =>
    intro hh
    rw[kL,kL,ih fun y hy=>hh y (by simp[hy]),Dj w _ h ls rfl]
    have e3:(fun s=>(nw w h s).isPerm ls)=fun s=>(aS (h++s) w).isPerm ls:=by
     funext s; rw[Cm hw (hh h (by simp))]
    rw[e3]
  refine this _ fun h hh=>?_
  have hm:=(lx _ _).mp ((jF _).mem_iff.mp hh)
  obtain⟨y,hy,rfl⟩:=b0.mp hm
  rw[Bf,(hl y hy).1]
 ·intro h hh hp
  have b7:=((ol _ h).mp hh).1
  rw[List.map_eq_nil_iff,List.filter_eq_nil_iff]
  intro s hs hq
  have vd:=((ol _ s).mp hs).1
  rw[Cm hw b7,Bq]at hq
  cases s with
  | nil=>rw[nS]at vd; ac_rfl
  | cons c s =>
   rw[nw,show h.length+1-w=0 by ac_rfl,A5]at hq
   have:h++[c]∈ls:=hq.mem_iff.mp (by simp)
   rw[decide_eq_false_iff_not]at hp
   exact hp (b0.mpr ⟨_,this,by simp⟩)
end Mx
namespace Sh
open L2 Pu Mx
theorem fX{α:Type}{f:List PV->Option α}{ds:ae->R (List PV)}{ε ε1:ae}{xs:List PV}{v:α}(h:ds ε = .ok xs ε1)(hf:f xs=some v):dL f ds ε = .ok v ε1:=by
 unfold dL; rw[h]; show aW (f xs) ε1=_; rw[hf]; rfl
theorem dI{d:ae->R PV}{ds:ae->R (List PV)}{ε ε1 ε2:ae}{x:PV}{xs:List PV}(h:d ε = .ok x ε1)(hs:ds ε1 = .ok xs ε2):ak d ds ε = .ok (x::xs) ε2:=by
 unfold ak; rw[h]; show(ds ε1).bind _=_; rw[hs]; rfl
theorem fQ{ε:ae}:aq ε = .ok [] ε:=rfl
theorem lG(pv:PV)(ε:ae):dC pv ε = .ok pv ε:=rfl
theorem jE{f:PV->PV->Option PV}{da db:ae->R PV}{ε ε1 ε2:ae}{x y z:PV}(h:da ε = .ok x ε1)(h2:db ε1 = .ok y ε2)(hf:f x y=some z):d2 f da db ε = .ok z ε2:=by
 unfold d2; rw[h]; show(db ε1).bind _=_; rw[h2]; show aW (f x y) ε2=_; rw[hf]; rfl
section
theorem IU{ls:List Tx}(h:ls.length<=1000000):oO [.lst (af ls)]=some (.lst (af (bD ls))):=by
 show(fR (af ls)).bind _=_
 rw[nH,jf,if_pos h]
end
section
variable{a:Ad}
abbrev bg(ns:List Int):Slot:=.val (.lst (ns.map .int))
theorem BR(ns:List Int)(k:Int)(h0:0<=k)(h:k<ns.length):∃ v,eT (ns.map PV.int) k=some (.int v):=by
 have hk:k.toNat<ns.length:=by ac_rfl
 refine⟨ns[k.toNat],?_⟩
 rw[yv h0 (by rw[cq]; exact hk)]
 simp
theorem eq_nil(ns:List Int):Pu.eqT false (.lst (ns.map .int)) (.lst [])=some (.bl ns.isEmpty):=by
 cases ns with
 | nil=>rfl
 | cons x xs =>
  have hd:∀ l:List Int,im (l.map .int)=0:=fun l=>by induction l with | nil=>rfl | cons y l ih=>simp[im,iK,ih]
  have:im ((x::xs).map .int)=0:=hd _
  simp only[dq]at this
  simp[Pu.eqT,eA,cy,gP,iK,this]
theorem yD(neg:Bool)(i j:Int):Pu.eqT neg (.int i) (.int j)=some (.bl (neg ^^ decide (i=j))):=by
 show(if oB (V.int i) (V.int j)then some (PV.bl (neg ^^ decide (V.int i=V.int j)))else none)=_
 have:oB (V.int i) (V.int j)=true:=rfl
 rw[if_pos this]
 simp
theorem oV(neg:Bool)(x y:Tx):Pu.eqT neg (.str x) (.str y)=some (.bl (neg ^^ decide (x=y))):=by
 show(if oB (tV x) (tV y)then some (PV.bl (neg ^^ decide (tV x=tV y)))else none)=_
 have:oB (tV x) (tV y)=true:=rfl
 rw[if_pos this]
 have e:(tV x=tV y)=(x=y):=propext ⟨N1,fun h=>by rw[h]⟩
 simp only[e]
theorem Iz(ns:List Int)(k:Int)(h0:0<=k):∃ v,qW a [bg ns,.val (.int k)] = .ok (.val (.int v)) [bg ns,.val (.int k)]:=by
 by_cases h:k<ns.length
 ·obtain⟨v,hv⟩:=BR ns k h0 h
  refine⟨v,?_⟩
  simp![qW,d_law_cell_at,ba,bi,hv,h]
 ·have e:=eq_nil ns
  by_cases hn:ns=[]
  ·subst hn
   refine⟨0,?_⟩
   simp only[ug,List.isEmpty_nil]at e
   have h':¬ k<0:=by ac_rfl
   simp![qW,d_law_cell_at,ba,bi,e,h']
  ·have hpos:0<ns.length:=by cases ns with | nil=>exact absurd rfl hn | cons=>simp
   obtain⟨v,hv⟩:=BR ns (k % ns.length) (Bm _ (by ac_rfl)) (Bl _ (by ac_rfl))
   refine⟨v * 31+k,?_⟩
   have e2:ns.isEmpty=false:=by cases ns with | nil=>exact absurd rfl hn | cons=>rfl
   rw[e2]at e
   have hm:gW (.int k) (.int (ns.length:Int))=some (.int (k % ns.length)):=by simp[gW]; ac_rfl
   have hmul:gU (.int v) (.int 31)=some (.int (v * 31)):=by simp[gU,sT]
   simp![qW,d_law_cell_at,ba,bi,h,e,hm,hv,hmul,ay]
theorem Jm(ns:List Int)(k m:Int)(h0:0<=k)(hm:0<m):∃ v,0<=v/\v<m/\wU a [bg ns,.val (.int k),.val (.int m)] = .ok (.val (.int v)) [bg ns,.val (.int k),.val (.int m)]:=by
 obtain⟨c,hc⟩:=Iz (a:=a) ns k h0
 have d0:0<=(c * 1103515245+7919 * k+12345) % 2147483647:=Bm _ (by decide)
 have d1:(c * 1103515245+7919 * k+12345) % 2147483647<2147483647:=Bl _ (by decide)
 have m1:gU (.int c) (.int 1103515245)=some (.int (c * 1103515245)):=by simp[gU,sT]
 have m2:gU (.int 7919) (.int k)=some (.int (7919 * k)):=by simp[gU,sT]
 have m3:gW (.int (c * 1103515245+7919 * k+12345)) (.int 2147483647)=some (.int ((c * 1103515245+7919 * k+12345) % 2147483647)):=by simp[gW]
 generalize (c * 1103515245+7919 * k+12345) % 2147483647=d at d0 d1 m3
 have m4:sx (.int d) (.int 5)=some (.int (d ^ 5)):=by
  have:d.natAbs<2 ^ 64:=by ac_rfl
  simp[sx,this]
 have m5:gW (.int (d ^ 5)) (.int 2147483647)=some (.int (d ^ 5 % 2147483647)):=by simp[gW]
 generalize d ^ 5 % 2147483647=d5 at m5
 have m6:gW (.int d5) (.int 999983)=some (.int (d5 % 999983)):=by simp[gW]
 generalize d5 % 999983=d6 at m6
 have m7:gW (.int d6) (.int m)=some (.int (d6 % m)):=by simp[gW,hm]
 refine⟨d6 % m,Bm _ (by ac_rfl),Bl _ hm,?_⟩
 simp![wU,d_law_mixed,hc,m1,m2,m3,m4,m5,m6,m7,ay]
theorem tN(ns:List Int)(xs:List PV)(m:Int)(hm:0<m)(hx:xs.length<=1000):∃ v,0<=v/\v<m/\jo a [bg ns,.own (.lst xs),.val (.int m)] = .ok (.val (.int v)) [bg ns,.own (.lst (xs++[.int 0])),.val (.int m)]:=by
 obtain⟨v,v0,v1,hv⟩:=Jm (a:=a) ns ((xs.length:Int)+1) m (by ac_rfl) hm
 refine⟨v,v0,v1,?_⟩
 have uQ:xs.length<be:=by unfold be; ac_rfl
 simp![jo,d_law_draw,ba,uQ,hv]
theorem Cq{α:Type}(ps:List α)(v:Int)(h0:0<=v)(h1:v<ps.length):∃ x∈ps,eT ps v=some x:=by
 have hk:v.toNat<ps.length:=by ac_rfl
 exact⟨ps[v.toNat],List.getElem_mem _,yv h0 hk⟩
theorem zd(ns:List Int)(xs ps:List PV)(hx:xs.length<=1000)(hp:0<ps.length):∃ x∈ps,kq a [bg ns,.own (.lst xs),.val (.lst ps)] = .ok (.val x) [bg ns,.own (.lst (xs++[.int 0])),.val (.lst ps)]:=by
 obtain⟨v,v0,v1,hv⟩:=tN (a:=a) ns xs (ps.length:Nat) (by ac_rfl) hx
 obtain⟨x,hm,kZ⟩:=Cq ps v v0 v1
 refine⟨x,hm,?_⟩
 simp![kq,d_law_pick,ba,bi,hv,kZ]
theorem v8{n:Nat}(h:n<=1000000):gx [.int n]=some (fg 0 n):=by
 show(if(n:Int)<=1000000/\-1000000<=(n:Int)then some (fg 0 (n:Int).toNat)else none)=_
 rw[if_pos ⟨by ac_rfl,by ac_rfl⟩]; simp
theorem jt{x y:Tx}(h:x.length+y.length<=be):ay (.str x) (.str y)=some (.str (x++y)):=by
 show(if(x++y).length<=be then some (PV.str (x++y))else none)=_
 rw[if_pos (by rw[cT]; exact h)]
theorem c9{d1 d2:ae->R ax}{ε ε1:ae}(h:d1 ε = .ok .next ε1):aA d1 d2 ε=d2 ε1:=by unfold aA; rw[h]
theorem o6{i:Nat}{d:ae->R PV}{ε ε1:ae}{x:PV}(h:d ε = .ok x ε1):bz i d ε = .ok .next (ε1.set i (.val x)):=by unfold bz; rw[h]; rfl
theorem CQ{i:Nat}{db:ae->R ax}{I:Nat->ae->Prop}{N:Nat}(step:∀ k ε x,k<N->I k ε->∃ ε',db (ε.set i (.val x)) = .ok .next ε'/\I (k+1) ε'):∀ (xs:List PV) (k:Nat) (ε:ae),k+xs.length<=N->I k ε->∃ ε',dJ i db xs ε = .ok .next ε'/\I (k+xs.length) ε'
 | [],k,ε,_,h=>⟨ε,rfl,h⟩
 | x::xs,k,ε,hk,h=>by
  simp only[dQ]at hk
  obtain⟨ε1,e1,h1⟩:=step k ε x (by ac_rfl) h
  obtain⟨ε2,e2,h2⟩:=CQ step xs (k+1) ε1 (by ac_rfl) h1
  refine⟨ε2,by unfold dJ; rw[e1]; exact e2,?_⟩
  rw[dQ,show k+(xs.length+1)=k+1+xs.length by ac_rfl]; exact h2
theorem wS{i:Nat}{db:ae->R ax}{I:List PV->ae->Prop}(step:∀ (x:PV) (r:List PV) ε,I (x::r) ε->∃ ε',db (ε.set i (.val x)) = .ok .next ε'/\I r ε'):∀ (xs:List PV) (ε:ae),I xs ε->∃ ε',dJ i db xs ε = .ok .next ε'/\I [] ε'
 | [],ε,h=>⟨ε,rfl,h⟩
 | x::xs,ε,h=>by
  obtain⟨ε1,e1,h1⟩:=step x xs ε h
  obtain⟨ε2,e2,h2⟩:=wS step xs ε1 h1
  exact⟨ε2,by unfold dJ; rw[e1]; exact e2,h2⟩
theorem Kx(ns:List Int)(xs:List PV)(low most:Nat)(hlm:low<=most)(hm:most<=100)(hx:xs.length<=500) :
  ∃ (z:Tx) (ys:List PV),low<=z.length/\z.length<=most/\(∀ c∈z,c∈ca)/\ys.length<=xs.length+2+most /\
   nu a [bg ns,.own (.lst xs),.val (.int low),.val (.int most)] = .ok (.val (.str z)) [bg ns,.own (.lst ys),.val (.int low),.val (.int most)]:=by
 obtain⟨f,hf,hp⟩:=zd (a:=a) ns xs [.int 1,.int 2,.int 2,.int 3,.int 3,.int 3] (by ac_rfl) (by decide)
 obtain⟨few,rfl,f0,f1⟩:∃ few:Int,f = .int few/\0<few/\few<=3:=by
  simp only[bH,jM,or_false]at hf
  rcases hf with rfl | rfl | rfl | rfl | rfl | rfl <;> exact⟨_,rfl,by decide,by decide⟩
 obtain⟨m,m0,m1,hd⟩:=tN (a:=a) ns (xs++[.int 0]) ((most:Int)-low+1) (by ac_rfl) (by simp; ac_rfl)
 obtain⟨n,hn⟩:∃ n:Nat,(low:Int)+m=n:=⟨(low+m).toNat,by ac_rfl⟩
 have hr:gx [.int ((low:Int)+m)]=some (fg 0 n):=by
  rw[hn]
  exact v8 (by ac_rfl)
 have b7:(fg 0 n).length=n:=by simp[fg]
 obtain⟨ε',e1,ys,z,s6,rfl,hz,hy,BG⟩:=CQ (i:=6) (db:=bz 5 (d2 ay (dV 5) (d2 bi (dC (.str [97,98,99])) (aR (aF (jo a) (gV (dV 0) (gO 1 (gV (dV 4) (Pu.bM)))))))))
  (I:=fun k ε=>∃ ys z s6,ε=[bg ns,.own (.lst ys),.val (.int low),.val (.int most),.val (.int few),.val (.str z),s6]/\z.length=k/\ys.length<=xs.length+2+k/\∀ c∈z,c∈ca) (N:=n)
  (by
   rintro k ε x hk ⟨ys,z,s6,rfl,hz,hy,BG⟩
   obtain⟨v,v0,v1,hv⟩:=tN (a:=a) ns ys few f0 (by ac_rfl)
   obtain⟨c,hc,hc2⟩:=Cq ca v v0 (by simp[ca]; ac_rfl)
   refine⟨[bg ns,.own (.lst (ys++[.int 0])),.val (.int low),.val (.int most),.val (.int few),.val (.str (z++[c])),.val x],?_,ys++[.int 0],z++[c],.val x,rfl,by simp[hz],by simp; ac_rfl,fun d hd=>?_⟩
   ·have hc3:bi (.str [97,98,99]) (.int v)=some (.str [c]):=by
     show(eT ca v).map _=_
     rw[hc2]; rfl
    have kR:ay (.str z) (.str [c])=some (.str (z++[c])):=jt (by simp[be]; ac_rfl)
    simp![hv,hc3,kR]
   ·simp only[dO,f8]at hd
    rcases hd with hd | rfl
    ·exact BG d hd
    ·exact hc)
  (fg 0 n) 0 [bg ns,.own (.lst (xs++[.int 0]++[.int 0])),.val (.int low),.val (.int most),.val (.int few),.val (.str []),.none] (by ac_rfl) ⟨xs++[.int 0]++[.int 0],[],.none,rfl,rfl,by simp,by simp⟩
 refine⟨z,ys,by ac_rfl,by ac_rfl,BG,by ac_rfl,?_⟩
 have jh:cF (.int most) (.int low)=some (.int ((most:Int)-low)):=rfl
 have ha1:ay (.int ((most:Int)-low)) (.int 1)=some (.int ((most:Int)-low+1)):=rfl
 have ha2:ay (.int low) (.int m)=some (.int ((low:Int)+m)):=rfl
 simp only[gh,List.cons_append,fL]at e1
 simp![nu,d_law_text,hp,jh,ha1,ha2,hd,b8,hr,cu,e1]
theorem lu{cap:List Nat}{dt:ae->R Bool}{de:ae->R PV}{ε:ae}(p:PV->Bool)(f:PV->PV):∀ (xs:List PV),(∀ x∈xs,dr (et cap dt x ε) = .ok (p x) ε/\(p x=true->dr (et cap de x ε) = .ok (f x) ε))->∀ am,j0 cap dt de xs am ε = .ok (am++(xs.filter p).map f) ε
 | [],_,am=>by simp[j0]
 | x::xs,h,am=>by
  have h1:=h x (by simp)
  have ih:=lu p f xs (fun y hy=>h y (by simp[hy]))
  unfold j0
  rw[h1.1]
  simp only[R.bind_ok]
  cases hp:p x with
  | false=>simp only[ih am,List.filter_cons,hp]; simp
  | true=>simp only[h1.2 hp,R.bind_ok,ih (am++[f x]),List.filter_cons,hp]; simp
theorem EX{z:Tx}{i w:Nat}(h:i+w<=z.length):dj z (some (i:Int)) (some ((i:Int)+w))=(z.drop i).take w:=by
 unfold dj
 have e1:HT.sIx z.length 0 (some (i:Int))=i:=by rw[HT.sIx_nat]; ac_rfl
 have e2:HT.sIx z.length z.length (some ((i:Int)+w))=i+w:=by rw[show(i:Int)+w=((i+w:Nat):Int) by ac_rfl,HT.sIx_nat]; ac_rfl
 rw[e1,e2,HA]
theorem Gp{z:Tx}{w:Nat}:∀ x∈aS z w,x.length=w/\∀ c∈x,c∈z:=by
 intro x hx
 simp only[aS,b0,jc,nM,decide_eq_true_eq]at hx
 obtain⟨i,⟨_,h⟩,rfl⟩:=hx
 exact⟨by rw[gE,je]; ac_rfl,fun c hc=>mT (iV hc)⟩
theorem LB{z:Tx}{w m:Nat}(hw:1<=w)(h1:w<=z.length)(h2:z.length<=w+m):1<=(aS z w).length/\(aS z w).length<=m+1:=by
 unfold aS
 rw[cq]
 have:∀ n,((bE n).filter fun i=>decide (i+w<=z.length)).length=min n (z.length+1-w):=by
  intro n
  induction n with
  | zero=>simp
  | succ n ih =>
   rw[rq,xT,cT,ih]
   by_cases h:n+w<=z.length
   ·simp[List.filter,h]; ac_rfl
   ·simp[List.filter,h]; ac_rfl
 rw[this]
 ac_rfl
structure Good(l:Tx)(w:Nat)(ls:List Tx):Prop where
 len:∀ x∈ls,x.length=w
 abc:∀ x∈ls,∀ c∈x,c∈l
 some:1<=ls.length
 few:ls.length<=9
theorem Good.perm{l:Tx}{w:Nat}{ls ms:List Tx}(g:Good l w ls)(p:ms.Perm ls):Good l w ms:=⟨fun x h=>g.len x (p.mem_iff.mp h),fun x h=>g.abc x (p.mem_iff.mp h),by rw[p.length_eq]; exact g.some,by rw[p.length_eq]; exact g.few⟩
theorem ff(ls:List Tx):(af ls).length=ls.length:=by simp[af]
theorem QR{n:Nat}{v:Int}(h0:0<=v)(h1:v<n):kA n v=some v.toNat:=by
 unfold kA; rw[if_pos h0,if_pos h1]
theorem sP(ls ms:List Tx):af ls++af ms=af (ls++ms):=by simp[af]
theorem Gi{α:Type}(xs:List α)(n:Nat):dj xs none (some (n:Int))=xs.take n:=by
 unfold dj
 have e1:HT.sIx xs.length 0 none=0:=rfl
 rw[e1,HT.sIx_nat,A5,Nat.sub_zero]
 by_cases h:n<=xs.length
 ·rw[xX h]
 ·rw[Nat.min_eq_right (by ac_rfl),kH (aL _),kH (by ac_rfl)]
theorem FM{α:Type}(xs:List α)(n:Nat):dj xs (some (n:Int)) none=xs.drop n:=by
 unfold dj
 have e2:HT.sIx xs.length xs.length none=xs.length:=rfl
 rw[e2,HT.sIx_nat]
 by_cases h:n<=xs.length
 ·rw[xX h,kH (by rw[je]; ac_rfl)]
 ·rw[Nat.min_eq_right (by ac_rfl),Br (by ac_rfl),Br (by ac_rfl)]; simp
end
end Sh
namespace Sh
open L2 Pu Mx
section
variable{a:Ad}
theorem ot{t T:String}{b:Bool}{x:PV}(h:t9 x=some t)(e:jd [] (.type t) (.type T)=some b):il [x,.raw (.ty T)]=some (.bl b):=by
 show((t9 x).bind fun t=>(jd [] (.type t) (.type T)).map fun b=>PV.bl b)=_
 rw[h,jf,e]; rfl
theorem Pf:jd [] (.type "int") (.type "int")=some true:=by decide +kernel
theorem JH:jd [] (.type "int") (.type "bool")=some false:=by decide +kernel
theorem B0:jd [] (.type "str") (.type "str")=some true:=by decide +kernel
theorem AE:jd [] (.type "tuple") (.type "tuple")=some true:=by decide +kernel
theorem PZ(bs:List Bool):mv (bs.map .bl)=some bs:=by
 induction bs with
 | nil=>rfl
 | cons b bs ih=>show(mv (bs.map .bl)).map (b::·)=_; rw[ih]; rfl
theorem B3(bs:List Bool):sq [.lst (bs.map .bl)]=some (.bl (bs.all id)):=by
 show(mv (bs.map .bl)).map _=_
 rw[PZ]; rfl
theorem EW(z s:Tx):tR a [.val (.str z),.val (.str s)] = .ok (.val (.bl (z.all s.contains))) [.val (.str z),.val (.str s)]:=by
 have hc:=lu (cap:=[1]) (dt:=dN) (de:=(d2 (qj false) (dV 0) (dV 1))) (ε:=[.val (.str z),.val (.str s)]) (fun _=>true) (fun x=>match x with | .str [c]=>.bl (s.contains c) | _=>.non) (z.map fun c=>.str [c])
  (by
   intro x hx
   obtain⟨c,_,rfl⟩:=b0.mp hx
   refine⟨by simp![et,dY,dr,dN],fun _=>?_⟩
   have gn:qj false (.str [c]) (.str s)=some (.bl (s.contains c)):=by
    rw[← N9]; simp[qj]
   simp![et,dY,dr,gn]) []
 have he:((z.map fun c=>PV.str [c]).filter (fun _=>true)).map (fun x=>match x with | .str [c]=>PV.bl (s.contains c) | _=>.non)=(z.map s.contains).map .bl:=by
  rw[n0.mpr (by simp),dy,dy]; rfl
 rw[fL,he]at hc
 have kX:(z.map s.contains).all id=z.all s.contains:=by rw[List.all_map]; rfl
 generalize z.map s.contains=bs at hc kX
 have ha:=B3 bs
 rw[kX]at ha
 simp![tR,d_has_only,dU,cQ,lZ,hc,ha]
def jD(w:Int)(s z:Tx):Bool:=decide ((z.length:Int)=w) && z.all s.contains
theorem QD(z s:Tx)(w:Int):qg a [.val (.str z),.val (.int w),.val (.str s)] = .ok (.val (.bl (jD w s z))) [.val (.str z),.val (.int w),.val (.str s)]:=by
 have h1:il [.str z,.raw (.ty "str")]=some (.bl true):=ot rfl B0
 have hh:=EW (a:=a) z s
 have hl:ba [.str z]=some (.int (z.length:Nat)):=rfl
 have he:=yD false (z.length:Nat) w
 unfold jD
 by_cases h:((z.length:Nat):Int)=w
 ·simp only[h,decide_true,Bool.xor_true,Bool.not_false]at he
  simp![qg,d_is_window,h1,hl,he,hh,h]
 ·simp only[h,decide_false,Bool.xor_false]at he
  simp![qg,d_is_window,h1,hl,he,h]
theorem KR(ls ms:List Tx):gP (af ls) (af ms)=some (decide (ls=ms)):=by
 induction ls generalizing ms with
 | nil=>cases ms <;> simp[af,gP]
 | cons x ls ih =>
  cases ms with
  | nil=>simp[af,gP]
  | cons y ms =>
   show(cy (.str x) (.str y)).bind (fun a=>(gP (af ls) (af ms)).map fun b=>a && b)=_
   rw[ih]
   have:cy (.str x) (.str y)=some (decide (x=y)):=by
    show some (tS x == tS y)=_
    by_cases h:x=y
    ·subst h; simp
    ·have:tS x≠tS y:=fun z=>h (qy z)
     simp[h,this]
   rw[this]
   simp[uw]
theorem QW(ls:List Tx):im (af ls)=0:=by
 induction ls with
 | nil=>rfl
 | cons x ls ih=>show max (iK (.str x)) (im (af ls))=0; rw[ih]; rfl
theorem Gv(neg:Bool)(ls ms:List Tx):Pu.eqT neg (.lst (af ls)) (.lst (af ms))=some (.bl (neg ^^ decide (ls=ms))):=by
 show(if iK (.lst (af ls))<=8 then(gP (af ls) (af ms)).map (fun k=>PV.bl (neg ^^ k))else none)=_
 rw[if_pos (by show im (af ls)+1<=8; rw[QW]; decide),KR]; rfl
theorem KQ(ls:List Tx)(w:Int)(s:Tx)(h1:1<=ls.length)(h9:ls.length<=9) :
  m8 a [.val (.tup (af ls)),.val (.int w),.val (.str s)] = .ok (.val (.bl (ls.all (jD w s) && decide (ls=bD ls)))) [.val (.tup (af ls)),.val (.int w),.val (.str s)]:=by
 have k1:il [.tup (af ls),.raw (.ty "tuple")]=some (.bl true):=ot rfl AE
 have hl:ba [.tup (af ls)]=some (.int (ls.length:Nat)):=by simp[ba,ff]
 have c1:(1:Int)<=(ls.length:Nat):=by ac_rfl
 have c2:((ls.length:Nat):Int)<=9:=by ac_rfl
 have hc:=lu (cap:=[1,2]) (dt:=dN) (de:=(aR (aF (qg a) (gV (dV 0) (gV (dV 1) (gV (dV 2) (Pu.bM))))))) (ε:=[.val (.tup (af ls)),.val (.int w),.val (.str s)]) (fun _=>true) (fun x=>match x with | .str z=>.bl (jD w s z) | _=>.non) (af ls)
  (by
   intro x hx
   obtain⟨z,_,rfl⟩:=b0.mp hx
   refine⟨by simp![et,dY,dr,dN],fun _=>?_⟩
   have hw:=QD (a:=a) z s w
   simp![et,dY,dr,hw]) []
 have he:((af ls).filter (fun _=>true)).map (fun x=>match x with | .str z=>PV.bl (jD w s z) | _=>.non)=(ls.map (jD w s)).map .bl:=by
  rw[n0.mpr (by simp)]
  unfold af
  rw[dy,dy]; rfl
 rw[fL,he]at hc
 have kX:(ls.map (jD w s)).all id=ls.all (jD w s):=by rw[List.all_map]; rfl
 generalize ls.map (jD w s)=bs at hc kX
 have ha:=B3 bs
 have hZ:ls.length<=1000000:=by ac_rfl
 have rW:=Gv false ls (bD ls)
 cases hb:ls.all (jD w s)with
 | false =>
  rw[kX,hb]at ha
  simp![m8,d_are_windows,k1,hl,c1,c2,dU,cQ,lZ,hc,ha]
 | true =>
  rw[kX,hb]at ha
  simp only[rL]at rW
  simp![m8,d_are_windows,k1,hl,c1,c2,dU,cQ,lZ,hc,ha,xp,oO,nH,hZ,rW]
theorem P7(ls:List Tx)(w:Int)(s:Tx)(h9:ls.length=0\/9<ls.length):m8 a [.val (.tup (af ls)),.val (.int w),.val (.str s)] = .ok (.val (.bl false)) [.val (.tup (af ls)),.val (.int w),.val (.str s)]:=by
 have k1:il [.tup (af ls),.raw (.ty "tuple")]=some (.bl true):=ot rfl AE
 have hl:ba [.tup (af ls)]=some (.int (ls.length:Nat)):=by simp[ba,ff]
 by_cases c1:(1:Int)<=(ls.length:Nat)
 ·have c2:¬ ((ls.length:Nat):Int)<=9:=by ac_rfl
  simp![m8,d_are_windows,k1,hl,c1,c2]
 ·simp![m8,d_are_windows,k1,hl,c1]
theorem KB(i:Int):wb a [.val (.int i)] = .ok (.val (.bl true)) [.val (.int i)]:=by
 have h1:il [.int i,.raw (.ty "int")]=some (.bl true):=ot rfl Pf
 have h2:il [.int i,.raw (.ty "bool")]=some (.bl false):=ot rfl JH
 simp![wb,d_is_whole_number,h1,h2]
theorem FP(i:Int):oC a [.val (.int i)] = .ok (.val (.bl (decide (1<=i/\i<=4)))) [.val (.int i)]:=by
 have h:=KB (a:=a) i
 by_cases c1:1<=i
 ·by_cases c2:i<=4
  ·simp![oC,d_is_width,h,c1,c2]
  ·simp![oC,d_is_width,h,c1,c2]
 ·simp![oC,d_is_width,h,c1]
def sN(s:Tx)(w:Int)(ls:List Tx):Bool:=decide (1<=w/\w<=4) && (decide (1<=ls.length/\ls.length<=9) && (ls.all (jD w s) && decide (ls=bD ls)))
theorem K5(s:Tx)(w:Int)(ls:List Tx):qN a [.val (.tup [.int w,.tup (af ls)]),.val (.str s)] = .ok (.val (.bl (sN s w ls))) [.val (.tup [.int w,.tup (af ls)]),.val (.str s)]:=by
 have k1:il [.tup [.int w,.tup (af ls)],.raw (.ty "tuple")]=some (.bl true):=ot rfl AE
 have hl:ba [.tup [.int w,.tup (af ls)]]=some (.int 2):=rfl
 have e2:=yD true 2 2
 simp only[decide_true,xW,xU]at e2
 have i0:bi (.tup [.int w,.tup (af ls)]) (.int 0)=some (.int w):=rfl
 have i1:bi (.tup [.int w,.tup (af ls)]) (.int 1)=some (.tup (af ls)):=rfl
 have hw:=FP (a:=a) w
 unfold sN
 by_cases c:1<=w/\w<=4
 ·rw[decide_eq_true c]at hw ⊢
  by_cases c2:1<=ls.length/\ls.length<=9
  ·have hh:=KQ (a:=a) ls w s c2.1 c2.2
   rw[decide_eq_true c2]
   simp![qN,d_is_view_with,k1,hl,e2,i0,i1,hw,hh]
  ·have hh:=P7 (a:=a) ls w s (by ac_rfl)
   rw[decide_eq_false c2]
   simp![qN,d_is_view_with,k1,hl,e2,i0,i1,hw,hh]
 ·rw[decide_eq_false c]at hw ⊢
  simp![qN,d_is_view_with,k1,hl,e2,i0,i1,hw]
abbrev vw(w:Int)(ls:List Tx):Bool:=sN ca w ls
theorem MH(w:Int)(ls:List Tx):vM a [.val (.tup [.int w,.tup (af ls)])] = .ok (.val (.bl (vw w ls))) [.val (.tup [.int w,.tup (af ls)])]:=by
 have hv:=K5 (a:=a) ca w ls
 simp only[ca]at hv
 simp![vM,d_is_view,hv]
 rfl
theorem Q2{w:Int}{ls:List Tx}(h:vw w ls=true):wt a [.val (.tup [.int w,.tup (af ls)])] = .ok (.val .non) [.val (.tup [.int w,.tup (af ls)])]:=by
 have hv:=MH (a:=a) w ls
 rw[h]at hv
 simp![wt,d_check_view,hv]
theorem Good.vw{w:Nat}{ls:List Tx}(g:Good ca w ls)(w1:1<=w)(w4:w<=4)(hs:ls.Pairwise (fun a b=>ef a b=true)):vw w ls=true:=by
 have e1:ls.all (jD w ca)=true:=by
  rw[uo]
  intro x hx
  unfold jD
  rw[g.len x hx,decide_eq_true rfl,A4,uo]
  intro c hc
  simpa using g.abc x hx c hc
 have e2:decide (ls=bD ls)=true:=decide_eq_true (Jb hs).symm
 show sN ca w ls=true
 unfold sN
 rw[e1,e2,decide_eq_true (show 1<=(w:Int)/\(w:Int)<=4 by ac_rfl),decide_eq_true (show 1<=ls.length/\ls.length<=9 from⟨g.some,g.few⟩)]
 rfl
end
end Sh
namespace Sh
open L2 Pu Mx
def bV(m:List (Tx×Int))(x:Tx):Option Int:=(m.find? fun p=>decide (p.1=x)).map (·.2)
def ce(m:List (Tx×Int))(x:Tx)(n:Int):List (Tx×Int):=if(m.any fun p=>decide (p.1=x))=true then m.map (fun p=>if p.1=x then(p.1,n)else p)else m++[(x,n)]
def dk(m:List (Tx×Int)):List (aw×PV):=m.map fun p=>(Sum.inr (tS p.1),PV.int p.2)
theorem yw(x y:Tx):((Sum.inr (tS x):aw)=Sum.inr (tS y))=(x=y):=propext ⟨fun h=>qy (Sum.inr.inj h),fun h=>by rw[h]⟩
theorem qu(m:List (Tx×Int))(x:Tx):j7 (dk m) (Sum.inr (tS x))=(bV m x).map .int:=by
 induction m with
 | nil=>rfl
 | cons p m ih =>
  show((List.find? _ ((Sum.inr (tS p.1),PV.int p.2)::dk m)).map (·.2))=_
  unfold bV
  rw[jK,jK]
  simp only[yw]
  by_cases h:p.1=x
  ·simp[h]
  ·simp only[h,decide_false]; exact ih
theorem MT(m:List (Tx×Int))(x:Tx):((dk m).any fun kv=>decide (kv.1=(Sum.inr (tS x):aw)))=m.any fun p=>decide (p.1=x):=by
 unfold dk
 rw[List.any_map]
 congr 1
 funext p
 simp only[pL,yw]
theorem wI(m:List (Tx×Int))(x:Tx)(n:Int):qD (dk m) (Sum.inr (tS x)) (.int n)=dk (ce m x n):=by
 unfold qD ce
 rw[MT]
 split
 ·unfold dk
  rw[dy,dy]
  refine f6 fun p _=>?_
  simp only[pL,yw]
  split <;> rfl
 ·unfold dk; simp
theorem Cj(m:List (Tx×Int)):oP (dk m)=some (m.any fun p=>decide (p.2≠0)):=by
 induction m with
 | nil=>rfl
 | cons p m ih =>
  show(oP (dk m)).map _=_
  rw[ih]; simp
theorem xg{m:List (Tx×Int)}{x:Tx}(h:(m.any fun p=>decide (p.1=x))=false):bV m x=none:=by
 unfold bV
 rw[Option.map_eq_none_iff,Hu]
 intro p hp
 have:=GV.mp h p hp
 simpa using this
theorem OR{m:List (Tx×Int)}{x y:Tx}{n:Int}(h:(m.any fun p=>decide (p.1=x))=false):bV (m++[(x,n)]) y=if y=x then some n else bV m y:=by
 have hn:=xg h
 unfold bV at hn ⊢
 rw[List.find?_append]
 by_cases e:y=x
 ·subst e
  rw[Option.map_eq_none_iff]at hn
  simp[hn]
 ·rw[if_neg e]
  have:¬ x=y:=fun z=>e z.symm
  cases hf:m.find? (fun p=>decide (p.1=y))with
  | none=>simp[this]
  | some p=>simp
theorem NE{m:List (Tx×Int)}{x y:Tx}{n:Int}:bV (m.map fun p=>if p.1=x then(p.1,n)else p) y=(bV m y).map fun z=>if y=x then n else z:=by
 induction m with
 | nil=>rfl
 | cons p m ih =>
  unfold bV at ih ⊢
  rw[dq,jK,jK]
  by_cases h:p.1=x
  ·rw[if_pos h]
   by_cases e:p.1=y
   ·simp[e,show y=x from e.symm.trans h]
   ·simp only[e,decide_false]; exact ih
  ·rw[if_neg h]
   by_cases e:p.1=y
   ·simp[e,show ¬ y=x from fun z=>h (e.trans z)]
   ·simp only[e,decide_false]; exact ih
theorem Ed{m:List (Tx×Int)}{x:Tx}(h:(m.any fun p=>decide (p.1=x))=true):∃ n,bV m x=some n:=by
 unfold bV
 cases hf:m.find? (fun p=>decide (p.1=x))with
 | none =>
  rw[Hu]at hf
  obtain⟨p,hp,hq⟩:=uy.mp h
  exact absurd hq (hf p hp)
 | some p=>exact⟨_,rfl⟩
theorem sQ(m:List (Tx×Int))(x y:Tx)(n:Int):bV (ce m x n) y=if y=x then some n else bV m y:=by
 unfold ce
 by_cases h:(m.any fun p=>decide (p.1=x))=true
 ·rw[if_pos h,NE]
  by_cases e:y=x
  ·subst e
   obtain⟨k,hk⟩:=Ed h
   rw[hk]; simp
  ·simp[e]
 ·rw[if_neg h,OR (Bool.eq_false_iff.mpr h)]
structure m9(m:List (Tx×Int))(q:List Tx):Prop where
 nd:(m.map (·.1)).Nodup
 get:∀ x,(bV m x).getD 0=(q.count x:Nat)
theorem m9.mem{m:List (Tx×Int)}{q:List Tx}(h:m9 m q){p:Tx×Int}(hp:p∈m):bV m p.1=some p.2:=by
 have nd:=h.nd
 clear h
 induction m with
 | nil=>cases hp
 | cons r m ih =>
  unfold bV
  rw[jK]
  rcases bH.mp hp with rfl | hp
  ·simp
  ·rw[dq,iS]at nd
   have:¬ r.1=p.1:=fun z=>nd.1 (b0.mpr ⟨p,hp,z.symm⟩)
   simp only[this,decide_false]
   exact ih hp nd.2
theorem zq{m:List (Tx×Int)}{x:Tx}{n:Int}:(ce m x n).map (·.1)=if(m.any fun p=>decide (p.1=x))=true then m.map (·.1)else m.map (·.1)++[x]:=by
 unfold ce
 split
 ·rw[dy]
  refine f6 fun p _=>?_
  simp only[pL]
  split <;> rfl
 ·simp
theorem v7{m:List (Tx×Int)}{x:Tx}{n:Int}(h:(m.map (·.1)).Nodup):((ce m x n).map (·.1)).Nodup:=by
 rw[zq]
 split
 ·exact h
 ·rename_i hn
  rw[xM]
  refine⟨h,by simp,fun a ha b hb=>?_⟩
  rw[f8]at hb
  subst hb
  rintro rfl
  obtain⟨p,hp,rfl⟩:=b0.mp ha
  exact hn (uy.mpr ⟨p,hp,by simp⟩)
theorem m9.any{m:List (Tx×Int)}{q:List Tx}(h:m9 m q):(m.any fun p=>decide (p.2≠0)) = !q.isEmpty:=by
 cases q with
 | nil =>
  rw[List.isEmpty_nil,xU,GV]
  intro p hp
  have h1:=h.get p.1
  rw[h.mem hp]at h1
  simpa using h1
 | cons x q =>
  rw[List.isEmpty_cons,Bool.not_false,uy]
  have h1:=h.get x
  rw[Bs]at h1
  cases e:m.find? (fun p=>decide (p.1=x))with
  | none=>unfold bV at h1; rw[e]at h1; simp at h1; ac_rfl
  | some p =>
   unfold bV at h1
   rw[e]at h1
   refine⟨p,List.mem_of_find?_eq_some e,?_⟩
   simp at h1
   simp; ac_rfl
theorem m9.dec{m:List (Tx×Int)}{q:List Tx}(h:m9 m q){x:Tx}(hx:x∈q):∃ n,bV m x=some n/\0<n/\m9 (ce m x (n-1)) (q.erase x)/\bV (ce m x (n-1)) x=some (n-1)/\ce (ce m x (n-1)) x (n-1+1)=m:=by
 have h1:=h.get x
 have hc:0<q.count x:=List.count_pos_iff.mpr hx
 cases e:bV m x with
 | none=>rw[e]at h1; simp at h1; ac_rfl
 | some n =>
  rw[e]at h1
  simp only[Option.getD_some]at h1
  refine⟨n,rfl,by ac_rfl,⟨v7 h.nd,fun y=>?_⟩,by rw[sQ,if_pos rfl],?_⟩
  ·rw[sQ]
   by_cases c:y=x
   ·subst c
    rw[if_pos rfl,List.count_erase_self]
    simp only[Option.getD_some]; ac_rfl
   ·rw[if_neg c,List.count_erase_of_ne (fi (fi c))]; exact h.get y
  ·have ha:(m.any fun p=>decide (p.1=x))=true:=by
    cases z:(m.any fun p=>decide (p.1=x))with
    | true=>rfl
    | false=>rw[xg z]at e; cases e
   have hb:((ce m x (n-1)).any fun p=>decide (p.1=x))=true:=by
    unfold ce
    rw[if_pos ha]
    obtain⟨p,hp,hq⟩:=uy.mp ha
    refine uy.mpr ⟨_,b0.mpr ⟨p,hp,rfl⟩,?_⟩
    rw[decide_eq_true_eq]at hq
    rw[if_pos hq]; simpa using hq
   have e1:ce (ce m x (n-1)) x (n-1+1)=(m.map fun p=>if p.1=x then(p.1,n-1)else p).map fun p=>if p.1=x then(p.1,n-1+1)else p:=by
    show(if((ce m x (n-1)).any fun p=>decide (p.1=x))=true then _ else _)=_
    rw[if_pos hb]
    unfold ce
    rw[if_pos ha]
   rw[e1,dy]
   have:∀ p∈m,((fun p:Tx×Int=>if p.1=x then(p.1,n-1+1)else p) ∘ fun p:Tx×Int=>if p.1=x then(p.1,n-1)else p) p=p:=by
    intro p hp
    simp only[pL]
    by_cases c:p.1=x
    ·rw[if_pos c,if_pos c]
     have h2:=h.mem hp
     rw[c,e]at h2
     cases h2
     rw[show p.2-1+1=p.2 by ac_rfl]
    ·rw[if_neg c,if_neg c]
   rw[f6 this,List.map_id'']
   intro p; rfl
theorem m9.zero{m:List (Tx×Int)}{q:List Tx}(h:m9 m q){x:Tx}(hx:x∉q):(bV m x).getD 0=0:=by
 rw[h.get,List.count_eq_zero_of_not_mem hx]; rfl
section
variable{a:Ad}
theorem PJ(ls:List Tx)(hl:ls.length<=100):∃ m,m9 m ls/\m.length<=ls.length/\se a [.val (.tup (af ls))] = .ok (.own (.dK (dk m))) [.val (.tup (af ls))]:=by
 obtain⟨ε',e1,m,s2,l,rfl,hm,rX,jR⟩:=wS (i:=2) (db:=(iO 1 (dV 2) (d2 ay (mD 1 (dV 2) (dC (.int 0))) (dC (.int 1)))))
  (I:=fun r ε=>∃ (m:List (Tx×Int)) (s2:Slot) (l:List Tx),ε=[.val (.tup (af ls)),.own (.dK (dk m)),s2]/\m9 m l/\m.length<=l.length/\∃ q,ls=l++q/\r=af q)
  (by
   rintro x r ε ⟨m,s2,l,rfl,hm,rX,q,hq,hr⟩
   cases q with
   | nil=>cases hr
   | cons y q =>
    have kj:x::r = .str y::af q:=hr
    simp only[uw]at kj
    obtain⟨rfl,rfl⟩:=kj
    have b7:m.length<be:=by
     have:=congrArg pt hq
     simp at this
     unfold be; ac_rfl
    refine⟨[.val (.tup (af ls)),.own (.dK (dk (ce m y ((bV m y).getD 0+1)))),.val (.str y)],?_,ce m y ((bV m y).getD 0+1),_,l++[y],rfl,⟨v7 hm.nd,fun z=>?_⟩,?_,q,by rw[hq]; simp,rfl⟩
    ·have hv:=qu m y
     have hp:=wI m y ((bV m y).getD 0+1)
     have hd:(dk m).length<be:=by unfold dk; rw[cq]; exact b7
     have hg:((bV m y).map PV.int).getD (.int 0) = .int ((bV m y).getD 0):=by cases bV m y <;> rfl
     generalize dk m=D at hv hp hd
     simp![iO,mD,cP,jw,hv,hg,ay,hd,hp]
    ·rw[sQ]
     by_cases c:z=y
     ·subst c
      rw[if_pos rfl,List.count_append,List.count_singleton_self]
      have:=hm.get z
      simp only[Option.getD_some]; ac_rfl
     ·rw[if_neg c,List.count_append,hm.get z]
      have:[y].count z=0:=List.count_eq_zero_of_not_mem (by simpa using c)
      rw[this]; rfl
    ·have:(ce m y ((bV m y).getD 0+1)).length<=m.length+1:=by
      unfold ce; split <;> simp
     rw[cT,xD]; ac_rfl)
  (af ls) [.val (.tup (af ls)),.own (.dK (dk [])),.none] ⟨[],.none,[],rfl,⟨by simp,fun x=>by simp[bV]⟩,by simp,ls,by simp,rfl⟩
 obtain⟨q,hq,u9⟩:=jR
 have:q=[]:=by cases q with | nil=>rfl | cons=>cases u9
 subst this
 rw[iz]at hq
 subst hq
 refine⟨m,hm,rX,?_⟩
 have e0:dk []=[]:=rfl
 rw[e0]at e1
 simp![se,d_counted,yB,b8,cQ,lZ,cu,e1,gA]
end
end Sh
namespace Sh
open L2 Pu Mx
section
variable{a:Ad}
theorem OG{t:Tx}{w:Nat}(hw:w<=t.length+1)(h1:1<=w):aO (.str t) (some ((t.length:Int)-w+1)) none=some (.str (t.drop (t.length+1-w))):=by
 show some (PV.str (dj t _ none))=_
 rw[show((t.length:Int)-w+1)=((t.length+1-w:Nat):Int) by ac_rfl,FM]
def oq(c:Nat):PV:=.str [c]
theorem GH(w:Nat)(w1:1<=w):∀ (r bw:Nat) (t:Tx) (m:List (Tx×Int)) (q:List Tx) (cV:List Tx),r<bw->q.length=r->m9 m q->w<=t.length+1->t.length+r<=1000->m.length<=1000->cV.length+(gR w r t q).length<=be ->
  nK a bw [.val (.str t),.val (.int w),.own (.dK (dk m)),.own (.lst (af cV))] = .ok (.val .non) [.val (.str t),.val (.int w),.own (.dK (dk m)),.own (.lst (af (cV++gR w r t q)))]
 | 0,0,_,_,_,_,h,_,_,_,_,_,_=>absurd h (by ac_rfl)
 | r+1,0,_,_,_,_,h,_,_,_,_,_,_=>absurd h (by ac_rfl)
 | 0,bw+1,t,m,q,cV,_,hq,hm,hw,ht,rX,hs=>by
  have hq0:q=[]:=Bp.mp hq
  subst hq0
  have ha:=Cj m
  rw[hm.any]at ha
  simp only[List.isEmpty_nil,xU]at ha
  have hl:(af cV).length<be:=by
   rw[ff]
   simp only[gR,xD]at hs; ac_rfl
  have e:af (cV++gR w 0 t [])=af cV++[.str t]:=by simp[af,gR]
  rw[e]
  generalize dk m=D at ha
  generalize af cV=L at hl
  simp![nK,d_add_endings,tE,cP,ha,hl]
 | r+1,bw+1,t,m,q,cV,hf,hq,hm,hw,ht,rX,hs=>by
  have b9:q.isEmpty=false:=by cases q with | nil=>cases hq | cons=>rfl
  have ha:=Cj m
  rw[hm.any,b9]at ha
  simp only[Bool.not_false]at ha
  have hcut:=OG (t:=t) hw w1
  have aX:ba [.str t]=some (.int (t.length:Nat)):=rfl
  have jh:cF (.int (t.length:Nat)) (.int w)=some (.int ((t.length:Int)-w)):=rfl
  have kR:ay (.int ((t.length:Int)-w)) (.int 1)=some (.int ((t.length:Int)-w+1)):=rfl
  let H:=t.drop (t.length+1-w)
  let f:=fun c=>if H++[c]∈q then gR w r (t++[c]) (q.erase (H++[c]))else []
  have hE:gR w (r+1) t q=ca.flatMap f:=rfl
  have hH:H.length<=1000:=by simp only[H,je]; ac_rfl
  obtain⟨ε',e1,s5,s6,p,rest,hp,hr0,rfl⟩:=wS (i:=5) (db:=(aA (bz 6 (d2 ay (dV 4) (dV 5)))
 (c0 (dB (d2 (gX fun i j=>decide (j<i)) (mD 2 (dV 6) (dC (.int 0))) (dC (.int 0)))) (aA (iO 2 (dV 6) (d2 cF (kn 2 (dV 6)) (dC (.int 1))))
 (aA (nI (aF (nK a bw) (gV (d2 ay (dV 0) (dV 5)) (gV (dV 1) (gO 2 (gO 3 (Pu.bM)))))))
 (iO 2 (dV 6) (d2 ay (kn 2 (dV 6)) (dC (.int 1)))))) (dD))))
   (I:=fun r' ε=>∃ (s5 s6:Slot) (p rest:Tx),ca=p++rest/\r'=rest.map oq/\ε=[.val (.str t),.val (.int w),.own (.dK (dk m)),.own (.lst (af (cV++p.flatMap f))),.val (.str H),s5,s6])
   (by
    rintro x r' ε ⟨s5,s6,p,rest,hp,kj,rfl⟩
    cases rest with
    | nil=>cases kj
    | cons c rest =>
     have HK:x::r'=oq c::rest.map oq:=kj
     simp only[uw]at HK
     obtain⟨rfl,rfl⟩:=HK
     have mW:ay (.str H) (.str [c])=some (.str (H++[c])):=jt (by simp[be]; ac_rfl)
     have kZ:ay (.str t) (.str [c])=some (.str (t++[c])):=jt (by simp[be]; ac_rfl)
     have Re:cV.length+(p.flatMap f).length+(f c).length<=be:=by
      rw[hE,hp,List.flatMap_append,kL,cT,cT]at hs; ac_rfl
     have hfl:af (cV++(p++[c]).flatMap f)=af ((cV++p.flatMap f)++f c):=by simp
     by_cases hc:H++[c]∈q
     ·obtain⟨n,g1,g2,g3,g4,g5⟩:=hm.dec hc
      have hfc:f c=gR w r (t++[c]) (q.erase (H++[c])):=if_pos hc
      have ih:=GH w w1 r bw (t++[c]) (ce m (H++[c]) (n-1)) (q.erase (H++[c])) (cV++p.flatMap f) (by ac_rfl) (by rw[Hy hc,hq]; rfl) g3 (by simp; ac_rfl) (by simp; ac_rfl)
       (by
        have:(ce m (H++[c]) (n-1)).length=m.length:=by
         have:=congrArg pt (zq (m:=m) (x:=H++[c]) (n:=n-1))
         have ha:(m.any fun p=>decide (p.1=H++[c]))=true:=by
          cases z:(m.any fun p=>decide (p.1=H++[c]))with
          | true=>rfl
          | false=>rw[xg z]at g1; cases g1
         rw[if_pos ha]at this
         simpa using this
        ac_rfl)
       (by rw[← hfc,cT]; exact Re)
      rw[← hfc]at ih
      have p9:=qu m (H++[c])
      rw[g1]at p9
      have eY:=wI m (H++[c]) (n-1)
      have hv2:=qu (ce m (H++[c]) (n-1)) (H++[c])
      rw[g4]at hv2
      have dS:=wI (ce m (H++[c]) (n-1)) (H++[c]) (n-1+1)
      rw[g5,show n-1+1=n by ac_rfl]at dS
      have hd1:(dk m).length<be:=by unfold dk; rw[cq]; unfold be; ac_rfl
      have uK:(dk (ce m (H++[c]) (n-1))).length<be:=by
       unfold dk
       rw[cq]
       have:(ce m (H++[c]) (n-1)).length<=m.length+1:=by unfold ce; split <;> simp
       unfold be; ac_rfl
      have gt:(0:Int)<n:=g2
      refine⟨[.val (.str t),.val (.int w),.own (.dK (dk m)),.own (.lst (af (cV++(p++[c]).flatMap f))),.val (.str H),.val (.str [c]),.val (.str (H++[c]))],?_,_,_,p++[c],rest,by rw[hp]; simp,rfl,rfl⟩
      rw[hfl]
      have s1:cF (.int n) (.int 1)=some (.int (n-1)):=rfl
      have s2:ay (.int (n-1)) (.int 1)=some (.int n):=by
       show some (PV.int (n-1+1))=_
       congr 2; ac_rfl
      simp only[pE]at p9 hv2
      generalize dk m=D at p9 eY dS hd1
      generalize dk (ce m (H++[c]) (n-1))=D2 at hv2 eY dS ih uK
      generalize af (cV++p.flatMap f)=L at ih
      generalize af ((cV++p.flatMap f)++f c)=L2 at ih
      clear_value H f
      simp![oq,mW,mD,kn,iO,cP,jw,p9,gt,s1,hd1,eY,kZ,ih,hv2,s2,uK,dS]
     ·have hfc:f c=[]:=if_neg hc
      have hz:=hm.zero hc
      have p9:=qu m (H++[c])
      have hg:((bV m (H++[c])).map PV.int).getD (.int 0) = .int 0:=by
       cases e:bV m (H++[c])with
       | none=>rfl
       | some k=>rw[e]at hz; simp at hz; subst hz; rfl
      refine⟨[.val (.str t),.val (.int w),.own (.dK (dk m)),.own (.lst (af (cV++(p++[c]).flatMap f))),.val (.str H),.val (.str [c]),.val (.str (H++[c]))],?_,_,_,p++[c],rest,by rw[hp]; simp,rfl,rfl⟩
      rw[hfl,hfc,iz]
      generalize dk m=D at p9
      generalize af (cV++p.flatMap f)=L
      clear_value H f
      simp![oq,mW,mD,cP,jw,p9,hg])
   (ca.map oq) [.val (.str t),.val (.int w),.own (.dK (dk m)),.own (.lst (af (cV++([]:Tx).flatMap f))),.val (.str H),.none,.none] ⟨.none,.none,[],ca,by simp,rfl,rfl⟩
  have jT:rest=[]:=by cases rest with | nil=>rfl | cons=>cases hr0
  subst jT
  rw[iz]at hp
  rw[hE]
  rw[← hp]at e1
  simp only[List.flatMap_nil,iz]at e1
  have hits:lZ (.str [97,98,99])=some (ca.map oq):=rfl
  have Rn:aO (.str t) (some ((t.length:Int)-w+1)) none=some (.str H):=hcut
  generalize dk m=D at ha e1
  generalize af cV=L at e1
  generalize af (cV++ca.flatMap f)=L2 at e1
  clear_value H f
  simp![nK,d_add_endings,tE,cP,ha,aM,az,bI,aX,jh,kR,Rn,cu,b8,cQ,hits,e1]
end
end Sh
namespace Sh
open L2 Pu Mx
section
variable{a:Ad}
abbrev gw(w:Nat)(ls:List Tx):PV:=.tup [.int w,.tup (af ls)]
theorem OI{α:Type}(xs:List α):dj xs none (some (-1))=xs.dropLast:=by
 unfold dj
 rw[show HT.sIx xs.length 0 none=0 from rfl,A5,Nat.sub_zero,List.dropLast_eq_take]
 congr 1
 show(HT.sIx xs.length xs.length (some (-1)))=_
 show(if(-1:Int)<0 then((-1:Int)+(xs.length:Int)).toNat else min (-1:Int).toNat xs.length)=_
 rw[if_pos (by decide)]
 ac_rfl
theorem Le{w:Nat}{ls:List Tx}(g:Good ca w ls)(w1:1<=w)(w4:w<=4):(kC w ls).length<=531441:=by
 rw[EM w1 g.some fun x hx=>⟨g.len x hx,g.abc x hx⟩]
 refine cp (rK _ _) ?_
 rw[zG]
 exact cp (Nat.pow_le_pow_right (by decide) (show w-1+ls.length<=12 by have:=g.few; ac_rfl)) (by decide)
theorem KN(V:PV)(ls:List Tx)(w:Nat)(s2 s3:Slot):j0 [] dN (aM aO (dV 0) bI (az (d1 gM (dC (.int 1))))) (af ls) [] [.val V,.val (.int w),s2,s3] = .ok (af (ls.map pM)) [.val V,.val (.int w),s2,s3]:=by
 have hc:=lu (cap:=[]) (dt:=dN) (de:=(aM aO (dV 0) bI (az (d1 gM (dC (.int 1)))))) (ε:=[.val V,.val (.int w),s2,s3]) (fun _=>true) (fun x=>match x with | .str z=>.str z.dropLast | _=>.non) (af ls)
  (by
   intro x hx
   obtain⟨z,_,rfl⟩:=b0.mp hx
   refine⟨by simp![et,dY,dr,dN],fun _=>?_⟩
   have hs:aO (.str z) none (some (-1))=some (.str z.dropLast):=by
    show some (PV.str (dj z none (some (-1))))=_
    rw[OI]
   have hn:gM (.int 1)=some (.int (-1)):=rfl
   simp![et,dY,dr,aM,bI,az,hn,hs]) []
 rw[hc,fL,n0.mpr (by simp)]
 unfold af
 rw[dy,dy]; rfl
theorem Nn{w:Nat}{ls:List Tx}(g:Good ca w ls)(w1:1<=w)(w4:w<=4)(hs:ls.Pairwise (fun a b=>ef a b=true)) :
  v9 a [.val (gw w ls)] = .ok (.own (.lst (af (kC w ls)))) [.val (gw w ls)]:=by
 have hck:=Q2 (a:=a) (g.vw w1 w4 hs)
 have i0:bi (gw w ls) (.int 0)=some (.int w):=rfl
 have i1:bi (gw w ls) (.int 1)=some (.tup (af ls)):=rfl
 obtain⟨m,hm,hml0,ve⟩:=PJ (a:=a) ls (by have:=g.few; ac_rfl)
 have rX:m.length<=1000:=by have:=g.few; ac_rfl
 let hd:=bD (bP (ls.map pM))
 have hdl:∀ h∈hd,h.length=w-1:=fun h hh=>by
  have hm:=(lx _ _).mp ((jF _).mem_iff.mp hh)
  obtain⟨y,hy,rfl⟩:=b0.mp hm
  rw[Bf,g.len y hy]
 let f:=fun h=>gR w ls.length h ls
 have hT:kC w ls=hd.flatMap f:=rfl
 have hTl:=Le g w1 w4
 obtain⟨ε',e1,s3,p,rest,hp,hr0,rfl⟩:=wS (i:=3) (db:=(nI (ti (nK a 12) (qZ (dV 3) (qZ (dV 1) (gN (nA (aF (se a) (gV (d2 bi (dV 0) (dC (.int 1))) (Pu.bM)))) (gO 2 (Pu.bM))))))))
  (I:=fun r ε=>∃ (s3:Slot) (p rest:List Tx),hd=p++rest/\r=af rest/\ε=[.val (gw w ls),.val (.int w),.own (.lst (af (p.flatMap f))),s3])
  (by
   rintro x r ε ⟨s3,p,rest,hp,hr,rfl⟩
   cases rest with
   | nil=>cases hr
   | cons h rest =>
    have kj:x::r = .str h::af rest:=hr
    simp only[uw]at kj
    obtain⟨rfl,rfl⟩:=kj
    have hh:h.length=w-1:=hdl h (by rw[hp]; simp)
    have ha:=GH (a:=a) w w1 ls.length 12 h m ls (p.flatMap f) (by have:=g.few; ac_rfl) rfl hm (by ac_rfl) (by have:=g.few; ac_rfl) rX (by
     rw[hT,hp,List.flatMap_append,kL,cT,cT]at hTl
     show(p.flatMap f).length+(f h).length<=be
     unfold be; ac_rfl)
    refine⟨[.val (gw w ls),.val (.int w),.own (.lst (af ((p++[h]).flatMap f))),.val (.str h)],?_,_,p++[h],rest,by rw[hp]; simp,rfl,rfl⟩
    have e2:(p++[h]).flatMap f=p.flatMap f++gR w ls.length h ls:=by simp[f]
    rw[e2]
    generalize af (p.flatMap f)=L at ha
    generalize af (p.flatMap f++gR w ls.length h ls)=L2 at ha
    generalize dk m=D at ha ve
    simp only[gw]at i1 ⊢
    generalize af ls=T at ve i1
    clear_value f hd
    simp![ti,qZ,gN,FD,i1,ve,ha])
  (af hd) [.val (gw w ls),.val (.int w),.own (.lst (af (([]:List Tx).flatMap f))),.none] ⟨.none,[],hd,by simp,rfl,rfl⟩
 have jT:rest=[]:=by cases rest with | nil=>rfl | cons=>cases hr0
 subst jT
 rw[iz]at hp
 rw[← hp,← hT]at e1
 simp only[List.flatMap_nil]at e1
 have hco:=KN (gw w ls) ls w (.own (.lst [])) .none
 have mY:ku [.lst (af (ls.map pM))]=some (.lst (af hd)):=by
  show(fR (af _)).bind _=_
  have h2:=g.few
  rw[nH,jf,if_pos (uh (wR _) (by rw[cq]; ac_rfl))]
 have e0:af ([]:List Tx)=[]:=rfl
 rw[e0]at e1
 generalize af (kC w ls)=L at e1
 generalize af hd=D at e1 mY
 generalize af (ls.map pM)=D0 at hco mY
 simp only[gw]at hck i0 i1 hco e1 ⊢
 generalize hTT:af ls=T at hck i0 i1 hco e1
 clear_value f hd
 simp![v9,d_texts,hck,i0,i1,cu,b8,cQ,lZ,dU,hco,mY,e1,gA]
theorem OA{w:Nat}{ls:List Tx}(g:Good ca w ls)(w1:1<=w)(w4:w<=4)(hs:ls.Pairwise (fun a b=>ef a b=true)):oF a [.val (gw w ls)] = .ok (.val (.int ((kC w ls).length:Nat))) [.val (gw w ls)]:=by
 have ht:=Nn (a:=a) g w1 w4 hs
 have hl:ba [.lst (af (kC w ls))]=some (.int ((kC w ls).length:Nat)):=by simp[ba,ff]
 generalize af (kC w ls)=L at ht hl
 simp![oF,d_how_many,ht,hl]
end
end Sh
namespace Mx
open L2 Pu
def aC(z:Tx)(i:Nat):Nat:=z.getD (i % z.length) 0
def om(z:Tx)(w i:Nat):Tx:=(bE w).map fun k=>aC z (i+k)
def cw(z:Tx)(w:Nat):List Tx:=(bE z.length).map (om z w)
def fG(z:Tx)(w:Nat):Tx:=((bj w z).flatten).take (z.length+w-1)
theorem vO{z:Tx}{i:Nat}(h:i<z.length):z[i]?=some (aC z i):=by
 unfold aC
 rw[nY h]
 simp[ro,h]
theorem Es(z:Tx)(i:Nat):aC z (z.length+i)=aC z i:=by unfold aC; rw[Nat.add_mod_left]
theorem ER(z:Tx):∀ (w i:Nat),i<w * z.length->(bj w z).flatten[i]?=some (aC z i)
 | 0,i,h=>by ac_rfl
 | w+1,i,h=>by
  rw[AW,G3]
  by_cases c:i<z.length
  ·rw[fJ c,vO c]
  ·rw[jJ (by ac_rfl),ER z w (i-z.length) (by rw[Nat.succ_mul]at h; ac_rfl)]
   congr 1
   have:=Es z (i-z.length)
   rw[show z.length+(i-z.length)=i by ac_rfl]at this
   exact this.symm
theorem EE(z:Tx)(w:Nat):(bj w z).flatten.length=w * z.length:=by simp
theorem vx{z:Tx}{w:Nat}(hn:1<=z.length)(hw:1<=w):(fG z w).length=z.length+w-1:=by
 unfold fG
 rw[gE,EE]
 obtain⟨n,hn'⟩:∃ n,z.length=n+1:=⟨z.length-1,by ac_rfl⟩
 obtain⟨v,rfl⟩:∃ v,w=v+1:=⟨w-1,by ac_rfl⟩
 rw[hn',Nat.add_mul,Nat.mul_add]
 have:=j9 (v * n)
 ac_rfl
theorem oD{z:Tx}{w:Nat}(hn:1<=z.length)(hw:1<=w){i:Nat}(h:i<z.length+w-1):(fG z w)[i]?=some (aC z i):=by
 have hl:=vx hn hw
 unfold fG at hl ⊢
 rw[gE,EE]at hl
 rw[xA h,ER z w i (by ac_rfl)]
theorem FU{z:Tx}{w:Nat}(hn:1<=z.length)(hw:1<=w):aS (fG z w) w=cw z w:=by
 rw[l0 _ _ hw,vx hn hw,show z.length+w-1+1-w=z.length by ac_rfl]
 refine f6 fun i hi=>?_
 have hi:i<z.length:=by simpa using hi
 refine jN fun k=>?_
 unfold om
 by_cases hk:k<w
 ·rw[xA hk,jO,oD hn hw (by ac_rfl),iA,A0 hk]; rfl
 ·rw[iB (by rw[gE]; ac_rfl),iB (by simp; ac_rfl)]
theorem Qa{z:Tx}{w:Nat}(hn:1<=z.length)(hw:1<=w):(fG z w).take z.length=z:=by
 refine jN fun k=>?_
 by_cases hk:k<z.length
 ·rw[xA hk,oD hn hw (by ac_rfl),vO hk]
 ·rw[iB (by rw[gE]; ac_rfl),iB (by ac_rfl)]
def fY(i:Nat)(z:Tx):Tx:=z.drop i++z.take i
theorem mo{i:Nat}{z:Tx}(h:i<=z.length):(fY i z).length=z.length:=by unfold fY; rw[cT,je,gE]; ac_rfl
theorem sF{z:Tx}{i:Nat}(h:i<=z.length)(hn:1<=z.length)(j:Nat):aC (fY i z) j=aC z (i+j):=by
 unfold aC
 rw[mo h]
 have hj:j % z.length<z.length:=pD _ (by ac_rfl)
 rw[rH i j]
 generalize j % z.length=m at hj
 by_cases hi:i=z.length
 ·subst hi
  unfold fY
  rw[List.drop_length,fL,pH,Nat.mod_self,nX,nY hj]
 ·rw[nY (show i<z.length by ac_rfl)]
  unfold fY
  rw[rG,rG]
  congr 1
  by_cases c:i+m<z.length
  ·rw[nY c,fJ (by rw[je]; ac_rfl),jO]
  ·have e:(i+m) % z.length=i+m-z.length:=by
    rw[Nat.mod_eq_sub_mod (by ac_rfl),nY (by ac_rfl)]
   rw[e,jJ (by rw[je]; ac_rfl),je,xA (by ac_rfl)]
   congr 1; ac_rfl
theorem Jp{x y:Tx}(h:x.length=y.length)(hn:1<=x.length)(ha:∀ k,k<x.length->aC x k=aC y k):x=y:=by
 refine jN fun k=>?_
 by_cases hk:k<x.length
 ·rw[vO hk,vO (by ac_rfl),ha k hk]
 ·rw[iB (by ac_rfl),iB (by ac_rfl)]
theorem Pg{z:Tx}{i j:Nat}(hn:1<=z.length)(hi:i<z.length)(hj:j<z.length):fY j (fY i z)=fY ((i+j) % z.length) z:=by
 have hm:(i+j) % z.length<z.length:=pD _ (by ac_rfl)
 have h1:(fY i z).length=z.length:=mo (by ac_rfl)
 refine Jp ?_ ?_ fun k hk=>?_
 ·rw[mo (by ac_rfl),h1,mo (by ac_rfl)]
 ·rw[mo (by ac_rfl),h1]; exact hn
 ·rw[sF (by ac_rfl) (by ac_rfl),sF (by ac_rfl) hn,sF (by ac_rfl) hn]
  unfold aC
  congr 1
  rw[← ur,rH ((i+j) % z.length) k,Nat.mod_mod,← rH]
theorem Md(z:Tx):fY 0 z=z:=by simp[fY]
theorem CK:∀ {l:List Tx} {y:Tx},y∈l->¬ y<dw l:=by
 have gen:∀ (r:List Tx) (x y:Tx),y∈x::r->¬ y<r.foldl (fun b y=>if y<b then y else b) x:=by
  intro r
  induction r with
  | nil=>intro x y h; rw[f8]at h; subst h; exact List.lt_irrefl _
  | cons z r ih =>
   intro x y h
   rw[iT]
   rcases bH.mp h with rfl | h
   ·by_cases c:z<y
    ·rw[if_pos c]
     have:=ih z z (by simp)
     intro q
     exact this (List.lt_trans c q)
    ·rw[if_neg c]; exact ih y y (by simp)
   ·rcases bH.mp h with rfl | h
    ·by_cases c:y<x
     ·rw[if_pos c]; exact ih y y (by simp)
     ·rw[if_neg c]
      intro q
      have h1:=ih x x (by simp)
      have:x<=y:=c
      exact h1 (List.lt_of_le_of_lt this q)
    ·exact ih _ y (by simp[h])
 intro l y h
 cases l with
 | nil=>cases h
 | cons x r=>exact gen r x y h
theorem Cu{f:Nat->Tx}{n:Nat}(hf:∀ i,f (i+n)=f i):∀ i,((bE n).map fun j=>f (i+j)).Perm ((bE n).map f)
 | 0=>by simp
 | i+1=>by
  refine List.Perm.trans ?_ (Cu hf i)
  cases n with
  | zero=>simp
  | succ m =>
   have eL:(bE (m+1)).map (fun j=>f (i+1+j))=(bE m).map (fun j=>f (i+(j+1)))++[f (i+0)]:=by
    rw[rq,nV]
    congr 1
    ·refine f6 fun j _=>?_
     congr 1; ac_rfl
    ·rw[dq,ug]
     congr 1
     show f (i+1+m)=f i
     rw[← hf i]
     congr 1; ac_rfl
   have eR:(bE (m+1)).map (fun j=>f (i+j))=f (i+0)::(bE m).map (fun j=>f (i+(j+1))):=by
    rw[rn,dq,dy]; rfl
   rw[eL,eR]
   exact List.perm_append_singleton _ _
theorem Nm(z:Tx)(w i:Nat):om z w (i+z.length)=om z w i:=by
 unfold om
 refine f6 fun k _=>?_
 rw[show i+z.length+k=z.length+(i+k) by ac_rfl,Es]
theorem JD{z:Tx}{w i:Nat}(hi:i<z.length):(cw (fY i z) w).Perm (cw z w):=by
 have e:cw (fY i z) w=(bE z.length).map fun j=>om z w (i+j):=by
  unfold cw
  rw[mo (by ac_rfl)]
  refine f6 fun j _=>?_
  unfold om
  refine f6 fun k _=>?_
  rw[sF (by ac_rfl) (by ac_rfl),ur]
 rw[e]
 exact Cu (fun j=>Nm z w j) i
theorem OB{z:Tx}{w:Nat}{c:Nat}(h:c∈fG z w):c∈z:=by
 have:=iV h
 rw[List.mem_flatten]at this
 obtain⟨l,hl,hc⟩:=this
 rw[List.mem_replicate]at hl
 rw[hl.2]at hc; exact hc
theorem On{z:Tx}{i c:Nat}(h:c∈fY i z):c∈z:=(dO.mp h).elim mT iV
def lz:Nat->Nat->Nat->Nat->List Tx
 | 0,_,_,_=>[[]]
 | n+1,i,j,k=>(match i with | 0=>[] | i+1=>(lz n i j k).map (97::·))++((match j with | 0=>[] | j+1=>(lz n i j k).map (98::·))++(match k with | 0=>[] | k+1=>(lz n i j k).map (99::·)))
theorem D4:∀ (n:Nat) (z:Tx),z.length=n->(∀ c∈z,c∈ca)->z∈lz n (z.count 97) (z.count 98) (z.count 99)
 | 0,z,h,_=>by rw[Bp.mp h]; simp[lz]
 | n+1,z,h,hc=>by
  cases z with
  | nil=>cases h
  | cons c z =>
   have ih:=D4 n z (xP h) fun d hd=>hc d (by simp[hd])
   have h3:c=97\/c=98\/c=99:=by
    have:=hc c (by simp)
    simpa[ca]using this
   rcases h3 with rfl | rfl | rfl
   ·rw[Bs,uz (by decide),uz (by decide)]
    simp only[lz,dO]
    exact .inl (b0.mpr ⟨z,ih,rfl⟩)
   ·rw[Bs,uz (by decide),uz (by decide)]
    simp only[lz,dO]
    exact .inr (.inl (b0.mpr ⟨z,ih,rfl⟩))
   ·rw[Bs,uz (by decide),uz (by decide)]
    simp only[lz,dO]
    exact .inr (.inr (b0.mpr ⟨z,ih,rfl⟩))
theorem len_sub{l m:List Tx}(nd:l.Nodup)(h:∀ x∈l,x∈m):l.length<=m.length:=by
 induction l generalizing m with
 | nil=>simp
 | cons x l ih =>
  rw[iS]at nd
  have hx:x∈m:=h x (by simp)
  have:=ih (m:=m.erase x) nd.2 fun y hy=>(List.mem_erase_of_ne (fun z=>nd.1 (by rw[← z]; exact hy))).mpr (h y (by simp[hy]))
  rw[Hy hx]at this
  have h0:0<m.length:=List.length_pos_of_mem hx
  rw[dQ]; ac_rfl
theorem NX{z:Tx}(h:∀ c∈z,c∈ca):z.count 97+z.count 98+z.count 99=z.length:=by
 induction z with
 | nil=>rfl
 | cons c z ih =>
  have:=ih fun d hd=>h d (by simp[hd])
  have h3:c=97\/c=98\/c=99:=by
   have:=h c (by simp)
   simpa[ca]using this
  rcases h3 with rfl | rfl | rfl <;> (rw[List.count_cons,List.count_cons,List.count_cons,dQ]; simp; ac_rfl)
end Mx
namespace Sh
open L2 Pu Mx
section
variable{a:Ad}
theorem Ic{z:Tx}(h1:1<=z.length)(h2:z.length<=12)(hc:∀ c∈z,c∈ca):vV a [.val (.str z)] = .ok (.val .non) [.val (.str z)]:=by
 have k1:il [.str z,.raw (.ty "str")]=some (.bl true):=ot rfl B0
 have hh:=EW (a:=a) z ca
 have kX:z.all ca.contains=true:=by rw[uo]; intro c h; simpa using hc c h
 rw[kX]at hh
 simp only[ca]at hh
 have hl:ba [.str z]=some (.int (z.length:Nat)):=rfl
 have c1:(1:Int)<=(z.length:Nat):=by ac_rfl
 have c2:((z.length:Nat):Int)<=12:=by ac_rfl
 have ht:vB a [.val (.str z),.val (.int 12)] = .ok (.val (.bl true)) [.val (.str z),.val (.int 12)]:=by
  simp![vB,d_is_text_up_to,k1,hl,c1,c2,hh]
 simp![vV,d_check_text,ht]
theorem MA{w:Nat}(w1:1<=w)(w4:w<=4):wT a [.val (.int w)] = .ok (.val .non) [.val (.int w)]:=by
 have h:=FP (a:=a) w
 rw[decide_eq_true (show 1<=(w:Int)/\(w:Int)<=4 by ac_rfl)]at h
 simp![wT,d_check_width,h]
def bv(t:Tx)(v:Nat):List Tx:=(bE (t.length+1-v)).map fun i=>(t.drop i).take v
theorem qB(t:Tx)(v:Nat):(bv t v).length=t.length+1-v:=by simp[bv]
theorem DK{t:Tx}{w:Nat}(hw:w<=t.length+1)(ht:t.length<=60):qo a [.val (.str t),.val (.int w)] = .ok (.own (.lst (af (bv t w)))) [.val (.str t),.val (.int w)]:=by
 have hl:ba [.str t]=some (.int (t.length:Nat)):=rfl
 have hs:cF (.int (t.length:Nat)) (.int w)=some (.int ((t.length:Int)-w)):=rfl
 have ha:ay (.int ((t.length:Int)-w)) (.int 1)=some (.int ((t.length+1-w:Nat):Int)):=by
  show some (PV.int ((t.length:Int)-w+1))=_
  congr 2; ac_rfl
 have hr:gx [.int ((t.length+1-w:Nat):Int)]=some (fg 0 (t.length+1-w)):=v8 (by ac_rfl)
 have hc:=lu (cap:=[0,1]) (dt:=dN) (de:=(aM aO (dV 1) (az (dV 0)) (az (d2 ay (dV 0) (dV 2))))) (ε:=[.val (.str t),.val (.int w)]) (fun _=>true) (fun x=>match x with | .int i=>.str (dj t (some i) (some (i+w))) | _=>.non) (fg 0 (t.length+1-w))
  (by
   intro x hx
   obtain⟨i,_,rfl⟩:=b0.mp hx
   refine⟨by simp![et,dY,dr,dN],fun _=>?_⟩
   simp![et,dY,dr,ay,aM,az,aO]) []
 have he:((fg 0 (t.length+1-w)).filter (fun _=>true)).map (fun x=>match x with | .int i=>PV.str (dj t (some i) (some (i+w))) | _=>.non)=af (bv t w):=by
  rw[n0.mpr (by simp)]
  unfold fg af bv
  rw[dy,dy]
  refine f6 fun i hi=>?_
  have hi:i<t.length+1-w:=by simpa using hi
  simp only[pL,Int.zero_add]
  rw[EX (by ac_rfl)]
 rw[fL,he]at hc
 generalize af (bv t w)=T at hc
 generalize fg 0 (t.length+1-w)=RR at hr hc
 generalize ((t.length+1-w:Nat):Int)=n at ha hr
 simp![qo,d_pieces,jV,dU,hl,hs,ha,hr,hc]
theorem Lf{t:Tx}{w:Nat}(w1:1<=w):bv t w=aS t w:=(l0 t w w1).symm
theorem KG{t:Tx}{w:Nat}(w1:1<=w)(hw:w<=t.length+1)(ht:t.length<=60):qo a [.val (.str t),.val (.int w)] = .ok (.own (.lst (af (aS t w)))) [.val (.str t),.val (.int w)]:=by
 rw[← Lf w1]; exact DK hw ht
theorem N7{w:Nat}{ls:List Tx}(h1:1<=ls.length)(h9:ls.length<=9):wN a [.val (.int w),.val (.lst (af ls))] = .ok (.val (gw w (bD ls))) [.val (.int w),.val (.lst (af ls))]:=by
 have hl:ba [.lst (af ls)]=some (.int (ls.length:Nat)):=by simp[ba,ff]
 have c1:(1:Int)<=(ls.length:Nat):=by ac_rfl
 have c2:((ls.length:Nat):Int)<=9:=by ac_rfl
 have kT:oO [.lst (af ls)]=some (.lst (af (bD ls))):=IU (by ac_rfl)
 simp only[gw]
 generalize af (bD ls)=T at kT
 generalize af ls=B at hl kT
 simp![wN,d_view_of,hl,c1,c2,kT,vL]
structure Tv(t:Tx)(w:Nat):Prop where
 w1:1<=w
 w4:w<=4
 h1:w<=t.length
 h9:t.length+1<=w+9
 abc:∀ c∈t,c∈ca
theorem Tv.good{t:Tx}{w:Nat}(h:Tv t w):Good ca w (aS t w):=by
 have hm:=LB (m:=8) h.w1 h.h1 (by have:=h.h9; ac_rfl)
 exact⟨fun x hx=>(Gp x hx).1,fun x hx c hc=>h.abc c ((Gp x hx).2 c hc),hm.1,hm.2⟩
theorem QE{t:Tx}{w:Nat}(h:Tv t w):nv a [.val (.str t),.val (.int w)] = .ok (.val (gw w (bD (aS t w)))) [.val (.str t),.val (.int w)]:=by
 have b1:=h.w1
 have b2:=h.w4
 have b3:=h.h1
 have b4:=h.h9
 have e1:=Ic (a:=a) (z:=t) (by ac_rfl) (by ac_rfl) h.abc
 have e2:=MA (a:=a) h.w1 h.w4
 have e4:=KG (a:=a) (t:=t) h.w1 (by ac_rfl) (by ac_rfl)
 have e5:=N7 (a:=a) (w:=w) (ls:=aS t w) h.good.some h.good.few
 generalize gw w (bD (aS t w))=V at e5
 generalize af (aS t w)=C at e4 e5
 simp![nv,d_text_view,e1,e2,e4,e5]
theorem LY{z:Tx}{w:Nat}(w1:1<=w)(w4:w<=4)(hz:z.length<=60):qP a [.val (.str z),.val (.int w)] = .ok (.val (.str (fG z w))) [.val (.str z),.val (.int w)]:=by
 have hm:gU (.str z) (.int w)=some (.str (bj w z).flatten):=by
  show(if 0<=(w:Int)/\(w:Int)<=100/\z.length<=100 then some (PV.str (bj (w:Int).toNat z).flatten)else none)=_
  rw[if_pos ⟨by ac_rfl,by ac_rfl,by ac_rfl⟩]; rfl
 have hl:ba [.str z]=some (.int (z.length:Nat)):=rfl
 have ha:ay (.int (z.length:Nat)) (.int w)=some (.int ((z.length:Int)+w)):=rfl
 have hs:cF (.int ((z.length:Int)+w)) (.int 1)=some (.int ((z.length+w-1:Nat):Int)):=by
  show some (PV.int ((z.length:Int)+w-1))=_
  congr 2; ac_rfl
 have hc:aO (.str (bj w z).flatten) none (some ((z.length+w-1:Nat):Int))=some (.str (fG z w)):=by
  show some (PV.str (dj _ none (some _)))=_
  rw[Gi]; rfl
 generalize ((z.length+w-1:Nat):Int)=n at hs hc
 generalize (bj w z).flatten=F at hm hc
 simp![qP,d_unrolled,aM,bI,az,hm,hl,ha,hs,hc]
end
end Sh
namespace Sh
open L2 Pu Mx
section
variable{a:Ad}
theorem my{i:Nat}{db:ae->R ax}{σ:Type}(env:List Tx->σ->ae)(f:Nat->List Tx)(B:Nat) :
  ∀ (xs:List Nat) (am:List Tx) (s:σ),(am++xs.flatMap f).length<=B->(∀ x∈xs,∀ am s,(am++f x).length<=B->∃ s',db ((env am s).set i (.val (.int x))) = .ok .next (env (am++f x) s')) ->
   ∃ s',dJ i db (xs.map fun x=>.int (x:Nat)) (env am s) = .ok .next (env (am++xs.flatMap f) s')
 | [],am,s,_,_=>⟨s,by simp[dJ]⟩
 | x::xs,am,s,hB,step=>by
  rw[kL]at hB ⊢
  obtain⟨s1,e1⟩:=step x (by simp) am s (by simp at hB ⊢; ac_rfl)
  obtain⟨s2,e2⟩:=my env f B xs (am++f x) s1 (by rw[gh]; exact hB) fun y hy=>step y (by simp[hy])
  refine⟨s2,?_⟩
  rw[dq,dJ,e1]
  simp only
  rw[e2,gh]
def br(lo hi:Nat):List Nat:=List.range' lo (hi-lo)
theorem DC{lo hi x:Nat}:x∈br lo hi↔lo<=x/\x<hi:=by
 unfold br
 rw[List.mem_range'_1]
 ac_rfl
theorem Gq(lo n:Nat):fg (lo:Nat) n=(List.range' lo n).map fun x=>PV.int (x:Nat):=by
 unfold fg
 rw[List.range'_eq_map_range,dy]
 refine f6 fun x _=>?_
 simp
theorem qK{lo hi:Nat}(h1:lo<=1000)(h2:hi<=1000):gz [.int lo,.int hi]=some ((br lo hi).map fun x=>.int (x:Nat)):=by
 show(if _ then _ else _)=_
 rw[if_pos ⟨by ac_rfl,by ac_rfl,by ac_rfl,by ac_rfl⟩]
 congr 1
 rw[show(((hi:Nat):Int)-((lo:Nat):Int)).toNat=hi-lo by ac_rfl]
 exact Gq lo (hi-lo)
theorem wQ{n:Nat}(h:n<=1000):gx [.int n]=some ((br 0 n).map fun x=>.int (x:Nat)):=by
 rw[v8 (by ac_rfl)]
 congr 1
 exact Gq 0 n
def part(t:Tx)(i j:Nat):Tx:=(t.drop i).take (j-i)
theorem Ql(t:Tx)(i j:Nat):dj t (some (i:Nat)) (some (j:Nat))=part t i j:=by
 unfold dj part
 rw[HT.sIx_nat,HT.sIx_nat]
 by_cases h:i<=t.length
 ·rw[xX h]
  by_cases h2:j<=t.length
  ·rw[xX h2]
  ·rw[Nat.min_eq_right (by ac_rfl),kH (by simp),kH (by simp; ac_rfl)]
 ·rw[show min i t.length=t.length by ac_rfl,Br (aL _),Br (show t.length<=i by ac_rfl)]
  simp
theorem nh(t:Tx)(i j:Nat):aO (.str t) (some (i:Nat)) (some (j:Nat))=some (.str (part t i j)):=by
 show some (PV.str (dj t (some (i:Nat)) (some (j:Nat))))=_
 rw[Ql]
theorem mh(t:Tx)(j:Nat):aO (.str t) none (some (j:Nat))=some (.str (t.take j)):=by
 show some (PV.str (dj t none (some (j:Nat))))=_
 rw[Gi]
theorem zx(t:Tx)(i:Nat):aO (.str t) (some (i:Nat)) none=some (.str (t.drop i)):=by
 show some (PV.str (dj t (some (i:Nat)) none))=_
 rw[FM]
def aC(row:List Tx)(i:Nat):Tx:=row.getD i []
theorem ln{row:List Tx}{i:Nat}(h:i<row.length):bi (.lst (af row)) (.int i)=some (.str (aC row i)):=by
 show eT (af row) ((i:Nat):Int)=_
 unfold eT
 rw[QR (by ac_rfl) (by rw[ff]; ac_rfl)]
 simp[af,aC,h]
def dz(t:Tx)(s e g l:Nat):Tx:=t.take s++part t g l++part t e g++part t s e++t.drop l
theorem qL(t:Tx)(i j:Nat):(part t i j).length<=t.length:=by unfold part; simp; ac_rfl
def mz(t:Tx)(row:List Tx)(s g e:Nat):List Tx:=(br (g+1) row.length).flatMap fun l=>if aC row e=aC row l then [dz t s e g l] else []
def kt(t:Tx)(row:List Tx)(s g:Nat):List Tx:=(br (s+1) (g+1)).flatMap fun e=>mz t row s g e
def wY:ae->R ax:=c0 (dB (d2 (eqT false) (d2 bi (dV 1) (dV 5)) (d2 bi (dV 1) (dV 6)))) (jX 4 (d2 ay (d2 ay (d2 ay (d2 ay (aM aO (dV 0) (bI) (az (dV 2))) (aM aO (dV 0) (az (dV 3)) (az (dV 6)))) (aM aO (dV 0) (az (dV 5)) (az (dV 3)))) (aM aO (dV 0) (az (dV 2)) (az (dV 5)))) (aM aO (dV 0) (az (dV 6)) (bI)))) (dD)
def B7:ae->R (List PV):=dL gz (ak (d2 ay (dV 3) (dC (.int 1))) (ak (dL ba (ak (dV 1) (aq))) (aq)))
def E6:ae->R ax:=b8 6 B7 wY
def Em:ae->R (List PV):=dL gz (ak (d2 ay (dV 2) (dC (.int 1))) (ak (d2 ay (dV 3) (dC (.int 1))) (aq)))
theorem MQ:d_exchanges_from a=aA (cZ 4 (dL bU (aq))) (aA (fun ε=>cu (b8 5 Em E6 ε)) (gA 4)):=rfl
theorem NS(t:Tx)(row:List Tx)(s g e:Nat)(ht:t.length<=20)(hr:row.length<=20)(he:e<row.length)(am:List Tx)(s6:Slot)(hB:(am++mz t row s g e).length<=100000):∃ gL,
  dJ 6 wY ((br (g+1) row.length).map fun x=>.int (x:Nat))
   [.val (.str t),.val (.lst (af row)),.val (.int s),.val (.int g),.own (.lst (af am)),.val (.int e),s6] = .ok .next [.val (.str t),.val (.lst (af row)),.val (.int s),.val (.int g),.own (.lst (af (am++mz t row s g e))),.val (.int e),gL]:=by
 refine my (i:=6) (σ:=Slot) (fun am s6=>[.val (.str t),.val (.lst (af row)),.val (.int s),.val (.int g),.own (.lst (af am)),.val (.int e),s6]) (fun l=>if aC row e=aC row l then [dz t s e g l] else []) 100000 _ am s6 hB ?_
 intro l hl am s6 hB
 obtain⟨l1,l2⟩:=DC.mp hl
 refine⟨.val (.int l),?_⟩
 have i1:=ln he
 have i2:=ln l2
 have he:=oV false (aC row e) (aC row l)
 simp only[rL]at he
 by_cases q:aC row e=aC row l
 ·rw[decide_eq_true q]at he
  rw[if_pos q]at hB ⊢
  have c1:=mh t s
  have c2:=nh t g l
  have c3:=nh t e g
  have c4:=nh t s e
  have c5:=zx t l
  have p1:=qL t g l
  have p2:=qL t e g
  have p3:=qL t s e
  have a1:ay (.str (t.take s)) (.str (part t g l))=some (.str (t.take s++part t g l)):=jt (by unfold be; simp; ac_rfl)
  have a2:ay (.str (t.take s++part t g l)) (.str (part t e g))=some (.str (t.take s++part t g l++part t e g)):=jt (by unfold be; simp; ac_rfl)
  have a3:ay (.str (t.take s++part t g l++part t e g)) (.str (part t s e))=some (.str (t.take s++part t g l++part t e g++part t s e)):=jt (by unfold be; simp; ac_rfl)
  have a4:ay (.str (t.take s++part t g l++part t e g++part t s e)) (.str (t.drop l))=some (.str (dz t s e g l)):=jt (by unfold be; simp; ac_rfl)
  have aX:(af am).length<be:=by rw[ff]; simp at hB; unfold be; ac_rfl
  rw[show af (am++[dz t s e g l])=af am++[.str (dz t s e g l)] by simp[af]]
  generalize dz t s e g l=X at a4
  generalize t.take s++part t g l++part t e g++part t s e=A3 at a3 a4
  generalize t.take s++part t g l++part t e g=A2 at a2 a3
  generalize t.take s++part t g l=A1 at a1 a2
  generalize t.take s=T0 at c1 a1
  generalize t.drop l=T5 at c5 a4
  generalize part t g l=T2 at c2 a1
  generalize part t e g=T3 at c3 a2
  generalize part t s e=T4 at c4 a3
  generalize aC row e=R1 at i1 he
  generalize aC row l=R2 at i2 he
  generalize af am=AC at aX
  generalize af row=RW at i1 i2
  generalize ((s:Nat):Int)=si at c1 c4
  generalize ((g:Nat):Int)=gi at c2 c3
  generalize ((e:Nat):Int)=ei at c3 c4 i1
  generalize ((l:Nat):Int)=li at c2 c5 i2
  simp![wY,i1,i2,he,aM,az,bI,c1,c2,c3,c4,c5,a1,a2,a3,a4,aX]
 ·rw[decide_eq_false q]at he
  rw[if_neg q,iz]
  generalize aC row e=R1 at i1 he
  generalize aC row l=R2 at i2 he
  generalize af am=AC
  generalize af row=RW at i1 i2
  generalize ((s:Nat):Int)=si
  generalize ((g:Nat):Int)=gi
  generalize ((e:Nat):Int)=ei at i1
  generalize ((l:Nat):Int)=li at i2
  simp![wY,i1,i2,he]
theorem Ot{d:ae->R ax}{v0 v1 v2 v3:PV}{sl e4 e5 e6:Slot}(h:d [.val v0,.val v1,.val v2,.val v3,.none,.none,.none] = .ok (.ret sl) [.val v0,.val v1,.val v2,.val v3,e4,e5,e6]):bo 4 [] (bu 3 d) [.val v0,.val v1,.val v2,.val v3] = .ok sl [.val v0,.val v1,.val v2,.val v3]:=by
 simp[bo,fF,bu,bj,h,back,aW,R.bind]
theorem oQ{i:Nat}{ε:ae}(h:i<ε.length):cZ i (dL bU aq) ε = .ok .next (ε.set i (.own (.lst []))):=by
 simp[cZ,dL,aq,bU,R.bind,aW,h]
theorem tT{i:Nat}{ε:ae}{po:PO}(h:ε[i]?=some (.own po)):gA i ε = .ok (.ret (.own po)) (ε.set i .none):=by
 unfold gA; rw[h]
theorem nL{i:Nat}{di:ae->R (List PV)}{db:ae->R ax}{ε ε1 ε2:ae}{xs:List PV}(h:di ε = .ok xs ε1)(h2:dJ i db xs ε1 = .ok .next ε2):b8 i di db ε = .ok .next ε2:=by
 unfold b8; rw[h]; exact h2
theorem BL{i:Nat}{di:ae->R (List PV)}{db:ae->R ax}{ε ε1 ε2:ae}{xs:List PV}(h:di ε = .ok xs ε1)(h2:dJ i db xs ε1 = .ok .next ε2):(fun ε=>cu (b8 i di db ε)) ε = .ok .next ε2:=by
 show cu _=_
 rw[nL h h2]
 rfl
theorem vA{i:Nat}{di:ae->R (List PV)}{db d2:ae->R ax}{ε ε1 ε2:ae}{xs:List PV}(h:di ε = .ok xs ε1)(h2:dJ i db xs ε1 = .ok .next ε2):aA (fun ε=>cu (b8 i di db ε)) d2 ε=d2 ε2 :=
 c9 (d1:=fun ε=>cu (b8 i di db ε)) (BL h h2)
theorem QX(t:Tx)(row:List Tx)(s g:Nat)(ht:t.length<=20)(hr:row.length<=20)(hg:g<row.length)(hsg:s<=g)(hB:(kt t row s g).length<=100000) :
  sd a [.val (.str t),.val (.lst (af row)),.val (.int s),.val (.int g)] = .ok (.own (.lst (af (kt t row s g)))) [.val (.str t),.val (.lst (af row)),.val (.int s),.val (.int g)]:=by
 have r1:=qK (lo:=s+1) (hi:=g+1) (by ac_rfl) (by ac_rfl)
 have r2:=qK (lo:=g+1) (hi:=row.length) (by ac_rfl) (by ac_rfl)
 have as:ay (.int s) (.int 1)=some (.int ((s+1:Nat):Int)):=by show some (PV.int _)=_; congr 2
 have ag:ay (.int g) (.int 1)=some (.int ((g+1:Nat):Int)):=by show some (PV.int _)=_; congr 2
 have hl:ba [.lst (af row)]=some (.int (row.length:Nat)):=by show some (PV.int _)=_; rw[ff]
 obtain⟨⟨s5,s6⟩,e1⟩:=my (i:=5) (db:=E6) (σ:=Slot×Slot)
  (fun am p=>[.val (.str t),.val (.lst (af row)),.val (.int s),.val (.int g),.own (.lst (af am)),p.1,p.2]) (fun e=>mz t row s g e) 100000 (br (s+1) (g+1)) [] (.none,.none) (by rw[fL]; exact hB)
  (by
   intro e he am p hB
   obtain⟨e1,e2⟩:=DC.mp he
   obtain⟨gL,h⟩:=NS t row s g e ht hr (by ac_rfl) am p.2 hB
   refine⟨(.val (.int e),gL),?_⟩
   have hd:B7 [.val (.str t),.val (.lst (af row)),.val (.int s),.val (.int g),.own (.lst (af am)),.val (.int e),p.2] =
     .ok ((br (g+1) row.length).map fun x=>PV.int (x:Nat)) [.val (.str t),.val (.lst (af row)),.val (.int s),.val (.int g),.own (.lst (af am)),.val (.int e),p.2] :=
    fX (dI (jE (x:=.int g) rfl (lG _ _) ag) (dI (fX (dI (x:=.lst (af row)) rfl fQ) hl) fQ)) r2
   exact nL hd h)
 have fq:=e1
 dsimp only at fq
 rw[fL,show af ([]:List Tx)=[] from rfl,show(br (s+1) (g+1)).flatMap (fun e=>mz t row s g e)=kt t row s g from rfl]at fq
 clear e1
 have hd:Em [.val (.str t),.val (.lst (af row)),.val (.int s),.val (.int g),.own (.lst []),.none,.none] =
   .ok ((br (s+1) (g+1)).map fun x=>PV.int (x:Nat)) [.val (.str t),.val (.lst (af row)),.val (.int s),.val (.int g),.own (.lst []),.none,.none] :=
  fX (dI (jE (x:=.int s) rfl (lG _ _) as) (dI (jE (x:=.int g) rfl (lG _ _) ag) fQ)) r1
 clear r1 r2 as ag hl hB
 have hb:d_exchanges_from a [.val (.str t),.val (.lst (af row)),.val (.int s),.val (.int g),.none,.none,.none] = .ok (.ret (.own (.lst (af (kt t row s g))))) [.val (.str t),.val (.lst (af row)),.val (.int s),.val (.int g),.none,s5,s6]:=by
  rw[MQ]
  have h1:=oQ (i:=4) (ε:=[.val (.str t),.val (.lst (af row)),.val (.int s),.val (.int g),.none,.none,.none]) (by simp)
  refine(c9 h1).trans ?_
  refine(vA hd fq).trans ?_
  exact tT rfl
 exact Ot hb
end
end Sh
namespace Sh
open L2 Pu Mx
section
variable{a:Ad}
theorem yH(n:Nat):ay (.int n) (.int 1)=some (.int ((n+1:Nat):Int)):=by show some (PV.int _)=_; congr 2
theorem wc(row:List Tx):ba [.lst (af row)]=some (.int (row.length:Nat)):=by show some (PV.int _)=_; rw[ff]
theorem nD{f:Nat->List Tx}{c:Nat->Nat}:∀ {l:List Nat},(∀ x∈l,(f x).length<=c x)->(l.flatMap f).length<=(l.map c).sum
 | [],_=>by simp
 | x::l,h=>by
  have h1:=h x (by simp)
  have h2:=nD (f:=f) (c:=c) (l:=l) fun y hy=>h y (by simp[hy])
  rw[kL,cT,dq,Bt]
  ac_rfl
theorem E_(c:Nat):∀ (l:List Nat),(l.map fun _=>c).sum=l.length * c
 | []=>by simp
 | x::l=>by rw[dq,Bt,E_ c l,dQ,Nat.add_mul]; ac_rfl
theorem wL{f:Nat->List Tx}{c:Nat}{l:List Nat}(h:∀ x∈l,(f x).length<=c):(l.flatMap f).length<=l.length * c:=by
 have:=nD (f:=f) (c:=fun _=>c) h
 rwa[E_]at this
theorem qt(lo hi:Nat):(br lo hi).length=hi-lo:=by simp[br]
theorem GF{p:Prop}[Decidable p]{x:Tx}:(if p then [x] else []).length<=1:=by split <;> simp
theorem zg{p:Prop}[Decidable p]{x:List Tx}{n:Nat}(h:x.length<=n):(if p then x else []).length<=n:=by split <;> simp[h]
theorem IN(t:Tx)(row:List Tx)(s g e:Nat):(mz t row s g e).length<=row.length-(g+1):=by
 have:=wL (f:=fun l=>if aC row e=aC row l then [dz t s e g l] else []) (c:=1) (l:=br (g+1) row.length) fun _ _=>GF
 rw[qt]at this
 unfold mz; ac_rfl
theorem FE(t:Tx)(row:List Tx)(s g:Nat):(kt t row s g).length<=(g-s) * (row.length-(g+1)):=by
 have:=wL (f:=mz t row s g) (l:=br (s+1) (g+1)) fun e _=>IN t row s g e
 rw[qt,show g+1-(s+1)=g-s by ac_rfl]at this
 exact this
def qS(t:Tx)(row:List Tx)(s:Nat):List Tx:=(br (s+1) row.length).flatMap fun g=>if aC row s=aC row g then kt t row s g else []
def mC(t:Tx)(row:List Tx):List Tx:=(br 0 row.length).flatMap fun s=>qS t row s
def Q8(n:Nat):Nat:=((br 0 n).map fun s=>((br (s+1) n).map fun g=>(g-s) * (n-(g+1))).sum).sum
theorem K9:∀ n,n<=10->Q8 n<=3000:=by decide +kernel
theorem Ei{t:Tx}{row:List Tx}(h:row.length<=10):(mC t row).length<=3000:=by
 refine cp (nD (c:=fun s=>((br (s+1) row.length).map fun g=>(g-s) * (row.length-(g+1))).sum) fun s _=>?_) (K9 _ h)
 exact nD fun g _=>zg (FE t row s g)
theorem Qs{t:Tx}{row:List Tx}(h:row.length<=10){s g:Nat}(hg:g<row.length):(kt t row s g).length<=100:=by
 have:=FE t row s g
 have h2:(g-s) * (row.length-(g+1))<=10 * 10:=A8 (by ac_rfl) (by ac_rfl)
 ac_rfl
def vZ(a:Ad):ae->R ax:=c0 (dB (d2 (eqT false) (d2 bi (dV 1) (dV 3)) (d2 bi (dV 1) (dV 4)))) (jZ 2 (aR (aF (sd a) (gV (dV 0) (gV (dV 1) (gV (dV 3) (gV (dV 4) (Pu.bM)))))))) (dD)
def Gd:ae->R (List PV):=dL gz (ak (d2 ay (dV 3) (dC (.int 1))) (ak (dL ba (ak (dV 1) (aq))) (aq)))
def E4(a:Ad):ae->R ax:=b8 4 Gd (vZ a)
def Co:ae->R (List PV):=dL gx (ak (dL ba (ak (dV 1) (aq))) (aq))
theorem K1:d_exchanges a=aA (cZ 2 (dL bU (aq))) (aA (fun ε=>cu (b8 3 Co (E4 a) ε)) (gA 2)):=rfl
theorem d_{i:Nat}{ε:ae}{v:PV}(h:ε[i]?=some (.val v)):dV i ε = .ok v ε:=by unfold dV; rw[h]
theorem lr{d:ae->R PV}{dg:ae->R (List bY)}{ε ε1 ε2:ae}{x:PV}{as:List bY}(h:d ε = .ok x ε1)(h2:dg ε1 = .ok as ε2):gV d dg ε = .ok (.inl x::as) ε2:=by
 unfold gV; rw[h,R.bind_ok,h2]; rfl
theorem wz{ε:ae}:Pu.bM ε = .ok [] ε:=rfl
theorem FV{G:ae->R Slot}{ε:ae}{i0 i1 i2 i3:Nat}{v0 v1 v2 v3:PV}{r:Slot}(h0:ε[i0]?=some (.val v0))(h1:ε[i1]?=some (.val v1))(h2:ε[i2]?=some (.val v2))(h3:ε[i3]?=some (.val v3))
  (hG:G [.val v0,.val v1,.val v2,.val v3] = .ok r [.val v0,.val v1,.val v2,.val v3]):aF G (gV (dV i0) (gV (dV i1) (gV (dV i2) (gV (dV i3) (Pu.bM))))) ε = .ok r ε:=by
 unfold aF
 rw[lr (d_ h0) (lr (d_ h1) (lr (d_ h2) (lr (d_ h3) wz))),R.bind_ok]
 simp[cS,e_,R.bind,aW,hG,ig,fA,fU]
theorem sk{d:ae->R Slot}{ε ε1:ae}{xs:List PV}(h:d ε = .ok (.own (.lst xs)) ε1):aR d ε = .ok (.lst xs) ε1:=by unfold aR; rw[h]; rfl
theorem wC{i:Nat}{de:ae->R PV}{ε ε1:ae}{xs0 xs ys:List PV}(h0:iu ε i=some xs0)(h:de ε = .ok (.lst ys) ε1)(h1:iu ε1 i=some xs)(hl:xs.length+ys.length<=be):jZ i de ε = .ok .next (ε1.set i (.own (.lst (xs++ys)))):=by
 unfold jZ
 rw[h0]
 simp only[c_,R.bind_ok]
 rw[h]
 simp only[R.bind_ok]
 rw[h1]
 simp only[c_,R.bind_ok]
 rw[if_pos hl]
theorem wo{α:Type}{c:ae->R Bool}{d1 d2:ae->R α}{ε ε1:ae}(h:c ε = .ok true ε1):c0 c d1 d2 ε=d1 ε1:=by
 unfold c0; rw[h]; rfl
theorem P3{α:Type}{c:ae->R Bool}{d1 d2:ae->R α}{ε ε1:ae}(h:c ε = .ok false ε1):c0 c d1 d2 ε=d2 ε1:=by
 unfold c0; rw[h]; rfl
theorem sL{d:ae->R PV}{b:Bool}{ε ε1:ae}(h:d ε = .ok (.bl b) ε1):dB d ε = .ok b ε1:=by
 unfold dB; rw[h]; rfl
theorem OX(t:Tx)(row:List Tx)(s:Nat)(ht:t.length<=20)(hr:row.length<=10)(hs:s<row.length)(am:List Tx)(s4:Slot)(hB:(am++qS t row s).length<=100000):∃ p_,
  dJ 4 (vZ a) ((br (s+1) row.length).map fun x=>.int (x:Nat)) [.val (.str t),.val (.lst (af row)),.own (.lst (af am)),.val (.int s),s4] =
   .ok .next [.val (.str t),.val (.lst (af row)),.own (.lst (af (am++qS t row s))),.val (.int s),p_]:=by
 refine my (i:=4) (σ:=Slot) (fun am s4=>[.val (.str t),.val (.lst (af row)),.own (.lst (af am)),.val (.int s),s4]) (fun g=>if aC row s=aC row g then kt t row s g else []) 100000 _ am s4 hB ?_
 intro g hg am s4 hB
 obtain⟨l1,l2⟩:=DC.mp hg
 refine⟨.val (.int g),?_⟩
 have i1:=ln hs
 have i2:=ln l2
 have he:=oV false (aC row s) (aC row g)
 simp only[rL]at he
 by_cases q:aC row s=aC row g
 ·rw[decide_eq_true q]at he
  rw[if_pos q]at hB ⊢
  have hc:=QX (a:=a) t row s g ht (by ac_rfl) l2 (by ac_rfl) (by have:=Qs (t:=t) hr (s:=s) l2; ac_rfl)
  have aX:(af am).length+(af (kt t row s g)).length<=be:=by rw[ff,ff]; simp at hB; unfold be; ac_rfl
  rw[← sP]
  generalize af (kt t row s g)=EF at hc aX
  generalize aC row s=R1 at i1 he
  generalize aC row g=R2 at i2 he
  generalize af am=AC at aX
  generalize af row=RW at i1 i2 hc
  generalize ((s:Nat):Int)=si at i1 hc
  generalize ((g:Nat):Int)=gi at i2 hc
  have hx:aR (aF (sd a) (gV (dV 0) (gV (dV 1) (gV (dV 3) (gV (dV 4) (Pu.bM)))))) [.val (.str t),.val (.lst RW),.own (.lst AC),.val (.int si),.val (.int gi)] = .ok (.lst EF) [.val (.str t),.val (.lst RW),.own (.lst AC),.val (.int si),.val (.int gi)]:=sk (FV rfl rfl rfl rfl hc)
  have bF:dB (d2 (eqT false) (d2 bi (dV 1) (dV 3)) (d2 bi (dV 1) (dV 4))) [.val (.str t),.val (.lst RW),.own (.lst AC),.val (.int si),.val (.int gi)] = .ok true [.val (.str t),.val (.lst RW),.own (.lst AC),.val (.int si),.val (.int gi)]:=by
   simp![i1,i2,he]
  unfold vZ
  exact(wo bF).trans (wC rfl hx rfl aX)
 ·rw[decide_eq_false q]at he
  rw[if_neg q,iz]
  generalize aC row s=R1 at i1 he
  generalize aC row g=R2 at i2 he
  generalize af am=AC
  generalize af row=RW at i1 i2
  generalize ((s:Nat):Int)=si at i1
  generalize ((g:Nat):Int)=gi at i2
  simp![vZ,i1,i2,he]
theorem Mh{d:ae->R ax}{v0 v1:PV}{sl e4 e5 e6:Slot}(h:d [.val v0,.val v1,.none,.none,.none] = .ok (.ret sl) [.val v0,.val v1,e4,e5,e6]):bo 2 [] (bu 3 d) [.val v0,.val v1] = .ok sl [.val v0,.val v1]:=by
 simp[bo,fF,bu,bj,h,back,aW,R.bind]
theorem HR(t:Tx)(row:List Tx)(ht:t.length<=20)(hr:row.length<=10) :
  zp a [.val (.str t),.val (.lst (af row))] = .ok (.own (.lst (af (mC t row)))) [.val (.str t),.val (.lst (af row))]:=by
 have r1:=wQ (n:=row.length) (by ac_rfl)
 have hl:=wc row
 have hB:=Ei (t:=t) hr
 obtain⟨⟨s3,s4⟩,e1⟩:=my (i:=3) (db:=E4 a) (σ:=Slot×Slot)
  (fun am p=>[.val (.str t),.val (.lst (af row)),.own (.lst (af am)),p.1,p.2]) (fun s=>qS t row s) 100000 (br 0 row.length) [] (.none,.none) (by rw[fL]; exact cp hB (by decide))
  (by
   intro s he am p hB
   obtain⟨e1,e2⟩:=DC.mp he
   obtain⟨p_,h⟩:=OX (a:=a) t row s ht hr e2 am p.2 hB
   refine⟨(.val (.int s),p_),?_⟩
   have r2:=qK (lo:=s+1) (hi:=row.length) (by ac_rfl) (by ac_rfl)
   have hd:Gd [.val (.str t),.val (.lst (af row)),.own (.lst (af am)),.val (.int s),p.2] =
     .ok ((br (s+1) row.length).map fun x=>PV.int (x:Nat)) [.val (.str t),.val (.lst (af row)),.own (.lst (af am)),.val (.int s),p.2] :=
    fX (dI (jE (x:=.int s) rfl (lG _ _) (yH s)) (dI (fX (dI (x:=.lst (af row)) rfl fQ) hl) fQ)) r2
   exact nL hd h)
 have fq:=e1
 dsimp only at fq
 rw[fL,show af ([]:List Tx)=[] from rfl,show(br 0 row.length).flatMap (fun s=>qS t row s)=mC t row from rfl]at fq
 clear e1
 have hd:Co [.val (.str t),.val (.lst (af row)),.own (.lst []),.none,.none] = .ok ((br 0 row.length).map fun x=>PV.int (x:Nat)) [.val (.str t),.val (.lst (af row)),.own (.lst []),.none,.none] :=
  fX (dI (fX (dI (x:=.lst (af row)) rfl fQ) hl) fQ) r1
 have hb:d_exchanges a [.val (.str t),.val (.lst (af row)),.none,.none,.none] = .ok (.ret (.own (.lst (af (mC t row))))) [.val (.str t),.val (.lst (af row)),.none,s3,s4]:=by
  rw[K1]
  have h1:=oQ (i:=2) (ε:=[.val (.str t),.val (.lst (af row)),.none,.none,.none]) (by simp)
  refine(c9 h1).trans ?_
  refine(vA hd fq).trans ?_
  exact tT rfl
 exact Mh hb
theorem Gc{row:List Tx}(h:1<=row.length):bi (.lst (af row)) (.int (-1))=some (.str (aC row (row.length-1))):=by
 show eT (af row) (-1)=_
 unfold eT
 have:kA (af row).length (-1)=some (row.length-1):=by
  unfold kA
  rw[ff,if_neg (by decide),if_pos (by ac_rfl)]
  congr 1; ac_rfl
 rw[this]
 have h2:row.length-1<row.length:=by ac_rfl
 simp[af,aC,h2]
def oG(t:Tx)(m w:Nat):List Tx:=(br 1 m).map fun p=>fG ((t.take m).drop p++(t.take m).take p) w
theorem QG(t:Tx)(m w:Nat)(w1:1<=w)(w4:w<=4)(ht:t.length<=20)(hm:m<=t.length)(RW:PV) :
  j0 [3,2] dN (aR (aF (qP a) (gV (d2 ay (aM aO (dV 1) (az (dV 0)) (bI)) (aM aO (dV 1) (bI) (az (dV 0)))) (gV (dV 2) (Pu.bM))))) ((br 1 m).map fun x=>.int (x:Nat)) [] [.val (.str t),.val RW,.val (.int w),.val (.str (t.take m))] =
   .ok (af (oG t m w)) [.val (.str t),.val RW,.val (.int w),.val (.str (t.take m))]:=by
 have hc:=lu (cap:=[3,2]) (dt:=dN) (de:=(aR (aF (qP a) (gV (d2 ay (aM aO (dV 1) (az (dV 0)) (bI)) (aM aO (dV 1) (bI) (az (dV 0)))) (gV (dV 2) (Pu.bM)))))) (ε:=[.val (.str t),.val RW,.val (.int w),.val (.str (t.take m))])
  (fun _=>true) (fun x=>match x with | .int i=>.str (fG ((t.take m).drop i.toNat++(t.take m).take i.toNat) w) | _=>.non) ((br 1 m).map fun x=>.int (x:Nat))
  (by
   intro x hx
   obtain⟨i,_,rfl⟩:=b0.mp hx
   refine⟨by simp![et,dY,dr,dN],fun _=>?_⟩
   have s1:=zx (t.take m) i
   have s2:=mh (t.take m) i
   have h1:ay (.str ((t.take m).drop i)) (.str ((t.take m).take i))=some (.str ((t.take m).drop i++(t.take m).take i)):=jt (by unfold be; simp; ac_rfl)
   have h2:=LY (a:=a) (z:=(t.take m).drop i++(t.take m).take i) w1 w4 (by simp; ac_rfl)
   simp only[lR]
   generalize fG ((t.take m).drop i++(t.take m).take i) w=U at h2
   generalize (t.take m).drop i++(t.take m).take i=Y at h1 h2
   generalize (t.take m).drop i=A1 at s1 h1
   generalize (t.take m).take i=A2 at s2 h1
   generalize t.take m=TM at s1 s2
   generalize ((i:Nat):Int)=ii at s1 s2
   simp![et,dY,dr,aM,az,bI,s1,s2,h1,h2]) []
 rw[hc,fL,n0.mpr (by simp)]
 congr 1
 unfold af oG
 rw[dy,dy]
 refine f6 fun i _=>?_
 simp
def i8(t:Tx)(row:List Tx)(w:Nat):List Tx:=if aC row 0=aC row (row.length-1)then oG t (row.length-1) w else []
theorem Nr(t:Tx)(row:List Tx)(w:Nat)(w1:1<=w)(w4:w<=4)(ht:t.length<=20)(hr:1<=row.length)(n9:row.length<=t.length+1) :
  sm a [.val (.str t),.val (.lst (af row)),.val (.int w)] = .ok (.own (.lst (af (i8 t row w)))) [.val (.str t),.val (.lst (af row)),.val (.int w)]:=by
 have i1:bi (.lst (af row)) (.int 0)=some (.str (aC row 0)):=ln (i:=0) (by ac_rfl)
 have i2:=Gc hr
 have he:=oV true (aC row 0) (aC row (row.length-1))
 have uH:gM (.int 1)=some (.int (-1)):=rfl
 unfold i8
 by_cases q:aC row 0=aC row (row.length-1)
 ·rw[decide_eq_true q]at he
  rw[if_pos q]
  have hl:=wc row
  have hs:cF (.int (row.length:Nat)) (.int 1)=some (.int ((row.length-1:Nat):Int)):=by
   show some (PV.int _)=_
   congr 2; ac_rfl
  have s1:=mh t (row.length-1)
  have jR:ba [.str (t.take (row.length-1))]=some (.int ((row.length-1:Nat):Int)):=by
   show some (PV.int _)=_
   congr 2; simp; ac_rfl
  have r1:=qK (lo:=1) (hi:=row.length-1) (by ac_rfl) (by ac_rfl)
  have hc:=QG (a:=a) t (row.length-1) w w1 w4 ht (by ac_rfl) (.lst (af row))
  generalize af (oG t (row.length-1) w)=TT at hc
  generalize (br 1 (row.length-1)).map (fun x=>PV.int (x:Nat))=RG at r1 hc
  generalize t.take (row.length-1)=T1 at s1 jR hc
  generalize ((row.length-1:Nat):Int)=m at hs s1 jR r1
  generalize ((row.length:Nat):Int)=n at hl hs
  generalize aC row 0=R1 at i1 he
  generalize aC row (row.length-1)=R2 at i2 he
  generalize af row=RW at i1 i2 hl hc
  simp only[Bool.xor_true,xU]at he
  have r1':gz [.int 1,.int m]=some RG:=r1
  clear r1
  simp![sm,d_turns,i1,i2,uH,he,hl,hs,aM,bI,az,s1,jV,dU,jR,r1',hc]
 ·rw[decide_eq_false q]at he
  rw[if_neg q]
  generalize aC row 0=R1 at i1 he
  generalize aC row (row.length-1)=R2 at i2 he
  generalize af row=RW at i1 i2
  simp only[Bool.xor_false]at he
  simp![sm,d_turns,i1,i2,uH,he,jV,show af ([]:List Tx)=[] from rfl]
def gS(t:Tx)(w:Nat):List Tx:=mC t (bv t (w-1))++i8 t (bv t (w-1)) w
def fS(t:Tx)(w:Nat):List Tx:=bD (dX (bP (gS t w)) t)
theorem Ja(t:Tx)(row:List Tx)(w:Nat):(i8 t row w).length<=row.length:=by
 unfold i8
 split
 ·unfold oG; rw[cq,qt]; ac_rfl
 ·simp
theorem Iv(t:Tx)(w:Nat)(h:Tv t w)(h9:t.length+2<=w+10):qC a [.val (.str t),.val (.int w)] = .ok (.own (.lst (af (fS t w)))) [.val (.str t),.val (.int w)]:=by
 have b1:=h.w1
 have b2:=h.w4
 have b3:=h.h1
 have hs:cF (.int w) (.int 1)=some (.int ((w-1:Nat):Int)):=by
  show some (PV.int _)=_
  congr 2; ac_rfl
 have e1:=DK (a:=a) (t:=t) (w:=w-1) (by ac_rfl) (by ac_rfl)
 have rY:=qB t (w-1)
 have e2:=HR (a:=a) t (bv t (w-1)) (by ac_rfl) (by ac_rfl)
 have e3:=Nr (a:=a) t (bv t (w-1)) w b1 b2 (by ac_rfl) (by ac_rfl) (by ac_rfl)
 have l1:=Ei (t:=t) (row:=bv t (w-1)) (by ac_rfl)
 have l2:=Ja t (bv t (w-1)) w
 have kR:ay (.lst (af (mC t (bv t (w-1))))) (.lst (af (i8 t (bv t (w-1)) w)))=some (.lst (af (gS t w))):=by
  show(if _ then _ else _)=_
  rw[if_pos (by rw[ff,ff]; unfold be; ac_rfl),sP]
  rfl
 have hu:qE [.lst (af (gS t w))]=some (bP (gS t w)):=by
  show(fR (af (gS t w))).bind _=_
  have:=wR (gS t w)
  rw[nH,jf,if_pos (by unfold gS at this; rw[cT]at this; unfold gS; ac_rfl)]
 unfold fS
 generalize bP (gS t w)=UL at hu
 generalize af (gS t w)=SL at kR hu
 generalize af (mC t (bv t (w-1)))=EA at e2 kR
 generalize af (i8 t (bv t (w-1)) w)=TA at e3 kR
 generalize af (bv t (w-1))=RW at e1 e2 e3
 generalize ((w-1:Nat):Int)=wi at hs e1
 simp![qC,d_one_step_off,jV,hs,e1,e2,e3,zR,kR,hu]
end
end Sh
namespace Sh
open L2 Pu Mx
section
variable{a:Ad}
theorem Ls{t:Tx}{w:Nat}(w1:1<=w)(hw:w<=t.length+1)(ht:t.length<=60):o0 a [.val (.str t),.val (.int w)] = .ok (.own (.lst (af (bv t (w-1))))) [.val (.str t),.val (.int w)]:=by
 have hl:ba [.str t]=some (.int (t.length:Nat)):=rfl
 have hs:cF (.int (t.length:Nat)) (.int w)=some (.int ((t.length:Int)-w)):=rfl
 have ha:ay (.int ((t.length:Int)-w)) (.int 2)=some (.int ((t.length+1-(w-1):Nat):Int)):=by
  show some (PV.int ((t.length:Int)-w+2))=_
  congr 2; ac_rfl
 have hr:gx [.int ((t.length+1-(w-1):Nat):Int)]=some (fg 0 (t.length+1-(w-1))):=v8 (by ac_rfl)
 have hc:=lu (cap:=[0,1]) (dt:=dN) (de:=(aM aO (dV 1) (az (dV 0)) (az (d2 cF (d2 ay (dV 0) (dV 2)) (dC (.int 1)))))) (ε:=[.val (.str t),.val (.int w)]) (fun _=>true) (fun x=>match x with | .int i=>.str (dj t (some i) (some (i+w-1))) | _=>.non) (fg 0 (t.length+1-(w-1)))
  (by
   intro x hx
   obtain⟨i,_,rfl⟩:=b0.mp hx
   refine⟨by simp![et,dY,dr,dN],fun _=>?_⟩
   simp![et,dY,dr,ay,cF,aM,az,aO]) []
 have he:((fg 0 (t.length+1-(w-1))).filter (fun _=>true)).map (fun x=>match x with | .int i=>PV.str (dj t (some i) (some (i+w-1))) | _=>.non)=af (bv t (w-1)):=by
  rw[n0.mpr (by simp)]
  unfold fg af bv
  rw[dy,dy]
  refine f6 fun i hi=>?_
  have hi:i<t.length+1-(w-1):=by simpa using hi
  simp only[pL,Int.zero_add]
  rw[show((i:Int)+w-1)=(i:Int)+((w-1:Nat):Int) by ac_rfl,EX (by ac_rfl)]
 rw[fL,he]at hc
 generalize af (bv t (w-1))=T at hc
 generalize fg 0 (t.length+1-(w-1))=RR at hr hc
 generalize ((t.length+1-(w-1):Nat):Int)=n at ha hr
 simp![o0,d_law_row,jV,dU,hl,hs,ha,hr,hc]
def stI(t:Tx)(row:List Tx)(j l k:Nat):List Tx:=(br 0 j).flatMap fun i=>if aC row i=aC row k then [dz t i j k l] else []
def lI(t:Tx)(row:List Tx)(j l:Nat):List Tx:=(br j l).flatMap fun k=>stI t row j l k
def qG(t:Tx)(row:List Tx)(l:Nat):List Tx:=(br 0 l).flatMap fun j=>if aC row j=aC row l then lI t row j l else []
def mj(t:Tx)(row:List Tx):List Tx:=(br 0 row.length).flatMap fun l=>qG t row l
theorem Lm(t:Tx)(row:List Tx)(j l k:Nat):(stI t row j l k).length<=j:=by
 have:=wL (f:=fun i=>if aC row i=aC row k then [dz t i j k l] else []) (c:=1) (l:=br 0 j) fun _ _=>GF
 rw[qt]at this
 unfold stI; ac_rfl
theorem zj(t:Tx)(row:List Tx)(j l:Nat):(lI t row j l).length<=(l-j) * j:=by
 have:=wL (f:=stI t row j l) (l:=br j l) fun k _=>Lm t row j l k
 rw[qt]at this
 exact this
def Du(n:Nat):Nat:=((br 0 n).map fun l=>((br 0 l).map fun j=>(l-j) * j).sum).sum
theorem PD:∀ n,n<=10->Du n<=3000:=by decide +kernel
theorem Dk{t:Tx}{row:List Tx}(h:row.length<=10):(mj t row).length<=3000:=by
 refine cp (nD (c:=fun l=>((br 0 l).map fun j=>(l-j) * j).sum) fun s _=>?_) (PD _ h)
 exact nD fun g _=>zg (zj t row g s)
theorem Qk{t:Tx}{row:List Tx}{j l:Nat}(hl:l<=10)(hj:j<=l):(lI t row j l).length<=100:=by
 have:=zj t row j l
 have h2:(l-j) * j<=10 * 10:=A8 (by ac_rfl) (by ac_rfl)
 ac_rfl
def vN:ae->R ax:=c0 (dB (d2 (eqT false) (d2 bi (dV 1) (dV 6)) (d2 bi (dV 1) (dV 5)))) (aA (bz 7 (d2 ay (aM aO (dV 0) (bI) (az (dV 6))) (aM aO (dV 0) (az (dV 5)) (az (dV 3)))))
 (aA (bz 7 (d2 ay (dV 7) (aM aO (dV 0) (az (dV 2)) (az (dV 5)))))
 (jX 4 (d2 ay (d2 ay (dV 7) (aM aO (dV 0) (az (dV 6)) (az (dV 2)))) (aM aO (dV 0) (az (dV 3)) (bI)))))) (dD)
def Ej:ae->R (List PV):=dL gx (ak (dV 2) (aq))
def Gb:ae->R ax:=b8 6 Ej vN
def Ek:ae->R (List PV):=dL gz (ak (dV 2) (ak (dV 3) (aq)))
theorem KJ:d_law_stretches a=aA (cZ 4 (dL bU (aq))) (aA (fun ε=>cu (b8 5 Ek Gb ε)) (gA 4)):=rfl
theorem KF(t:Tx)(row:List Tx)(j l k:Nat)(ht:t.length<=20)(hj:j<=k)(hk:k<row.length)(am:List Tx)(p:Slot×Slot)(hB:(am++stI t row j l k).length<=100000):∃ p':Slot×Slot,
  dJ 6 vN ((br 0 j).map fun x=>.int (x:Nat))
   [.val (.str t),.val (.lst (af row)),.val (.int j),.val (.int l),.own (.lst (af am)),.val (.int k),p.1,p.2] = .ok .next [.val (.str t),.val (.lst (af row)),.val (.int j),.val (.int l),.own (.lst (af (am++stI t row j l k))),.val (.int k),p'.1,p'.2]:=by
 refine my (i:=6) (σ:=Slot×Slot) (fun am p=>[.val (.str t),.val (.lst (af row)),.val (.int j),.val (.int l),.own (.lst (af am)),.val (.int k),p.1,p.2]) (fun i=>if aC row i=aC row k then [dz t i j k l] else []) 100000 _ am p hB ?_
 intro i hi am p hB
 obtain⟨_,l2⟩:=DC.mp hi
 have i1:=ln (row:=row) (i:=i) (by ac_rfl)
 have i2:=ln hk
 have he:=oV false (aC row i) (aC row k)
 simp only[rL]at he
 obtain⟨p1,p2⟩:=p
 by_cases q:aC row i=aC row k
 ·rw[decide_eq_true q]at he
  rw[if_pos q]at hB ⊢
  have c1:=mh t i
  have c2:=nh t k l
  have c3:=nh t j k
  have c4:=nh t i j
  have c5:=zx t l
  have p1:=qL t k l
  have p2:=qL t j k
  have p3:=qL t i j
  have a1:ay (.str (t.take i)) (.str (part t k l))=some (.str (t.take i++part t k l)):=jt (by unfold be; simp; ac_rfl)
  have a2:ay (.str (t.take i++part t k l)) (.str (part t j k))=some (.str (t.take i++part t k l++part t j k)):=jt (by unfold be; simp; ac_rfl)
  have a3:ay (.str (t.take i++part t k l++part t j k)) (.str (part t i j))=some (.str (t.take i++part t k l++part t j k++part t i j)):=jt (by unfold be; simp; ac_rfl)
  have a4:ay (.str (t.take i++part t k l++part t j k++part t i j)) (.str (t.drop l))=some (.str (dz t i j k l)):=jt (by unfold be; simp; ac_rfl)
  have aX:(af am).length<be:=by rw[ff]; simp at hB; unfold be; ac_rfl
  rw[show af (am++[dz t i j k l])=af am++[.str (dz t i j k l)] by simp[af]]
  refine⟨(.val (.int i),.val (.str (t.take i++part t k l++part t j k))),?_⟩
  generalize dz t i j k l=X at a4
  generalize t.take i++part t k l++part t j k++part t i j=A3 at a3 a4
  generalize t.take i++part t k l++part t j k=A2 at a2 a3
  generalize t.take i++part t k l=A1 at a1 a2
  generalize t.take i=T0 at c1 a1
  generalize t.drop l=T5 at c5 a4
  generalize part t k l=T2 at c2 a1
  generalize part t j k=T3 at c3 a2
  generalize part t i j=T4 at c4 a3
  generalize aC row i=R1 at i1 he
  generalize aC row k=R2 at i2 he
  generalize af am=AC at aX
  generalize af row=RW at i1 i2
  generalize ((i:Nat):Int)=ii at c1 c4 i1
  generalize ((j:Nat):Int)=ji at c3 c4
  generalize ((k:Nat):Int)=ki at c2 c3 i2
  generalize ((l:Nat):Int)=li at c2 c5
  simp![vN,i1,i2,he,aM,az,bI,c1,c2,c3,c4,c5,a1,a2,a3,a4,aX]
 ·rw[decide_eq_false q]at he
  rw[if_neg q,iz]
  refine⟨(.val (.int i),p2),?_⟩
  generalize aC row i=R1 at i1 he
  generalize aC row k=R2 at i2 he
  generalize af am=AC
  generalize af row=RW at i1 i2
  generalize ((i:Nat):Int)=ii at i1
  generalize ((j:Nat):Int)=ji
  generalize ((k:Nat):Int)=ki at i2
  generalize ((l:Nat):Int)=li
  simp![vN,i1,i2,he]
theorem IT{d:ae->R ax}{v0 v1 v2 v3:PV}{sl e4 e5 e6 e7:Slot}(h:d [.val v0,.val v1,.val v2,.val v3,.none,.none,.none,.none] = .ok (.ret sl) [.val v0,.val v1,.val v2,.val v3,e4,e5,e6,e7]):bo 4 [] (bu 4 d) [.val v0,.val v1,.val v2,.val v3] = .ok sl [.val v0,.val v1,.val v2,.val v3]:=by
 simp[bo,fF,bu,bj,h,back,aW,R.bind]
theorem Oz(t:Tx)(row:List Tx)(j l:Nat)(ht:t.length<=20)(hr:row.length<=10)(hl:l<row.length)(hj:j<=l) :
  sj a [.val (.str t),.val (.lst (af row)),.val (.int j),.val (.int l)] = .ok (.own (.lst (af (lI t row j l)))) [.val (.str t),.val (.lst (af row)),.val (.int j),.val (.int l)]:=by
 have r1:=qK (lo:=j) (hi:=l) (by ac_rfl) (by ac_rfl)
 have r2:=wQ (n:=j) (by ac_rfl)
 obtain⟨⟨s5,s6,s7⟩,e1⟩:=my (i:=5) (db:=Gb) (σ:=Slot×Slot×Slot)
  (fun am p=>[.val (.str t),.val (.lst (af row)),.val (.int j),.val (.int l),.own (.lst (af am)),p.1,p.2.1,p.2.2]) (fun k=>stI t row j l k) 100000 (br j l) [] (.none,.none,.none) (by rw[fL]; have:=Qk (t:=t) (row:=row) (l:=l) (by ac_rfl) hj; exact cp this (by decide))
  (by
   intro k he am p hB
   obtain⟨e1,e2⟩:=DC.mp he
   obtain⟨p',h⟩:=KF t row j l k ht e1 (by ac_rfl) am p.2 hB
   refine⟨(.val (.int k),p'),?_⟩
   have hd:Ej [.val (.str t),.val (.lst (af row)),.val (.int j),.val (.int l),.own (.lst (af am)),.val (.int k),p.2.1,p.2.2] =
     .ok ((br 0 j).map fun x=>PV.int (x:Nat)) [.val (.str t),.val (.lst (af row)),.val (.int j),.val (.int l),.own (.lst (af am)),.val (.int k),p.2.1,p.2.2] :=
    fX (dI (x:=.int j) rfl fQ) r2
   exact nL hd h)
 have fq:=e1
 dsimp only at fq
 rw[fL,show af ([]:List Tx)=[] from rfl,show(br j l).flatMap (fun k=>stI t row j l k)=lI t row j l from rfl]at fq
 clear e1
 have hd:Ek [.val (.str t),.val (.lst (af row)),.val (.int j),.val (.int l),.own (.lst []),.none,.none,.none] =
   .ok ((br j l).map fun x=>PV.int (x:Nat)) [.val (.str t),.val (.lst (af row)),.val (.int j),.val (.int l),.own (.lst []),.none,.none,.none] :=
  fX (dI (x:=.int j) rfl (dI (x:=.int l) rfl fQ)) r1
 have hb:d_law_stretches a [.val (.str t),.val (.lst (af row)),.val (.int j),.val (.int l),.none,.none,.none,.none] = .ok (.ret (.own (.lst (af (lI t row j l))))) [.val (.str t),.val (.lst (af row)),.val (.int j),.val (.int l),.none,s5,s6,s7]:=by
  rw[KJ]
  have h1:=oQ (i:=4) (ε:=[.val (.str t),.val (.lst (af row)),.val (.int j),.val (.int l),.none,.none,.none,.none]) (by simp)
  refine(c9 h1).trans ?_
  refine(vA hd fq).trans ?_
  exact tT rfl
 exact IT hb
def vS(a:Ad):ae->R ax:=c0 (dB (d2 (eqT false) (d2 bi (dV 2) (dV 5)) (d2 bi (dV 2) (dV 4)))) (jZ 3 (aR (aF (sj a) (gV (dV 0) (gV (dV 2) (gV (dV 5) (gV (dV 4) (Pu.bM)))))))) (dD)
def Dp:ae->R (List PV):=dL gx (ak (dV 4) (aq))
def v6(a:Ad):ae->R ax:=b8 5 Dp (vS a)
def vp:ae->R (List PV):=dL gx (ak (dL ba (ak (dV 2) (aq))) (aq))
def tM:ae->R ax:=c0 (dB (d2 (eqT false) (d2 bi (dV 2) (dC (.int 0))) (d2 bi (dV 2) (d1 gM (dC (.int 1)))))) (aA (bz 6 (d2 gU (aM aO (dV 0) (bI) (az (d2 cF (dL ba (ak (dV 2) (aq))) (dC (.int 1))))) (dC (.int 3))))
 (jZ 3 (dF (dU [6,0] (dL gz (ak (dC (.int 1)) (ak (d2 cF (dL ba (ak (dV 2) (aq))) (dC (.int 1))) (aq)))) (dN) (aM aO (dV 1) (az (dV 0)) (az (d2 ay (dV 0) (dL ba (ak (dV 2) (aq)))))))))) (dD)
def uM:ae->R ax:=cY (dF (dL ku (ak (dF (dU [0] (cQ (dM 3)) (dB (d2 (eqT true) (dV 0) (dV 1))) (dV 0))) (aq))))
theorem M0:d_law_moved a=aA (bz 2 (aR (aF (o0 a) (gV (dV 0) (gV (dV 1) (Pu.bM)))))) (aA (cZ 3 (dL bU (aq))) (aA (fun ε=>cu (b8 4 vp (v6 a) ε)) (aA tM uM))):=rfl
theorem M5(t:Tx)(W:PV)(row:List Tx)(l:Nat)(ht:t.length<=20)(hr:row.length<=10)(hl:l<row.length)(am:List Tx)(s5 s6:Slot)(hB:(am++qG t row l).length<=100000):∃ i6,
  dJ 5 (vS a) ((br 0 l).map fun x=>.int (x:Nat)) [.val (.str t),.val W,.val (.lst (af row)),.own (.lst (af am)),.val (.int l),s5,s6] =
   .ok .next [.val (.str t),.val W,.val (.lst (af row)),.own (.lst (af (am++qG t row l))),.val (.int l),i6,s6]:=by
 refine my (i:=5) (σ:=Slot) (fun am s5=>[.val (.str t),.val W,.val (.lst (af row)),.own (.lst (af am)),.val (.int l),s5,s6]) (fun j=>if aC row j=aC row l then lI t row j l else []) 100000 _ am s5 hB ?_
 intro j hj am s5 hB
 obtain⟨_,l2⟩:=DC.mp hj
 refine⟨.val (.int j),?_⟩
 have i1:=ln (row:=row) (i:=j) (by ac_rfl)
 have i2:=ln hl
 have he:=oV false (aC row j) (aC row l)
 simp only[rL]at he
 by_cases q:aC row j=aC row l
 ·rw[decide_eq_true q]at he
  rw[if_pos q]at hB ⊢
  have hc:=Oz (a:=a) t row j l ht hr hl (by ac_rfl)
  have aX:(af am).length+(af (lI t row j l)).length<=be:=by rw[ff,ff]; simp at hB; unfold be; ac_rfl
  rw[← sP]
  generalize af (lI t row j l)=EF at hc aX
  generalize aC row j=R1 at i1 he
  generalize aC row l=R2 at i2 he
  generalize af am=AC at aX
  generalize af row=RW at i1 i2 hc
  generalize ((j:Nat):Int)=si at i1 hc
  generalize ((l:Nat):Int)=gi at i2 hc
  have hx:aR (aF (sj a) (gV (dV 0) (gV (dV 2) (gV (dV 5) (gV (dV 4) (Pu.bM)))))) [.val (.str t),.val W,.val (.lst RW),.own (.lst AC),.val (.int gi),.val (.int si),s6] = .ok (.lst EF) [.val (.str t),.val W,.val (.lst RW),.own (.lst AC),.val (.int gi),.val (.int si),s6]:=sk (FV rfl rfl rfl rfl hc)
  have bF:dB (d2 (eqT false) (d2 bi (dV 2) (dV 5)) (d2 bi (dV 2) (dV 4))) [.val (.str t),.val W,.val (.lst RW),.own (.lst AC),.val (.int gi),.val (.int si),s6] = .ok true [.val (.str t),.val W,.val (.lst RW),.own (.lst AC),.val (.int gi),.val (.int si),s6]:=by
   simp![i1,i2,he]
  unfold vS
  exact(wo bF).trans (wC rfl hx rfl aX)
 ·rw[decide_eq_false q]at he
  rw[if_neg q,iz]
  generalize aC row j=R1 at i1 he
  generalize aC row l=R2 at i2 he
  generalize af am=AC
  generalize af row=RW at i1 i2
  generalize ((j:Nat):Int)=si at i1
  generalize ((l:Nat):Int)=gi at i2
  simp![vS,i1,i2,he]
theorem J4(t:Tx)(W:PV)(row:List Tx)(ht:t.length<=20)(hr:row.length<=10):∃ s4 s5,
  (fun ε=>cu (b8 4 vp (v6 a) ε)) [.val (.str t),.val W,.val (.lst (af row)),.own (.lst []),.none,.none,.none] = .ok .next [.val (.str t),.val W,.val (.lst (af row)),.own (.lst (af (mj t row))),s4,s5,.none]:=by
 have r1:=wQ (n:=row.length) (by ac_rfl)
 have hl:=wc row
 have hB:=Dk (t:=t) hr
 obtain⟨⟨s4,s5⟩,e1⟩:=my (i:=4) (db:=v6 a) (σ:=Slot×Slot)
  (fun am p=>[.val (.str t),.val W,.val (.lst (af row)),.own (.lst (af am)),p.1,p.2,.none]) (fun l=>qG t row l) 100000 (br 0 row.length) [] (.none,.none) (by rw[fL]; exact cp hB (by decide))
  (by
   intro l he am p hB
   obtain⟨e1,e2⟩:=DC.mp he
   obtain⟨i6,h⟩:=M5 (a:=a) t W row l ht hr e2 am p.2 .none hB
   refine⟨(.val (.int l),i6),?_⟩
   have r2:=wQ (n:=l) (by ac_rfl)
   have hd:Dp [.val (.str t),.val W,.val (.lst (af row)),.own (.lst (af am)),.val (.int l),p.2,.none] =
     .ok ((br 0 l).map fun x=>PV.int (x:Nat)) [.val (.str t),.val W,.val (.lst (af row)),.own (.lst (af am)),.val (.int l),p.2,.none] :=
    fX (dI (x:=.int l) rfl fQ) r2
   exact nL hd h)
 have fq:=e1
 dsimp only at fq
 rw[fL,show af ([]:List Tx)=[] from rfl,show(br 0 row.length).flatMap (fun l=>qG t row l)=mj t row from rfl]at fq
 clear e1
 have hd:vp [.val (.str t),.val W,.val (.lst (af row)),.own (.lst []),.none,.none,.none] = .ok ((br 0 row.length).map fun x=>PV.int (x:Nat)) [.val (.str t),.val W,.val (.lst (af row)),.own (.lst []),.none,.none,.none] :=
  fX (dI (fX (dI (x:=.lst (af row)) rfl fQ) hl) fQ) r1
 exact⟨s4,s5,BL hd fq⟩
def qJ(t:Tx)(m:Nat):List Tx:=(br 1 m).map fun p=>part (bj 3 (t.take m)).flatten p (p+t.length)
def fD(t:Tx)(row:List Tx):List Tx:=if aC row 0=aC row (row.length-1)then qJ t (row.length-1)else []
theorem E2(t:Tx)(row:List Tx):(fD t row).length<=row.length:=by
 unfold fD
 split
 ·unfold qJ; rw[cq,qt]; ac_rfl
 ·simp
theorem Q4(t:Tx)(m:Nat)(V1 V2:PV)(po:PO)(s4 s5:Slot)(F:Tx) :
  j0 [6,0] dN (aM aO (dV 1) (az (dV 0)) (az (d2 ay (dV 0) (dL ba (ak (dV 2) (aq)))))) ((br 1 m).map fun x=>.int (x:Nat)) [] [.val (.str t),.val V1,.val V2,.own po,s4,s5,.val (.str F)] =
   .ok (af ((br 1 m).map fun p=>part F p (p+t.length))) [.val (.str t),.val V1,.val V2,.own po,s4,s5,.val (.str F)]:=by
 have hc:=lu (cap:=[6,0]) (dt:=dN) (de:=(aM aO (dV 1) (az (dV 0)) (az (d2 ay (dV 0) (dL ba (ak (dV 2) (aq))))))) (ε:=[.val (.str t),.val V1,.val V2,.own po,s4,s5,.val (.str F)])
  (fun _=>true) (fun x=>match x with | .int i=>.str (part F i.toNat (i.toNat+t.length)) | _=>.non) ((br 1 m).map fun x=>.int (x:Nat))
  (by
   intro x hx
   obtain⟨i,_,rfl⟩:=b0.mp hx
   refine⟨by simp![et,dY,dr,dN],fun _=>?_⟩
   have hl:ba [.str t]=some (.int (t.length:Nat)):=rfl
   have ha:ay (.int i) (.int (t.length:Nat))=some (.int ((i+t.length:Nat):Int)):=by show some (PV.int _)=_; congr 2
   have s1:=nh F i (i+t.length)
   simp only[lR]
   generalize part F i (i+t.length)=P at s1
   generalize ((i+t.length:Nat):Int)=e at ha s1
   generalize ((t.length:Nat):Int)=tl at hl ha
   generalize ((i:Nat):Int)=ii at ha s1
   simp![et,dY,dr,aM,az,hl,ha,s1]) []
 rw[hc,fL,n0.mpr (by simp)]
 congr 1
 unfold af
 rw[dy,dy]
 refine f6 fun i _=>?_
 simp
theorem Mn(t:Tx)(W:PV)(row am:List Tx)(s4 s5:Slot)(ht:t.length<=20)(hr:1<=row.length)(n9:row.length<=t.length+1)(hB:(am++fD t row).length<=100000):∃ s6,
  tM [.val (.str t),.val W,.val (.lst (af row)),.own (.lst (af am)),s4,s5,.none] = .ok .next [.val (.str t),.val W,.val (.lst (af row)),.own (.lst (af (am++fD t row))),s4,s5,s6]:=by
 have i1:bi (.lst (af row)) (.int 0)=some (.str (aC row 0)):=ln (i:=0) (by ac_rfl)
 have i2:=Gc hr
 have he:=oV false (aC row 0) (aC row (row.length-1))
 simp only[rL]at he
 have uH:gM (.int 1)=some (.int (-1)):=rfl
 unfold fD at hB ⊢
 by_cases q:aC row 0=aC row (row.length-1)
 ·rw[decide_eq_true q]at he
  rw[if_pos q]at hB ⊢
  have hl:=wc row
  have hs:cF (.int (row.length:Nat)) (.int 1)=some (.int ((row.length-1:Nat):Int)):=by
   show some (PV.int _)=_
   congr 2; ac_rfl
  have s1:=mh t (row.length-1)
  have hm:gU (.str (t.take (row.length-1))) (.int 3)=some (.str (bj 3 (t.take (row.length-1))).flatten):=by
   show(if 0<=(3:Int)/\(3:Int)<=100/\(t.take (row.length-1)).length<=100 then some (PV.str (bj (3:Int).toNat (t.take (row.length-1))).flatten)else none)=_
   rw[if_pos ⟨by decide,by decide,by simp; ac_rfl⟩]; rfl
  have r1:gz [.int 1,.int ((row.length-1:Nat):Int)]=some ((br 1 (row.length-1)).map fun x=>.int (x:Nat)):=qK (lo:=1) (hi:=row.length-1) (by ac_rfl) (by ac_rfl)
  have hc:=Q4 t (row.length-1) W (.lst (af row)) (.lst (af am)) s4 s5 (bj 3 (t.take (row.length-1))).flatten
  rw[show((br 1 (row.length-1)).map fun p=>part (bj 3 (t.take (row.length-1))).flatten p (p+t.length))=qJ t (row.length-1)from rfl]at hc
  have aX:(af am).length+(af (qJ t (row.length-1))).length<=be:=by rw[ff,ff]; simp at hB; unfold be; ac_rfl
  refine⟨.val (.str (bj 3 (t.take (row.length-1))).flatten),?_⟩
  rw[← sP]
  generalize af (qJ t (row.length-1))=TT at hc aX
  generalize (br 1 (row.length-1)).map (fun x=>PV.int (x:Nat))=RG at r1 hc
  generalize (bj 3 (t.take (row.length-1))).flatten=F3 at hm hc
  generalize t.take (row.length-1)=T1 at s1 hm
  generalize ((row.length-1:Nat):Int)=m at hs s1 r1
  generalize ((row.length:Nat):Int)=n at hl hs
  generalize aC row 0=R1 at i1 he
  generalize aC row (row.length-1)=R2 at i2 he
  generalize af row=RW at i1 i2 hl hc
  generalize af am=AC at aX hc
  have bF:dB (d2 (eqT false) (d2 bi (dV 2) (dC (.int 0))) (d2 bi (dV 2) (d1 gM (dC (.int 1))))) [.val (.str t),.val W,.val (.lst RW),.own (.lst AC),s4,s5,.none] = .ok true [.val (.str t),.val W,.val (.lst RW),.own (.lst AC),s4,s5,.none]:=by
   simp![i1,i2,uH,he]
  unfold tM
  refine(wo bF).trans ?_
  have hset:bz 6 (d2 gU (aM aO (dV 0) (bI) (az (d2 cF (dL ba (ak (dV 2) (aq))) (dC (.int 1))))) (dC (.int 3))) [.val (.str t),.val W,.val (.lst RW),.own (.lst AC),s4,s5,.none] = .ok .next [.val (.str t),.val W,.val (.lst RW),.own (.lst AC),s4,s5,.val (.str F3)]:=by
   simp![hl,hs,aM,bI,az,s1,hm]
  refine(c9 hset).trans ?_
  have hrng:dL gz (ak (dC (.int 1)) (ak (d2 cF (dL ba (ak (dV 2) (aq))) (dC (.int 1))) (aq))) [.val (.str t),.val W,.val (.lst RW),.own (.lst AC),s4,s5,.val (.str F3)] = .ok RG [.val (.str t),.val W,.val (.lst RW),.own (.lst AC),s4,s5,.val (.str F3)] :=
   fX (dI (lG _ _) (dI (jE (fX (dI (x:=.lst RW) rfl fQ) hl) (lG _ _) hs) fQ)) r1
  have hx:dF (dU [6,0] (dL gz (ak (dC (.int 1)) (ak (d2 cF (dL ba (ak (dV 2) (aq))) (dC (.int 1))) (aq)))) (dN) (aM aO (dV 1) (az (dV 0)) (az (d2 ay (dV 0) (dL ba (ak (dV 2) (aq))))))) [.val (.str t),.val W,.val (.lst RW),.own (.lst AC),s4,s5,.val (.str F3)] = .ok (.lst TT) [.val (.str t),.val W,.val (.lst RW),.own (.lst AC),s4,s5,.val (.str F3)]:=by
   unfold dF dU
   rw[hrng,R.bind_ok,hc]
   rfl
  exact wC rfl hx rfl aX
 ·rw[decide_eq_false q]at he
  rw[if_neg q,iz]
  refine⟨.none,?_⟩
  generalize aC row 0=R1 at i1 he
  generalize aC row (row.length-1)=R2 at i2 he
  generalize af row=RW at i1 i2
  generalize af am=AC
  simp![tM,i1,i2,uH,he]
theorem NW(t:Tx)(W RW:PV)(ms:List Tx)(s4 s5 s6:Slot)(hm:ms.length<=3500) :
  uM [.val (.str t),.val W,.val RW,.own (.lst (af ms)),s4,s5,s6] = .ok (.ret (.val (.lst (af (bD (bP (dX ms t))))))) [.val (.str t),.val W,.val RW,.val (.lst (af ms)),s4,s5,s6]:=by
 have hc:=lu (cap:=[0]) (dt:=(dB (d2 (eqT true) (dV 0) (dV 1)))) (de:=dV 0) (ε:=[.val (.str t),.val W,.val RW,.val (.lst (af ms)),s4,s5,s6]) (fun x=>match x with | .str z=>decide (z≠t) | _=>false) (fun x=>x) (af ms)
  (by
   intro x hx
   obtain⟨z,_,rfl⟩:=b0.mp hx
   refine⟨?_,fun _=>by simp![et,dY,dr]⟩
   have he:=oV true z t
   simp only[xW]at he
   simp![et,dY,dr,he]) []
 have hf:((af ms).filter (fun x=>match x with | .str z=>decide (z≠t) | _=>false)).map (fun x=>x)=af (dX ms t):=by
  rw[List.map_id']
  unfold af dX
  rw[xV]
  rfl
 rw[fL,hf]at hc
 have hs:ku [.lst (af (dX ms t))]=some (.lst (af (bD (bP (dX ms t))))):=by
  show(fR (af (dX ms t))).bind _=_
  have h1:=wR (dX ms t)
  have h2:(dX ms t).length<=ms.length:=rK _ _
  rw[nH,jf,if_pos (by ac_rfl)]
 generalize af (bD (bP (dX ms t)))=A at hs
 generalize af (dX ms t)=B at hs hc
 generalize af ms=C at hc
 simp[uM,cY,dF,dL,ak,aq,dU,cQ,lZ,dM,R.bind,aW,hc,D3,hs]
def kl(t:Tx)(w:Nat):List Tx:=mj t (bv t (w-1))++fD t (bv t (w-1))
def iQ(t:Tx)(w:Nat):List Tx:=bD (bP (dX (kl t w) t))
theorem Kv(t:Tx)(w:Nat)(h:Tv t w)(h9:t.length+2<=w+10):oU a [.val (.str t),.val (.int w)] = .ok (.val (.lst (af (iQ t w)))) [.val (.str t),.val (.int w)]:=by
 have b1:=h.w1
 have b2:=h.w4
 have b3:=h.h1
 have e1:=Ls (a:=a) (t:=t) b1 (by ac_rfl) (by ac_rfl)
 have rY:=qB t (w-1)
 obtain⟨s4,s5,e2⟩:=J4 (a:=a) t (.int w) (bv t (w-1)) (by ac_rfl) (by ac_rfl)
 have l1:=Dk (t:=t) (row:=bv t (w-1)) (by ac_rfl)
 have l2:=E2 t (bv t (w-1))
 obtain⟨s6,e3⟩:=Mn t (.int w) (bv t (w-1)) (mj t (bv t (w-1))) s4 s5 (by ac_rfl) (by ac_rfl) (by ac_rfl) (by rw[cT]; ac_rfl)
 have e4:=NW t (.int w) (.lst (af (bv t (w-1)))) (kl t w) s4 s5 s6 (by unfold kl; rw[cT]; ac_rfl)
 have hb:d_law_moved a [.val (.str t),.val (.int w),.none,.none,.none,.none,.none] = .ok (.ret (.val (.lst (af (iQ t w))))) [.val (.str t),.val (.int w),.val (.lst (af (bv t (w-1)))),.val (.lst (af (kl t w))),s4,s5,s6]:=by
  rw[M0]
  have h0:bz 2 (aR (aF (o0 a) (gV (dV 0) (gV (dV 1) (Pu.bM))))) [.val (.str t),.val (.int w),.none,.none,.none,.none,.none] = .ok .next [.val (.str t),.val (.int w),.val (.lst (af (bv t (w-1)))),.none,.none,.none,.none]:=by
   refine o6 (x:=.lst (af (bv t (w-1)))) (ε1:=[.val (.str t),.val (.int w),.none,.none,.none,.none,.none]) (sk ?_)
   generalize af (bv t (w-1))=RW at e1
   generalize o0 a=G at e1
   simp![e1]
  have h1:cZ 3 (dL bU aq) [.val (.str t),.val (.int w),.val (.lst (af (bv t (w-1)))),.none,.none,.none,.none] = .ok .next [.val (.str t),.val (.int w),.val (.lst (af (bv t (w-1)))),.own (.lst []),.none,.none,.none]:=oQ (by simp)
  refine(c9 h0).trans ?_
  refine(c9 h1).trans ?_
  refine(c9 (d1:=fun ε=>cu (b8 4 vp (v6 a) ε)) e2).trans ?_
  refine(c9 e3).trans ?_
  exact e4
 unfold oU
 generalize d_law_moved a=D at hb
 generalize af (iQ t w)=A at hb
 generalize af (kl t w)=B at hb
 generalize af (bv t (w-1))=C at hb
 simp[bo,fF,bu,bj,hb,back,aW,R.bind,jB]
end
end Sh
namespace Sh
open L2 Pu Mx
theorem yF{p:Prop}[Decidable p]{z:Tx}{L:List Tx}:z∈(if p then L else [])↔p/\z∈L:=by split <;> simp[*]
def lK(t:Tx)(row:List Tx)(z:Tx):Prop:=∃ s e g l,s<e/\e<=g/\g<l/\l<row.length/\aC row s=aC row g/\aC row e=aC row l/\z=dz t s e g l
theorem EC{t:Tx}{row:List Tx}{z:Tx}:z∈mC t row↔lK t row z:=by
 unfold mC qS kt mz lK
 simp only[ux,DC,yF,f8]
 constructor
 ·rintro⟨s,hs,g,hg,q1,e,he,l,hl,q2,rfl⟩
  exact⟨s,e,g,l,by ac_rfl,by ac_rfl,by ac_rfl,hl.2,q1,q2,rfl⟩
 ·rintro⟨s,e,g,l,h1,h2,h3,h4,q1,q2,rfl⟩
  exact⟨s,⟨by ac_rfl,by ac_rfl⟩,g,⟨by ac_rfl,by ac_rfl⟩,q1,e,⟨by ac_rfl,by ac_rfl⟩,l,⟨by ac_rfl,h4⟩,q2,rfl⟩
theorem Ii{t:Tx}{row:List Tx}{z:Tx}:z∈mj t row↔lK t row z:=by
 unfold mj qG lI stI lK
 simp only[ux,DC,yF,f8]
 constructor
 ·rintro⟨l,hl,j,hj,q2,k,hk,i,hi,q1,rfl⟩
  exact⟨i,j,k,l,by ac_rfl,by ac_rfl,by ac_rfl,hl.2,q1,q2,rfl⟩
 ·rintro⟨s,e,g,l,h1,h2,h3,h4,q1,q2,rfl⟩
  exact⟨l,⟨by ac_rfl,h4⟩,e,⟨by ac_rfl,by ac_rfl⟩,q2,g,⟨by ac_rfl,by ac_rfl⟩,s,⟨by ac_rfl,by ac_rfl⟩,q1,rfl⟩
theorem Mw{R:Tx}{m w p:Nat}(hR:R.length=m)(w1:1<=w)(hw:w<=m+1)(hp:p<=m):fG (R.drop p++R.take p) w=part (bj 3 R).flatten p (p+(m+w-1)):=by
 have hl:(R.drop p++R.take p).length=m:=by simp; ac_rfl
 unfold fG part
 rw[hl,HA]
 have e3:((bj 3 R).flatten).drop p=(R.drop p++R.take p)++((R.drop p++R.take p)++R.drop p):=by
  have:(bj 3 R).flatten=R++(R++R):=by simp[bj]
  rw[this,Hx (by ac_rfl)]
  simp only[gh]
  rw[lU,← gh (R.take p),lU]
 rw[e3]
 generalize R.drop p++R.take p=Z at hl
 obtain⟨v,rfl⟩:∃ v,w=v+1:=⟨w-1,by ac_rfl⟩
 cases v with
 | zero =>
  have:(bj (0+1) Z).flatten=Z:=by simp
  rw[this,Bu (by ac_rfl)]
 | succ v =>
  have:(bj (v+1+1) Z).flatten=(Z++Z)++(bj v Z).flatten:=by simp[bj]
  rw[this,← gh,Bu (l₁:=Z++Z) (by simp; ac_rfl),Bu (l₁:=Z++Z) (by simp; ac_rfl)]
section
variable{a:Ad}
theorem KM{α:Type}(xs:List α)(k:Nat)(h1:1<=k):dj xs (some (-(k:Int))) none=xs.drop (xs.length-k):=by
 unfold dj
 rw[show HT.sIx xs.length xs.length none=xs.length from rfl]
 have:HT.sIx xs.length 0 (some (-(k:Int)))=xs.length-k:=by
  show(if(-(k:Int))<0 then((-(k:Int))+(xs.length:Int)).toNat else min (-(k:Int)).toNat xs.length)=_
  rw[if_pos (by ac_rfl)]
  ac_rfl
 rw[this,kH (by simp)]
def tU(a:Ad):ae->R ax:=bz 5 (d2 ay (dV 5) (aR (aF (kq a) (gV (dV 0) (gO 1 (gV (dF (dL bU (ak (aM aO (dV 5) (bI) (az (dC (.int 2)))) (ak (aM aO (dV 5) (bI) (az (dC (.int 3)))) (ak (aM aO (dV 5) (az (dC (.int 1))) (az (dC (.int 3)))) (ak (dC (.str [97])) (ak (dC (.str [98])) (ak (aM aO (dV 5) (az (d1 gM (dC (.int 2)))) (bI)) (aq))))))))) (Pu.bM)))))))
def tH:ae->R Bool:=dB (d2 (gX fun i j=>decide (i<j)) (dL ba (ak (dV 5) (aq))) (d2 cF (dV 3) (dC (.int 2))))
theorem MR:d_law_like a=aA (bz 4 (d2 ay (dC (.int 1)) (aR (aF (kq a) (gV (dV 0) (gO 1 (gV (dF (dL bU (ak (dC (.int 1)) (ak (dC (.int 1)) (ak (dC (.int 2)) (ak (dC (.int 2)) (ak (dC (.int 3)) (aq)))))))) (Pu.bM))))))))
 (aA (bz 5 (aR (aF (nu a) (gV (dV 0) (gO 1 (gV (dV 2) (gV (dC (.int 4)) (Pu.bM))))))))
 (aA (fun ε=>cu (ez tH (tU a) 1000 ε))
 (cY (dL i9 (ak (aM aO (dV 5) (bI) (az (dL tu (ak (dV 4) (ak (d2 cF (dV 3) (aR (aF (jo a) (gV (dV 0) (gO 1 (gV (dC (.int 3)) (Pu.bM))))))) (aq)))))) (ak (dV 4) (aq))))))):=rfl
theorem L1(ns:List Int)(xs:List PV)(L M W:PV)(z:Tx)(hz:2<=z.length)(hz2:z.length<=12)(hc:∀ c∈z,c∈ca)(hx:xs.length<=900):∃ y:Tx,1<=y.length/\y.length<=3/\(∀ c∈y,c∈ca) /\
  tU a [bg ns,.own (.lst xs),.val L,.val M,.val W,.val (.str z)] = .ok .next [bg ns,.own (.lst (xs++[.int 0])),.val L,.val M,.val W,.val (.str (z++y))]:=by
 obtain⟨x,hm,hp⟩:=zd (a:=a) ns xs [.str (z.take 2),.str (z.take 3),.str (part z 1 3),.str [97],.str [98],.str (z.drop (z.length-2))] (by ac_rfl) (by simp)
 obtain⟨y,rfl,y1,y2,y3⟩:∃ y:Tx,x = .str y/\1<=y.length/\y.length<=3/\∀ c∈y,c∈ca:=by
  simp only[bH,jM,or_false]at hm
  rcases hm with rfl | rfl | rfl | rfl | rfl | rfl
  ·exact⟨_,rfl,by simp; ac_rfl,by simp; ac_rfl,fun c h=>hc c (iV h)⟩
  ·exact⟨_,rfl,by simp; ac_rfl,by simp; ac_rfl,fun c h=>hc c (iV h)⟩
  ·exact⟨_,rfl,by unfold part; simp; ac_rfl,by unfold part; simp; ac_rfl,fun c h=>hc c (mT (iV h))⟩
  ·exact⟨_,rfl,by simp,by simp,by simp[ca]⟩
  ·exact⟨_,rfl,by simp,by simp,by simp[ca]⟩
  ·exact⟨_,rfl,by simp; ac_rfl,by simp; ac_rfl,fun c h=>hc c (mT h)⟩
 refine⟨y,y1,y2,y3,?_⟩
 have s1:aO (.str z) none (some 2)=some (.str (z.take 2)):=mh z 2
 have s2:aO (.str z) none (some 3)=some (.str (z.take 3)):=mh z 3
 have s3:aO (.str z) (some 1) (some 3)=some (.str (part z 1 3)):=nh z 1 3
 have s4:aO (.str z) (some (-2)) none=some (.str (z.drop (z.length-2))):=by
  show some (PV.str (dj z (some (-((2:Nat):Int))) none))=_
  rw[KM _ _ (by decide)]
 have hn:gM (.int 2)=some (.int (-2)):=rfl
 have ha:ay (.str z) (.str y)=some (.str (z++y)):=jt (by unfold be; ac_rfl)
 generalize z++y=ZY at ha
 generalize z.take 2=Z1 at s1 hp
 generalize z.take 3=Z2 at s2 hp
 generalize part z 1 3=Z3 at s3 hp
 generalize z.drop (z.length-2)=Z4 at s4 hp
 unfold tU
 generalize kq a=G at hp ⊢
 have hL:dF (dL bU (ak (aM aO (dV 5) (bI) (az (dC (.int 2)))) (ak (aM aO (dV 5) (bI) (az (dC (.int 3)))) (ak (aM aO (dV 5) (az (dC (.int 1))) (az (dC (.int 3)))) (ak (dC (.str [97])) (ak (dC (.str [98])) (ak (aM aO (dV 5) (az (d1 gM (dC (.int 2)))) (bI)) (aq)))))))) [bg ns,.own (.lst xs),.val L,.val M,.val W,.val (.str z)] = .ok (.lst [.str Z1,.str Z2,.str Z3,.str [97],.str [98],.str Z4]) [bg ns,.own (.lst xs),.val L,.val M,.val W,.val (.str z)]:=by
  simp![aM,az,bI,s1,s2,s3,s4,hn]
 have hd:aR (aF G (gV (dV 0) (gO 1 (gV (dF (dL bU (ak (aM aO (dV 5) (bI) (az (dC (.int 2)))) (ak (aM aO (dV 5) (bI) (az (dC (.int 3)))) (ak (aM aO (dV 5) (az (dC (.int 1))) (az (dC (.int 3)))) (ak (dC (.str [97])) (ak (dC (.str [98])) (ak (aM aO (dV 5) (az (d1 gM (dC (.int 2)))) (bI)) (aq))))))))) (Pu.bM))))) [bg ns,.own (.lst xs),.val L,.val M,.val W,.val (.str z)] = .ok (.str y) [bg ns,.own (.lst (xs++[.int 0])),.val L,.val M,.val W,.val (.str z)]:=by
  generalize dF (dL bU _)=D at hL ⊢
  simp[aR,aF,gV,gO,Pu.bM,dV,hL,R.bind,aW,cS,e_,hp,ig,fA,fU,E5]
 exact o6 (jE (x:=.str z) rfl hd ha)
theorem EU(ns:List Int)(xs:List PV)(L W:PV)(most:Nat)(z:Tx)(hm:2<=most):tH [bg ns,.own (.lst xs),.val L,.val (.int most),.val W,.val (.str z)] = .ok (decide (z.length<most-2)) [bg ns,.own (.lst xs),.val L,.val (.int most),.val W,.val (.str z)]:=by
 have hl:ba [.str z]=some (.int (z.length:Nat)):=rfl
 have hs:cF (.int most) (.int 2)=some (.int ((most-2:Nat):Int)):=by
  show some (PV.int _)=_
  congr 2; ac_rfl
 have hd:decide (((z.length:Nat):Int)<((most-2:Nat):Int))=decide (z.length<most-2):=by
  by_cases q:z.length<most-2
  ·rw[decide_eq_true q,decide_eq_true (by ac_rfl)]
  ·rw[decide_eq_false q,decide_eq_false (by ac_rfl)]
 rw[← hd]
 generalize ((most-2:Nat):Int)=m2 at hs
 generalize ((z.length:Nat):Int)=zl at hl
 simp![tH,hl,hs]
theorem zQ{t:ae->R Bool}{db:ae->R ax}{n:Nat}{ε ε1 ε2:ae}(h:t ε = .ok true ε1)(h2:db ε1 = .ok .next ε2):ez t db (n+1) ε=ez t db n ε2:=by
 rw[ez,h,R.bind_ok]
 simp only
 rw[h2]
theorem xr{t:ae->R Bool}{db:ae->R ax}{n:Nat}{ε ε1:ae}(h:t ε = .ok false ε1):ez t db (n+1) ε = .ok .next ε1:=by
 rw[ez,h,R.bind_ok]
theorem Kn(ns:List Int)(L W:PV)(most:Nat)(m6:6<=most)(m10:most<=10):∀ (k bw:Nat) (xs:List PV) (z:Tx),most-2-z.length<=k->k<bw->2<=z.length->z.length<=most->(∀ c∈z,c∈ca)->xs.length+k<=900 ->
  ∃ (ys:List PV) (y:Tx),most<=y.length+2/\y.length<=most/\(∀ c∈y,c∈ca)/\ys.length<=xs.length+k/\ez tH (tU a) bw [bg ns,.own (.lst xs),.val L,.val (.int most),.val W,.val (.str z)] = .ok .next [bg ns,.own (.lst ys),.val L,.val (.int most),.val W,.val (.str y)]:=by
 intro k
 induction k with
 | zero =>
  intro bw xs z h1 h2 h3 h4 hc hx
  obtain⟨f,rfl⟩:∃ f,bw=f+1:=⟨bw-1,by ac_rfl⟩
  have c:=EU ns xs L W most z (by ac_rfl)
  rw[decide_eq_false (by ac_rfl)]at c
  exact⟨xs,z,by ac_rfl,h4,hc,by ac_rfl,xr c⟩
 | succ k ih =>
  intro bw xs z h1 h2 h3 h4 hc hx
  obtain⟨f,rfl⟩:∃ f,bw=f+1:=⟨bw-1,by ac_rfl⟩
  have c:=EU ns xs L W most z (by ac_rfl)
  by_cases q:z.length<most-2
  ·rw[decide_eq_true q]at c
   obtain⟨y,y1,y2,y3,hb⟩:=L1 (a:=a) ns xs L (.int most) W z h3 (by ac_rfl) hc (by ac_rfl)
   obtain⟨ys,v,v1,v2,v3,v4,hw⟩:=ih f (xs++[.int 0]) (z++y) (by simp; ac_rfl) (by ac_rfl) (by simp; ac_rfl) (by simp; ac_rfl) (fun d hd=>by
    rcases dO.mp hd with hd | hd
    ·exact hc d hd
    ·exact y3 d hd) (by simp; ac_rfl)
   refine⟨ys,v,v1,v2,v3,?_,(zQ c hb).trans hw⟩
   simp at v4; ac_rfl
  ·rw[decide_eq_false q]at c
   exact⟨xs,z,by ac_rfl,h4,hc,by ac_rfl,xr c⟩
theorem N6(ns:List Int)(xs:List PV)(low most:Nat)(l2:2<=low)(l4:low<=4)(m6:6<=most)(m10:most<=10)(hx:xs.length<=400):∃ (t:Tx) (w:Nat) (ys:List PV),2<=w/\w<=4/\most<=t.length+2/\t.length<=most/\(∀ c∈t,c∈ca)/\ys.length<=xs.length+30 /\
  o7 a [bg ns,.own (.lst xs),.val (.int low),.val (.int most)] = .ok (.val (.tup [.str t,.int w])) [bg ns,.own (.lst ys),.val (.int low),.val (.int most)]:=by
 obtain⟨f,hf,hp⟩:=zd (a:=a) ns xs [.int 1,.int 1,.int 2,.int 2,.int 3] (by ac_rfl) (by decide)
 obtain⟨w0,rfl,f0,f1⟩:∃ w0:Nat,f = .int w0/\1<=w0/\w0<=3:=by
  simp only[bH,jM,or_false]at hf
  rcases hf with rfl | rfl | rfl | rfl | rfl
  ·exact⟨1,rfl,by decide,by decide⟩
  ·exact⟨1,rfl,by decide,by decide⟩
  ·exact⟨2,rfl,by decide,by decide⟩
  ·exact⟨2,rfl,by decide,by decide⟩
  ·exact⟨3,rfl,by decide,by decide⟩
 obtain⟨z,y1,z1,z2,zabc,hy1,hz⟩:=Kx (a:=a) ns (xs++[.int 0]) low 4 l4 (by decide) (by simp; ac_rfl)
 simp only[cT,xD]at hy1
 obtain⟨y2,z',c1,c2,c3,hy2,hw⟩:=Kn (a:=a) ns (.int low) (.int ((w0+1:Nat):Int)) most m6 m10 10 1000 y1 z (by ac_rfl) (by ac_rfl) (by ac_rfl) (by ac_rfl) zabc (by ac_rfl)
 obtain⟨v,v0,v1,hv⟩:=tN (a:=a) ns y2 3 (by decide) (by ac_rfl)
 obtain⟨d,rfl⟩:∃ d:Nat,v=d:=⟨v.toNat,by ac_rfl⟩
 obtain⟨n,hn,n1,n2⟩:∃ n:Nat,tu [.int ((w0+1:Nat):Int),.int ((most:Int)-d)]=some (.int n)/\most<=n+2/\n<=most:=by
  refine⟨most-d,?_,by ac_rfl,by ac_rfl⟩
  show some (PV.int (if((most:Int)-d) > ((w0+1:Nat):Int)then((most:Int)-d)else((w0+1:Nat):Int)))=_
  congr 2
  split <;> ac_rfl
 refine⟨z'.take n,w0+1,y2++[.int 0],by ac_rfl,by ac_rfl,by simp; ac_rfl,by simp; ac_rfl,fun c h=>c3 c (iV h),by simp; ac_rfl,?_⟩
 have kR:ay (.int 1) (.int w0)=some (.int ((w0+1:Nat):Int)):=by
  show some (PV.int _)=_
  congr 2; ac_rfl
 have jh:cF (.int most) (.int d)=some (.int ((most:Int)-d)):=rfl
 have vd:=mh z' n
 have hb:d_law_like a [bg ns,.own (.lst xs),.val (.int low),.val (.int most),.none,.none] = .ok (.ret (.val (.tup [.str (z'.take n),.int ((w0+1:Nat):Int)]))) [bg ns,.own (.lst (y2++[.int 0])),.val (.int low),.val (.int most),.val (.int ((w0+1:Nat):Int)),.val (.str z')]:=by
  rw[MR]
  generalize (most:Int)-d=md at hn jh
  generalize ((d:Nat):Int)=di at hv jh
  generalize ((w0+1:Nat):Int)=wi at hn kR hw ⊢
  generalize z'.take n=ZN at vd ⊢
  generalize ((n:Nat):Int)=ni at hn vd
  have k1:bz 4 (d2 ay (dC (.int 1)) (aR (aF (kq a) (gV (dV 0) (gO 1 (gV (dF (dL bU (ak (dC (.int 1)) (ak (dC (.int 1)) (ak (dC (.int 2)) (ak (dC (.int 2)) (ak (dC (.int 3)) (aq)))))))) (Pu.bM))))))) [bg ns,.own (.lst xs),.val (.int low),.val (.int most),.none,.none] = .ok .next [bg ns,.own (.lst (xs++[.int 0])),.val (.int low),.val (.int most),.val (.int wi),.none]:=by
   generalize kq a=G at hp ⊢
   simp![hp,kR]
  have k2:bz 5 (aR (aF (nu a) (gV (dV 0) (gO 1 (gV (dV 2) (gV (dC (.int 4)) (Pu.bM))))))) [bg ns,.own (.lst (xs++[.int 0])),.val (.int low),.val (.int most),.val (.int wi),.none] = .ok .next [bg ns,.own (.lst y1),.val (.int low),.val (.int most),.val (.int wi),.val (.str z)]:=by
   have rZ:nu a [bg ns,.own (.lst (xs++[.int 0])),.val (.int low),.val (.int 4)] = .ok (.val (.str z)) [bg ns,.own (.lst y1),.val (.int low),.val (.int 4)]:=hz
   generalize nu a=G at rZ ⊢
   simp![rZ]
  refine(c9 k1).trans ?_
  refine(c9 k2).trans ?_
  refine(c9 (d1:=fun ε=>cu (ez tH (tU a) 1000 ε)) (by show cu _=_; rw[hw]; rfl)).trans ?_
  generalize jo a=G at hv ⊢
  simp![hv,jh,hn,aM,az,bI,vd]
 unfold o7
 generalize d_law_like a=D at hb
 simp[bo,fF,bu,bj,hb,back,aW,R.bind,jB]
end
end Sh
namespace Mx
open L2 Pu
theorem tZ{z:Tx}{w:Nat}(hw:1<=w):(aS z w).length=z.length+1-w:=by rw[l0 z w hw]; simp
def cR(t:Tx)(w:Nat):List Tx:=(dA t.length).filter fun z=>(aS z w).isPerm (aS t w)
theorem RJ{t z:Tx}{w:Nat}:z∈cR t w↔z.length=t.length/\(∀ c∈z,c∈ca)/\(aS z w).Perm (aS t w):=by
 unfold cR
 rw[jc,ol,Bq]
 exact⟨fun⟨⟨a,b⟩,c⟩=>⟨a,b,c⟩,fun⟨a,b,c⟩=>⟨⟨a,b⟩,c⟩⟩
theorem Fu(t:Tx)(w:Nat):(cR t w).Nodup:=(C1 _).filter _
theorem Ny{t:Tx}{w:Nat}(hw:1<=w)(h1:w<=t.length)(ha:∀ c∈t,c∈ca):kC w (bD (aS t w))=cR t w:=by
 have hp:=jF (aS t w)
 have hl:(bD (aS t w)).length=t.length+1-w:=by rw[hp.length_eq,tZ hw]
 have h:=EM (w:=w) (ls:=bD (aS t w)) hw (by ac_rfl) fun x hx=>by
  obtain⟨a,b⟩:=GD (hp.mem_iff.mp hx)
  exact⟨a,fun c hc=>ha c (b c hc)⟩
 rw[h,hl]
 unfold cR
 rw[show w-1+(pt t+1-w)=pt t by ac_rfl]
 refine Hw fun z _=>?_
 rw[ph,Bq,Bq]
 exact⟨fun q=>q.trans hp,fun q=>q.trans hp.symm⟩
end Mx
namespace Sh
open L2 Pu Mx
def sg(s e g l i:Nat):Nat:=if i<s then i else if i<s+(l-g)then g+(i-s)else if i<s+(l-g)+(g-e)then e+(i-(s+(l-g)))else if i<l then s+(i-(s+(l-g)+(g-e)))else i
theorem qh{t:Tx}{i j:Nat}(h:j<=t.length):(part t i j).length=j-i:=by unfold part; simp; ac_rfl
theorem Ax{t:Tx}{i j k:Nat}(h:k<j-i):(part t i j)[k]?=t[i+k]?:=by
 unfold part
 rw[iD,if_pos h,jO]
theorem wJ{t:Tx}{s e g l:Nat}(h1:s<e)(h2:e<=g)(h3:g<l)(h4:l<=t.length):(dz t s e g l).length=t.length:=by
 unfold dz
 rw[cT,cT,cT,cT,qh h4,qh (by ac_rfl),qh (by ac_rfl),gE,je]
 ac_rfl
theorem vI{t:Tx}{s e g l:Nat}(h1:s<e)(h2:e<=g)(h3:g<l)(h4:l<=t.length)(i:Nat):(dz t s e g l)[i]?=t[sg s e g l i]?:=by
 have e1:(t.take s).length=s:=by simp; ac_rfl
 have e2:=qh (t:=t) (i:=g) (j:=l) h4
 have e3:=qh (t:=t) (i:=e) (j:=g) (by ac_rfl)
 have e4:=qh (t:=t) (i:=s) (j:=e) (by ac_rfl)
 unfold dz sg
 by_cases c1:i<s
 ·rw[if_pos c1,gh,gh,gh,fJ (by ac_rfl),iD,if_pos c1]
 ·rw[if_neg c1,gh,gh,gh,jJ (by ac_rfl),e1]
  by_cases c2:i<s+(l-g)
  ·rw[if_pos c2,fJ (by ac_rfl),Ax (by ac_rfl)]
  ·rw[if_neg c2,jJ (by ac_rfl),e2]
   by_cases c3:i<s+(l-g)+(g-e)
   ·rw[if_pos c3,fJ (by ac_rfl),Ax (by ac_rfl),show i-s-(l-g)=i-(s+(l-g)) by ac_rfl]
   ·rw[if_neg c3,jJ (by ac_rfl),e3]
    by_cases c4:i<l
    ·rw[if_pos c4,fJ (by ac_rfl),Ax (by ac_rfl)]
     congr 1; ac_rfl
    ·rw[if_neg c4,jJ (by ac_rfl),e4,jO]
     congr 1; ac_rfl
theorem yY{s e g l i:Nat}(h:i<s):sg s e g l i=i:=if_pos h
theorem sG {s e g l i:Nat} (a:¬ i<s)(h:i<s+(l-g)):sg s e g l i=g+(i-s):=by unfold sg; rw[if_neg a,if_pos h]
theorem vP {s e g l i:Nat} (a:¬ i<s+(l-g))(h:i<s+(l-g)+(g-e)):sg s e g l i=e+(i-(s+(l-g))):=by unfold sg; rw[if_neg fun z => a (rM _ z),if_neg a,if_pos h]
theorem xj {s e g l i:Nat} (a:¬ i<s+(l-g)+(g-e))(h:i<l):sg s e g l i=s+(i-(s+(l-g)+(g-e))):=by unfold sg; rw[if_neg fun z => a (rM _ (rM _ z)),if_neg fun z => a (rM _ z),if_neg a,if_pos h]
theorem zc {s e g l i:Nat} (a:¬ i<s+(l-g)+(g-e))(h:¬ i<l):sg s e g l i=i:=by unfold sg; rw[if_neg fun z => a (rM _ (rM _ z)),if_neg fun z => a (rM _ z),if_neg a,if_neg h]
theorem Oi {s e g l:Nat}(h1:s<e)(h2:e<=g)(h3:g<l) (i:Nat):sg s e g l (i+1)=sg s e g l i+1\/(sg s e g l (i+1)=g/\sg s e g l i+1=s)\/(sg s e g l (i+1)=e/\sg s e g l i+1=l)\/(sg s e g l (i+1)=s/\sg s e g l i+1=l/\e=g)\/(sg s e g l (i+1)=s/\sg s e g l i+1=g)\/(sg s e g l (i+1)=l/\sg s e g l i+1=e):=by
 by_cases a1:i+1<s
 ·exact .inl (by rw[yY a1,yY (Bv a1)])
 by_cases a2:i+1<s+(l-g)
 ·by_cases b:i<s
  ·exact .inr (.inl ⟨by rw[sG a1 a2]; ac_rfl,by rw[yY b]; ac_rfl⟩)
  ·exact .inl (by rw[sG a1 a2,sG b (Bv a2)]; ac_rfl)
 by_cases a3:i+1<s+(l-g)+(g-e)
 ·by_cases b:i<s+(l-g)
  ·exact .inr (.inr (.inl ⟨by rw[vP a2 a3]; ac_rfl,by rw[sG (by ac_rfl) b]; ac_rfl⟩))
  ·exact .inl (by rw[vP a2 a3,vP b (Bv a3)]; ac_rfl)
 by_cases a4:i+1<l
 ·by_cases b:i<s+(l-g)+(g-e)
  ·have q:sg s e g l (i+1)=s:=by rw[xj a3 a4]; ac_rfl
   by_cases c:i<s+(l-g)
   ·exact .inr (.inr (.inr (.inl ⟨q,by rw[sG (by ac_rfl) c]; ac_rfl,by ac_rfl⟩)))
   ·exact .inr (.inr (.inr (.inr (.inl ⟨q,by rw[vP c b]; ac_rfl⟩))))
  ·exact .inl (by rw[xj a3 a4,xj b (Bv a4)]; ac_rfl)
 ·by_cases b:i<l
  ·exact .inr (.inr (.inr (.inr (.inr ⟨by rw[zc a3 a4]; ac_rfl,by rw[xj (by ac_rfl) b]; ac_rfl⟩))))
  ·exact .inl (by rw[zc a3 a4,zc (by ac_rfl) b])
theorem An {s e g l:Nat}(h1:s<e)(h2:e<=g)(h3:g<l) (j:Nat):sg s e g l (sg s (s+(l-g)) (s+(l-g)+(g-e)) l j)=j:=by
 have hj:∀ i,sg s (s+(l-g)) (s+(l-g)+(g-e)) l j=i -> sg s e g l i=j:=by
  intro i hi
  unfold sg at hi ⊢
  (repeat' split at hi) <;> (repeat' split) <;> ac_rfl
 exact hj _ rfl
theorem De {s e g l m:Nat}(h1:s<e)(h2:e<=g)(h3:g<l)(h4:l<=m) {i:Nat}(h:i<m):sg s e g l i<m:=by
 unfold sg
 (repeat' split) <;> ac_rfl
theorem Nq {s e g l:Nat}(h1:s<e)(h2:e<=g)(h3:g<l) {i j:Nat}(h:sg s e g l i=sg s e g l j):i=j:=by
 have r:∀ k,sg s (s+(l-g)) (s+(l-g)+(g-e)) l (sg s e g l k)=k:=fun k => by
  have:=An (s:=s) (e:=s+(l-g)) (g:=s+(l-g)+(g-e)) (l:=l) (by ac_rfl) (by ac_rfl) (by ac_rfl) k
  rwa [show s+(l-(s+(l-g)+(g-e)))=e by ac_rfl,show e+(s+(l-g)+(g-e)-(s+(l-g)))=g by ac_rfl] at this
 rw[← r i,h,r j]
theorem JG{s e g l m:Nat}(h1:s<e)(h2:e<=g)(h3:g<l)(h4:l<=m):((bE m).map (sg s e g l)).Perm (bE m):=by
 rw[Hz ?_ List.nodup_range]
 ·intro j
  rw[b0,nM]
  constructor
  ·rintro⟨i,hi,rfl⟩
   exact De h1 h2 h3 h4 (nM.mp hi)
  ·intro hj
   exact⟨sg s (s+(l-g)) (s+(l-g)+(g-e)) l j,nM.mpr (De (by ac_rfl) (by ac_rfl) (by ac_rfl) h4 hj),An h1 h2 h3 j⟩
 ·show List.Pairwise _ _
  rw[A7]
  exact List.Pairwise.imp (fun b9 rW=>b9 (Nq h1 h2 h3 rW)) (List.nodup_range (n:=m))
def Pc(t:Tx)(v i j:Nat):Prop:=∀ k,k<v->t[i+k]?=t[j+k]?
theorem vK{t:Tx}{v s e g l:Nat}(h1:s<e)(h2:e<=g)(h3:g<l)(h4:l<=t.length)(p1:Pc t v s g)(p2:Pc t v e l):∀ k,k<=v->∀ i,(dz t s e g l)[i+k]?=t[sg s e g l i+k]?
 | 0,_,i=>vI h1 h2 h3 h4 i
 | k+1,hk,i=>by
  have ih:=vK h1 h2 h3 h4 p1 p2 k (by ac_rfl) (i+1)
  rw[show i+(k+1)=i+1+k by ac_rfl,ih,show sg s e g l i+(k+1)=sg s e g l i+1+k by ac_rfl]
  rcases Oi h1 h2 h3 i with q | ⟨q,r⟩ | ⟨q,r⟩ | ⟨q,r,u⟩ | ⟨q,r⟩ | ⟨q,r⟩ <;> rw[q]
  ·rw[r]; exact(p1 k (by ac_rfl)).symm
  ·rw[r]; exact p2 k (by ac_rfl)
  ·rw[r,p1 k (by ac_rfl),← u]; exact p2 k (by ac_rfl)
  ·rw[r]; exact p1 k (by ac_rfl)
  ·rw[r]; exact(p2 k (by ac_rfl)).symm
theorem oI{t z:Tx}{i j w:Nat}(h:∀ k,k<w->z[i+k]?=t[j+k]?):(z.drop i).take w=(t.drop j).take w:=by
 refine jN fun k=>?_
 rw[iD,iD]
 split
 ·rename_i hk
  rw[jO,jO]; exact h k hk
 ·rfl
theorem oz{t:Tx}{v i j:Nat}(h:(t.drop i).take v=(t.drop j).take v):Pc t v i j:=fun k hk=>by
 have:=congrArg (fun l:Tx=>l[k]?) h
 simpa[iD,hk,jO]using this
theorem nq{t:Tx}{v i:Nat}(h:i<t.length+1-v):aC (bv t v) i=(t.drop i).take v:=by
 unfold Sh.aC bv
 simp[h]
theorem LK{t:Tx}{w s e g l:Nat}(w1:1<=w)(h1:s<e)(h2:e<=g)(h3:g<l)(h4:l+w<=t.length+1)(p1:Pc t (w-1) s g)(p2:Pc t (w-1) e l):(aS (dz t s e g l) w).Perm (aS t w):=by
 have hl:l<=t.length:=by ac_rfl
 rw[l0 _ _ w1,l0 _ _ w1,wJ h1 h2 h3 hl]
 have:(bE (t.length+1-w)).map (fun i=>((dz t s e g l).drop i).take w)=((bE (t.length+1-w)).map (sg s e g l)).map fun j=>(t.drop j).take w:=by
  rw[dy]
  refine f6 fun i _=>?_
  exact oI fun k hk=>vK h1 h2 h3 hl p1 p2 k (by ac_rfl) i
 rw[this]
 exact(JG h1 h2 h3 (by ac_rfl)).map _
theorem Cw{s e g l:Nat}(h1:s<e)(h2:e<=g)(h3:g<l):sg s e g l s=g:=by unfold sg; (repeat' split) <;> ac_rfl
theorem Kg{s e g l:Nat}(h1:s<e)(h2:e<=g)(h3:g<l):sg s e g l (s+(l-g)+(g-e))=s:=by unfold sg; (repeat' split) <;> ac_rfl
theorem NN{s e g l:Nat}(h1:s<e)(h2:e<=g)(h3:g<l):sg s e g l l=l:=by unfold sg; (repeat' split) <;> ac_rfl
theorem J_{s e g l:Nat}(h1:s<e)(h2:e<=g)(h3:g<l):sg s e g l (s+(l-g))=e\/(sg s e g l (s+(l-g))=s/\e=g):=by unfold sg; (repeat' split) <;> ac_rfl
theorem NM{t:Tx}{s e g l:Nat}(h1:s<e)(h2:e<=g)(h3:g<l)(h4:l<=t.length):dz (dz t s e g l) s (s+(l-g)) (s+(l-g)+(g-e)) l=t:=by
 refine jN fun i=>?_
 rw[vI (by ac_rfl) (by ac_rfl) (by ac_rfl) (by rw[wJ h1 h2 h3 h4]; exact h4),vI h1 h2 h3 h4,An h1 h2 h3]
theorem wP{t:Tx}{w:Nat}(w1:1<=w){z:Tx}:lK t (bv t (w-1)) z↔∃ s e g l,s<e/\e<=g/\g<l/\l+w<=t.length+1/\Pc t (w-1) s g/\Pc t (w-1) e l/\z=dz t s e g l:=by
 unfold lK
 rw[qB]
 constructor
 ·rintro⟨s,e,g,l,h1,h2,h3,h4,q1,q2,rfl⟩
  rw[nq (by ac_rfl),nq (by ac_rfl)]at q1 q2
  exact⟨s,e,g,l,h1,h2,h3,by ac_rfl,oz q1,oz q2,rfl⟩
 ·rintro⟨s,e,g,l,h1,h2,h3,h4,q1,q2,rfl⟩
  refine⟨s,e,g,l,h1,h2,h3,by ac_rfl,?_,?_,rfl⟩
  ·rw[nq (by ac_rfl),nq (by ac_rfl)]; exact oI q1
  ·rw[nq (by ac_rfl),nq (by ac_rfl)]; exact oI q2
theorem IY{t z:Tx}{w:Nat}(w1:1<=w)(h:lK t (bv t (w-1)) z):lK z (bv z (w-1)) t:=by
 obtain⟨s,e,g,l,h1,h2,h3,h4,q1,q2,rfl⟩:=(wP w1).mp h
 have hl:l<=t.length:=by ac_rfl
 have hw:=fun k hk i=>vK h1 h2 h3 hl q1 q2 k hk i
 refine(wP w1).mpr ⟨s,s+(l-g),s+(l-g)+(g-e),l,by ac_rfl,by ac_rfl,by ac_rfl,by rw[wJ h1 h2 h3 hl]; exact h4,fun k hk=>?_,fun k hk=>?_,(NM h1 h2 h3 hl).symm⟩
 ·rw[hw k (by ac_rfl),hw k (by ac_rfl),Cw h1 h2 h3,Kg h1 h2 h3]
  exact(q1 k hk).symm
 ·rw[hw k (by ac_rfl),hw k (by ac_rfl),NN h1 h2 h3]
  rcases J_ h1 h2 h3 with q | ⟨q,r⟩ <;> rw[q]
  ·exact q2 k hk
  ·rw[q1 k hk,← r]; exact q2 k hk
theorem Gg{t z:Tx}{w:Nat}(w1:1<=w)(h:lK t (bv t (w-1)) z):z.length=t.length/\(aS z w).Perm (aS t w)/\∀ c∈z,c∈t:=by
 obtain⟨s,e,g,l,h1,h2,h3,h4,q1,q2,rfl⟩:=(wP w1).mp h
 refine⟨wJ h1 h2 h3 (by ac_rfl),LK w1 h1 h2 h3 h4 q1 q2,fun c hc=>?_⟩
 unfold dz part at hc
 simp only[dO]at hc
 rcases hc with(((hc | hc) | hc) | hc) | hc
 ·exact iV hc
 ·exact mT (iV hc)
 ·exact mT (iV hc)
 ·exact mT (iV hc)
 ·exact mT hc
theorem Fw{t:Tx}{m w:Nat}(w1:1<=w)(hm:m+w=t.length+1)(m1:1<=m)(h:Pc t (w-1) 0 m):t=fG (t.take m) w:=by
 have hr:(t.take m).length=m:=by simp; ac_rfl
 have key:∀ i,i<t.length->t[i]?=some (Mx.aC (t.take m) i):=by
  intro i
  induction i using Nat.strongRecOn with
  | ind i ih =>
   intro hi
   by_cases c:i<m
   ·have:=Mx.vO (z:=t.take m) (i:=i) (by ac_rfl)
    rw[← this,iD,if_pos c]
   ·have h1:=h (i-m) (by ac_rfl)
    rw[show 0+(i-m)=i-m by ac_rfl,show m+(i-m)=i by ac_rfl]at h1
    rw[← h1,ih (i-m) (by ac_rfl) (by ac_rfl)]
    have:=Mx.Es (t.take m) (i-m)
    rw[hr,show m+(i-m)=i by ac_rfl]at this
    rw[this]
 have hl:(fG (t.take m) w).length=t.length:=by rw[vx (by ac_rfl) w1,hr]; ac_rfl
 refine jN fun i=>?_
 by_cases c:i<t.length
 ·rw[key i c,oD (by ac_rfl) w1 (by ac_rfl)]
 ·rw[iB (by ac_rfl),iB (by ac_rfl)]
theorem zL{t:Tx}{w:Nat}(w1:1<=w)(h1:w<=t.length){z:Tx}:z∈i8 t (bv t (w-1)) w↔Pc t (w-1) 0 (t.length+1-w)/\∃ p,1<=p/\p<t.length+1-w/\z=fG (fY p (t.take (t.length+1-w))) w:=by
 unfold i8 oG
 rw[yF,qB,show t.length+1-(w-1)-1=t.length+1-w by ac_rfl,nq (by ac_rfl),nq (by ac_rfl),b0]
 constructor
 ·rintro⟨q,p,hp,rfl⟩
  obtain⟨p1,p2⟩:=DC.mp hp
  exact⟨oz q,p,p1,p2,rfl⟩
 ·rintro⟨q,p,p1,p2,rfl⟩
  exact⟨oI q,p,DC.mpr ⟨p1,p2⟩,rfl⟩
theorem Cg{t z:Tx}{w:Nat}(w1:1<=w)(h1:w<=t.length)(h:z∈i8 t (bv t (w-1)) w):z.length=t.length/\(aS z w).Perm (aS t w)/\(∀ c∈z,c∈t)/\t∈i8 z (bv z (w-1)) w:=by
 obtain⟨q,p,p1,p2,rfl⟩:=(zL w1 h1).mp h
 generalize hm:t.length+1-w=m at q p2
 have ht:=Fw w1 (m:=m) (by ac_rfl) (by ac_rfl) q
 have hr:(t.take m).length=m:=by simp; ac_rfl
 generalize hR:t.take m=R at ht hr
 have rY:(fY p R).length=m:=by rw[mo (by ac_rfl),hr]
 have qa:(fG (fY p R) w).length=t.length:=by rw[vx (by ac_rfl) w1,rY]; ac_rfl
 refine⟨qa,?_,fun c hc=>?_,?_⟩
 ·rw[FU (by ac_rfl) w1,ht,FU (by ac_rfl) w1]
  exact JD (by ac_rfl)
 ·have:=On (OB hc)
  rw[← hR]at this
  exact iV this
 ·rw[zL w1 (by ac_rfl),qa,hm]
  refine⟨fun k hk=>?_,m-p,by ac_rfl,by ac_rfl,?_⟩
  ·rw[oD (by ac_rfl) w1 (by ac_rfl),oD (by ac_rfl) w1 (by ac_rfl)]
   have:=Mx.Es (fY p R) k
   rw[rY]at this
   rw[this,nX]
  ·have uJ:=Qa (z:=fY p R) (w:=w) (by ac_rfl) w1
   rw[rY]at uJ
   rw[uJ,Pg (by ac_rfl) (by ac_rfl) (by ac_rfl),hr,show(p+(m-p)) % m=0 by rw[show p+(m-p)=m by ac_rfl,Nat.mod_self],Md]
   exact ht
theorem Rt{t:Tx}{w:Nat}{z:Tx}:z∈fS t w↔z∈gS t w/\z≠t:=by
 unfold fS
 rw[(jF _).mem_iff]
 unfold dX
 rw[jc,lx,decide_eq_true_eq]
theorem HY{t z:Tx}{w:Nat}(h:Tv t w)(hz:z∈gS t w):Tv z w/\z.length=t.length/\(aS z w).Perm (aS t w)/\t∈gS z w:=by
 unfold gS at hz ⊢
 rcases dO.mp hz with hz | hz
 ·rw[EC]at hz
  obtain⟨a1,a2,a3⟩:=Gg h.w1 hz
  exact⟨⟨h.w1,h.w4,by rw[a1]; exact h.h1,by rw[a1]; exact h.h9,fun c hc=>h.abc c (a3 c hc)⟩,a1,a2,dO.mpr (.inl (EC.mpr (IY h.w1 hz)))⟩
 ·obtain⟨a1,a2,a3,a4⟩:=Cg h.w1 h.h1 hz
  exact⟨⟨h.w1,h.w4,by rw[a1]; exact h.h1,by rw[a1]; exact h.h9,fun c hc=>h.abc c (a3 c hc)⟩,a1,a2,dO.mpr (.inr a4)⟩
end Sh
namespace Sh
open L2 Pu Mx
abbrev gr(t:Tx)(v i:Nat):Tx:=(t.drop i).take v
theorem za{t:Tx}{v i k:Nat}(h:k<v):(gr t v i)[k]?=t[i+k]?:=by
 unfold gr; rw[iD,if_pos h,jO]
theorem sY{t:Tx}{v i:Nat}:(gr t (v+1) i).take v=gr t v i:=by
 unfold gr; rw[List.take_take,xX (by ac_rfl)]
theorem oS{t:Tx}{v i:Nat}:(gr t (v+1) i).tail=gr t v (i+1):=by
 unfold gr
 refine jN fun k=>?_
 rw[List.getElem?_tail,iD,iD,jO,jO]
 by_cases h:k<v
 ·rw[if_pos (by ac_rfl),if_pos h]; congr 1; ac_rfl
 ·rw[if_neg (by ac_rfl),if_neg h]
theorem sS{t:Tx}{v i:Nat}(h:i+v<t.length):(aS t (v+1))[i]?=some (gr t (v+1) i):=by
 rw[l0 _ _ (by ac_rfl),iA,A0 (by ac_rfl)]
 rfl
theorem GD{t:Tx}{v:Nat}{x:Tx}:x∈aS t (v+1)↔∃ i,i+v<t.length/\x=gr t (v+1) i:=by
 rw[l0 _ _ (by ac_rfl),b0]
 constructor
 ·rintro⟨i,hi,rfl⟩
  exact⟨i,by have:=nM.mp hi; ac_rfl,rfl⟩
 ·rintro⟨i,hi,rfl⟩
  exact⟨i,nM.mpr (by ac_rfl),rfl⟩
theorem RD{t:Tx}{v p:Nat}{x:Tx}:x∈(aS t (v+1)).drop p↔∃ i,p<=i/\i+v<t.length/\x=gr t (v+1) i:=by
 have hl:(aS t (v+1)).length=t.length+1-(v+1):=tZ (by ac_rfl)
 rw[List.mem_iff_getElem?]
 constructor
 ·rintro⟨j,hj⟩
  rw[jO]at hj
  have aX:p+j<(aS t (v+1)).length:=(dP.mp hj).1
  rw[sS (by ac_rfl)]at hj
  exact⟨p+j,by ac_rfl,by ac_rfl,(dE hj).symm⟩
 ·rintro⟨i,h1,h2,rfl⟩
  refine⟨i-p,?_⟩
  rw[jO,show p+(i-p)=i by ac_rfl,sS h2]
theorem My{t z:Tx}{v p:Nat}(hl:z.length=t.length)(h:t.take (v+p)=z.take (v+p)):(aS t (v+1)).take p=(aS z (v+1)).take p:=by
 refine jN fun i=>?_
 rw[iD,iD]
 split
 ·rename_i hi
  by_cases hv:i+v<t.length
  ·rw[sS hv,sS (by ac_rfl)]
   congr 1
   refine oI fun k hk=>?_
   have:=congrArg (fun l:Tx=>l[i+k]?) h
   simpa[iD,show i+k<v+p by ac_rfl]using this
  ·rw[iB (by rw[tZ (by ac_rfl)]; ac_rfl),iB (by rw[tZ (by ac_rfl)]; ac_rfl)]
 ·rfl
theorem zb{t z:Tx}{n i:Nat}(h:t.take n=z.take n)(hi:i<n):t[i]?=z[i]?:=by
 have:=congrArg (fun l:Tx=>l[i]?) h
 simpa[iD,hi]using this
theorem Dg{t z:Tx}{n:Nat}(h:∀ i,i<n->t[i]?=z[i]?):t.take n=z.take n:=by
 refine jN fun i=>?_
 rw[iD,iD]
 split
 ·rename_i hi; exact h i hi
 ·rfl
theorem KC{t z:Tx}{v p:Nat}(hl:z.length=t.length)(hp:p+v<t.length)(hw:(aS z (v+1)).Perm (aS t (v+1)))(h:t.take (v+p)=z.take (v+p)) :
  ∃ t',(t'=t\/lK t (bv t v) t')/\t'.take (v+(p+1))=z.take (v+(p+1)):=by
 by_cases q:t[p+v]?=z[p+v]?
 ·refine⟨t,.inl rfl,Dg fun i hi=>?_⟩
  by_cases c:i<v+p
  ·exact zb h c
  ·rw[show i=p+v by ac_rfl]; exact q
 ·have hd:((aS z (v+1)).drop p).Perm ((aS t (v+1)).drop p):=by
   have h1:=My hl h
   have h2:((aS t (v+1)).take p++(aS z (v+1)).drop p).Perm ((aS t (v+1)).take p++(aS t (v+1)).drop p):=by
    rw[lU]
    conv=>lhs; rw[h1,lU]
    exact hw
   exact(List.perm_append_left_iff _).mp h2
  have hz:gr z (v+1) p∈(aS t (v+1)).drop p:=hd.mem_iff.mp (RD.mpr ⟨p,aL _,by ac_rfl,rfl⟩)
  obtain⟨g,g1,g2,eg⟩:=RD.mp hz
  have fM:∀ k,k<=v->z[p+k]?=t[g+k]?:=fun k hk=>by
   have:=congrArg (fun l:Tx=>l[k]?) eg
   rw[za (by ac_rfl),za (by ac_rfl)]at this
   exact this
  have hgp:p<g:=by
   rcases Nat.lt_or_ge p g with c | c
   ·exact c
   ·have e:g=p:=by ac_rfl
    rw[e]at fM
    exact absurd (fM v (aL _)).symm q
  have psg:Pc t v p g:=fun k hk=>by rw[← fM k (by ac_rfl)]; exact zb h (by ac_rfl)
  have hex:∃ e l,p<e/\e<=g/\g<l/\l+v<=t.length/\gr t v e=gr t v l:=by
   refine xY fun no=>?_
   have no':∀ e l,p<e->e<=g->g<l->l+v<=t.length->gr t v e≠gr t v l:=fun e l a b c d q=>no ⟨e,l,a,b,c,d,q⟩
   let V:Tx->Prop:=fun y=>∃ e,p<e/\e<=g/\gr t v e=y
   have hV:∀ i,p<=i->i+v<t.length->(V (gr t v (i+1))->i<g)/\(i<g->V (gr t v i)):=fun i a b=>by
    refine⟨fun⟨e,e1,e2,e3⟩=>?_,fun c=>?_⟩
    ·rcases Nat.lt_or_ge i g with c | c
     ·exact c
     ·exact absurd e3 (no' e (i+1) e1 e2 (by ac_rfl) (by ac_rfl))
    ·by_cases d:i=p
     ·exact⟨g,hgp,aL _,by rw[d]; exact oI fun k hk=>(psg k hk).symm⟩
     ·exact⟨i,by ac_rfl,by ac_rfl,rfl⟩
   have step:∀ k,p+k+v<z.length->¬ V (gr z v (p+k+1)):=by
    intro k
    induction k with
    | zero =>
     intro hk hv
     have e:gr z v (p+0+1)=gr t v (g+1):=by rw[Nat.add_zero,← oS,eg,oS]
     rw[e]at hv
     have:=(hV g g1 g2).1 hv
     ac_rfl
    | succ k ih =>
     intro hk hv
     have ih:=ih (by ac_rfl)
     have hm:gr z (v+1) (p+(k+1))∈(aS t (v+1)).drop p:=hd.mem_iff.mp (RD.mpr ⟨p+(k+1),by ac_rfl,by ac_rfl,rfl⟩)
     obtain⟨i,i1,i2,ei⟩:=RD.mp hm
     have e1:gr z v (p+(k+1))=gr t v i:=by rw[← sY,ei,sY]
     have e2:gr z v (p+(k+1)+1)=gr t v (i+1):=by rw[← oS,ei,oS]
     rw[e2]at hv
     have:=(hV i i1 i2).2 ((hV i i1 i2).1 hv)
     rw[← e1]at this
     exact ih this
   have hm:gr t (v+1) p∈(aS z (v+1)).drop p:=hd.mem_iff.mpr (RD.mpr ⟨p,aL _,by ac_rfl,rfl⟩)
   obtain⟨i,i1,i2,ei⟩:=RD.mp hm
   have hk:=step (i-p) (by ac_rfl)
   rw[show p+(i-p)+1=i+1 by ac_rfl]at hk
   refine hk ?_
   rw[← oS,← ei,oS]
   exact⟨p+1,by ac_rfl,by ac_rfl,rfl⟩
  obtain⟨e,l,e1,e2,l1,l2,el⟩:=hex
  refine⟨dz t p e g l,.inr ?_,Dg fun i hi=>?_⟩
  ·have:=(wP (t:=t) (w:=v+1) (by ac_rfl) (z:=dz t p e g l)).mpr ⟨p,e,g,l,e1,e2,l1,by ac_rfl,psg,oz el,rfl⟩
   exact this
  ·have hw':=fun k hk i=>vK (v:=v) e1 e2 l1 (by ac_rfl) psg (oz el) k hk i
   by_cases c:i<p
   ·rw[vI e1 e2 l1 (by ac_rfl)]
    have:sg p e g l i=i:=by unfold sg; rw[if_pos c]
    rw[this]
    exact zb h (by ac_rfl)
   ·have:=hw' (i-p) (by ac_rfl) p
    rw[Cw e1 e2 l1,show p+(i-p)=i by ac_rfl]at this
    rw[this,← fM (i-p) (by ac_rfl),show p+(i-p)=i by ac_rfl]
theorem Er{v:Nat}{y:Tx}:∀ (k:Nat) (t:Tx) (i:Nat),((List.range' i k).map fun j=>if gr t v j=y then 1 else 0).sum+(if gr t v (i+k)=y then 1 else 0)=((List.range' i k).map fun j=>if gr t v (j+1)=y then 1 else 0).sum+(if gr t v i=y then 1 else 0)
 | 0,t,i=>by simp
 | k+1,t,i=>by
  have ih:=Er (v:=v) (y:=y) k t (i+1)
  rw[List.range'_succ,dq,dq,Bt,Bt,show i+(k+1)=i+1+k by ac_rfl]
  ac_rfl
theorem Op{t z:Tx}{v:Nat}(hl:z.length=t.length)(hv:v<t.length)(hw:(aS z (v+1)).Perm (aS t (v+1))):gr t v 0=gr z v 0\/gr t v 0=gr t v (t.length-v):=by
 have hc:∀ u:Tx,u.length=t.length->((aS u (v+1)).map fun x=>if x.take v=gr t v 0 then 1 else 0).sum+(if gr u v (u.length-v)=gr t v 0 then 1 else 0)=((aS u (v+1)).map fun x=>if x.tail=gr t v 0 then 1 else 0).sum+(if gr u v 0=gr t v 0 then 1 else 0):=by
  intro u hu
  have:=Er (v:=v) (y:=gr t v 0) (u.length-v) u 0
  rw[nX]at this
  rw[l0 _ _ (by ac_rfl),dy,dy,show u.length+1-(v+1)=u.length-v by ac_rfl,List.range_eq_range']
  have e1:∀ j,((fun x:Tx=>if x.take v=gr t v 0 then 1 else 0) ∘ fun i=>(u.drop i).take (v+1)) j=if gr u v j=gr t v 0 then 1 else 0:=fun j=>by
   show(if(gr u (v+1) j).take v=_ then 1 else 0)=_
   rw[sY]
  have e2:∀ j,((fun x:Tx=>if x.tail=gr t v 0 then 1 else 0) ∘ fun i=>(u.drop i).take (v+1)) j=if gr u v (j+1)=gr t v 0 then 1 else 0:=fun j=>by
   show(if(gr u (v+1) j).tail=_ then 1 else 0)=_
   rw[oS]
  rw[f6 fun j _=>e1 j,f6 fun j _=>e2 j]
  exact this
 have h1:=hc t rfl
 have h2:=hc z hl
 have p1:=((hw.map fun x:Tx=>if x.take v=gr t v 0 then 1 else 0)).sum_nat
 have p2:=((hw.map fun x:Tx=>if x.tail=gr t v 0 then 1 else 0)).sum_nat
 rw[p1,p2]at h2
 rw[if_pos rfl]at h1
 by_cases c:gr z v 0=gr t v 0
 ·exact .inl c.symm
 ·right
  rw[if_neg c]at h2
  by_cases d:gr t v (t.length-v)=gr t v 0
  ·exact d.symm
  ·rw[if_neg d]at h1
   ac_rfl
end Sh
namespace Sh
open L2 Pu Mx
inductive WN(w:Nat):Nat->Tx->Tx->Prop
 | here (n:Nat) (t:Tx):WN w n t t
 | on {n:Nat} {t u z:Tx}:WN w n t u->z∈gS u w->WN w (n+1) t z
theorem WN.more{w n:Nat}{t z:Tx}(h:WN w n t z):WN w (n+1) t z:=by
 induction h with
 | here n t=>exact .here _ _
 | on _ hz ih=>exact .on ih hz
theorem WN.mono{w n:Nat}{t z:Tx}(h:WN w n t z):∀ k,WN w (n+k) t z
 | 0=>h
 | k+1=>(h.mono k).more
theorem WN.cons{w n:Nat}{t u z:Tx}(hu:u∈gS t w)(h:WN w n u z):WN w (n+1) t z:=by
 induction h with
 | here n u=>exact .on (.here n t) hu
 | on _ hz ih=>exact .on (ih hu) hz
theorem yt{v:Nat}{z:Tx}:∀ (k p:Nat) (t:Tx),p+k+v=t.length->z.length=t.length->(aS z (v+1)).Perm (aS t (v+1))->t.take (v+p)=z.take (v+p)->WN (v+1) k t z
 | 0,p,t,hk,hl,_,h=>by
  have:t=z:=by
   have h1:t.take (v+p)=t:=kH (by ac_rfl)
   have h2:z.take (v+p)=z:=kH (by ac_rfl)
   rw[← h1,h,h2]
  rw[this]; exact .here 0 z
 | k+1,p,t,hk,hl,hw,h=>by
  obtain⟨t',ht,hn⟩:=KC hl (by ac_rfl) hw h
  rcases ht with rfl | ht
  ·exact(yt k (p+1) t' (by ac_rfl) hl hw hn).more
  ·obtain⟨a1,a2,_⟩:=Gg (w:=v+1) (by ac_rfl) ht
   exact .cons (dO.mpr (.inl (EC.mpr ht))) (yt k (p+1) t' (by ac_rfl) (by ac_rfl) (hw.trans a2.symm) hn)
theorem ON{t z:Tx}{w:Nat}(h:Tv t w)(hl:z.length=t.length)(hw:(aS z w).Perm (aS t w)):WN w 10 t z:=by
 obtain⟨v,rfl⟩:∃ v,w=v+1:=⟨w-1,by have:=h.w1; ac_rfl⟩
 have hv:=h.h1
 have h9:=h.h9
 have from0:∀ u:Tx,u.length=t.length->(aS z (v+1)).Perm (aS u (v+1))->gr u v 0=gr z v 0->WN (v+1) 9 u z:=fun u hu hp hg=>by
  have:=(yt (u.length-v) 0 u (by ac_rfl) (by ac_rfl) hp (by simpa[gr]using hg)).mono (9-(u.length-v))
  rwa[show u.length-v+(9-(u.length-v))=9 by ac_rfl]at this
 by_cases c:gr t v 0=gr z v 0
 ·exact(from0 t rfl hw c).more
 ·have n6:gr t v 0=gr t v (t.length-v):=(Op hl (by ac_rfl) hw).resolve_left c
  have hm:gr z (v+1) 0∈aS t (v+1):=hw.mem_iff.mp (GD.mpr ⟨0,by ac_rfl,rfl⟩)
  obtain⟨p,hp,ep⟩:=GD.mp hm
  have eg:gr z v 0=gr t v p:=by rw[← sY,ep,sY]
  have p1:1<=p:=by
   rcases Nat.eq_zero_or_pos p with e | e
   ·rw[e]at eg; exact absurd eg.symm c
   ·exact e
  have ye:fG (fY p (t.take (t.length+1-(v+1)))) (v+1)∈i8 t (bv t (v+1-1)) (v+1):=(zL (by ac_rfl) h.h1).mpr ⟨oz (by rw[show v+1-1=v by ac_rfl,show t.length+1-(v+1)=t.length-v by ac_rfl]; exact n6),p,p1,by ac_rfl,rfl⟩
  obtain⟨a1,a2,a3,a4⟩:=Cg (by ac_rfl) h.h1 ye
  refine .cons (dO.mpr (.inr ye)) (from0 _ a1 (hw.trans a2.symm) ?_)
  rw[eg]
  refine oI fun k hk=>?_
  generalize hmm:t.length+1-(v+1)=m
  have hr:(t.take m).length=m:=by simp; ac_rfl
  have ht:=Fw (t:=t) (m:=m) (w:=v+1) (by ac_rfl) (by ac_rfl) (by ac_rfl) (oz (by rw[show v+1-1=v by ac_rfl,← hmm,show t.length+1-(v+1)=t.length-v by ac_rfl]; exact n6))
  rw[nX,oD (by rw[mo (by ac_rfl)]; ac_rfl) (by ac_rfl) (by rw[mo (by ac_rfl)]; ac_rfl),sF (by ac_rfl) (by ac_rfl)]
  conv=>rhs; rw[ht]
  rw[oD (by ac_rfl) (by ac_rfl) (by ac_rfl)]
theorem WN.good{w n:Nat}{t z:Tx}(h:WN w n t z)(ht:Tv t w):Tv z w/\z.length=t.length/\(aS z w).Perm (aS t w):=by
 induction h with
 | here n t=>exact⟨ht,rfl,.refl _⟩
 | on _ hz ih =>
  obtain⟨a1,a2,a3⟩:=ih ht
  obtain⟨b1,b2,b3,_⟩:=HY a1 hz
  exact⟨b1,by ac_rfl,b3.trans a3⟩
theorem WN.like{w n:Nat}{t z:Tx}(h:WN w n t z)(ht:Tv t w):z∈cR t w:=by
 obtain⟨a1,a2,a3⟩:=h.good ht
 exact RJ.mpr ⟨a2,a1.abc,a3⟩
def Lv(w:Nat)(t:Tx)(k:Nat)(z:Tx):Prop:=WN w k t z/\∀ j,j+1=k->¬ WN w j t z
theorem GP{w:Nat}{t z:Tx}:Lv w t 0 z↔z=t:=by
 constructor
 ·rintro⟨h,_⟩; cases h; rfl
 ·rintro rfl; exact⟨.here _ _,fun j hj=>by ac_rfl⟩
theorem Nj{w:Nat}{t z:Tx}:WN w 0 t z↔z=t:=by
 constructor
 ·intro h; cases h; rfl
 ·rintro rfl; exact .here _ _
theorem NI{w k:Nat}{t z:Tx}:WN w (k+1) t z↔WN w k t z\/∃ u,Lv w t k u/\z∈fS u w:=by
 constructor
 ·intro h
  by_cases c:WN w k t z
  ·exact .inl c
  ·right
   cases h with
   | here=>exact absurd (.here _ _) c
   | @on _ _ u _ hu hz =>
    have b9:z≠u:=by rintro rfl; exact c hu
    refine⟨u,⟨hu,fun j hj hw=>?_⟩,Rt.mpr ⟨hz,b9⟩⟩
    subst hj
    exact c (.on hw hz)
 ·rintro(h | ⟨u,hu,hz⟩)
  ·exact h.more
  ·exact .on hu.1 (Rt.mp hz).1
theorem MZ{w n j:Nat}{t z:Tx}(h:WN w n t z):¬ WN w j t z->∃ y,Lv w t (j+1) y:=by
 induction h with
 | here n t=>exact fun c=>absurd (.here _ _) c
 | @on n t u z hu hz ih =>
  intro c
  by_cases d:WN w j t u
  ·refine⟨z,.on d hz,fun i hi hw=>?_⟩
   have:i=j:=by ac_rfl
   subst this
   exact c hw
  ·exact ih d
def Full(w:Nat)(t:Tx)(k:Nat):Prop:=∀ z∈cR t w,WN w k t z
theorem GJ{w:Nat}{t:Tx}(h:Tv t w):Full w t 10:=fun z hz=>by
 obtain⟨a,b,c⟩:=RJ.mp hz
 exact ON h a c
theorem M6{w:Nat}{t:Tx}(h:Tv t w):∃ K,K<=10/\Full w t K/\∀ k,k<K->¬ Full w t k:=by
 have key:∀ n,n<=10->(∃ K,K<=10/\Full w t K/\∀ k,k<K->¬ Full w t k)\/∀ k,k<n->¬ Full w t k:=by
  intro n
  induction n with
  | zero=>intro _; exact .inr fun k hk=>by ac_rfl
  | succ n ih =>
   intro hn
   rcases ih (by ac_rfl)with q | q
   ·exact .inl q
   ·by_cases c:Full w t n
    ·exact .inl ⟨n,by ac_rfl,c,q⟩
    ·refine .inr fun k hk=>?_
     by_cases d:k=n
     ·rw[d]; exact c
     ·exact q k (by ac_rfl)
 rcases key 10 (aL _)with q | q
 ·exact q
 ·exact⟨10,aL _,GJ h,q⟩
theorem Qi{w k:Nat}{t:Tx}(h:Tv t w)(hf:¬ Full w t k):∃ y,Lv w t (k+1) y:=by
 obtain⟨z,hz,hn⟩:∃ z,z∈cR t w/\¬ WN w k t z:=by
  refine xY fun no=>hf fun z hz=>xY fun c=>no ⟨z,hz,c⟩
 exact MZ (GJ h z hz) hn
theorem Il(v:Nat){a:Tx}(ha:a.length=v)(hc:∀ c∈a,c∈ca):a∈dA v:=by rw[ol]; exact⟨ha,hc⟩
theorem CC{z:Tx}{v:Nat}(h:v<z.length):(aS z (v+1)).map (fun x=>x.headD 0)=z.take (z.length-v):=by
 refine jN fun i=>?_
 rw[iA,iD]
 by_cases c:i<z.length-v
 ·rw[sS (by ac_rfl),if_pos c,pE]
  have e:(gr z (v+1) i)[0]?=z[i]?:=by have:=za (t:=z) (v:=v+1) (i:=i) (k:=0) (by ac_rfl); simpa using this
  have hz:z[i]?=some z[i]:=eV (by ac_rfl)
  rw[hz]at e ⊢
  cases hg:gr z (v+1) i with
  | nil=>rw[hg]at e; cases e
  | cons c r=>rw[hg]at e; simpa using e
 ·rw[if_neg c,iB (by rw[tZ (by ac_rfl)]; ac_rfl)]
  rfl
theorem Np:∀ m:Fin 9,∀ i:Fin 9,∀ j:Fin 9,i.val+j.val<=m.val->(lz m.val i.val j.val (m.val-i.val-j.val)).length * 3 ^ (min 3 (9-m.val))<=2430:=by decide +kernel
theorem wa{t:Tx}{w:Nat}(h:Tv t w)(w2:2<=w)(h9:t.length<=9):(cR t w).length<=2430:=by
 obtain⟨v,rfl⟩:∃ v,w=v+1:=⟨w-1,by ac_rfl⟩
 have hv:=h.h1
 have kh:=h.w4
 generalize hm:t.length-v=m
 let T:=t.take m
 have hT:T.length=m:=by simp[T]; ac_rfl
 have hTc:∀ c∈T,c∈ca:=fun c hc=>h.abc c (iV hc)
 have jh:∀ z∈cR t (v+1),z∈(lz m (T.count 97) (T.count 98) (T.count 99)).flatMap fun a=>(dA v).map fun b=>a++b:=by
  intro z hz
  obtain⟨z1,z2,z3⟩:=RJ.mp hz
  have hp:(z.take m).Perm T:=by
   have e1:=CC (z:=z) (v:=v) (by ac_rfl)
   have e2:=CC (z:=t) (v:=v) (by ac_rfl)
   rw[z1,hm]at e1
   rw[hm]at e2
   have:=z3.map (fun x:Tx=>x.headD 0)
   rw[e1,e2]at this
   exact this
  have qa:(z.take m).length=m:=by simp; ac_rfl
  have hzw:=D4 m (z.take m) qa fun c hc=>z2 c (iV hc)
  rw[hp.count_eq,hp.count_eq,hp.count_eq]at hzw
  refine ux.mpr ⟨z.take m,hzw,b0.mpr ⟨z.drop m,Il v (by simp; ac_rfl) fun c hc=>z2 c (mT hc),lU m z⟩⟩
 refine cp (len_sub (Fu _ _) jh) ?_
 have b7:∀ (l:List Tx),(l.flatMap fun a=>(dA v).map fun b=>a++b).length=l.length * 3 ^ v:=by
  intro l
  induction l with
  | nil=>simp
  | cons a l ih=>rw[kL,cT,ih,cq,zG,dQ,Nat.add_mul]; ac_rfl
 rw[b7]
 have hc:=NX hTc
 rw[hT]at hc
 have:=Np ⟨m,by ac_rfl⟩ ⟨T.count 97,by ac_rfl⟩ ⟨T.count 98,by ac_rfl⟩ (by simp; ac_rfl)
 simp only at this
 rw[show m-T.count 97-T.count 98=T.count 99 by ac_rfl]at this
 refine cp (Nat.mul_le_mul_left _ (Nat.pow_le_pow_right (by decide) (show v<=min 3 (9-m) by ac_rfl))) this
end Sh
namespace Sh
open L2 Pu Mx
theorem K_{R:Tx}{m w p:Nat}(hR:R.length=m)(w1:1<=w)(hw:w<=m+2)(hp:p<m):fG (R.drop p++R.take p) w=part (bj 3 R).flatten p (p+(m+w-1)):=by
 by_cases c:w<=m+1
 ·exact Mw hR w1 c (by ac_rfl)
 ·have hl:(R.drop p++R.take p).length=m:=by simp; ac_rfl
  unfold fG part
  rw[hl,HA]
  have e3:((bj 3 R).flatten).drop p=(R.drop p++R.take p)++((R.drop p++R.take p)++R.drop p):=by
   have:(bj 3 R).flatten=R++(R++R):=by simp[bj]
   rw[this,Hx (by ac_rfl)]
   simp only[gh]
   rw[lU,← gh (R.take p),lU]
  obtain⟨v,rfl⟩:∃ v,w=v+3:=⟨w-3,by ac_rfl⟩
  have ew:∀ Z:Tx,(bj (v+3) Z).flatten=Z++(Z++(Z++(bj v Z).flatten)):=fun Z=>by simp[bj]
  rw[e3,ew]
  have hB:(R.drop p).length=m-p:=by simp; ac_rfl
  have hA:(R.take p).length=p:=by simp; ac_rfl
  generalize (bj v (R.drop p++R.take p)).flatten=X
  generalize R.drop p=B at hB
  generalize R.take p=A at hA
  rw[show(B++A)++((B++A)++((B++A)++X))=((B++A)++((B++A)++B))++(A++X) by simp only[gh],Bu]
  simp; ac_rfl
theorem Gr{t:Tx}{w:Nat}(h:Tv t w)(h2:2 * w<=t.length+3):fS t w=iQ t w:=by
 have b1:=h.w1
 have b3:=h.h1
 have rY:=qB t (w-1)
 have ht:i8 t (bv t (w-1)) w=fD t (bv t (w-1)):=by
  unfold i8 fD
  congr 1
  unfold oG qJ
  refine f6 fun p hp=>?_
  obtain⟨p1,p2⟩:=DC.mp hp
  rw[K_ (m:=(bv t (w-1)).length-1) (by simp; ac_rfl) b1 (by ac_rfl) p2,show(bv t (w-1)).length-1+w-1=t.length by ac_rfl]
 unfold fS iQ
 refine t5 ((jF _).trans ?_) (Af _)
 unfold dX gS kl
 rw[Hz ((sR _).filter _) (sR _)]
 intro z
 rw[jc,lx,lx,jc,dO,dO,EC,Ii,ht]
theorem xk{i:Nat}{db:ae->R ax}{σ τ:Type}(env:σ->τ->ae)(f:σ->Tx->σ)(P:σ->Prop):∀ (xs:List Tx) (st:σ) (s:τ),P st ->
  (∀ x∈xs,∀ st s,P st->P (f st x)/\∃ s',db ((env st s).set i (.val (.str x))) = .ok .next (env (f st x) s'))->∃ s',dJ i db (af xs) (env st s) = .ok .next (env (xs.foldl f st) s')/\P (xs.foldl f st)
 | [],st,s,h,_=>⟨s,rfl,h⟩
 | x::xs,st,s,h,step=>by
  obtain⟨h1,s1,e1⟩:=step x (by simp) st s h
  obtain⟨s2,e2,h2⟩:=xk env f P xs (f st x) s1 h1 fun y hy=>step y (by simp[hy])
  refine⟨s2,?_,h2⟩
  show dJ i db (.str x::af xs) _=_
  rw[dJ,e1]
  exact e2
abbrev ks(m:List (Tx×Int)):List Tx:=m.map (·.1)
theorem B5(m:List (Tx×Int))(z:Tx):(m.any fun p=>decide (p.1=z))=decide (z∈ks m):=by
 rw[ph,uy,decide_eq_true_eq,b0]
 exact⟨fun⟨p,h1,h2⟩=>⟨p,h1,of_decide_eq_true h2⟩,fun⟨p,h1,h2⟩=>⟨p,h1,decide_eq_true h2⟩⟩
theorem Fa(m:List (Tx×Int))(z:Tx):(bV m z).isSome=decide (z∈ks m):=by
 rw[← B5]
 cases h:m.any fun p=>decide (p.1=z)with
 | false=>rw[xg h]; rfl
 | true=>obtain⟨n,e⟩:=Ed h; rw[e]; rfl
theorem MK{m:List (Tx×Int)}{z:Tx}{n:Int}(h:z∉ks m):ce m z n=m++[(z,n)]:=by
 unfold ce
 rw[B5,decide_eq_false h]
 rfl
theorem NG{m:List (Tx×Int)}(nd:(ks m).Nodup){z:Tx}{n:Int}:bV m z=some n↔(z,n)∈m:=by
 induction m with
 | nil=>simp[bV]
 | cons p m ih =>
  change ((p::m).map (·.1)).Nodup at nd
  rw[dq,iS]at nd
  unfold bV at ih ⊢
  rw[jK]
  by_cases c:p.1=z
  ·simp only[c,decide_true,pE,bH]
   constructor
   ·intro e
    left
    rw[← dE e,← c]
   ·rintro(e | e)
    ·rw[← e]
    ·exact absurd (b0.mpr ⟨(z,n),e,rfl⟩) (by rw[← c]; exact nd.1)
  ·simp only[c,decide_false,bH]
   rw[ih nd.2]
   constructor
   ·exact .inr
   ·rintro(e | e)
    ·exact absurd (by rw[← e]) c
    ·exact e
theorem Cd(m:List (Tx×Int)):(dk m).length=m.length:=by simp[dk]
theorem Ct{neg:Bool}{i:Nat}{db:ae->R PV}{ε ε1:ae}{z:Tx}{m:List (Tx×Int)}(hb:db ε = .ok (.str z) ε1)(ho:cP ε1 i=some (dk m)):jq neg i db ε = .ok (.bl (neg ^^ decide (z∈ks m))) ε1:=by
 unfold jq
 rw[hb,R.bind_ok,ho]
 simp only[c_,R.bind_ok]
 show aW (some (PV.bl (neg ^^ (j7 (dk m) (.inr (tS z))).isSome))) ε1=_
 rw[qu,G4,Fa]
 rfl
theorem En{i:Nat}{db de:ae->R PV}{ε ε1 ε2:ae}{z:Tx}{n:Int}{m:List (Tx×Int)}(he:de ε = .ok (.int n) ε1)(hb:db ε1 = .ok (.str z) ε2)(lY:∃ x,cP ε1 i=some x)(ho:cP ε2 i=some (dk m))(hl:m.length<be):iO i db de ε = .ok .next (ε2.set i (.own (.dK (dk (ce m z n))))):=by
 unfold iO
 obtain⟨x,hx⟩:=lY
 rw[he,R.bind_ok,hx]
 simp only[c_,R.bind_ok]
 rw[hb,R.bind_ok,ho]
 simp only[c_,R.bind_ok]
 show(aW (some (Sum.inr (tS z))) ε2).bind _=_
 simp only[c_,R.bind_ok]
 rw[Cd,if_pos hl,wI]
theorem Lb{i:Nat}{db:ae->R PV}{ε ε1:ae}{z:Tx}{n:Int}{m:List (Tx×Int)}(ho0:∃ x,cP ε i=some x)(hb:db ε = .ok (.str z) ε1)(ho:cP ε1 i=some (dk m))(hg:bV m z=some n):kn i db ε = .ok (.int n) ε1:=by
 unfold kn
 obtain⟨x,hx⟩:=ho0
 rw[hx]
 simp only[c_,R.bind_ok]
 rw[hb,R.bind_ok,ho]
 simp only[c_,R.bind_ok]
 show aW (j7 (dk m) (.inr (tS z))) ε1=_
 rw[qu,hg]
 rfl
theorem Ib{i:Nat}{de:ae->R PV}{ε ε1:ae}{x:PV}{xs0 xs:List PV}(h0:iu ε i=some xs0)(h:de ε = .ok x ε1)(h1:iu ε1 i=some xs)(hl:xs.length<be):jX i de ε = .ok .next (ε1.set i (.own (.lst (xs++[x])))):=by
 unfold jX
 rw[h0]
 simp only[c_,R.bind_ok]
 rw[h]
 simp only[R.bind_ok]
 rw[h1]
 simp only[c_,R.bind_ok]
 rw[if_pos hl]
def sf(k:Int)(st:List (Tx×Int)×List Tx)(z:Tx):List (Tx×Int)×List Tx:=if z∈ks st.1 then st else(st.1++[(z,k)],st.2++[z])
theorem Ez(k:Int):∀ (zs:List Tx) (st:List (Tx×Int)×List Tx) (z:Tx),z∈ks (zs.foldl (sf k) st).1↔z∈ks st.1\/z∈zs
 | [],st,z=>by simp
 | x::zs,st,z=>by
  rw[iT,Ez k zs]
  unfold sf
  by_cases c:x∈ks st.1
  ·rw[if_pos c,bH]
   exact⟨fun h=>h.elim .inl fun h=>.inr (.inr h),fun h=>h.elim .inl fun h=>h.elim (fun e=>.inl (by rw[e]; exact c)) .inr⟩
  ·rw[if_neg c]
   show z∈(st.1++[(x,k)]).map (·.1)\/z∈zs↔_
   simp[or_assoc]
theorem Gf(k:Int):∀ (zs:List Tx) (st:List (Tx×Int)×List Tx) (z:Tx),z∈(zs.foldl (sf k) st).2↔z∈st.2\/(z∈zs/\z∉ks st.1)
 | [],st,z=>by simp
 | x::zs,st,z=>by
  rw[iT,Gf k zs]
  unfold sf
  by_cases c:x∈ks st.1
  ·rw[if_pos c,bH]
   constructor
   ·rintro(h | ⟨h,q⟩)
    ·exact .inl h
    ·exact .inr ⟨.inr h,q⟩
   ·rintro(h | ⟨h | h,q⟩)
    ·exact .inl h
    ·exact absurd (by rw[h]; exact c) q
    ·exact .inr ⟨h,q⟩
  ·rw[if_neg c,bH]
   show z∈st.2++[x]\/(z∈zs/\z∉(st.1++[(x,k)]).map (·.1))↔_
   rw[dO,f8,nV,dO]
   constructor
   ·rintro((h | h) | ⟨h,q⟩)
    ·exact .inl h
    ·exact .inr ⟨.inl h,by rw[h]; exact c⟩
    ·exact .inr ⟨.inr h,fun y=>q (.inl y)⟩
   ·rintro(h | ⟨h | h,q⟩)
    ·exact .inl (.inl h)
    ·exact .inl (.inr h)
    ·by_cases e:z=x
     ·exact .inl (.inr e)
     ·exact .inr ⟨h,fun y=>y.elim q fun y=>e (by simpa using y)⟩
structure SP(U:List Tx)(st:List (Tx×Int)×List Tx):Prop where
 nd:(ks st.1).Nodup
 sub:∀ z∈ks st.1,z∈U
 len:st.2.length<=st.1.length
theorem SP.few{U:List Tx}{st:List (Tx×Int)×List Tx}(h:SP U st):st.1.length<=U.length:=by
 have:=len_sub h.nd h.sub
 rwa[cq]at this
theorem SP.step{U:List Tx}{st:List (Tx×Int)×List Tx}(h:SP U st){z:Tx}(hz:z∈U)(k:Int):SP U (sf k st z):=by
 unfold sf
 by_cases c:z∈ks st.1
 ·rw[if_pos c]; exact h
 ·rw[if_neg c]
  refine⟨?_,fun y hy=>?_,?_⟩
  ·show((st.1++[(z,k)]).map (·.1)).Nodup
   rw[nV]
   exact xM.mpr ⟨h.nd,by simp,fun a ha b hb e=>by simp at hb; subst hb; subst e; exact c ha⟩
  ·have hy:y∈(st.1++[(z,k)]).map (·.1):=hy
   rw[nV,dO]at hy
   rcases hy with hy | hy
   ·exact h.sub y hy
   ·simp at hy; rw[hy]; exact hz
  ·have:=h.len
   simp; ac_rfl
theorem Ce{σ:Type}(f:σ->Tx->σ)(g:Tx->List Tx):∀ (l:List Tx) (st:σ),(l.flatMap g).foldl f st=l.foldl (fun st u=>(g u).foldl f st) st
 | [],st=>rfl
 | u::l,st=>by rw[kL,A9,Ce f g l,iT]
section
variable{a:Ad}
theorem AD{G:ae->R Slot}{ε:ae}{i0 i1:Nat}{v0 v1:PV}{r:Slot}(h0:ε[i0]?=some (.val v0))(h1:ε[i1]?=some (.val v1))
  (hG:G [.val v0,.val v1] = .ok r [.val v0,.val v1]):aF G (gV (dV i0) (gV (dV i1) (Pu.bM))) ε = .ok r ε:=by
 unfold aF
 rw[lr (d_ h0) (lr (d_ h1) wz),R.bind_ok]
 simp[cS,e_,R.bind,aW,hG,ig,fA,fU]
theorem z5{d:ae->R Slot}{ε ε1:ae}{x:PV}(h:d ε = .ok (.val x) ε1):aR d ε = .ok x ε1:=by unfold aR; rw[h]; rfl
theorem sJ{d:ae->R PV}{ε ε1:ae}{xs:List PV}(h:d ε = .ok (.lst xs) ε1):cQ d ε = .ok xs ε1:=by unfold cQ; rw[h]; rfl
def we:ae->R ax:=c0 (dB (jq true 3 (dV 6))) (aA (iO 3 (dV 6) (d2 ay (dV 2) (dC (.int 1)))) (jX 4 (dV 6))) (dD)
def Cv(a:Ad):ae->R ax:=b8 6 (cQ (aR (aF (qC a) (gV (dV 5) (gV (dV 1) (Pu.bM)))))) we
theorem Pp:d_spread a=aA (cZ 4 (dL bU (aq))) (aA (fun ε=>cu (b8 5 (cQ (dV 0)) (Cv a) ε)) (gA 4)):=rfl
def me(N:PV)(w k:Nat)(st:List (Tx×Int)×List Tx)(p:Slot×Slot):ae:=[.val N,.val (.int w),.val (.int k),.own (.dK (dk st.1)),.own (.lst (af st.2)),p.1,p.2]
theorem Qh(U:List Tx)(hU:U.length<=2430)(N:PV)(w k:Nat)(s5:Slot)(zs:List Tx)(hz:∀ z∈zs,z∈U)(st:List (Tx×Int)×List Tx)(s6:Slot)(h:SP U st):∃ gL,dJ 6 we (af zs) (me N w k st (s5,s6)) = .ok .next (me N w k (zs.foldl (sf ((k:Int)+1)) st) (s5,gL))/\SP U (zs.foldl (sf ((k:Int)+1)) st):=by
 refine xk (i:=6) (fun st s6=>me N w k st (s5,s6)) (sf ((k:Int)+1)) (SP U) zs st s6 h ?_
 intro z rZ st s6 h
 refine⟨h.step (hz z rZ) _,.val (.str z),?_⟩
 have HG:=h.few
 have b7:=h.len
 have gn:=Ct (neg:=true) (i:=3) (db:=dV 6) (ε:=[.val N,.val (.int w),.val (.int k),.own (.dK (dk st.1)),.own (.lst (af st.2)),s5,.val (.str z)]) (z:=z) (m:=st.1) (d_ rfl) rfl
 show we [.val N,.val (.int w),.val (.int k),.own (.dK (dk st.1)),.own (.lst (af st.2)),s5,.val (.str z)]=_
 unfold we sf
 by_cases c:z∈ks st.1
 ·rw[decide_eq_true c]at gn
  rw[if_pos c]
  exact(P3 (sL gn)).trans rfl
 ·rw[decide_eq_false c]at gn
  rw[if_neg c]
  refine(wo (sL gn)).trans ?_
  have ha:ay (.int k) (.int 1)=some (.int ((k:Int)+1)):=rfl
  have HL:=En (i:=3) (db:=dV 6) (de:=d2 ay (dV 2) (dC (.int 1))) (ε:=[.val N,.val (.int w),.val (.int k),.own (.dK (dk st.1)),.own (.lst (af st.2)),s5,.val (.str z)]) (z:=z) (n:=(k:Int)+1) (m:=st.1) (jE (x:=.int k) (d_ rfl) (lG _ _) ha) (d_ rfl) ⟨_,rfl⟩ rfl (by unfold be; ac_rfl)
  rw[MK c]at HL
  refine(c9 HL).trans ?_
  have happ:=Ib (i:=4) (de:=dV 6) (ε:=[.val N,.val (.int w),.val (.int k),.own (.dK (dk (st.1++[(z,(k:Int)+1)]))),.own (.lst (af st.2)),s5,.val (.str z)]) (x:=.str z) (xs0:=af st.2) (xs:=af st.2) rfl (d_ rfl) rfl (by rw[ff]; unfold be; ac_rfl)
  refine happ.trans ?_
  show R.ok _ [.val N,.val (.int w),.val (.int k),.own (.dK (dk (st.1++[(z,(k:Int)+1)]))),.own (.lst (af st.2++[.str z])),s5,.val (.str z)]=_
  rw[show af st.2++[.str z]=af (st.2++[z]) by simp[af]]
  rfl
theorem IS(U:List Tx)(hU:U.length<=2430)(w k:Nat)(new:List Tx)(hn:∀ u∈new,Tv u w/\u.length+2<=w+10/\∀ z∈fS u w,z∈U)(m:List (Tx×Int))(h:SP U (m,[])) :
  qc a [.val (.lst (af new)),.val (.int w),.val (.int k),.own (.dK (dk m))] = .ok (.own (.lst (af ((new.flatMap fun u=>fS u w).foldl (sf ((k:Int)+1)) (m,[])).2))) [.val (.lst (af new)),.val (.int w),.val (.int k),.own (.dK (dk ((new.flatMap fun u=>fS u w).foldl (sf ((k:Int)+1)) (m,[])).1))] /\
   SP U ((new.flatMap fun u=>fS u w).foldl (sf ((k:Int)+1)) (m,[])):=by
 obtain⟨⟨s5,s6⟩,e1,h1⟩:=xk (i:=5) (db:=Cv a) (fun st p=>me (.lst (af new)) w k st p) (fun st u=>(fS u w).foldl (sf ((k:Int)+1)) st) (SP U) new (m,[]) (.none,.none) h
  (by
   intro u hu st p h
   obtain⟨t1,t2,t3⟩:=hn u hu
   obtain⟨gL,e,h'⟩:=Qh U hU (.lst (af new)) w k (.val (.str u)) (fS u w) t3 st p.2 h
   refine⟨h',(.val (.str u),gL),?_⟩
   have hc:=Iv (a:=a) u w t1 t2
   have hd:cQ (aR (aF (qC a) (gV (dV 5) (gV (dV 1) (Pu.bM))))) (me (.lst (af new)) w k st (.val (.str u),p.2)) = .ok (af (fS u w)) (me (.lst (af new)) w k st (.val (.str u),p.2)):=sJ (sk (AD (v0:=.str u) (v1:=.int w) rfl rfl hc))
   exact nL hd e)
 rw[← Ce]at e1 h1
 refine⟨?_,h1⟩
 have k1:cZ 4 (dL bU aq) [.val (.lst (af new)),.val (.int w),.val (.int k),.own (.dK (dk m)),.none,.none,.none] = .ok .next (me (.lst (af new)) w k (m,[]) (.none,.none)):=oQ (by simp)
 have hd:cQ (dV 0) (me (.lst (af new)) w k (m,[]) (.none,.none)) = .ok (af new) (me (.lst (af new)) w k (m,[]) (.none,.none)):=sJ (d_ rfl)
 generalize (new.flatMap fun u=>fS u w).foldl (sf ((k:Int)+1)) (m,[])=st at e1
 have hb:d_spread a [.val (.lst (af new)),.val (.int w),.val (.int k),.own (.dK (dk m)),.none,.none,.none] = .ok (.ret (.own (.lst (af st.2)))) [.val (.lst (af new)),.val (.int w),.val (.int k),.own (.dK (dk st.1)),.none,s5,s6]:=by
  rw[Pp]
  refine(c9 k1).trans ?_
  refine(vA hd e1).trans ?_
  exact tT rfl
 unfold qc
 generalize d_spread a=D at hb
 generalize af st.2=B at hb
 generalize dk st.1=C at hb
 generalize dk m=A at hb
 generalize af new=N at hb
 simp[bo,fF,bu,bj,hb,back,aW,R.bind,jB]
end
end Sh
namespace Sh
open L2 Pu Mx
theorem N_{i:Nat}{dg:ae->R (List bY)}{ε ε2:ae}{po:PO}{as:List bY}(h:ε[i]?=some (.own po))(h2:dg ε = .ok as ε2):gO i dg ε = .ok (.inr i::as) ε2:=by
 unfold gO; rw[h]; simp only; rw[h2]; rfl
theorem Qy{G:ae->R Slot}{ε:ae}{i0 i1 i2 i3:Nat}{v0 v1 v2:PV}{po po':PO}{r:Slot}(h0:ε[i0]?=some (.val v0))(h1:ε[i1]?=some (.val v1))(h2:ε[i2]?=some (.val v2))(h3:ε[i3]?=some (.own po))
  (hG:G [.val v0,.val v1,.val v2,.own po] = .ok r [.val v0,.val v1,.val v2,.own po']):aF G (gV (dV i0) (gV (dV i1) (gV (dV i2) (gO i3 (Pu.bM))))) ε = .ok r (ε.set i3 (.own po')):=by
 unfold aF
 rw[lr (d_ h0) (lr (d_ h1) (lr (d_ h2) (N_ h3 wz))),R.bind_ok]
 simp[cS,e_,R.bind,aW,hG,ig,fA,fU,h3]
structure ko(t:Tx)(w k:Nat)(m:List (Tx×Int))(new:List Tx):Prop where
 nd:(ks m).Nodup
 key:∀ z,z∈ks m↔WN w k t z
 new:∀ z,z∈new↔Lv w t k z
theorem ko.sp{t:Tx}{w k:Nat}{m:List (Tx×Int)}{new:List Tx}(h:ko t w k m new)(ht:Tv t w):SP (cR t w) (m,[]):=⟨h.nd,fun z hz=>((h.key z).mp hz).like ht,by simp⟩
theorem ko.near{t:Tx}{w k:Nat}{m:List (Tx×Int)}{new:List Tx}(h:ko t w k m new)(ht:Tv t w)(h9:t.length+2<=w+10):∀ u∈new,Tv u w/\u.length+2<=w+10/\∀ z∈fS u w,z∈cR t w:=fun u hu=>by
 have hl:=(h.new u).mp hu
 obtain⟨a1,a2,a3⟩:=hl.1.good ht
 exact⟨a1,by ac_rfl,fun z hz=>(NI.mpr (.inr ⟨u,hl,hz⟩)).like ht⟩
theorem BV{t:Tx}{w k:Nat}{m:List (Tx×Int)}{new:List Tx}(h:ko t w k m new)(z:Tx):z∈(new.flatMap fun u=>fS u w)↔∃ u,Lv w t k u/\z∈fS u w:=by
 rw[ux]
 exact⟨fun⟨u,a,b⟩=>⟨u,(h.new u).mp a,b⟩,fun⟨u,a,b⟩=>⟨u,(h.new u).mpr a,b⟩⟩
theorem ko.next{t:Tx}{w k:Nat}{m:List (Tx×Int)}{new:List Tx}(h:ko t w k m new){st:List (Tx×Int)×List Tx}(e:(new.flatMap fun u=>fS u w).foldl (sf ((k:Int)+1)) (m,[])=st)(hs:SP (cR t w) st):ko t w (k+1) st.1 st.2:=by
 refine⟨hs.nd,fun z=>?_,fun z=>?_⟩
 ·rw[← e,Ez,NI,BV h]
  show z∈ks m\/_↔_
  rw[h.key]
 ·rw[← e,Gf,BV h]
  show z∈[]\/(_/\z∉ks m)↔_
  rw[h.key]
  constructor
  ·rintro(q | ⟨q,r⟩)
   ·simp at q
   ·exact⟨NI.mpr (.inr q),fun j hj=>(show k=j by ac_rfl) ▸ r⟩
  ·rintro⟨q,r⟩
   have r':=r k rfl
   exact .inr ⟨(NI.mp q).resolve_left r',r'⟩
theorem ko.len{t:Tx}{w k:Nat}{m:List (Tx×Int)}{new:List Tx}(h:ko t w k m new)(ht:Tv t w):m.length<(cR t w).length↔¬ Full w t k:=by
 have hkl:(ks m).length=m.length:=cq _
 constructor
 ·intro hl hf
  have:=len_sub (Fu t w) (m:=ks m) fun z hz=>(h.key z).mpr (hf z hz)
  ac_rfl
 ·intro hf
  refine xY fun c=>hf fun z hz=>xY fun d=>?_
  have hn:z∉ks m:=fun q=>d ((h.key z).mp q)
  have:=len_sub (l:=z::ks m) (m:=cR t w) (iS.mpr ⟨hn,h.nd⟩) fun y hy=>by
   rcases bH.mp hy with rfl | hy
   ·exact hz
   ·exact((h.key y).mp hy).like ht
  rw[dQ]at this
  ac_rfl
section
variable{a:Ad}
def fC:ae->R Bool:=dB (d2 (gX fun i j=>decide (i<j)) (tI 3) (dV 2))
def fB(a:Ad):ae->R ax:=aA (bz 4 (aR (aF (qc a) (gV (dV 4) (gV (dV 1) (gV (dV 5) (gO 3 (Pu.bM)))))))) (bz 5 (d2 ay (dV 5) (dC (.int 1))))
theorem KL:d_farthest a=aA (bz 2 (aR (aF (oF a) (gV (aR (aF (nv a) (gV (dV 0) (gV (dV 1) (Pu.bM))))) (Pu.bM)))))
 (aA (cZ 3 (nE 0 0)) (aA (bz 4 (dF (dL bU (ak (dV 0) (aq))))) (aA (bz 5 (dC (.int 0))) (aA (fun ε=>cu (ez fC (fB a) 1000 ε))
 (cY (dL i9 (ak (dV 5) (ak (dL lc (ak (dV 4) (aq))) (aq))))))))):=rfl
def ir(t:Tx)(w c:Nat)(m:List (Tx×Int))(new:List Tx)(k:Nat):ae:=[.val (.str t),.val (.int w),.val (.int c),.own (.dK (dk m)),.val (.lst (af new)),.val (.int k)]
theorem Fm(t:Tx)(w c:Nat)(m:List (Tx×Int))(new:List Tx)(k:Nat):fC (ir t w c m new k) = .ok (decide (m.length<c)) (ir t w c m new k):=by
 have h1:tI 3 (ir t w c m new k) = .ok (.int (m.length:Nat)) (ir t w c m new k):=by
  show R.ok (PV.int ((dk m).length:Nat)) _=_
  rw[Cd]
 have hd:decide (((m.length:Nat):Int)<(c:Nat))=decide (m.length<c):=by
  by_cases q:m.length<c
  ·rw[decide_eq_true q,decide_eq_true (by ac_rfl)]
  ·rw[decide_eq_false q,decide_eq_false (by ac_rfl)]
 refine sL (jE h1 (d_ (v:=.int c) rfl) ?_)
 show some (PV.bl (decide (((m.length:Nat):Int)<(c:Nat))))=_
 rw[hd]
theorem ME(t:Tx)(w:Nat)(ht:Tv t w)(w2:2<=w)(h9:t.length<=9)(c k:Nat)(m:List (Tx×Int))(new:List Tx)(h:ko t w k m new):∃ m' new',ko t w (k+1) m' new'/\fB a (ir t w c m new k) = .ok .next (ir t w c m' new' (k+1)):=by
 obtain⟨e,hs⟩:=IS (a:=a) (cR t w) (wa ht w2 h9) w k new (h.near ht (by ac_rfl)) m (h.sp ht)
 generalize kT:(new.flatMap fun u=>fS u w).foldl (sf ((k:Int)+1)) (m,[])=st at e hs
 refine⟨st.1,st.2,h.next kT hs,?_⟩
 have k1:bz 4 (aR (aF (qc a) (gV (dV 4) (gV (dV 1) (gV (dV 5) (gO 3 (Pu.bM))))))) (ir t w c m new k) = .ok .next [.val (.str t),.val (.int w),.val (.int c),.own (.dK (dk st.1)),.val (.lst (af st.2)),.val (.int k)] :=
  o6 (sk (Qy (ε:=ir t w c m new k) (v0:=.lst (af new)) (v1:=.int w) (v2:=.int k) (po:=.dK (dk m)) rfl rfl rfl rfl e))
 unfold fB
 refine(c9 k1).trans ?_
 exact o6 (jE (x:=.int k) (d_ rfl) (lG _ _) (yH k))
theorem Fv(t:Tx)(w:Nat)(ht:Tv t w)(w2:2<=w)(h9:t.length<=9)(K:Nat)(hK:Full w t K)(iG:∀ k,k<K->¬ Full w t k):∀ (j k bw:Nat) (m:List (Tx×Int)) (new:List Tx),k+j=K->j<bw->ko t w k m new ->
  ∃ m' new',ko t w K m' new'/\ez fC (fB a) bw (ir t w (cR t w).length m new k) = .ok .next (ir t w (cR t w).length m' new' K)
 | 0,k,bw,m,new,hj,hf,h=>by
  obtain⟨f,rfl⟩:∃ f,bw=f+1:=⟨bw-1,by ac_rfl⟩
  have e:k=K:=by ac_rfl
  subst e
  have c:=Fm t w (cR t w).length m new k
  rw[decide_eq_false (fun q=>(h.len ht).mp q hK)]at c
  exact⟨m,new,h,xr c⟩
 | j+1,k,bw,m,new,hj,hf,h=>by
  obtain⟨f,rfl⟩:∃ f,bw=f+1:=⟨bw-1,by ac_rfl⟩
  have c:=Fm t w (cR t w).length m new k
  rw[decide_eq_true ((h.len ht).mpr (iG k (by ac_rfl)))]at c
  obtain⟨m1,n1,h1,e1⟩:=ME (a:=a) t w ht w2 h9 (cR t w).length k m new h
  obtain⟨m2,n2,h2,e2⟩:=Fv t w ht w2 h9 K hK iG j (k+1) f m1 n1 (by ac_rfl) (by ac_rfl) h1
  exact⟨m2,n2,h2,(zQ c e1).trans e2⟩
theorem LZ(t:Tx)(w:Nat):ko t w 0 [(t,0)] [t]:=⟨by simp,fun z=>by rw[Nj]; simp,fun z=>by rw[GP]; simp⟩
theorem yW{t:Tx}{w K:Nat}(ht:Tv t w)(iG:∀ k,k<K->¬ Full w t k):∃ y,Lv w t K y:=by
 cases K with
 | zero=>exact⟨t,GP.mpr rfl⟩
 | succ K=>exact Qi ht (iG K (by ac_rfl))
theorem IL(t:Tx)(w:Nat)(ht:Tv t w)(w2:2<=w)(h9:t.length<=9)(K:Nat)(yf:K<=10)(hK:Full w t K)(iG:∀ k,k<K->¬ Full w t k) :
  ∃ new:List Tx,(∀ z,z∈new↔Lv w t K z)/\q0 a [.val (.str t),.val (.int w)] = .ok (.val (.tup [.int K,.str (dw new)])) [.val (.str t),.val (.int w)]:=by
 obtain⟨m',new,hb,hw⟩:=Fv (a:=a) t w ht w2 h9 K hK iG K 0 1000 [(t,0)] [t] (by ac_rfl) (by ac_rfl) (LZ t w)
 refine⟨new,hb.new,?_⟩
 have e1:=QE (a:=a) ht
 have hg:Good ca w (bD (aS t w)):=ht.good.perm (jF _)
 have e2:=OA (a:=a) hg ht.w1 ht.w4 (Af _)
 rw[Ny ht.w1 ht.h1 ht.abc]at e2
 have k1:bz 2 (aR (aF (oF a) (gV (aR (aF (nv a) (gV (dV 0) (gV (dV 1) (Pu.bM))))) (Pu.bM)))) [.val (.str t),.val (.int w),.none,.none,.none,.none] = .ok .next [.val (.str t),.val (.int w),.val (.int ((cR t w).length:Nat)),.none,.none,.none]:=by
  have hv:aR (aF (nv a) (gV (dV 0) (gV (dV 1) (Pu.bM)))) [.val (.str t),.val (.int w),.none,.none,.none,.none] = .ok (gw w (bD (aS t w))) [.val (.str t),.val (.int w),.none,.none,.none,.none]:=z5 (AD rfl rfl e1)
  refine o6 (x:=.int ((cR t w).length:Nat)) (ε1:=[.val (.str t),.val (.int w),.none,.none,.none,.none]) (z5 ?_)
  generalize aR (aF (nv a) (gV (dV 0) (gV (dV 1) (Pu.bM))))=D at hv ⊢
  generalize oF a=G at e2 ⊢
  generalize gw w (bD (aS t w))=V at hv e2
  unfold aF
  rw[lr hv wz,R.bind_ok]
  simp[cS,e_,R.bind,aW,e2,ig,fA,fU]
 have k2:cZ 3 (nE 0 0) [.val (.str t),.val (.int w),.val (.int ((cR t w).length:Nat)),.none,.none,.none] = .ok .next [.val (.str t),.val (.int w),.val (.int ((cR t w).length:Nat)),.own (.dK (dk [(t,0)])),.none,.none]:=rfl
 have k3:bz 4 (dF (dL bU (ak (dV 0) (aq)))) [.val (.str t),.val (.int w),.val (.int ((cR t w).length:Nat)),.own (.dK (dk [(t,0)])),.none,.none] = .ok .next [.val (.str t),.val (.int w),.val (.int ((cR t w).length:Nat)),.own (.dK (dk [(t,0)])),.val (.lst (af [t])),.none]:=rfl
 have k4:bz 5 (dC (.int 0)) [.val (.str t),.val (.int w),.val (.int ((cR t w).length:Nat)),.own (.dK (dk [(t,0)])),.val (.lst (af [t])),.none] = .ok .next (ir t w (cR t w).length [(t,0)] [t] 0):=rfl
 have b9:new≠[]:=by
  obtain⟨y,hy⟩:=yW ht iG
  intro q
  have:=(hb.new y).mpr hy
  rw[q]at this; simp at this
 have BH:lc [.lst (af new)]=some (.str (dw new)):=by
  show(fR (af new)).bind _=_
  rw[nH,jf,if_pos b9]
 have k6:cY (dL i9 (ak (dV 5) (ak (dL lc (ak (dV 4) (aq))) (aq)))) (ir t w (cR t w).length m' new K) = .ok (.ret (.val (.tup [.int K,.str (dw new)]))) (ir t w (cR t w).length m' new K):=by
  have:=fX (f:=i9) (dI (x:=.int K) (ε:=ir t w (cR t w).length m' new K) (d:=dV 5) (d_ rfl) (dI (fX (dI (x:=.lst (af new)) (d:=dV 4) (d_ rfl) fQ) BH) fQ)) (v:=.tup [.int K,.str (dw new)]) rfl
  unfold cY
  rw[this]
  rfl
 have vf:d_farthest a [.val (.str t),.val (.int w),.none,.none,.none,.none] = .ok (.ret (.val (.tup [.int K,.str (dw new)]))) (ir t w (cR t w).length m' new K):=by
  rw[KL]
  refine(c9 k1).trans ?_
  refine(c9 k2).trans ?_
  refine(c9 k3).trans ?_
  refine(c9 k4).trans ?_
  refine(c9 (d1:=fun ε=>cu (ez fC (fB a) 1000 ε)) (by show cu _=_; rw[hw]; rfl)).trans ?_
  exact k6
 unfold q0
 unfold ir at vf
 generalize d_farthest a=D at vf
 generalize dk m'=A at vf
 generalize af new=B at vf
 simp[bo,fF,bu,bj,vf,back,aW,R.bind,jB]
end
end Sh
namespace Sh
open L2 Pu Mx
theorem DD{w i j:Nat}{t z:Tx}(h1:Lv w t i z)(h2:Lv w t j z):i=j:=by
 rcases Nat.lt_trichotomy i j with c | c | c
 ·have:=h1.1.mono (j-1-i)
  rw[show i+(j-1-i)=j-1 by ac_rfl]at this
  exact absurd this (h2.2 (j-1) (by ac_rfl))
 ·exact c
 ·have:=h2.1.mono (i-1-j)
  rw[show j+(i-1-j)=i-1 by ac_rfl]at this
  exact absurd this (h1.2 (i-1) (by ac_rfl))
theorem HU{w:Nat}{t z:Tx}:∀ {k:Nat},WN w k t z↔∃ i,i<=k/\Lv w t i z
 | 0=>⟨fun h=>⟨0,aL _,GP.mpr (Nj.mp h)⟩,fun⟨i,h1,h2⟩=>by
   have:i=0:=by ac_rfl
   subst this
   exact h2.1⟩
 | k+1=>by
  constructor
  ·intro h
   by_cases c:WN w k t z
   ·obtain⟨i,h1,h2⟩:=HU.mp c
    exact⟨i,by ac_rfl,h2⟩
   ·exact⟨k+1,aL _,h,fun j hj=>(show k=j by ac_rfl) ▸ c⟩
  ·rintro⟨i,h1,h2⟩
   have:=h2.1.mono (k+1-i)
   rwa[show i+(k+1-i)=k+1 by ac_rfl]at this
structure j2(t:Tx)(w k:Nat)(m:List (Tx×Int))(lv:List Tx):Prop where
 nd:(ks m).Nodup
 get:∀ z (n:Int),bV m z=some n↔∃ i:Nat,n=i/\i<=k/\Lv w t i z
 lev:∀ z,z∈lv↔Lv w t k z
theorem j2.key{t:Tx}{w k:Nat}{m:List (Tx×Int)}{lv:List Tx}(h:j2 t w k m lv)(z:Tx):z∈ks m↔WN w k t z:=by
 have:=Fa m z
 rw[HU]
 constructor
 ·intro q
  rw[decide_eq_true q,Option.isSome_iff_exists]at this
  obtain⟨n,hn⟩:=this
  obtain⟨i,_,h1,h2⟩:=(h.get z n).mp hn
  exact⟨i,h1,h2⟩
 ·rintro⟨i,h1,h2⟩
  have e:=(h.get z i).mpr ⟨i,rfl,h1,h2⟩
  rw[e]at this
  exact of_decide_eq_true this.symm
def eJ(w:Nat)(m:List (Tx×Int))(lv:List Tx):List Tx:=lv.flatMap fun h=>(iQ h w).filter fun z=>decide (z∉ks m)
theorem GA(n:Int):∀ (zs:List Tx) (m:List (Tx×Int)) (z:Tx),bV (zs.foldl (fun m z=>ce m z n) m) z=if z∈zs then some n else bV m z
 | [],m,z=>by simp
 | x::zs,m,z=>by
  rw[iT,GA n zs,sQ]
  by_cases c:z∈zs
  ·simp[c]
  ·by_cases d:z=x <;> simp[c,d]
theorem E3(n:Int):∀ (zs:List Tx) (m:List (Tx×Int)),(ks m).Nodup->(ks (zs.foldl (fun m z=>ce m z n) m)).Nodup
 | [],m,h=>h
 | x::zs,m,h=>E3 n zs (ce m x n) (v7 h)
structure jx(t:Tx)(w:Nat):Prop where
 tv:Tv t w
 w2:2<=w
 h9:t.length<=9
 two:2 * w<=t.length+3
theorem jx.of{t u:Tx}{w k:Nat}(h:jx t w)(q:WN w k t u):jx u w:=by
 obtain⟨a1,a2,_⟩:=q.good h.tv
 exact⟨a1,h.w2,by have:=h.h9; ac_rfl,by have:=h.two; ac_rfl⟩
theorem j2.late{t:Tx}{w k:Nat}{m:List (Tx×Int)}{lv:List Tx}(h:j2 t w k m lv)(ht:jx t w)(z:Tx):z∈eJ w m lv↔Lv w t (k+1) z:=by
 unfold eJ
 rw[ux]
 simp only[jc,decide_eq_true_eq]
 constructor
 ·rintro⟨u,hu,hz,hn⟩
  have hl:=(h.lev u).mp hu
  have hw:=ht.of hl.1
  rw[← Gr hw.tv hw.two]at hz
  refine⟨NI.mpr (.inr ⟨u,hl,hz⟩),fun j hj=>?_⟩
  rw[h.key]at hn
  exact(show k=j by ac_rfl) ▸ hn
 ·rintro⟨q,r⟩
  have r':=r k rfl
  obtain⟨u,hu,hz⟩:=(NI.mp q).resolve_left r'
  have hw:=ht.of hu.1
  rw[Gr hw.tv hw.two]at hz
  exact⟨u,(h.lev u).mpr hu,hz,fun c=>r' ((h.key z).mp c)⟩
theorem j2.next{t:Tx}{w k:Nat}{m:List (Tx×Int)}{lv:List Tx}(h:j2 t w k m lv)(ht:jx t w):j2 t w (k+1) ((eJ w m lv).foldl (fun m z=>ce m z ((k:Int)+1)) m) (bD (bP (eJ w m lv))):=by
 refine⟨E3 _ _ _ h.nd,fun z n=>?_,fun z=>?_⟩
 ·rw[GA]
  by_cases c:z∈eJ w m lv
  ·have hl:=(h.late ht z).mp c
   rw[if_pos c]
   constructor
   ·intro e
    exact⟨k+1,by rw[← dE e]; rfl,aL _,hl⟩
   ·rintro⟨i,rfl,h1,h2⟩
    rw[DD h2 hl]; rfl
  ·rw[if_neg c,h.get]
   constructor
   ·rintro⟨i,e,h1,h2⟩
    exact⟨i,e,by ac_rfl,h2⟩
   ·rintro⟨i,e,h1,h2⟩
    refine⟨i,e,?_,h2⟩
    rcases Nat.lt_or_ge k i with d | d
    ·have:i=k+1:=by ac_rfl
     subst this
     exact absurd ((h.late ht z).mpr h2) c
    ·exact d
 ·rw[(jF _).mem_iff,lx,h.late ht]
theorem j2.sub{t:Tx}{w k:Nat}{m:List (Tx×Int)}{lv:List Tx}(h:j2 t w k m lv)(ht:jx t w):m.length<=2430:=by
 have:=len_sub h.nd fun z hz=>((h.key z).mp hz).like ht.tv
 rw[cq]at this
 have:=wa ht.tv ht.w2 ht.h9
 ac_rfl
theorem NP:∀ n,n<=9->Du n<=210:=by decide +kernel
theorem Ll{u:Tx}{w:Nat}(h:jx u w):(iQ u w).length<=220:=by
 have hr:=qB u (w-1)
 have h9:=h.h9
 have w2:=h.w2
 have hw:=h.tv.h1
 unfold iQ
 rw[Ar]
 have b1:=wR (dX (kl u w) u)
 have b2:(dX (kl u w) u).length<=(kl u w).length:=rK _ _
 have b3:(kl u w).length=(mj u (bv u (w-1))).length+(fD u (bv u (w-1))).length:=by unfold kl; rw[cT]
 have b4:=E2 u (bv u (w-1))
 have b5:(mj u (bv u (w-1))).length<=210:=by
  refine cp (nD (c:=fun l=>((br 0 l).map fun j=>(l-j) * j).sum) fun s _=>?_) (NP _ (by ac_rfl))
  exact nD fun g _=>zg (zj u _ g s)
 ac_rfl
theorem Dh{w:Nat}{m:List (Tx×Int)}:∀ (lv:List Tx),(∀ u∈lv,jx u w)->(eJ w m lv).length<=lv.length * 220
 | [],_=>by simp[eJ]
 | u::lv,h=>by
  have ih:=Dh (m:=m) lv fun y hy=>h y (by simp[hy])
  have h1:=Ll (h u (by simp))
  have h2:((iQ u w).filter fun z=>decide (z∉ks m)).length<=(iQ u w).length:=rK _ _
  have e:eJ w m (u::lv)=((iQ u w).filter fun z=>decide (z∉ks m))++eJ w m lv:=by unfold eJ; rw[kL]
  rw[e,cT,dQ,Nat.add_mul]
  ac_rfl
end Sh
namespace Sh
open L2 Pu Mx
theorem CW{i:Nat}{db:ae->R ax}{σ:Type}(env:List Tx->σ->ae)(f:Tx->List Tx)(B:Nat) :
  ∀ (xs:List Tx) (am:List Tx) (s:σ),(am++xs.flatMap f).length<=B->(∀ x∈xs,∀ am s,(am++f x).length<=B->∃ s',db ((env am s).set i (.val (.str x))) = .ok .next (env (am++f x) s')) ->
   ∃ s',dJ i db (af xs) (env am s) = .ok .next (env (am++xs.flatMap f) s')
 | [],am,s,_,_=>⟨s,by simp[dJ,af]⟩
 | x::xs,am,s,hB,step=>by
  rw[kL]at hB ⊢
  obtain⟨s1,e1⟩:=step x (by simp) am s (by simp at hB ⊢; ac_rfl)
  obtain⟨s2,e2⟩:=CW env f B xs (am++f x) s1 (by rw[gh]; exact hB) fun y hy=>step y (by simp[hy])
  refine⟨s2,?_⟩
  show dJ i db (.str x::af xs) _=_
  rw[dJ,e1]
  simp only
  rw[e2,gh]
section
variable{a:Ad}
def lC:ae->R Bool:=dB (d2 (eqT true) (dV 3) (dF (dL bU (aq))))
def lE(a:Ad):ae->R ax:=jZ 4 (dF (dU [2] (cQ (aR (aF (oU a) (gV (dV 5) (gV (dV 1) (Pu.bM)))))) (dB (jq true 1 (dV 0))) (dV 0)))
def lP:ae->R ax:=iO 2 (dV 6) (d2 ay (kn 2 (d2 bi (dV 3) (dC (.int 0)))) (dC (.int 1)))
def lB(a:Ad):ae->R ax:=aA (cZ 4 (dL bU (aq))) (aA (b8 5 (cQ (dV 3)) (lE a)) (aA (b8 6 (cQ (dM 4)) lP) (bz 3 (dF (dL ku (ak (dV 4) (aq)))))))
theorem Qq:d_law_levels a=aA (cZ 2 (nE 0 0)) (aA (bz 3 (dF (dL bU (ak (dV 0) (aq))))) (aA (fun ε=>cu (ez lC (lB a) 1000 ε)) (gA 2))):=rfl
def dZ(t:Tx)(w:Nat)(m:List (Tx×Int))(lv:List Tx)(s4 s5 s6:Slot):ae:=[.val (.str t),.val (.int w),.own (.dK (dk m)),.val (.lst (af lv)),s4,s5,s6]
theorem M3(t:Tx)(w:Nat)(m:List (Tx×Int))(LV s4 s5 s6:Slot)(zs:List Tx) :
  j0 [2] (dB (jq true 1 (dV 0))) (dV 0) (af zs) [] [.val (.str t),.val (.int w),.own (.dK (dk m)),LV,s4,s5,s6] = .ok (af (zs.filter fun z=>decide (z∉ks m))) [.val (.str t),.val (.int w),.own (.dK (dk m)),LV,s4,s5,s6]:=by
 have hc:=lu (cap:=[2]) (dt:=(dB (jq true 1 (dV 0)))) (de:=dV 0) (ε:=[.val (.str t),.val (.int w),.own (.dK (dk m)),LV,s4,s5,s6]) (fun x=>match x with | .str z=>decide (z∉ks m) | _=>false) (fun x=>x) (af zs)
  (by
   intro x hx
   obtain⟨z,_,rfl⟩:=b0.mp hx
   have gn:=sL (Ct (neg:=true) (i:=1) (db:=dV 0) (ε:=[.val (.str z),.own (.dK (dk m))]) (z:=z) (m:=m) (d_ rfl) rfl)
   have hb:(true ^^ decide (z∈ks m))=decide (z∉ks m):=by rw[xW,decide_not]
   rw[hb]at gn
   have hv:dV 0 [.val (.str z),.own (.dK (dk m))] = .ok (.str z) [.val (.str z),.own (.dK (dk m))]:=rfl
   generalize dB (jq true 1 (dV 0))=D at gn ⊢
   generalize dV 0=D0 at hv ⊢
   generalize dk m=DM at gn hv ⊢
   exact⟨by simp[et,dY,dr,R.bind,aW,cS,e_,gn,ig,fA,fU],fun _=>by simp[et,dY,dr,R.bind,aW,cS,e_,hv,ig,fA,fU]⟩) []
 rw[hc,fL]
 congr 1
 rw[List.map_id']
 unfold af
 rw[xV]
 rfl
theorem Lg(t:Tx)(w:Nat)(m:List (Tx×Int))(lv:List Tx)(hv:∀ u∈lv,jx u w)(hl:lv.length<=2430)(s5 s6:Slot):∃ i6,b8 5 (cQ (dV 3)) (lE a) (dZ t w m lv (.own (.lst [])) s5 s6) = .ok .next (dZ t w m lv (.own (.lst (af (eJ w m lv)))) i6 s6):=by
 have hB:=Dh (m:=m) lv hv
 obtain⟨i6,e⟩:=CW (i:=5) (db:=lE a) (fun am s5=>dZ t w m lv (.own (.lst (af am))) s5 s6) (fun h=>(iQ h w).filter fun z=>decide (z∉ks m)) 999999 lv [] s5 (by rw[fL]; show(eJ w m lv).length<=_; ac_rfl)
  (by
   intro u hu am s5 hB
   refine⟨.val (.str u),?_⟩
   have hw:=hv u hu
   have hc:=Kv (a:=a) u w hw.tv (by have:=hw.h9; have:=hw.w2; ac_rfl)
   have hi:cQ (aR (aF (oU a) (gV (dV 5) (gV (dV 1) (Pu.bM))))) (dZ t w m lv (.own (.lst (af am))) (.val (.str u)) s6) = .ok (af (iQ u w)) (dZ t w m lv (.own (.lst (af am))) (.val (.str u)) s6):=sJ (z5 (AD (v0:=.str u) (v1:=.int w) rfl rfl hc))
   have ve:=M3 t w m (.val (.lst (af lv))) (.own (.lst (af am))) (.val (.str u)) s6 (iQ u w)
   have hx:dF (dU [2] (cQ (aR (aF (oU a) (gV (dV 5) (gV (dV 1) (Pu.bM)))))) (dB (jq true 1 (dV 0))) (dV 0)) (dZ t w m lv (.own (.lst (af am))) (.val (.str u)) s6) = .ok (.lst (af ((iQ u w).filter fun z=>decide (z∉ks m)))) (dZ t w m lv (.own (.lst (af am))) (.val (.str u)) s6):=by
    unfold dF dU
    rw[hi,R.bind_ok]
    unfold dZ
    rw[ve]
    rfl
   have:=wC (i:=4) (ε:=dZ t w m lv (.own (.lst (af am))) (.val (.str u)) s6) (xs0:=af am) (xs:=af am) rfl hx rfl (by rw[ff,ff]; rw[cT]at hB; unfold be; ac_rfl)
   rw[sP]at this
   exact this)
 refine⟨i6,?_⟩
 rw[fL]at e
 exact nL (sJ (d_ rfl)) e
theorem Os(t:Tx)(w k:Nat)(ht:jx t w)(m:List (Tx×Int))(y:Tx)(r zs:List Tx)(h:j2 t w k m (y::r))(hz:∀ z∈zs,Lv w t (k+1) z)(s5 s6:Slot):∃ gL,b8 6 (cQ (dM 4)) lP (dZ t w m (y::r) (.own (.lst (af zs))) s5 s6) = .ok .next (dZ t w (zs.foldl (fun m z=>ce m z ((k:Int)+1)) m) (y::r) (.val (.lst (af zs))) s5 gL):=by
 have hy:=(h.lev y).mp (by simp)
 have hU:=wa ht.tv ht.w2 ht.h9
 obtain⟨gL,e,_⟩:=xk (i:=6) (db:=lP) (fun m s6=>dZ t w m (y::r) (.val (.lst (af zs))) s5 s6) (fun m z=>ce m z ((k:Int)+1)) (fun m=>(ks m).Nodup/\(∀ z∈ks m,z∈cR t w)/\bV m y=some (k:Int)) zs m s6
  ⟨h.nd,fun z hz=>((h.key z).mp hz).like ht.tv,(h.get y k).mpr ⟨k,rfl,aL _,hy⟩⟩
  (by
   rintro z rZ m s6 ⟨p1,p2,p3⟩
   have qa:=hz z rZ
   have b9:y≠z:=fun e=>by
    have:=DD hy (e ▸ qa)
    ac_rfl
   refine⟨⟨v7 p1,fun x hx=>?_,by rw[sQ,if_neg b9]; exact p3⟩,.val (.str z),?_⟩
   ·have hx:x∈(ce m z ((k:Int)+1)).map (·.1):=hx
    rw[zq]at hx
    split at hx
    ·exact p2 x hx
    ·rcases dO.mp hx with hx | hx
     ·exact p2 x hx
     ·simp at hx; rw[hx]; exact qa.1.like ht.tv
   ·have b7:=len_sub p1 p2
    rw[cq]at b7
    have hix:bi (.lst (af (y::r))) (.int 0)=some (.str y):=by show eT (.str y::af r) 0=_; rw[yv (by decide) (by simp)]; rfl
    have hg:=Lb (i:=2) (db:=d2 bi (dV 3) (dC (.int 0))) (ε:=dZ t w m (y::r) (.val (.lst (af zs))) s5 (.val (.str z))) (z:=y) (n:=(k:Int)) (m:=m) ⟨_,rfl⟩ (jE (x:=.lst (af (y::r))) (d_ rfl) (lG _ _) hix) rfl p3
    have ha:ay (.int (k:Int)) (.int 1)=some (.int ((k:Int)+1)):=rfl
    exact En (i:=2) (db:=dV 6) (ε:=dZ t w m (y::r) (.val (.lst (af zs))) s5 (.val (.str z))) (z:=z) (jE hg (lG _ _) ha) (d_ rfl) ⟨_,rfl⟩ rfl (by unfold be; ac_rfl))
 refine⟨gL,nL ?_ e⟩
 exact sJ (xs:=af zs) (ε1:=dZ t w m (y::r) (.val (.lst (af zs))) s5 s6) rfl
theorem MC(t:Tx)(w k:Nat)(ht:jx t w)(m:List (Tx×Int))(lv:List Tx)(h:j2 t w k m lv)(nd:lv.Nodup)(b9:lv≠[])(s4 s5 s6:Slot):∃ m' lv' p_ i6 gL,j2 t w (k+1) m' lv'/\lv'.Nodup/\lB a (dZ t w m lv s4 s5 s6) = .ok .next (dZ t w m' lv' p_ i6 gL):=by
 have hU:=wa ht.tv ht.w2 ht.h9
 have hll:lv.length<=2430:=cp (len_sub nd fun z hz=>((h.lev z).mp hz).1.like ht.tv) hU
 obtain⟨i6,e1⟩:=Lg (a:=a) t w m lv (fun u hu=>ht.of ((h.lev u).mp hu).1) hll s5 s6
 obtain⟨y,r,rfl⟩:∃ y r,lv=y::r:=by
  cases lv with
  | nil=>exact absurd rfl b9
  | cons y r=>exact⟨y,r,rfl⟩
 obtain⟨gL,e2⟩:=Os t w k ht m y r (eJ w m (y::r)) h (fun z hz=>(h.late ht z).mp hz) i6 s6
 refine⟨_,bD (bP (eJ w m (y::r))),.val (.lst (af (eJ w m (y::r)))),i6,gL,h.next ht,(jF _).nodup_iff.mpr (sR _),?_⟩
 have hu:(bP (eJ w m (y::r))).length<4000:=by
  have:=len_sub (sR (eJ w m (y::r))) fun z hz=>((h.late ht z).mp ((lx _ _).mp hz)).1.like ht.tv
  ac_rfl
 have hs:ku [.lst (af (eJ w m (y::r)))]=some (.lst (af (bD (bP (eJ w m (y::r)))))):=by
  show(fR (af _)).bind _=_
  rw[nH,jf,if_pos hu]
 have k1:cZ 4 (dL bU aq) (dZ t w m (y::r) s4 s5 s6) = .ok .next (dZ t w m (y::r) (.own (.lst [])) s5 s6):=oQ (by simp[dZ])
 unfold lB
 refine(c9 k1).trans ?_
 refine(c9 e1).trans ?_
 refine(c9 e2).trans ?_
 generalize (eJ w m (y::r)).foldl (fun m z=>ce m z ((k:Int)+1)) m=M
 refine o6 (x:=.lst (af (bD (bP (eJ w m (y::r)))))) (ε1:=dZ t w M (y::r) (.val (.lst (af (eJ w m (y::r))))) i6 gL) ?_
 unfold dF
 rw[fX (dI (x:=.lst (af (eJ w m (y::r)))) (d:=dV 4) (d_ rfl) fQ) hs]
 rfl
theorem GL(t:Tx)(w:Nat)(m:List (Tx×Int))(lv:List Tx)(s4 s5 s6:Slot):lC (dZ t w m lv s4 s5 s6) = .ok (!decide (lv=[])) (dZ t w m lv s4 s5 s6):=by
 have he:=Gv true lv []
 rw[xW]at he
 exact sL (jE (x:=.lst (af lv)) (y:=.lst (af [])) (d_ rfl) rfl he)
theorem CG(t:Tx)(w:Nat)(ht:jx t w)(K:Nat)(hK:Full w t K)(iG:∀ k,k<K->¬ Full w t k):∀ (j k bw:Nat) (m:List (Tx×Int)) (lv:List Tx) (s4 s5 s6:Slot),k+j=K+1->j<bw->j2 t w k m lv->lv.Nodup ->
  ∃ m' p_ i6 gL,j2 t w (K+1) m' []/\ez lC (lB a) bw (dZ t w m lv s4 s5 s6) = .ok .next (dZ t w m' [] p_ i6 gL)
 | 0,k,bw,m,lv,s4,s5,s6,hj,hf,h,nd=>by
  obtain⟨f,rfl⟩:∃ f,bw=f+1:=⟨bw-1,by ac_rfl⟩
  have e:k=K+1:=by ac_rfl
  subst e
  have hl:lv=[]:=by
   cases lv with
   | nil=>rfl
   | cons z r =>
    have hz:=(h.lev z).mp (by simp)
    exact absurd (hK z (hz.1.like ht.tv)) (hz.2 K rfl)
  subst hl
  have c:=GL t w m [] s4 s5 s6
  exact⟨m,s4,s5,s6,h,xr c⟩
 | j+1,k,bw,m,lv,s4,s5,s6,hj,hf,h,nd=>by
  obtain⟨f,rfl⟩:∃ f,bw=f+1:=⟨bw-1,by ac_rfl⟩
  have b9:lv≠[]:=by
   obtain⟨y,hy⟩:=yW (K:=k) ht.tv fun i hi=>iG i (by ac_rfl)
   intro q
   have:=(h.lev y).mpr hy
   rw[q]at this; simp at this
  have c:=GL t w m lv s4 s5 s6
  rw[decide_eq_false b9]at c
  obtain⟨m1,l1,a4,a5,a6,h1,n1,e1⟩:=MC (a:=a) t w k ht m lv h nd b9 s4 s5 s6
  obtain⟨m2,b4,b5,b6,h2,e2⟩:=CG t w ht K hK iG j (k+1) f m1 l1 a4 a5 a6 (by ac_rfl) (by ac_rfl) h1 n1
  exact⟨m2,b4,b5,b6,h2,(zQ c e1).trans e2⟩
theorem Kb(t:Tx)(w:Nat):j2 t w 0 [(t,0)] [t]:=by
 refine⟨by simp,fun z n=>?_,fun z=>by rw[GP]; simp⟩
 have hg:bV [(t,0)] z=if z=t then some 0 else none:=by
  unfold bV
  by_cases c:z=t
  ·subst c; simp
  ·have:¬ t=z:=fun e=>c e.symm
   simp[c,this]
 rw[hg]
 constructor
 ·intro e
  by_cases c:z=t
  ·rw[if_pos c]at e
   exact⟨0,(dE e).symm,aL _,GP.mpr c⟩
  ·rw[if_neg c]at e; cases e
 ·rintro⟨i,rfl,h1,h2⟩
  have:i=0:=by ac_rfl
  subst this
  rw[if_pos (GP.mp h2)]; rfl
theorem Jz(t:Tx)(w:Nat)(ht:jx t w)(K:Nat)(yf:K<=10)(hK:Full w t K)(iG:∀ k,k<K->¬ Full w t k):∃ m,j2 t w (K+1) m []/\sy a [.val (.str t),.val (.int w)] = .ok (.own (.dK (dk m))) [.val (.str t),.val (.int w)]:=by
 obtain⟨m,s4,s5,s6,h,hw⟩:=CG (a:=a) t w ht K hK iG (K+1) 0 1000 [(t,0)] [t] .none .none .none (by ac_rfl) (by ac_rfl) (Kb t w) (by simp)
 refine⟨m,h,?_⟩
 have k1:cZ 2 (nE 0 0) [.val (.str t),.val (.int w),.none,.none,.none,.none,.none] = .ok .next [.val (.str t),.val (.int w),.own (.dK (dk [(t,0)])),.none,.none,.none,.none]:=rfl
 have k2:bz 3 (dF (dL bU (ak (dV 0) (aq)))) [.val (.str t),.val (.int w),.own (.dK (dk [(t,0)])),.none,.none,.none,.none] = .ok .next (dZ t w [(t,0)] [t] .none .none .none):=rfl
 have hb:d_law_levels a [.val (.str t),.val (.int w),.none,.none,.none,.none,.none] = .ok (.ret (.own (.dK (dk m)))) [.val (.str t),.val (.int w),.none,.val (.lst (af [])),s4,s5,s6]:=by
  rw[Qq]
  refine(c9 k1).trans ?_
  refine(c9 k2).trans ?_
  refine(c9 (d1:=fun ε=>cu (ez lC (lB a) 1000 ε)) (by show cu _=_; rw[hw]; rfl)).trans ?_
  exact tT rfl
 unfold sy
 generalize d_law_levels a=D at hb
 generalize dk m=A at hb
 simp[bo,fF,bu,bj,hb,back,aW,R.bind,jB]
end
end Sh
namespace K20
open L2 Pu Mx Sh
theorem D8:∀ (l:List Int) (b:Int),b<=l.foldl (fun b y=>if y > b then y else b) b/\∀ y∈l,y<=l.foldl (fun b y=>if y > b then y else b) b
 | [],b=>⟨Int.le_refl _,fun y h=>by simp at h⟩
 | x::l,b=>by
  obtain⟨h1,h2⟩:=D8 l (if x > b then x else b)
  rw[iT]
  have e1:b<=(if x > b then x else b):=by split <;> ac_rfl
  have e2:x<=(if x > b then x else b):=by split <;> ac_rfl
  refine⟨Int.le_trans e1 h1,fun y hy=>?_⟩
  rcases bH.mp hy with rfl | hy
  ·exact Int.le_trans e2 h1
  ·exact h2 y hy
theorem DV:∀ (l:List Int) (b:Int),l.foldl (fun b y=>if y > b then y else b) b=b\/l.foldl (fun b y=>if y > b then y else b) b∈l
 | [],b=>.inl rfl
 | x::l,b=>by
  rw[iT]
  rcases DV l (if x > b then x else b)with h | h
  ·rw[h]
   by_cases c:x > b
   ·rw[if_pos c]; exact .inr (by simp)
   ·rw[if_neg c]; exact .inl rfl
  ·exact .inr (by simp[h])
theorem MO{l:List Int}{n:Int}(h:n∈l)(hl:∀ y∈l,y<=n):i7 l=n:=by
 cases l with
 | nil=>simp at h
 | cons x r =>
  show r.foldl _ x=n
  obtain⟨h1,h2⟩:=D8 r x
  have h3:r.foldl (fun b y=>if y > b then y else b) x<=n:=by
   rcases DV r x with q | q
   ·rw[q]; exact hl x (by simp)
   ·exact hl _ (by simp[q])
  have h4:n<=r.foldl (fun b y=>if y > b then y else b) x:=by
   rcases bH.mp h with rfl | h
   ·exact h1
   ·exact h2 n h
  exact Int.le_antisymm h3 h4
theorem JN{l r:List Tx}(hl:l≠[])(hr:r≠[])(h:∀ z,z∈l↔z∈r):dw l=dw r :=
 List.le_antisymm (CK ((h _).mpr (Aa hr))) (CK ((h _).mp (Aa hl)))
theorem Go:∀ m:List (Tx×Int),oN (dk m)=some m
 | []=>rfl
 | (x,n)::m=>by
  show(oN (dk m)).map (fun r=>((tS x).cps.toList,n)::r)=_
  rw[Go m,kw]; rfl
theorem EZ:∀ l:List Int,io (l.map .int)=some l
 | []=>rfl
 | n::l=>by
  rw[dq]
  simp[io,EZ l]
section
variable{a:Ad}
theorem Oc(ns:List Int):sD a [bg ns] = .ok (.val (.bl true)) [bg ns]:=by
 obtain⟨t0,w,ys,w2,w4,t1,t2,tc,hy,hl⟩:=N6 (a:=a) ns [] 2 9 (by decide) (by decide) (by decide) (by decide) (by decide)
 have jS:o7 a [bg ns,.own (.lst []),.val (.int 2),.val (.int 9)] = .ok (.val (.tup [.str t0,.int w])) [bg ns,.own (.lst ys),.val (.int 2),.val (.int 9)]:=hl
 obtain⟨v,v0,v1,hd⟩:=tN (a:=a) ns ys 4 (by decide) (by simp at hy; ac_rfl)
 have k1:cZ 1 (dL bU aq) [bg ns,.none,.none,.none,.none,.none] = .ok .next [bg ns,.own (.lst []),.none,.none,.none,.none]:=oQ (by simp)
 have k2:vF 2 3 (aR (aF (o7 a) (gV (dV 0) (gO 1 (gV (dC (.int 2)) (gV (dC (.int 9)) (Pu.bM))))))) [bg ns,.own (.lst []),.none,.none,.none,.none] = .ok .next [bg ns,.own (.lst ys),.val (.str t0),.val (.int w),.none,.none]:=by
  generalize o7 a=G at jS ⊢
  simp![vF,jS]
 obtain⟨t,ht,k3⟩:∃ t:Tx,jx t w/\c0 (dB (d2 (eqT false) (aR (aF (jo a) (gV (dV 0) (gO 1 (gV (dC (.int 4)) (Pu.bM)))))) (dC (.int 0)))) (bz 2 (aM aO (dV 2) (bI) (az (d2 ay (dV 3) (dC (.int 1)))))) (dD) [bg ns,.own (.lst ys),.val (.str t0),.val (.int w),.none,.none] = .ok .next [bg ns,.own (.lst (ys++[.int 0])),.val (.str t),.val (.int w),.none,.none]:=by
  have he:=yD false v 0
  simp only[rL]at he
  generalize jo a=G at hd ⊢
  by_cases q:v=0
  ·rw[decide_eq_true q]at he
   have s1:=mh t0 (w+1)
   have ha:=yH w
   refine⟨t0.take (w+1),⟨⟨by ac_rfl,w4,by simp; ac_rfl,by simp; ac_rfl,fun c h=>tc c (iV h)⟩,w2,by simp; ac_rfl,by simp; ac_rfl⟩,?_⟩
   generalize t0.take (w+1)=T at s1
   generalize ((w+1:Nat):Int)=wi at s1 ha
   simp![hd,he,aM,az,bI,ha,s1]
  ·rw[decide_eq_false q]at he
   refine⟨t0,⟨⟨by ac_rfl,w4,by ac_rfl,by ac_rfl,tc⟩,w2,by ac_rfl,by ac_rfl⟩,?_⟩
   simp![hd,he]
 obtain⟨K,yf,hK,iG⟩:=M6 ht.tv
 obtain⟨m,hm,hlv⟩:=Jz (a:=a) t w ht K yf hK iG
 obtain⟨new,HM,hfar⟩:=IL (a:=a) t w ht.tv ht.w2 ht.h9 K yf hK iG
 obtain⟨y,hyK⟩:=yW ht.tv iG
 have n4:∀ z n,(z,n)∈m↔∃ i:Nat,n=i/\i<=K/\Lv w t i z:=fun z n=>by
  rw[← NG hm.nd,hm.get]
  constructor
  ·rintro⟨i,e,h1,h2⟩
   refine⟨i,e,?_,h2⟩
   rcases Nat.lt_or_ge K i with c | c
   ·have:i=K+1:=by ac_rfl
    subst this
    exact absurd (hK z (h2.1.like ht.tv)) (h2.2 K rfl)
   ·exact c
  ·rintro⟨i,e,h1,h2⟩
   exact⟨i,e,by ac_rfl,h2⟩
 have hmax:i7 (m.map (·.2))=(K:Nat):=MO (b0.mpr ⟨(y,K),(n4 y K).mpr ⟨K,rfl,aL _,hyK⟩,rfl⟩) fun n hn=>by
  obtain⟨p,hp,rfl⟩:=b0.mp hn
  obtain⟨i,e,h1,_⟩:=(n4 p.1 p.2).mp hp
  ac_rfl
 have HF:∀ z,z∈gY m (K:Nat)↔Lv w t K z:=fun z=>by
  unfold gY
  rw[b0]
  constructor
  ·rintro⟨p,hp,rfl⟩
   obtain⟨h1,h2⟩:=jc.mp hp
   obtain⟨i,e,h3,h4⟩:=(n4 p.1 p.2).mp h1
   have:i=K:=by have:=of_decide_eq_true h2; ac_rfl
   rw[← this]; exact h4
  ·intro h
   exact⟨(z,K),jc.mpr ⟨(n4 z K).mpr ⟨K,rfl,aL _,h⟩,by simp⟩,rfl⟩
 have hmne:m≠[]:=by
  intro q
  have:=(n4 y K).mpr ⟨K,rfl,aL _,hyK⟩
  rw[q]at this; simp at this
 have HN:gY m (K:Nat)≠[]:=by
  intro q
  have:=(HF y).mpr hyK
  rw[q]at this; simp at this
 have hnne:new≠[]:=by
  intro q
  have:=(HM y).mpr hyK
  rw[q]at this; simp at this
 have BH:dw new=dw (gY m (K:Nat)):=JN hnne HN fun z=>by rw[HM,HF]
 have Rf:∀ p∈m,p.1.length<=be:=fun p hp=>by
  obtain⟨i,_,_,h4⟩:=(n4 p.1 p.2).mp hp
  have:=(h4.1.good ht.tv).2.1
  have:=ht.h9
  unfold be; ac_rfl
 have k4:cZ 4 (nA (aF (sy a) (gV (dV 2) (gV (dV 3) (Pu.bM))))) [bg ns,.own (.lst (ys++[.int 0])),.val (.str t),.val (.int w),.none,.none] = .ok .next [bg ns,.own (.lst (ys++[.int 0])),.val (.str t),.val (.int w),.own (.dK (dk m)),.none]:=by
  unfold cZ nA
  rw[Sh.AD (v0:=.str t) (v1:=.int w) rfl rfl hlv]
  rfl
 have Ro:dF (r8 4) [bg ns,.own (.lst (ys++[.int 0])),.val (.str t),.val (.int w),.own (.dK (dk m)),.none] = .ok (.lst ((m.map (·.2)).map .int)) [bg ns,.own (.lst (ys++[.int 0])),.val (.str t),.val (.int w),.own (.dK (dk m)),.none]:=by
  show R.ok (PV.lst ((dk m).map (·.2))) _=_
  unfold dk
  rw[dy,dy]
  rfl
 have Rp:tX [.lst ((m.map (·.2)).map .int)]=some (.int K):=by
  show(io _).bind _=_
  rw[EZ,jf,if_pos (by simpa using hmne),hmax]
 have k5:bz 5 (dL tX (ak (dF (r8 4)) (aq))) [bg ns,.own (.lst (ys++[.int 0])),.val (.str t),.val (.int w),.own (.dK (dk m)),.none] = .ok .next [bg ns,.own (.lst (ys++[.int 0])),.val (.str t),.val (.int w),.own (.dK (dk m)),.val (.int K)] :=
  o6 (fX (dI Ro fQ) Rp)
 have hw:dF (o8 4 5) [bg ns,.own (.lst (ys++[.int 0])),.val (.str t),.val (.int w),.own (.dK (dk m)),.val (.int K)] = .ok (.lst (af (gY m (K:Nat)))) [bg ns,.own (.lst (ys++[.int 0])),.val (.str t),.val (.int w),.own (.dK (dk m)),.val (.int K)]:=by
  have:o8 4 5 [bg ns,.own (.lst (ys++[.int 0])),.val (.str t),.val (.int w),.own (.dK (dk m)),.val (.int K)] = .ok (.lst (af (gY m (K:Nat)))) [bg ns,.own (.lst (ys++[.int 0])),.val (.str t),.val (.int w),.own (.dK (dk m)),.val (.int K)]:=by
   show(aW (oN (dk m)) _).bind _=_
   rw[Go]
   simp only[c_,R.bind_ok]
   rw[if_pos Rf]
  unfold dF
  rw[this]
  rfl
 have Rq:lc [.lst (af (gY m (K:Nat)))]=some (.str (dw new)):=by
  show(fR (af _)).bind _=_
  rw[nH,jf,if_pos HN,BH]
 have rW:Pu.eqT false (.tup [.int K,.str (dw new)]) (.tup [.int K,.str (dw new)])=some (.bl true):=by
  generalize dw new=z
  have e1:cy (.int K) (.int K)=some true:=by show some (((K:Nat):Int) == (K:Nat))=_; simp
  have e2:cy (.str z) (.str z)=some true:=by show some (ic (tV z) (tV z))=_; simp[ic,tV]
  have e:cy (.tup [.int K,.str z]) (.tup [.int K,.str z])=some true:=by
   show(cy (.int K) (.int K)).bind (fun a=>((cy (.str z) (.str z)).bind (fun a=>(some ([]:List PV).isEmpty).map fun b=>a && b)).map fun b=>a && b)=_
   rw[e1,e2]; rfl
  show(if iK (.tup [.int K,.str z])<=8 then(cy (.tup [.int K,.str z]) (.tup [.int K,.str z])).map (fun k=>PV.bl (false ^^ k))else none)=_
  rw[if_pos (by simp[iK,im]),e]
  rfl
 have k6:cY (d2 (eqT false) (aR (aF (q0 a) (gV (dV 2) (gV (dV 3) (Pu.bM))))) (dL i9 (ak (dV 5) (ak (dL lc (ak (dF (o8 4 5)) (aq))) (aq))))) [bg ns,.own (.lst (ys++[.int 0])),.val (.str t),.val (.int w),.own (.dK (dk m)),.val (.int K)] = .ok (.ret (.val (.bl true))) [bg ns,.own (.lst (ys++[.int 0])),.val (.str t),.val (.int w),.own (.dK (dk m)),.val (.int K)]:=by
  have h1:aR (aF (q0 a) (gV (dV 2) (gV (dV 3) (Pu.bM)))) [bg ns,.own (.lst (ys++[.int 0])),.val (.str t),.val (.int w),.own (.dK (dk m)),.val (.int K)] = .ok (.tup [.int K,.str (dw new)]) [bg ns,.own (.lst (ys++[.int 0])),.val (.str t),.val (.int w),.own (.dK (dk m)),.val (.int K)]:=Sh.z5 (Sh.AD (v0:=.str t) (v1:=.int w) rfl rfl hfar)
  have h2:dL i9 (ak (dV 5) (ak (dL lc (ak (dF (o8 4 5)) (aq))) (aq))) [bg ns,.own (.lst (ys++[.int 0])),.val (.str t),.val (.int w),.own (.dK (dk m)),.val (.int K)] = .ok (.tup [.int K,.str (dw new)]) [bg ns,.own (.lst (ys++[.int 0])),.val (.str t),.val (.int w),.own (.dK (dk m)),.val (.int K)] :=
   fX (f:=i9) (dI (x:=.int K) (d:=dV 5) (d_ rfl) (dI (fX (dI hw fQ) Rq) fQ)) rfl
  unfold cY
  rw[jE h1 h2 rW]
  rfl
 have hb:d_law a [bg ns,.none,.none,.none,.none,.none] = .ok (.ret (.val (.bl true))) [bg ns,.own (.lst (ys++[.int 0])),.val (.str t),.val (.int w),.own (.dK (dk m)),.val (.int K)]:=by
  unfold d_law
  refine(c9 k1).trans ?_
  refine(c9 k2).trans ?_
  refine(c9 k3).trans ?_
  refine(c9 k4).trans ?_
  refine(c9 k5).trans ?_
  exact k6
 unfold sD
 generalize d_law a=D at hb
 generalize dk m=A at hb
 simp[bo,fF,bu,bj,hb,back,aW,R.bind,jB]
end
end K20
namespace K20
open L2 Pu Sh
def yh(K:ao)(a:Ad):Bool:=rF K a.SlitError wu "ValueError.__new__" && (mw a).all (fun x=>rF K x wu "ValueError.__new__" && subB K a.SlitError x && Fb K x && (mw a).all (fun d=>jd K (.ref x) (.ref d) == some (x == d)) && jd K (.ref x) (.type "ValueError") == some true) && z9 K && decide (mw a).Nodup
section
variable{K:ao}{h base:Heap}{mg:Str->Option Value}{a:Ad}
theorem vR(h:yh K a=true):rF K a.SlitError wu "ValueError.__new__" = true/\(∀ x∈mw a,rF K x wu "ValueError.__new__" = true/\subB K a.SlitError x=true/\Fb K x=true/\(∀ d∈mw a,jd K (.ref x) (.ref d)=some (x == d))/\jd K (.ref x) (.type "ValueError")=some true)/\z9 K=true/\(mw a).Nodup:=by
 unfold yh at h
 simp only[gF,uo,beq_iff_eq,decide_eq_true_eq]at h
 obtain⟨⟨⟨h1,h2⟩,h3⟩,h4⟩:=h
 exact⟨h1,fun x hx=>⟨(h2 x hx).1.1.1.1,(h2 x hx).1.1.1.2,(h2 x hx).1.1.2,(h2 x hx).1.2,(h2 x hx).2⟩,h3,h4⟩
structure Top(K:ao)(a:Ad):Prop where
 d_law_cell_at:cr K "_law_cell_at" zW
 d_law_mixed:cr K "_law_mixed" zY
 d_law_draw:cr K "_law_draw" zT
 d_law_pick:cr K "_law_pick" zr
 d_law_text:cr K "_law_text" yV
 d_law_like:cr K "_law_like" AJ
 d_law_row:cr K "_law_row" v5
 d_law_stretches:cr K "_law_stretches" zD
 d_law_moved:cr K "_law_moved" sC
 d_law_levels:cr K "_law_levels" wV
 d_is_whole_number:cr K "is_whole_number" yG
 d_is_width:cr K "is_width" y8
 d_has_only:cr K "has_only" wn
 d_is_window:cr K "is_window" zF
 d_are_windows:cr K "are_windows" vk
 d_is_view_with:cr K "is_view_with" Aj
 d_is_view:cr K "is_view" yg
 d_check_view:cr K "check_view" yJ
 d_add_endings:cr K "add_endings" Ai
 d_counted:cr K "counted" yu
 d_texts:cr K "texts" vz
 d_how_many:cr K "how_many" Aw
 d_is_text_up_to:cr K "is_text_up_to" AK
 d_check_text:cr K "check_text" yk
 d_check_width:cr K "check_width" ym
 d_view_of:cr K "view_of" Av
 d_pieces:cr K "pieces" wK
 d_text_view:cr K "text_view" yr
 d_exchanges_from:cr K "exchanges_from" y9
 d_exchanges:cr K "exchanges" Ac
 d_unrolled:cr K "unrolled" zU
 d_turns:cr K "turns" wW
 d_one_step_off:cr K "one_step_off" Ak
 d_spread:cr K "spread" Am
 d_farthest:cr K "farthest" AM
 d_law:cr K "law" qd
 m_all:dR K cz "all" = some none
 m_any:dR K cz "any" = some none
 m_bool:dR K cz "bool" = some none
 m_int:dR K cz "int" = some none
 m_isinstance:dR K cz "isinstance" = some none
 m_len:dR K cz "len" = some none
 m_list:dR K cz "list" = some none
 m_max:dR K cz "max" = some none
 m_min:dR K cz "min" = some none
 m_range:dR K cz "range" = some none
 m_set:dR K cz "set" = some none
 m_sorted:dR K cz "sorted" = some none
 m_str:dR K cz "str" = some none
 m_tuple:dR K cz "tuple" = some none
 v_LETTERS:∃ t,dR K cz "LETTERS" = some (some (.str (tS [97,98,99]) t))
 v_MOST_LETTERS:∃ t,dR K cz "MOST_LETTERS" = some (some (.int 12 t))
 v_MOST_WINDOWS:∃ t,dR K cz "MOST_WINDOWS" = some (some (.int 9 t))
 v_WIDEST:∃ t,dR K cz "WIDEST" = some (some (.int 4 t))
 c_SlitError:dR K cz "SlitError" = some (some (.ref a.SlitError))
 c_NoText:dR K cz "NoText" = some (some (.ref a.NoText))
 c_NoWidth:dR K cz "NoWidth" = some (some (.ref a.NoWidth))
 c_NoView:dR K cz "NoView" = some (some (.ref a.NoView))
 ck:yh K a=true
theorem OJ(T:Top K a)(X:K.In base)(G:base.Ns cz mg):cD K mg base a where
 d_law_cell_at:=T.d_law_cell_at.at X G
 d_law_mixed:=T.d_law_mixed.at X G
 d_law_draw:=T.d_law_draw.at X G
 d_law_pick:=T.d_law_pick.at X G
 d_law_text:=T.d_law_text.at X G
 d_law_like:=T.d_law_like.at X G
 d_law_row:=T.d_law_row.at X G
 d_law_stretches:=T.d_law_stretches.at X G
 d_law_moved:=T.d_law_moved.at X G
 d_law_levels:=T.d_law_levels.at X G
 d_is_whole_number:=T.d_is_whole_number.at X G
 d_is_width:=T.d_is_width.at X G
 d_has_only:=T.d_has_only.at X G
 d_is_window:=T.d_is_window.at X G
 d_are_windows:=T.d_are_windows.at X G
 d_is_view_with:=T.d_is_view_with.at X G
 d_is_view:=T.d_is_view.at X G
 d_check_view:=T.d_check_view.at X G
 d_add_endings:=T.d_add_endings.at X G
 d_counted:=T.d_counted.at X G
 d_texts:=T.d_texts.at X G
 d_how_many:=T.d_how_many.at X G
 d_is_text_up_to:=T.d_is_text_up_to.at X G
 d_check_text:=T.d_check_text.at X G
 d_check_width:=T.d_check_width.at X G
 d_view_of:=T.d_view_of.at X G
 d_pieces:=T.d_pieces.at X G
 d_text_view:=T.d_text_view.at X G
 d_exchanges_from:=T.d_exchanges_from.at X G
 d_exchanges:=T.d_exchanges.at X G
 d_unrolled:=T.d_unrolled.at X G
 d_turns:=T.d_turns.at X G
 d_one_step_off:=T.d_one_step_off.at X G
 d_spread:=T.d_spread.at X G
 d_farthest:=T.d_farthest.at X G
 d_law:=T.d_law.at X G
 m_all:=jP X G T.m_all
 m_any:=jP X G T.m_any
 m_bool:=jP X G T.m_bool
 m_int:=jP X G T.m_int
 m_isinstance:=jP X G T.m_isinstance
 m_len:=jP X G T.m_len
 m_list:=jP X G T.m_list
 m_max:=jP X G T.m_max
 m_min:=jP X G T.m_min
 m_range:=jP X G T.m_range
 m_set:=jP X G T.m_set
 m_sorted:=jP X G T.m_sorted
 m_str:=jP X G T.m_str
 m_tuple:=jP X G T.m_tuple
 v_LETTERS:=T.v_LETTERS.imp fun _ e=>kf X G e
 v_MOST_LETTERS:=T.v_MOST_LETTERS.imp fun _ e=>kf X G e
 v_MOST_WINDOWS:=T.v_MOST_WINDOWS.imp fun _ e=>kf X G e
 v_WIDEST:=T.v_WIDEST.imp fun _ e=>kf X G e
 c_SlitError:=kf X G T.c_SlitError
 c_NoText:=kf X G T.c_NoText
 c_NoWidth:=kf X G T.c_NoWidth
 c_NoView:=kf X G T.c_NoView
 o_NoView:=zS X (kf X G T.c_NoView) ((vR T.ck).2.1 a.NoView (by simp[mw])).1
 o_NoText:=zS X (kf X G T.c_NoText) ((vR T.ck).2.1 a.NoText (by simp[mw])).1
 o_NoWidth:=zS X (kf X G T.c_NoWidth) ((vR T.ck).2.1 a.NoWidth (by simp[mw])).1
theorem LC{l:AZ}{w:World}{fa:Addr}(X:K.In h)(G:h.Ns cz mg)(hfa:mg "law" = some (.ref fa))(T:Top K a) :
  ∃ fd:iy,(∀ (s:ah) (v:Value),BindsTo s fd ⟨[v],[]⟩ [("_law_script",v)])/\∀ base:Heap,K.In base->base.Ns cz mg->kB l.prog w K mg base (bX l.prog w) 17 fa fd ["_law_script"] (bR K (sD a)):=by
 obtain⟨f,oc,od,kV,dc,pm,an,cd,ct,sl,e1,e2,e3,e4⟩:=T.d_law
 have e:=hfa.symm.trans (kf X G e1)
 cases e
 exact⟨_,fun s v=>.of_eq rfl,fun base XB GB=>QS (OJ T XB GB) (Fs e2 e3 e4)⟩
theorem AA{l:AZ}{q:aK}{loose:List Str}{XP:(Str->Option Value)->Heap->Prop}{YP:World->Heap->Prop}{d:DefRec}{K:Params->ao}(hn:l.most=some 63)(pQ:d.params.defaults=[])(hnm:d.name = "law")
  (hY:∀ (w:World) (h:Heap),YP w h->(K w.params).In h) {a:Ad} (T:∀ w:World,Top (K w.params) a):PySem.W.WalkO q loose XP YP l.row.toRowW d [] (fun f vs=>PySem.call f vs) :=
 L2.Rx (n:=63) (k:=17) (x:="_law_script") (K:=K) (CX:=fun w=>bX l.prog w) (sp:=fun w=>bR (K w.params) (sD a)) hn (by decide) pQ ⟨rfl,by decide,by decide⟩ hY
  (fun w mg fa h KX G uO=>LC KX G (by rw[← hnm]; exact uO) (T w))
  (fun w H b ns hl _ hS=>HX (NH (vR (T w).ck).2.2.1 hS) (Oc  ns))
  (fun w H s e s' z=>by obtain⟨_,_,_,_,_,_,_,_,_,_,_,f⟩:=z; exact f)
theorem RP{l:AZ}{q:aK}{loose:List Str}{XP:(Str->Option Value)->Heap->Prop}{YP:World->Heap->Prop}{d:DefRec}{K:Params->ao}{c_SlitError c_NoText c_NoWidth c_NoView:Addr}(hn:l.most=some 63)(pQ:d.params.defaults=[])(hnm:d.name = "law")
  (hY:∀ (w:World) (h:Heap),YP w h->(K w.params).In h) (T:∀ w:World,Top (K w.params) ⟨c_SlitError,c_NoText,c_NoWidth,c_NoView,0,0,0,0,0,0,0,0,0,0⟩):PySem.W.WalkO q loose XP YP l.row.toRowW d [] (fun f vs=>PySem.call f vs):=AA hn pQ hnm hY T
end
end K20
def PySem.W.Fast.tw1385670710452184340:Nat:=0
def PySem.W.Fast.tw2842519161756134684:Nat:=0
def PySem.W.Fast.tw2052839841816281121:Nat:=0
def PySem.W.Fast.tw11903336181841888865:Nat:=0
def PySem.W.Fast.tw15459011573859395415:Nat:=0
def PySem.W.Fast.tw10377995785077063440:Nat:=0
def PySem.W.Fast.tw12527357493852431836:Nat:=0
def PySem.W.Fast.tw9320345671482970319:Nat:=0
def PySem.W.Fast.tw4651690470180672763:Nat:=0
def PySem.W.Fast.tw3366543808141751844:Nat:=0
def PySem.W.Fast.tw6173794084874051396:Nat:=0
def PySem.W.Fast.tw1764764583523778792:Nat:=0
def PySem.W.Fast.tw12848287173616384961:Nat:=0
def PySem.W.Fast.tw14331978831524523724:Nat:=0
def PySem.W.Fast.tw6810309390062909267:Nat:=0
def PySem.W.Fast.tw17742586697915100658:Nat:=0
def PySem.W.Fast.tw5140049772913934533:Nat:=0
def PySem.W.Fast.tw16168880997810126347:Nat:=0
def PySem.W.Fast.tw7607331849339164055:Nat:=0
def PySem.W.Fast.tw9999610760816829512:Nat:=0
def PySem.W.Fast.tw17749774049317092803:Nat:=0
def PySem.W.Fast.tw5585777662344480662:Nat:=0
def PySem.W.Fast.tw6632851025079093200:Nat:=0
def PySem.W.Fast.tw7139085763715338584:Nat:=0
def PySem.W.Fast.tw18065746819091760502:Nat:=0
def PySem.W.Fast.tw15181933477000103298:Nat:=0
def PySem.W.Fast.tw9186477247132163440:Nat:=0
def PySem.W.Fast.tw7516636462965659273:Nat:=0
def PySem.W.Fast.tw6471310658263286184:Nat:=0
def PySem.W.Fast.tw9630412890687601108:Nat:=0
def PySem.W.Fast.tw16109171459635006289:Nat:=0
def PySem.W.Fast.tw6635234004620921296:Nat:=0
def PySem.W.Fast.tw15058318257163250615:Nat:=0
open PySem PySem.W PyProof.Rows
set_option maxRecDepth 100000 in
set_option maxHeartbeats 0 in
theorem PySem.Challenge.cw_slitview_k20_whole_farthest_holds : PySem.Challenge.rw_slitview_k20_whole_farthest.Holds := by
 w_on; o_law; k_head; (case hw=>w_witness2)
 k_fill
 refine' K20.RP (l:=PySem.Challenge.rw_slitview_k20_whole_farthest) rfl rfl rfl (fun w h Y=>PySem.W.kIn_of Y) ?T
 case T =>
  intro w
  refine' { d_law_cell_at:=?d_law_cell_at,d_law_mixed:=?d_law_mixed,d_law_draw:=?d_law_draw,d_law_pick:=?d_law_pick,d_law_text:=?d_law_text,d_law_like:=?d_law_like,d_law_row:=?d_law_row,d_law_stretches:=?d_law_stretches,d_law_moved:=?d_law_moved,d_law_levels:=?d_law_levels,d_is_whole_number:=?d_is_whole_number,d_is_width:=?d_is_width,d_has_only:=?d_has_only,d_is_window:=?d_is_window,d_are_windows:=?d_are_windows,d_is_view_with:=?d_is_view_with,d_is_view:=?d_is_view,d_check_view:=?d_check_view,d_add_endings:=?d_add_endings,d_counted:=?d_counted,d_texts:=?d_texts,d_how_many:=?d_how_many,d_is_text_up_to:=?d_is_text_up_to,d_check_text:=?d_check_text,d_check_width:=?d_check_width,d_view_of:=?d_view_of,d_pieces:=?d_pieces,d_text_view:=?d_text_view,d_exchanges_from:=?d_exchanges_from,d_exchanges:=?d_exchanges,d_unrolled:=?d_unrolled,d_turns:=?d_turns,d_one_step_off:=?d_one_step_off,d_spread:=?d_spread,d_farthest:=?d_farthest,d_law:=?d_law,m_all:=?m_all,m_any:=?m_any,m_bool:=?m_bool,m_int:=?m_int,m_isinstance:=?m_isinstance,m_len:=?m_len,m_list:=?m_list,m_max:=?m_max,m_min:=?m_min,m_range:=?m_range,m_set:=?m_set,m_sorted:=?m_sorted,m_str:=?m_str,m_tuple:=?m_tuple,v_LETTERS:=?v_LETTERS,v_MOST_LETTERS:=?v_MOST_LETTERS,v_MOST_WINDOWS:=?v_MOST_WINDOWS,v_WIDEST:=?v_WIDEST,c_SlitError:=?c_SlitError,c_NoText:=?c_NoText,c_NoWidth:=?c_NoWidth,c_NoView:=?c_NoView,ck:=?ck }
  (case c_SlitError=>k_is)
  (case c_NoText=>k_is)
  (case c_NoWidth=>k_is)
  (case c_NoView=>k_is)
  (case d_law_cell_at=>and_intros)
  (case d_law_mixed=>and_intros)
  (case d_law_draw=>and_intros)
  (case d_law_pick=>and_intros)
  (case d_law_text=>and_intros)
  (case d_law_like=>and_intros)
  (case d_law_row=>and_intros)
  (case d_law_stretches=>and_intros)
  (case d_law_moved=>and_intros)
  (case d_law_levels=>and_intros)
  (case d_is_whole_number=>and_intros)
  (case d_is_width=>and_intros)
  (case d_has_only=>and_intros)
  (case d_is_window=>and_intros)
  (case d_are_windows=>and_intros)
  (case d_is_view_with=>and_intros)
  (case d_is_view=>and_intros)
  (case d_check_view=>and_intros)
  (case d_add_endings=>and_intros)
  (case d_counted=>and_intros)
  (case d_texts=>and_intros)
  (case d_how_many=>and_intros)
  (case d_is_text_up_to=>and_intros)
  (case d_check_text=>and_intros)
  (case d_check_width=>and_intros)
  (case d_view_of=>and_intros)
  (case d_pieces=>and_intros)
  (case d_text_view=>and_intros)
  (case d_exchanges_from=>and_intros)
  (case d_exchanges=>and_intros)
  (case d_unrolled=>and_intros)
  (case d_turns=>and_intros)
  (case d_one_step_off=>and_intros)
  (case d_spread=>and_intros)
  (case d_farthest=>and_intros)
  (case d_law=>and_intros)
  (case m_all=>k_is)
  (case m_any=>k_is)
  (case m_bool=>k_is)
  (case m_int=>k_is)
  (case m_isinstance=>k_is)
  (case m_len=>k_is)
  (case m_list=>k_is)
  (case m_max=>k_is)
  (case m_min=>k_is)
  (case m_range=>k_is)
  (case m_set=>k_is)
  (case m_sorted=>k_is)
  (case m_str=>k_is)
  (case m_tuple=>k_is)
  (case v_LETTERS=>refine' Pu.RO ?e; (case e=>k_is))
  (case v_MOST_LETTERS=>refine' Pu.RE ?e; (case e=>k_is))
  (case v_MOST_WINDOWS=>refine' Pu.RE ?e; (case e=>k_is))
  (case v_WIDEST=>refine' Pu.RE ?e; (case e=>k_is))
  (case ck=>kernel_rfl)
