import PyProof.Rows.All
import Wide.All
import OpenK.AllK
import Wide.FinOn
import Lean
import PyProof.EqAt
import PyProof.EqKinds
import PyProof.TupleCall
import PyProof.ToksMono
import PyProof.StrCalls6
import PyProof.StrLawsReplace
import PyProof.DictUpdate
import PySem.Challenge.RW_matepoint_k72_no_offer_text
set_option Elab.async false
set_option linter.all false
set_option maxRecDepth 100000
set_option backward.eqns.nonrecursive false
set_option backward.eqns.deepRecursiveSplit false
noncomputable section
theorem Xf{c:Prop}{h:Decidable c}(hc:c){α:Sort u}{t e:α}:ite c t e=t:=if_pos hc
theorem Xg{c:Prop}{h:Decidable c}(hc:¬c){α:Sort u}{t e:α}:ite c t e=e:=if_neg hc
theorem Xh{p:Prop}[Decidable p](h:¬p):decide p=false:=decide_eq_false h
theorem Xi{p:Prop}[Decidable p](h:p):decide p=true:=decide_eq_true h
theorem Xj{α}[BEq α][LawfulBEq α]{a b:α}:(a==b)=false↔a≠b:=beq_eq_false_iff_ne
theorem Xk{a b:Prop}(h:a)(k:¬a):b:=absurd h k
theorem Xl{p:Prop}[i:Decidable p](h:decide p=true):p:=of_decide_eq_true h
open Option renaming some->Zz,none->Zy,bind_some->Rw,isSome_iff_exists->UX,bind_eq_some_iff->Uq,map_some->VQ
open PySem renaming wpAny_bind->Q0,Value->Q2,wpAny_pure->Q5,Shared->Q7,Addr->Q8,mainGlobals->R9,wpAny->RB,model->RC,assignEach->RM,sizeLine->RP,compareOp->Rj,Program->Rk,Heap->Rm,Expr->Rq,Stmt->Rv,World->Rz,starEach->S9,wpAny_truthy_bool->SE,wpAny_holding->SF,Around->SH,binaryOp->SK,strKind->SM,wpAny_mono->SQ,wpAny_newObj_type->SS,sizeLine_eq->SW,wpAny_setEntries_of->Sa,wpAny_setState_of->Sc,wpAny_setField->Se,wpAny_callSpecial?_slot->Si,wpAny_call_entry->Sj,wpAny_standAt->Sk,Paired->Sl,foldedSetIterable->Sm,call_meets->Sx,bootBuiltins->Sy,attributeBase->Sz,wpAny_isNot_other->T7,Env->T8,mem_of_lookup->TC,bindArgs->TQ,wpAny_Call_Name_kw->TU,wpAny_passesOwn->TZ,FuncData->Tb,codeAny->Tc,codeAny_mono->Td,behindInMarks->Tj,wpAny_askSetting->Tt,wpAny_is_other->Tw,call->U3,letOwnedTupleGo->U6,SetTable->U9,codeAny_builtin->UA,NameKind->UK,wpAny_field->UL,wpAny_fieldsOf->UN,cellsFrom->US,wpAny_attempt->Ub,codeAny_of_tree->Uh,builtinsNs->Uj,wpAny_rule->Uk,sliceBounds->Uo,pickOrder->Us,standAt->Ux,wpAny_loadPart_at->V1,swapsWith->V4,IsPart->V5,typeIs_str->V6,scanBound->V7,getItem->VC,Scope->VF,codeAny_call_builtin->VG,wpAny_execs_nil->VI,wpAny_ite_false->VN,wpAny_loadPart'->VO,wpAny_typeOf->VX,sysModules->Vb,recursionLimit->Vf,wpAny_call->Vg,relayAll->Vj,holding->Vq,fits_of_scanBound->Vr,wpAny_pyIter_list->Vs,swapsWithSole->Vy,swappedStores->Vz,call_list_seq->W0,plainId_quiet->W1,Comprehension->W2,wpAny_execs_cons->W5,Operator->W6,noFill_tuple_add->W8,slotArgs->WA,noteFrame->WB,typeLookup->WG,typeIs_int->WH,valueAt->WI,subscripted->WP,fitsIndex_both->WQ,isSubtype_type->WR,compTurn->WU,slicePicked->WW,PassesOwn->Wa,BindsTo->Wc,Keyword->Wd,callerA->Wf,setFlight->Wg,DictEntry->Wh,seq_tuple_add->Wj,concat_meets->Wp,seqIndex_neg->Wr,setAddHashed->Wt,lastMarks->Wy,compStart->Wz,CmpOp->X1,seqIndex_of->X2,keywordEach->X3,wpAny_of_eq->X4,CmpOp->X5,Model->X8,wpAny_Name->X9,isInstance->XE,storeName->XJ,seqIndex?->XN,drawOrder->XO,clausesOf->XQ,onTheHeap->XT,setNext->XV,IntMulOk->XY,backToKw->XZ,entryFor->Xa,setField->Xb,compPost->Xc,Str->Xe
open Bool renaming and_eq_true->Q3,false_ne_true->RG,false_eq_true->RV,true_and->S6,eq_false_iff->SU,or_eq_true->Sf,eq_iff_iff->Sr,not_true->TL,beq_comm->Ue,or_true->V2
open List renaming length_map->Q4,size_toArray->Q9,getElem?_eq_some_iff->R0,not_mem_nil->R3,replicate->R4,mem_cons_of_mem->R5,mem_cons->R6,length_append->R7,map_cons->R8,forall_mem_cons->RA,set_cons_succ->RD,set_cons_zero->RE,all_eq_true->RF,mem_append_right->RI,getElem?_set_ne->RK,length_cons->RN,getElem?_append_left->RR,getElem?_set_self->RS,mem_cons_self->RU,append_nil->RY,getElem?_append_right->RZ,getElem?_eq_getElem->Ra,mem_map->Rb,length->Rg,getElem?_map->Rh,length_take->Rn,all_cons->Ro,mem_singleton->Rp,mem_append_left->Rt,pairwise_cons->Rx,mem_append->S1,length_nil->S2,append_assoc->S3,range->S4,length_replicate->S7,length_set->S8,getElem?_replicate->SA,lookup_cons->SC,eq_nil_of_length_eq_zero->SG,map_map->SJ,replicate_succ->SN,mem_of_getElem?->SX,Nodup->SY,flatten_cons->Sb,length_drop->Sh,drop_eq_getElem_cons->Su,getElem?_eq_none->Sw,map_nil->T3,all_map->T4,nil_append->T9,isEmpty_nil->TN,zip_cons_cons->TW,take_append_drop->TX,length_range->Tf,sum_cons->Tp,filterMap_cons->Tq,getElem_mem->Ts,any_eq_true->Tv,take_of_length_le->U5,foldl_cons->U7,find?_cons->U8,zip->UC,length_singleton->UD,set_append_right->UF,flatMap_cons->UH,length_eraseIdx_of_lt->UM,mem_of_mem_drop->UO,mem_of_mem_take->UP,getElem?_eq_none_iff->UW,any_cons->UZ,nodup_cons->Uf,map_append->Ug,take_left'->Ui,pairwise_singleton->Uu,drop_zero->V0,contains_iff_mem->V3,cons_append->V8,mem_flatMap->V9,of_mem_zip->VJ,forIn_cons->VM,getElem_of_mem->VS,mem_map_of_mem->VU,length_pos_iff->VV,mem_range->Ve,foldl->Vi,getElem?_take->Vn,zip_nil_left->Vx,take_length->WE,map_id'->WL,all_append->WN,drop_left'->WO,lookup->WV,take_left->WX,drop->Wi,map->Ww,set_set->Wx
open PySem.Heap renaming get?_push_of_some->Q6,lt_size->RH,get?_push_size->RL,get?_update_other->Rs,get?_update_self->Ry,size_push->SL,get?_none_of_le->Ta,SameBut->UR,ExtBut->VH
open Nat renaming le_refl->R1,lt_of_lt_of_le->RQ,ne_of_lt->Rc,le_trans->Re,lt_irrefl->SD,lt_succ_of_lt->Sn,le_succ->TK,lt_succ_self->TM,sub_self->Th,toDigits->UU,zero_le->Ur,le_of_lt->Uw,ne_of_gt->Uy,mul_comm->VY,lt_trans->VZ,min_le_right->W9,zero_add->WJ,mul_add->X6,mod_lt->XC,not_lt->XD
open And renaming intro->RX
open PySem.W renaming Frag->Rf,mg_none_of->TB,kia_one->UG,cellsFrom_some->Vh,hasDictIn->W7,looks_findIn->WK,specialIn->Wb,OpenLaw->Ws,any_some->Wv,methodObj->XI,kitx_list->XM,Looks->XS,findObj->XX,codeHdIn->Xd
open Option.some renaming inj->Ri
open Array renaming length_toList->Rr,getElem?_eq_some_iff->Sq,getElem?_toList->UE,append_assoc->Vc,getD->XH
open PySem.NameKind renaming free->Ru,cell->W3
open PySem.Builtin.Str renaming occurrences->S0,partsBetween->Ud
open PySem.PyData renaming eqv->S5,canLay0->Tu,depth->UT,eqvAll->VD,canLayAll0->Vu,depthAll->WM
open PySem.Obj renaming data_mapFields->SI,isFreed_of_fields->Sv,mapFields->Tl,mapSeq->U2,putSet->Vk,cls_mapFields->Vt
open PySem.Heap.SameBut renaming update->SO
open Ne renaming symm->SR
open PySem.Value renaming ref->SV,bool->SZ,isStrOf->Ti,none->UJ,str->UQ,builtin->VE,isStrOf_shape->VR,type->Va,int->WZ,float->X0
open ForInStep renaming yield->Sg
open PyProof.Rows renaming slot_tuple_getitem->Ss,callWith_type1->TJ,partition_whole->UB,AllBare->VB,IntsAre->We,subscriptTail->Wk,IsTup->X7,Subscript_->XA,StrsAre->XW
open PySem.SetTable renaming below->T5,grown->TV
open Int renaming toNat_natCast->T6,emod_lt_of_pos->Ul,emod_nonneg->VP,natCast_nonneg->Vp
open PyProof.Rows.F renaming plain_set_update_loop->TD
open False renaming elim->TR
open PySem.Builtin.Slice renaming slicePlaces->TY,sliceAdjust->UV
open PySem.Around renaming under_plainId->Te,under->Wo
open PySem.Builtin.Tuple renaming tupleExact->Tk
open Or renaming inr->Tn,inl->Tz
open PySem.Txt renaming partition->Tr,partition->Wm,split->XU
open PySem.Str renaming length->U0,ofString->Wq,length->XB
open True renaming intro->U1
open PySem.F renaming plainAttrs_str->U4,args_tuple_add_2->UY,entry_tuple_add->Um,plainAttrs_list->Ut,slot_tuple_add->Uz,slot_int_rmul->VL,args_tuple_mul_2->Vm,args_str_split_2->Vo,entry_tuple_mul->Vv,entry_str_split->Vw,slot_tuple_mul->WD,slot_str_split->WF
open PySem.StrLaws renaming strSub_toList->UI,At->VA
open PySem.Builtin.List renaming listTooLong->Ua
open PySem.AutoSeq1 renaming sub_tuple_tuple->Uc,idx_int->WC
open Sum renaming inr->Uv,inl->WY
open PySem.Code renaming quiet_builtin->Vl
open List.cons renaming inj->W4
open PySem.Shared renaming TypeIs->Wl
open PySem.SeqAt renaming EqAt->Wn
open PySem.pickOrder renaming go->Wu
open PySem.W.Looks renaming here->XG
open PySem.W (Frag OpenLaw cellsFrom_some codeHdIn codeIn exmOne findIn fnOf hasDictIn instObj keepIn kia_one kitOne kitx_list lookIn methodObj mg_none_of mg_of mroIn nsIn specialIn tabObj)
section
set_option Elab.async false
namespace L2
open PySem PySem.Spec PyProof.Rows
noncomputable abbrev Key:=Sum Int Str
noncomputable def rQ:Key->Q2->Bool
 |.inl k,v=>Value.isInt k v
 |.inr x,v=>Ti x v
noncomputable def PL(w:Rz):Key->Int
 |.inl k=>hashInt k
 |.inr x=>hashStr w x
theorem bT:∀{k:Key}{v:Q2},rQ k v=true->(∃i t,k=WY i/\v=WZ i t)∨(∃x t,k=Uv x/\v=UQ x t)
 |.inl i,v,h=>by
  obtain⟨t,e⟩:=Value.isInt_shape (k:=i) (v:=v) h;exact .inl ⟨i,t,rfl,e⟩
 |.inr x,v,h=>by
  obtain⟨t,e⟩:=VR (x:=x) (v:=v) h;exact .inr ⟨x,t,rfl,e⟩
theorem EA(i:Int)(t:Tok):rQ (.inl i) (.int i t)=true:=by simp[rQ,Value.isInt]
theorem oE(x:Str)(t:Tok):rQ (.inr x) (.str x t)=true:=by simp[rQ,Ti]
theorem K7(a b:Int):decide ((WY a:Key)=WY b)=(a==b):=by
 by_cases e:a=b
 ·subst e;simp
 ·have h:¬(WY a:Key)=WY b:=λq=>e (Sum.inl.inj q)
  rw[Xh h];exact(Xj.mpr e).symm
theorem LS(a b:Str):decide ((Uv a:Key)=Uv b)=decide (a=b):=by
 by_cases e:a=b
 ·subst e;simp
 ·have h:¬(Uv a:Key)=Uv b:=λq=>e (Sum.inr.inj q)
  rw[Xh h,Xh e]
theorem LV(a:Int)(b:Str):decide ((WY a:Key)=Uv b)=false:=Xh (λq=>nomatch q)
theorem Mr(a:Str)(b:Int):decide ((Uv a:Key)=WY b)=false:=Xh (λq=>nomatch q)
noncomputable def eC(prog:Rk)(w:Rz):PySem.KeyKind prog w Key where
 is:=rQ
 hash:=PL w
 inj:=λv a b ha hb=>by
  rcases bT ha with⟨i,t,rfl,rfl⟩|⟨x,t,rfl,rfl⟩
  ·rcases bT hb with⟨j,u,rfl,e⟩|⟨y,u,rfl,e⟩
   ·injection e with e1 _;rw[e1]
   ·exact nomatch e
  ·rcases bT hb with⟨j,u,rfl,e⟩|⟨y,u,rfl,e⟩
   ·exact nomatch e
   ·injection e with e1 _;rw[e1]
 byValue:=λk v h=>by
  rcases bT h with⟨i,t,rfl,rfl⟩|⟨x,t,rfl,rfl⟩<;>rfl
 pyHash:=λhv h=>by
  rcases bT hv with⟨i,t,rfl,rfl⟩|⟨x,t,rfl,rfl⟩
  ·exact wpAny_pyHash_int h
  ·exact wpAny_pyHash_str h
 eqBool:=λhu hv h=>by
  rcases bT hu with⟨i,t,rfl,rfl⟩|⟨x,t,rfl,rfl⟩
  ·rcases bT hv with⟨j,u,rfl,rfl⟩|⟨y,u,rfl,rfl⟩
   ·rw[K7]at h;exact wpAny_eqBool_int h
   ·rw[LV]at h;exact SeqAt.EqAt.int_str i t y u _ _ _ _ h
  ·rcases bT hv with⟨j,u,rfl,rfl⟩|⟨y,u,rfl,rfl⟩
   ·rw[Mr]at h;exact SeqAt.EqAt.str_int x t j u _ _ _ _ h
   ·rw[LS]at h;exact wpAny_eqBool_str h
 «strs»:=λk x t v h=>by
  rcases bT h with⟨i,u,rfl,e⟩|⟨y,u,rfl,e⟩
  ·exact nomatch e
  ·injection e with e1 _
   subst e1;cases v<;>rfl
theorem zk(prog:Rk)(w:Rz)(i:Int)(t:Tok):(eC prog w).is (.inl i) (.int i t)=true:=EA i t
theorem zm(prog:Rk)(w:Rz)(x:Str)(t:Tok):(eC prog w).is (.inr x) (.str x t)=true:=oE x t
inductive V where
 |non|bl (b:Bool)|int (i:Int)|str (x:Str)|xA (b:Array UInt8)|flt (b:UInt64)|ref (a:Q8)|ty (n:String)
 deriving DecidableEq
def RelV:V->Q2->Prop
 |.non,u=>u=UJ
 |.bl b,u=>u=SZ b
 |.int i,u=>∃t,u=WZ i t
 |.str x,u=>∃t,u=UQ x t
 |.xA b,u=>∃t,u=Value.bytes b t
 |.flt b,u=>∃t,u=X0 b t
 |.ref a,u=>u=SV a
 |.ty n,u=>u=Va n
abbrev Vals:List V->List Q2->Prop:=Sl RelV
theorem Vals.length(r:Vals xs us):xs.length=us.length:=Paired.length r
theorem Vals.get:∀{xs:List V}{us:List Q2}{i:Nat}{x:V},Vals xs us->xs[i]?=Zz x->∃u,us[i]?=Zz u/\RelV x u
 |_,_,_,_,.nil,e=>by simp at e
 |_,_,0,_,.cons r _,e=>by simp at e;subst e;exact⟨_,rfl,r⟩
 |_,_,i+1,x,.cons _ t,e=>by
  obtain⟨u,b,a⟩:=Vals.get (i:=i) (x:=x) t (by simpa using e);exact⟨u,by simpa using b,a⟩
theorem Vals.set(r:RelV x u):∀{xs:List V}{us:List Q2}(i:Nat),Vals xs us->Vals (xs.set i x) (us.set i u)
 |_,_,_,.nil=>.nil
 |_,_,0,.cons _ t=>.cons r t
 |_,_,i+1,.cons q t=>.cons q (Vals.set r i t)
theorem Vals.append:∀{xs ys:List V}{us ws:List Q2},Vals xs us->Vals ys ws->Vals (xs++ys) (us++ws)
 |_,_,_,_,.nil,s=>s
 |_,_,_,_,.cons r t,s=>.cons r (Vals.append t s)
theorem Vals.take:∀{xs:List V}{us:List Q2}(n:Nat),Vals xs us->Vals (xs.take n) (us.take n)
 |_,_,0,_=>.nil
 |_,_,_+1,.nil=>.nil
 |_,_,n+1,.cons r t=>.cons r (Vals.take n t)
theorem Vals.drop:∀{xs:List V}{us:List Q2}(n:Nat),Vals xs us->Vals (xs.drop n) (us.drop n)
 |_,_,0,r=>r
 |_,_,_+1,.nil=>.nil
 |_,_,n+1,.cons _ t=>Vals.drop n t
def pN:Option V->Option Q2->Prop
 |some v,Zz u=>RelV v u
 |none,Zy=>True
 |_,_=>False
def KV{κ:Type}:List (κ×V)->List (κ×Q2)->Prop:=Sl λ(p:κ×V) (q:κ×Q2)=>p.1=q.1/\RelV p.2 q.2
noncomputable def kV:Key->V
 |.inl i=>.int i
 |.inr x=>.str x
inductive HO where
 |lst (xs:List V)
 |tup (xs:List V)
 |dK (kvs:List (Key×V))|dT (kvs:List (List Key×V))
 |set (S:Int->Bool) (n:Nat)
 |ins (C dx:Q8) (fs:List (Str×V))
 |own (x:Q8)
 |xd (fs:List (Str×V))
 |met (f x:Q8)
 |EO (lo hi:Int)
 |jS (o:Obj) (u:HO)
 |Bt (ps:Array Q2)
 |ext (φ:Rm->Prop)
noncomputable abbrev Hp:=Q8->Option HO
noncomputable def upd(H:Hp)(a:Q8)(o:HO):Hp:=λb=>if b=a then Zz o else H b
theorem bx{H:Hp}:upd H a o a=Zz o:=by unfold upd;rw[Xf rfl]
theorem aI{H:Hp}(h:b≠a):upd H a o b=H b:=by unfold upd;rw[Xg h]
theorem cT{H:Hp}(h:H a=Zz o)(h':H b=Zy):a≠b:=by
 intro e;subst e;rw[h]at h';cases h'
def sf(h:Rm)(a:Q8)(items:Array Q2):Prop:=∃o,h.get? a=Zz o/\o.cls=.type "tuple"/\(∃n,o.data=.seq items n)/\o.dict=Zy
theorem sf.is(x:sf h a items):X7 h a items:=let⟨o,d,c,b,_⟩:=x;⟨o,d,c,b⟩
theorem sf.new(h:Rm)(items:Array Q2):sf (h.push { cls:=.type "tuple",data:=.seq items }) h.objs.size items:=⟨_,RL _ rfl,rfl,⟨_,rfl⟩,rfl⟩
section
variable(P:Rk) (w:Rz)
def cL(H:Hp)(h:Rm)(a:Q8):HO->Prop
 |.lst xs=>xs.length<=RP/\∃(its:List Q2) (n:Nat),Vals xs its/\h.get? a=Zz { cls:=.type "list",data:=.seq its.toArray n }
 |.tup xs=>xs.length<=RP/\∃its:List Q2,Vals xs its/\sf h a its.toArray
 |.dK kvs=>kvs.length<=RP/\(a==Vb)=false/\∃vs,KV kvs vs/\h.DictOf (eC P w) a vs
 |.dT kvs=>kvs.length<=RP/\(a==Vb)=false/\∃xs:List (List Key×Q8×Q2),
  Sl (λ(p:List Key×V) (q:List Key×Q8×Q2)=>p.1=q.1/\H q.2.1=Zz (.tup (p.1.map kV))/\RelV p.2 q.2.2) kvs xs /\
  ∃o es ep,h.get? a=Zz o/\o.ExactDict/\o.data=.dict es ep/\es.toList=xs.map (entryOfKey (tupleKind (eC P w)))/\(xs.map (·.1)).Nodup
 |.set S n=>h.SetOf (intKind P w) a S n
 |.ins C dx fs=>H dx=Zz (.own a)/\fs.length<=1000/\dx≠a/\h.get? a=Zz (instObj C dx) /\
  ∃mA,h.Ns1 dx mA/\(∀f,pN (fs.lookup f) (mA f))/\PySem.Within mA (fs.map (·.1))
 |.own _=>∃o,h.get? a=Zz o
 |.xd fs=>∃mA,h.Ns1 a mA/\∀f,pN (fs.lookup f) (mA f)
 |.EO lo hi=>∃t u v,h.get? a=Zz { cls:=.type "range",data:=.fields #[.int lo t,.int hi u,.int 1 v] }
 |.jS o u=>h.get? a=Zz o/\cL H h a u
 |.Bt ps=>h.get? a=Zz { cls:=.none,data:=.fields ps }
 |.met f x=>h.get? a=Zz (XI (.ref f) (.ref x))
 |.ext φ=>φ h/\(∃o,h.get? a=Zz o)/\∀h1 h2:Rm,φ h1->(∀o,h1.get? a=Zz o->h2.get? a=Zz o)->φ h2
def lr(H:Hp)(h:Rm):Prop:=∀a o,H a=Zz o->cL P w H h a o
end
section
variable{P:Rk}{w:Rz}{H H':Hp}{h h':Rm}{a:Q8}{o:HO}
theorem cL.lt(x:cL P w H h a o):a<h.objs.size:=by
 cases o with
 |lst c=>obtain⟨_,_,_,_,e⟩:=x;exact RH e
 |tup c=>obtain⟨_,_,_,p⟩:=x;exact p.is.lt
 |dK b=>obtain⟨_,_,_,_,o,_,_,e,_⟩:=x;exact RH e
 |dT b=>obtain⟨_,_,_,_,o,_,_,e,_⟩:=x;exact RH e
 |set S n=>obtain⟨o,_,_,_,e,_⟩:=x;exact RH e
 |ins C dx fs=>obtain⟨_,_,_,e,_⟩:=x;exact RH e
 |own y=>obtain⟨_,e⟩:=x;exact RH e
 |xd fs=>obtain⟨_,⟨_,_,_,e,_⟩,_⟩:=x;exact RH e
 |EO lo hi=>obtain⟨_,_,_,e⟩:=x;exact RH e
 |jS ob u=>obtain⟨e,_⟩:=x;exact RH e
 |Bt ps=>exact RH (show h.get? a=Zz _ from x)
 |met f y=>exact RH (show h.get? a=Zz _ from x)
 |ext φ=>obtain⟨_,⟨_,e⟩,_⟩:=x;exact RH e
theorem Paired.Ms{α β:Type}{F G:α->β->Prop}:∀{e:List α}{d:List β},Sl F e d->(∀a b,F a b->G a b)->Sl G e d
 |_,_,.nil,_=>.nil
 |_,_,.cons r t,f=>.cons (f _ _ r) (Paired.Ms t f)
theorem cL.stay(x:cL P w H h a o)(k:∀b u,(b=a∨H b=Zz (.own a))->h.get? b=Zz u->h'.get? b=Zz u)(ho:∀b,H b=Zz (.own a)->H' b=Zz (.own a))(ht:∀b xs,H b=Zz (.tup xs)->H' b=Zz (.tup xs)):cL P w H' h' a o:=by
 induction o with
 |lst xs=>obtain⟨z,its,n,r,e⟩:=x;exact⟨z,its,n,r,k _ _ (.inl rfl) e⟩
 |tup xs=>obtain⟨z,its,r,ob,e,c⟩:=x;exact⟨z,its,r,ob,k _ _ (.inl rfl) e,c⟩
 |dK kvs=>obtain⟨z,y,vs,r,ob,es,ep,e,c⟩:=x;exact⟨z,y,vs,r,ob,es,ep,k _ _ (.inl rfl) e,c⟩
 |dT kvs =>
  obtain⟨z,y,xs,r,ob,es,ep,e,c⟩:=x;exact⟨z,y,xs,Paired.Ms r λp q z=>⟨z.1,ht _ _ z.2.1,z.2.2⟩,ob,es,ep,k _ _ (.inl rfl) e,c⟩
 |set S n=>obtain⟨ob,es,ep,t,e,c⟩:=x;exact⟨ob,es,ep,t,k _ _ (.inl rfl) e,c⟩
 |ins C dx fs =>
  obtain⟨d,z,ne,e,mA,⟨od,es,ep,e2,c⟩,r⟩:=x;exact⟨ho _ d,z,ne,k _ _ (.inl rfl) e,mA,⟨od,es,ep,k _ _ (.inr d) e2,c⟩,r⟩
 |own y=>obtain⟨ob,e⟩:=x;exact⟨ob,k _ _ (.inl rfl) e⟩
 |xd fs=>obtain⟨mA,⟨od,es,ep,e,c⟩,r⟩:=x;exact⟨mA,⟨od,es,ep,k _ _ (.inl rfl) e,c⟩,r⟩
 |EO lo hi=>obtain⟨t,u,v,e⟩:=x;exact⟨t,u,v,k _ _ (.inl rfl) e⟩
 |jS ob u ih=>obtain⟨e,q⟩:=x;exact⟨k _ _ (.inl rfl) e,ih q⟩
 |Bt ps =>
  have e:h.get? a=Zz { cls:=.none,data:=.fields ps }:=x;show h'.get? a=Zz { cls:=.none,data:=.fields ps };exact k a _ (.inl rfl) e
 |met f y =>
  have e:h.get? a=Zz (XI (.ref f) (.ref y)):=x;show h'.get? a=Zz (XI (.ref f) (.ref y));exact k a _ (.inl rfl) e
 |ext φ=>obtain⟨p,⟨o,e⟩,st⟩:=x;exact⟨st _ _ p λo q=>k _ _ (.inl rfl) q,⟨o,k _ _ (.inl rfl) e⟩,st⟩
theorem lr.lt(x:lr P w H h)(e:H a=Zz o):a<h.objs.size:=(x a o e).lt
theorem lr.fresh(x:lr P w H h)(e:h.objs.size<=a):H a=Zy:=by
 cases q:H a with
 |none=>rfl
 |some u=>exact Xk (RQ (x.lt q) e) (SD _)
theorem lr.kept(x:lr P w H h)(k:∀b u,h.get? b=Zz u->h'.get? b=Zz u):lr P w H h':=λa o e =>
 (x a o e).stay (λb u _ q=>k b u q) (λ_ q=>q) λ_ _ q=>q
theorem lr.laid(x:lr P w H h)(k:∀b u,h.get? b=Zz u->h'.get? b=Zz u)(g:h.objs.size<=a)(d:cL P w (upd H a o) h' a o):lr P w (upd H a o) h':=λb u e=>by
 have f:=x.fresh g;by_cases hb:b=a
 ·subst hb;rw[bx]at e;cases e;exact d
 ·rw[aI hb]at e
  exact(x b u e).stay (λc v _ q=>k c v q) (λc q=>by rw[aI (cT q f)];exact q) λc i q=>by rw[aI (cT q f)];exact q
end
def Rd(H:Hp)(a:Q8)(u:HO):Prop:=H a=Zz u∨∃o,H a=Zz (.jS o u)
theorem Rd.ok(r:Rd H a u)(x:lr P w H h):cL P w H h a u:=by
 rcases r with r|⟨o,r⟩
 ·exact x a u r
 ·obtain⟨_,q⟩:=x a _ r
  exact q
def OK:Option HO->Prop
 |some (.lst _)=>True
 |some (.dK _)=>True
 |some (.dT _)=>True
 |some (.set _ _)=>True
 |some (.ins _ _ _)=>True
 |some (.ext _)=>True
 |_=>False
section
variable{P:Rk}{w:Rz}{H:Hp}{h h':Rm}{x e:Q8}{o':HO}
theorem lr.write(ok:lr P w H h)(g:OK (H x))(n:e=x∨H e=Zz (.own x))(k:∀b u,b≠e->h.get? b=Zz u->h'.get? b=Zz u)(l:∃u,h'.get? e=Zz u)(j:cL P w (upd H x o') h' x o'):lr P w (upd H x o') h':=λb u q=>by
 have a:∀c y,H c=Zz (.own y)->c≠x:=λc y r z=>by subst z;rw[r]at g;exact g
 have d:∀c f,H c=Zz (.tup f)->c≠x:=λc f r z=>by subst z;rw[r]at g;exact g
 by_cases hb:b=x
 ·subst hb;rw[bx]at q;cases q;exact j
 ·rw[aI hb]at q
  by_cases hbe:b=e
  ·have m:H b=Zz (.own x):=by
    rcases n with z|z
    ·exact Xk (hbe.trans z) hb
    ·rw[hbe];exact z
   rw[q]at m;cases m;obtain⟨v,o⟩:=l;exact⟨v,by rw[hbe];exact o⟩
  ·refine(ok b u q).stay (λc v i r=>k c v ?_ r) (λc r=>by rw[aI (a c b r)];exact r) λc f r=>by rw[aI (d c f r)];exact r
   rcases i with rfl|i
   ·exact hbe
   ·rintro rfl
    rcases n with z|z
    ·exact a c b i z
    ·rw[i]at z;cases z;exact hb rfl
end
structure Un (fs ex:List Q8) (H H':Hp) (h h':Rm):Prop where
 keep:∀b o,h.get? b=Zz o->H b=Zy->b∉fs->b∉ex->h'.get? b=Zz o
 slot:∀b o,h.get? b=Zz o->H b=Zy->b∈fs->b∉ex->∃sl,h'.get? b=Zz { o with slots:=sl }
 free:∀b o,h.get? b=Zz o->H b=Zy->b∉ex->H' b=Zy
 there:∀b o,h.get? b=Zz o->b∉ex->∃o',h'.get? b=Zz o'
 tups:∀b xs,H b=Zz (.tup xs)->H' b=Zz (.tup xs)
 bX:∀b o u,H b=Zz (.jS o u)->H' b=Zz (.jS o u)
 jF:∀b ps,H b=Zz (.Bt ps)->∃more,H' b=Zz (.Bt (ps++more))
section
variable{fs fs' ex ex':List Q8}{H H1 H2:Hp}{h h1 h2 h':Rm}{a x e:Q8}{o:HO}
theorem Un.any(u:Un fs ex H H1 h h1)(q:h.get? b=Zz ob)(n:H b=Zy)(c:b∉ex):∃sl,h1.get? b=Zz { ob with slots:=sl }:=by
 by_cases hb:b∈fs
 ·exact u.slot b ob q n hb c
 ·exact⟨ob.slots,u.keep b ob q n hb c⟩
theorem Un.trans(a:Un fs ex H H1 h h1)(b:Un fs ex H1 H2 h1 h2):Un fs ex H H2 h h2 where
 keep:=λc d q n i e=>b.keep c d (a.keep c d q n i e) (a.free c d q n e) i e
 slot:=λc d q n i e=>by
  obtain⟨r,f⟩:=a.slot c d q n i e;obtain⟨j,l⟩:=b.slot c _ f (a.free c d q n e) i e;exact⟨j,l⟩
 free:=λc d q n e=>by
  obtain⟨k,f⟩:=a.there c d q e;exact b.free c k f (a.free c d q n e) e
 there:=λc d q e=>by
  obtain⟨k,f⟩:=a.there c d q e;exact b.there c k f e
 tups:=λc g q=>b.tups c g (a.tups c g q)
 bX:=λc d g q=>b.bX c d g (a.bX c d g q)
 jF:=λc m q=>by
  obtain⟨p,f⟩:=a.jF c m q;obtain⟨o,l⟩:=b.jF c _ f;exact⟨p++o,by rw[l,Vc]⟩
theorem Un.kept(k:∀b u,h.get? b=Zz u->h'.get? b=Zz u):Un fs ex H H h h':=
 ⟨λb a q _ _ _=>k b a q,λb a q _ _ _=>⟨a.slots,k b a q⟩,λ_ _ _ n _=>n,λb a q _=>⟨a,k b a q⟩,λ_ _ q=>q,λ_ _ _ q=>q,λ_ c q=>⟨#[],by rw[q];simp⟩⟩
theorem Un.refl:Un fs ex H H h h:=Un.kept λ_ _ q=>q
theorem Un.laid(k:∀b u,h.get? b=Zz u->h'.get? b=Zz u)(e:h.objs.size<=a)(c:H a=Zy):Un fs ex H (upd H a o) h h' where
 keep:=λb u q _ _ _=>k b u q
 slot:=λb u q _ _ _=>⟨u.slots,k b u q⟩
 free:=λb u q n _=>by rw[aI (Rc (RQ (RH q) e))];exact n
 there:=λb u q _=>⟨u,k b u q⟩
 tups:=λb d q=>by rw[aI (cT q c)];exact q
 bX:=λb u d q=>by rw[aI (cT q c)];exact q
 jF:=λb f q=>⟨#[],by rw[aI (cT q c),q];simp⟩
theorem Un.write(a:OK (H x))(l:e=x∨H e=Zz (.own x))(k:∀b u,b≠e->h.get? b=Zz u->h'.get? b=Zz u)(d:∃u,h'.get? e=Zz u):Un fs ex H (upd H x o) h h':=by
 have f:∀b,H b=Zy->b≠x:=λb n z=>by subst z;rw[n]at a;exact a
 have g:∀b,H b=Zy->b≠e:=λb n z=>by
  subst z;rcases l with r|r
  ·exact f b n r
  ·rw[n]at r;cases r
 have c:∀b u,H b=Zz u->¬OK (Zz u)->b≠x:=λb u q j z=>by subst z;rw[q]at a;exact j a
 refine⟨λb u q n _ _=>k b u (g b n) q,λb u q n _ _=>⟨u.slots,k b u (g b n) q⟩,λb u q n _=>by rw[aI (f b n)];exact n,λb u q _=>?_,
  λb i q=>by rw[aI (c b _ q λz=>z)];exact q,λb u i q=>by rw[aI (c b _ q λz=>z)];exact q,λb m q=>⟨#[],by rw[aI (c b _ q λz=>z),q];simp⟩⟩
 by_cases hbe:b=e
 ·subst hbe;exact d
 ·exact⟨u,k b u hbe q⟩
end
noncomputable def OH(h:Rm)(H:Hp):List Q8:=(S4 h.objs.size).filter λa=>(H a).isSome
noncomputable def vQ(h:Rm)(H:Hp):Rm:=PySem.W.hideAll h (OH h H)
theorem DI(h:Rm)(H:Hp):(vQ h H).objs.size=h.objs.size:=PySem.W.hideAll_size _ _
theorem GB(e:h.get? b=Zz o)(n:H b=Zy):(vQ h H).get? b=Zz o:=
 PySem.W.hideAll_get _ e λa=>by
  have q:(H b).isSome=true:=(List.mem_filter.mp a).2;rw[n]at q;simp at q
theorem JR(e:(vQ h H).get? b=Zz o):h.get? b=Zz o/\H b=Zy:=by
 have a:h.get? b=Zz o:=PySem.W.of_hideAll (OH h H) e;refine⟨a,?_⟩;cases q:H b with
 |none=>rfl
 |some x =>
  have c:b∈OH h H:=List.mem_filter.mpr ⟨Ve.mpr (RH a),by simp[q]⟩;have z:(vQ h H).get? b=Zy:=PySem.W.hideAll_none (OH h H) c;rw[z]at e;cases e
noncomputable def IU(g h:Rm)(L:Q8):List (Q8×Obj):=(S4 h.objs.size).filterMap λa=>if a=L∨(g.get? a).isSome=true then Zy else(h.get? a).map λo=>(a,o)
noncomputable def rest(g h:Rm)(L d:Q8):List (Q8×Obj):=(IU g h L).filter λp=>decide (p.1≠d)
structure Mod (K:Rf) (mg:Str->Option Q2) (base:Rm):Prop where
 Ow:K.In base
 glob:base.Ns R9 mg
 blt:∃mb,base.Ns Uj mb/\∀x:Str,x≠"__name__"->mb x=Sy x
 nolimit:base.NoLimit
 bm:∃bm ob,mg "__builtins__" = Zz (.ref bm)/\bm≠Uj/\base.get? bm=Zz ob/\ob.cls=.type "module"/\ob.dict=Zz Uj/\ob.data=.plain
structure Cx where
 prog:Rk
 w:Rz
 K:Rf
 mg:Str->Option Q2
 base:Rm
 A:SH
 N:List Str
 s₀:Q7
 H₀:Hp
 env:Env
 outer:List Env
 stack:List Env
 ex:List Q8
 fn:Str->Bool
 calm:Bool
 pn:List (Q8×Obj)
 xe:Q2->Q7->Prop
noncomputable def frs(l:List Env):List Q8:=l.filterMap (·.frame)
noncomputable abbrev Cx.fs(X:Cx):List Q8:=frs X.outer
def Nc(sc:VF)(x:Str):Prop:=sc.names.lookup x=Zz .local∨sc.names.lookup x=Zz .cell∨sc.names.lookup x=Zz .free
def Loc(sc:VF)(x:Str):Prop:=sc.names.lookup x=Zz .local∨sc.names.lookup x=Zz .cell
def Look(env:Env)(h:Rm)(m:Str->Option Q2)(x:Str)(u:Q2):Prop:=
 (env.kindOf x=Zz .local/\m x=Zz u)∨((env.kindOf x=Zz .cell∨env.kindOf x=Zz .free)/\∃c,env.cells.lookup x=Zz c/\h.IsCell c (Zz u))
structure Cx.Ok (X:Cx):Prop where
 mod:Mod X.K X.mg X.base
 kind:X.env.scope.kind=.function
 glob:X.env.globals=R9
 blt:X.env.builtins=Uj
 above:X.s₀.heap.objs.size<=X.env.locals
 inj:∀x y c,X.env.cells.lookup x=Zz c->X.env.cells.lookup y=Zz c->x=y
 has:∀x,(X.env.kindOf x=Zz .cell∨X.env.kindOf x=Zz .free)->∃c,X.env.cells.lookup x=Zz c
 cab:∀x c,X.fn x=true->X.env.cells.lookup x=Zz c->X.s₀.heap.objs.size<=c
 hd:X.calm=true->X.A.handled=Zy
 frames:X.A.frames=Zz X.stack
 M8:X.stack=X.outer∨(X.stack=X.env::X.outer/\X.env.frame=Zz X.env.locals)
 OJ:∀b∈X.ex,b≠X.env.locals/\∀x c,X.env.cells.lookup x=Zz c->c≠b
 bs:∀b o,X.base.get? b=Zz o->X.s₀.heap.get? b=Zz o/\X.H₀ b=Zy
 Gy:X.base.objs.size<=X.s₀.heap.objs.size
 BO:∀b o,X.base.get? b=Zz o->b∉X.ex
 C7:∀b∈X.ex,b∉X.fs
 mO:X.s₀.heap.FunFrames X.base X.outer
 Jm:∀b∈X.fs,X.H₀ b=Zy
structure Inv (X:Cx) (pins:List (Q8×Obj)) (σ:List (Option V)) (H:Hp) (s:Q7):Prop where
 ok:X.Ok
 os:s.os=X.s₀.os
 bare:VB s.gens
 base:Un X.fs X.ex X.H₀ H X.s₀.heap s.heap
 loc:∃m,s.heap.Ns X.env.locals m/\∀(i:Nat) (x:Str) (v:V),X.N[i]?=Zz x->σ[i]?=Zz (Zz v)->Nc X.env.scope x->∃u,RelV v u/\Look X.env s.heap m x u
 cell:∀x c,X.env.cells.lookup x=Zz c->∃v,s.heap.IsCell c v
 free:H X.env.locals=Zy
 eG:∀x c,X.env.cells.lookup x=Zz c->H c=Zy
 pin:∀p∈X.pn++pins,s.heap.get? p.1=Zz p.2/\H p.1=Zy/\p.1≠X.env.locals/\p.1∉X.fs/\∀v,p.2.data≠.cell v
 hok:lr X.prog X.w H s.heap
 len:σ.length=X.N.length
section
variable{X:Cx}{pins:List (Q8×Obj)}{σ:List (Option V)}{H H':Hp}{s:Q7}{h':Rm}
theorem Cx.Ok.O9(ok:X.Ok)(e:X.base.get? b=Zz o):b∉X.fs:=λa=>by
 have:=(ok.mO.mem a).1;rw[e]at this;cases this
theorem Inv.bs(I:Inv X pins σ H s):∀b o,X.base.get? b=Zz o->s.heap.get? b=Zz o/\H b=Zy:=λb o e =>
 ⟨I.base.keep b o (I.ok.bs b o e).1 (I.ok.bs b o e).2 (I.ok.O9 e) (I.ok.BO b o e),I.base.free b o (I.ok.bs b o e).1 (I.ok.bs b o e).2 (I.ok.BO b o e)⟩
theorem Inv.bk(I:Inv X pins σ H s):∀b o,X.base.get? b=Zz o->s.heap.get? b=Zz o:=λb o e=>(I.bs b o e).1
theorem Inv.mod(I:Inv X pins σ H s):Mod X.K X.mg X.base:=I.ok.mod
theorem Inv.li(I:Inv X pins σ H s):X.K.In s.heap:=I.ok.mod.Ow.keeps I.bk
theorem Inv.lt(I:Inv X pins σ H s):X.env.locals<s.heap.objs.size:=let⟨_,a,_⟩:=I.loc;a.lt
theorem Inv.sz(I:Inv X pins σ H s):X.s₀.heap.objs.size<=s.heap.objs.size:=Re I.ok.above (Uw I.lt)
theorem Inv.Mn(I:Inv X pins σ H s)(h:s.heap.objs.size<=a):a∉X.fs:=λc=>by
 obtain⟨_,o,b,_⟩:=I.ok.mO.mem c;exact Xk (RQ (RH b) (Re I.sz h)) (SD _)
theorem Inv.N7(I:Inv X pins σ H s):∀x c,X.env.cells.lookup x=Zz c->c≠X.env.locals:=λx c e z=>by
 obtain⟨v,o,d,f⟩:=I.cell x c e;obtain⟨m,⟨g,h,i,a,b,_⟩,_⟩:=I.loc;rw[z,a]at d;cases d;rw[b]at f;cases f
theorem Inv.mO(I:Inv X pins σ H s):s.heap.FunFrames X.base X.outer:=by
 have all:∀(l:List Env),(∀b∈frs l,b∈X.fs)->X.s₀.heap.FunFrames X.base l->s.heap.FunFrames X.base l:=by
  intro l
  induction l with
  |nil=>intro _ _;trivial
  |cons env r ih =>
   intro hs hl;obtain⟨hk,⟨L,o,c,hn,ho,hd⟩,hr⟩:=hl;have f:L∈X.fs:=hs L (by unfold frs;rw[Tq,c];exact RU);obtain⟨sl,e⟩:=I.base.slot L o ho (I.ok.Jm L f) f λz=>I.ok.C7 L z f
   exact⟨hk,⟨L,_,c,hn,e,hd⟩,ih (λb d=>hs b (by unfold frs;rw[Tq,c];exact R5 _ d)) hr⟩
 exact all X.outer (λ_ d=>d) I.ok.mO
theorem Inv.stack(I:Inv X pins σ H s):s.heap.FunFrames X.base X.stack:=by
 rcases I.ok.M8 with e|⟨e,b⟩
 ·rw[e];exact I.mO
 ·rw[e]
  obtain⟨m,a,_⟩:=I.loc;refine .cons (by rw[I.ok.kind];decide) b a ?_ I.mO;exact Ta (Re I.ok.Gy I.ok.above)
theorem Inv.sF(I:Inv X pins σ H s):∀b∈frs X.stack,b∈X.env.locals::X.fs:=λb a=>by
 rcases I.ok.M8 with e|⟨e,d⟩
 ·rw[e]at a;exact R5 _ a
 ·rw[e]at a
  unfold frs at a;rw[Tq,d]at a;exact a
theorem Inv.qg(I:Inv X pins σ H s):∀b∈frs X.stack,H b=Zy:=λb a=>by
 rcases R6.mp (I.sF b a)with e|a
 ·rw[e];exact I.free
 ·obtain⟨_,o,d,_⟩:=I.ok.mO.mem a
  exact I.base.free b o d (I.ok.Jm b a) λz=>I.ok.C7 b z a
theorem Inv.step{ch:List Q8}(I:Inv X pins σ H s)(hch:∀b∈ch,(b∈X.ex∨X.s₀.heap.objs.size<=b)/\b≠X.env.locals/\(∀x c,X.env.cells.lookup x=Zz c->c≠b)/\∀p∈X.pn++pins,p.1≠b)(keep:∀b o,b≠X.env.locals->b∉X.fs->b∉ch->s.heap.get? b=Zz o->H b=Zy->h'.get? b=Zz o)(slot:∀b o,b≠X.env.locals->b∈X.fs->b∉ch->s.heap.get? b=Zz o->H b=Zy->∃sl,h'.get? b=Zz { o with slots:=sl })(free:∀b o,b∉ch->s.heap.get? b=Zz o->H b=Zy->H' b=Zy)(there:∀b o,b∉ch->s.heap.get? b=Zz o->∃o',h'.get? b=Zz o')(tups:∀b xs,H b=Zz (.tup xs)->H' b=Zz (.tup xs))(bX:∀b o u,H b=Zz (.jS o u)->H' b=Zz (.jS o u))(jF:∀b ps,H b=Zz (.Bt ps)->∃more,H' b=Zz (.Bt (ps++more)))(ns:∀m,s.heap.Ns X.env.locals m->h'.Ns X.env.locals m)(hok:lr X.prog X.w H' h')(hg:VB g'):
  Inv X pins σ H' { s with heap:=h',gens:=g',drawn:=d',toks:=t' }:=by
 have neL:∀b o,X.s₀.heap.get? b=Zz o->b≠X.env.locals:=λb o e=>Rc (RQ (RH e) I.ok.above)
 have neC:∀b o,X.s₀.heap.get? b=Zz o->b∉X.ex->b∉ch:=λb o e hx hb=>by
  rcases(hch b hb).1 with z|z
  ·exact hx z
  ·exact Xk (RQ (RH e) z) (SD _)
 have cellK:∀x c,X.env.cells.lookup x=Zz c->∀v,s.heap.IsCell c v->h'.IsCell c v:=λx c e v ⟨o,ho,hd⟩=>by
  have nch:c∉ch:=λz=>(hch c z).2.2.1 x c e rfl
  by_cases hc:c∈X.fs
  ·obtain⟨sl,q⟩:=slot c o (I.N7 x c e) hc nch ho (I.eG x c e)
   exact⟨_,q,hd⟩
  ·exact⟨o,keep c o (I.N7 x c e) hc nch ho (I.eG x c e),hd⟩
 refine⟨I.ok,I.os,hg,⟨λb o e n hb hx=>?_,λb o e n hb hx=>?_,λb o e n hx=>?_,λb o e hx=>?_,λb xs e=>tups b xs (I.base.tups b xs e),λb o xs e=>bX b o xs (I.base.bX b o xs e),λb ps e=>?_⟩,?_,λx c e=>?_,?_,λx c e=>?_,λp hp=>?_,hok,I.len⟩
 ·exact keep b o (neL b o e) hb (neC b o e hx) (I.base.keep b o e n hb hx) (I.base.free b o e n hx)
 ·obtain⟨sl,e1⟩:=I.base.slot b o e n hb hx
  obtain⟨sl',e2⟩:=slot b _ (neL b o e) hb (neC b o e hx) e1 (I.base.free b o e n hx);exact⟨sl',e2⟩
 ·obtain⟨o',e1⟩:=I.base.there b o e hx
  exact free b o' (neC b o e hx) e1 (I.base.free b o e n hx)
 ·obtain⟨o',e1⟩:=I.base.there b o e hx
  exact there b o' (neC b o e hx) e1
 ·obtain⟨m1,e1⟩:=I.base.jF b ps e
  obtain⟨m2,e2⟩:=jF b _ e1;exact⟨m1++m2,by rw[e2,Vc]⟩
 ·obtain⟨m,hn,hl⟩:=I.loc
  refine⟨m,ns m hn,λi x v e1 e2 e3=>?_⟩;obtain⟨u,r,l⟩:=hl i x v e1 e2 e3;refine⟨u,r,?_⟩;rcases l with l|⟨k,c,e,z⟩
  ·exact .inl l
  ·exact .inr ⟨k,c,e,cellK x c e _ z⟩
 ·obtain⟨v,z⟩:=I.cell x c e
  exact⟨v,cellK x c e v z⟩
 ·obtain⟨m,⟨o,_,_,ho,_⟩,_⟩:=I.loc
  exact free _ o (λz=>(hch _ z).2.1 rfl) ho I.free
 ·obtain⟨v,o,ho,hd⟩:=I.cell x c e
  exact free c o (λz=>(hch c z).2.2.1 x c e rfl) ho (I.eG x c e)
 ·obtain⟨e,n,ne,nf,d⟩:=I.pin p hp
  have nch:p.1∉ch:=λz=>(hch p.1 z).2.2.2 p hp rfl
  exact⟨keep p.1 p.2 ne nf nch e n,free p.1 p.2 nch e n,ne,nf,d⟩
theorem Inv.un{t':Nat}(I:Inv X pins σ H s)(u:Un X.fs [] H H' s.heap h')(c:lr X.prog X.w H' h'):Inv X pins σ H' { s with heap:=h',toks:=t' }:=by
 obtain⟨m,⟨o,v,x,h,r⟩,_⟩:=id I.loc;obtain⟨p,l⟩:=u.any h I.free (by simp);exact I.step (g':=s.gens) (d':=s.drawn) (ch:=[]) (λ_ z=>nomatch z) (λb o _ d _ e n=>u.keep b o e n d (by simp)) (λb o _ d _ e n=>u.slot b o e n d (by simp)) (λb o _ e n=>u.free b o e n (by simp)) (λb o _ e=>u.there b o e (by simp)) u.tups u.bX u.jF (λt k=>by
  obtain⟨q,f,g,a,j⟩:=k;rw[h]at a;cases a;exact⟨_,f,g,l,j⟩) c I.bare
theorem Inv.call{ch:List Q8}(I:Inv X a σ H s)(u:Un (frs X.stack) ch H H' s.heap h')(h:lr X.prog X.w H' h')(y:VB g')(g:∀b∈ch,(b∈X.ex∨X.s₀.heap.objs.size<=b)/\b≠X.env.locals/\(∀x c,X.env.cells.lookup x=Zz c->c≠b)/\∀p∈X.pn++a,p.1≠b):
  Inv X a σ H' { s with heap:=h',gens:=g',drawn:=d',toks:=t' }:=by
 obtain⟨m,⟨o,E,F,l,r⟩,_⟩:=id I.loc;obtain⟨B,i⟩:=u.any l I.free λz=>(g _ z).2.1 rfl
 exact I.step (ch:=ch) g (λb o i A d e n=>u.keep b o e n (λz=>(R6.mp (I.sF b z)).elim i A) d) (λb o _ _ d e n=>u.any e n d) (λb o d e n=>u.free b o e n d) (λb o d e=>u.there b o e d) u.tups u.bX u.jF (λD v=>by
  obtain⟨C,j,k,f,t⟩:=v;rw[l]at f;cases f;exact⟨_,j,k,i,t⟩) h y
theorem Inv.turned{it:Q8}(I:Inv X a σ H s)(k:∀b o,b≠it->s.heap.get? b=Zz o->h'.get? b=Zz o)(j:H it=Zy)(h:it≠X.env.locals)(A:it∈X.ex∨X.s₀.heap.objs.size<=it)(y:∀x c,X.env.cells.lookup x=Zz c->c≠it)(w:∀p∈X.pn++a,p.1≠it):Inv X a σ H { s with heap:=h',toks:=t' }:=by
 have f:∀b u,H b=Zz u->b≠it:=λb u e z=>by rw[z,j]at e;cases e
 refine I.step (g':=s.gens) (d':=s.drawn) (ch:=[it]) (λb t=>?_) (λb o _ _ d e _=>k b o (λz=>d (by simp[z])) e) (λb o _ _ d e _=>⟨o.slots,k b o (λz=>d (by simp[z])) e⟩) (λ_ _ _ _ n=>n)
  (λb o d e=>⟨o,k b o (λz=>d (by simp[z])) e⟩) (λ_ _ e=>e) (λ_ _ _ e=>e) (λb D e=>⟨#[],by rw[e];simp⟩) (λm l=>?_) (λb u e=>?_) I.bare
 ·have e:b=it:=by simpa using t
  subst e;exact⟨A,h,y,w⟩
 ·obtain⟨o,B,C,i,r⟩:=l
  exact⟨o,B,C,k _ o (SR h) i,r⟩
 ·refine(I.hok b u e).stay (λc v d q=>k c v ?_ q) (λ_ q=>q) λ_ _ q=>q
  rcases d with z|z
  ·rw[z];exact f b u e
  ·exact f c _ z
theorem Inv.tok(I:Inv X pins σ H s)(t:Nat):Inv X pins σ H { s with toks:=t }:=I.un (h':=s.heap) (t':=t) Un.refl I.hok
theorem Inv.kept(I:Inv X pins σ H s)(k:∀b u,s.heap.get? b=Zz u->h'.get? b=Zz u):Inv X pins σ H { s with heap:=h',toks:=t' }:=I.un (Un.kept k) (I.hok.kept k)
theorem Inv.laid(I:Inv X pins σ H s)(k:∀b u,s.heap.get? b=Zz u->h'.get? b=Zz u)(d:s.heap.objs.size<=a)(c:cL X.prog X.w (upd H a o) h' a o):
 Inv X pins σ (upd H a o) { s with heap:=h',toks:=t' }:=I.un (Un.laid k d (I.hok.fresh d)) (I.hok.laid k d c)
theorem Inv.write(I:Inv X pins σ H s)(d:OK (H x))(g:e=x∨H e=Zz (.own x))(k:∀b u,b≠e->s.heap.get? b=Zz u->h'.get? b=Zz u)(a:∃u,h'.get? e=Zz u)(c:cL X.prog X.w (upd H x o) h' x o):Inv X pins σ (upd H x o) { s with heap:=h',toks:=t' }:=I.un (Un.write d g k a) (I.hok.write d g k a c)
theorem Inv.weak(I:Inv X pins σ H s)(c:σ'.length=σ.length)(w:∀(i:Nat) v,σ'[i]?=Zz (Zz v)->σ[i]?=Zz (Zz v)):Inv X pins σ' H s:=
 ⟨I.ok,I.os,I.bare,I.base,let⟨m,b,a⟩:=I.loc;⟨m,b,λi x v f e d=>a i x v f (w i v e) d⟩,I.cell,I.free,I.eG,I.pin,I.hok,c.trans I.len⟩
theorem Inv.C0(I:Inv X pins σ H s)(h:∀p∈pins',s.heap.get? p.1=Zz p.2/\H p.1=Zy/\p.1≠X.env.locals/\p.1∉X.fs/\∀v,p.2.data≠.cell v):Inv X pins' σ H s:=
 ⟨I.ok,I.os,I.bare,I.base,I.loc,I.cell,I.free,I.eG,λp a=>(S1.mp a).elim (λz=>I.pin p (Rt _ z)) (h p),I.hok,I.len⟩
theorem si{N:List Str}(c:N.Nodup){i j:Nat}(a:N[i]?=Zz x)(b:N[j]?=Zz x):i=j:=by
 obtain⟨g,e⟩:=R0.mp a;obtain⟨f,d⟩:=R0.mp b;exact(List.getElem_inj c).mp (e.trans d.symm)
theorem ve{M:X8}{A:SH}{E:Q2->Q7->Prop}{i:Nat}{x:Str}{v:V}{u:Q2}{Q:Unit->Q7->Prop}(I:Inv X pins σ H s)(hN:X.N.Nodup)(hi:X.N[i]?=Zz x)(B:Loc X.env.scope x)(r:RelV v u)(h:∀s',Inv X pins (σ.set i (Zz v)) H s'->(∃a,UR a s.heap s'.heap/\(a=X.env.locals∨X.env.cells.lookup x=Zz a))->Q () s')(hf:X.fn x=true∨X.env.scope.names.lookup x=Zz .local:=by first|exact .inl rfl|exact .inr rfl|assumption):RB M A (XJ X.env x u) Q E s:=by
 obtain⟨m,hn,hl⟩:=id I.loc;have hcls:(X.env.scope.kind==.class || (X.env.scope.kind==.module&&X.env.locals != X.env.globals))=false:=by rw[I.ok.kind];rfl
 have G:i<σ.length:=by rw[I.len];exact(R0.mp hi).1
 have L:=I.N7;have g:∀{a:Q8}{h':Rm},(∃o,s.heap.get? a=Zz o/\H a=Zy)->UR a s.heap h'->lr X.prog X.w H h':=λ{a h'} ha f b ob e=>by
  obtain⟨_,_,C⟩:=ha;refine(I.hok b ob e).stay (λc w' t q=>(f.2 c ?_).trans q) (λ_ q=>q) λ_ _ q=>q
  rintro rfl;rcases t with rfl|t
  ·rw[C]at e;cases e
  ·rw[C]at t;cases t
 rcases B with F|F
 ·refine wpAny_storeName_local F hn (λh' hn' f=>?_) hcls
  obtain⟨oL,_,_,hoL,_⟩:=id hn;refine h _ ⟨I.ok,I.os,I.bare,⟨λb o e n K B=>?_,λb o e n K B=>?_,I.base.free,λb o e B=>?_,I.base.tups,I.base.bX,I.base.jF⟩,⟨_,hn',λj y v' l D e3=>?_⟩,λy c e=>?_,I.free,I.eG,λp hp=>?_,g ⟨oL,hoL,I.free⟩ f,by simpa using I.len⟩ ⟨_,f,.inl rfl⟩
  ·exact(f.2 b (Rc (RQ (RH e) I.ok.above))).trans (I.base.keep b o e n K B)
  ·obtain⟨sl,l⟩:=I.base.slot b o e n K B
   exact⟨sl,(f.2 b (Rc (RQ (RH e) I.ok.above))).trans l⟩
  ·obtain⟨o',l⟩:=I.base.there b o e B
   exact⟨o',(f.2 b (Rc (RQ (RH e) I.ok.above))).trans l⟩
  ·by_cases hj:j=i
   ·subst hj
    rw[hi]at l;cases l;rw[RS G]at D;cases D;exact⟨u,r,.inl ⟨F,by simp⟩⟩
   ·rw[RK (SR hj)]at D
    obtain⟨u',r',q⟩:=hl j y v' l D e3;refine⟨u',r',?_⟩;rcases q with⟨k,e⟩|⟨k,c,e,z⟩
    ·refine .inl ⟨k,?_⟩
     have:y≠x:=λe=>hj (si hN l (e▸hi))
     simp[this,e]
    ·exact .inr ⟨k,c,e,z.sameBut f (L y c e)⟩
  ·obtain⟨w',z⟩:=I.cell y c e
   exact⟨w',z.sameBut f (L y c e)⟩
  ·obtain⟨e,n,ne,nf,d⟩:=I.pin p hp
   exact⟨(f.2 p.1 ne).trans e,n,ne,nf,d⟩
 ·have J:X.fn x=true:=by
   rcases hf with z|z
   ·exact z
   ·rw[z]at F;cases F
  obtain⟨c,t⟩:=I.ok.has x (.inl F);obtain⟨w',z⟩:=I.cell x c t;refine wpAny_storeName_cell I.ok.kind F t z (λh' hc' f=>?_);obtain⟨oc,R,P⟩:=id z;refine h { s with heap:=h' } ⟨I.ok,I.os,I.bare,⟨λb o e n K B=>?_,λb o e n K B=>?_,I.base.free,λb o e B=>?_,I.base.tups,I.base.bX,I.base.jF⟩,⟨m,hn.sameBut f (SR (L x c t)),λj y v' l D e3=>?_⟩,λy c' e=>?_,I.free,I.eG,λp hp=>?_,g ⟨oc,R,I.eG x c t⟩ f,by simpa using I.len⟩ ⟨c,f,.inr t⟩
  ·exact(f.2 b (Rc (RQ (RH e) (I.ok.cab x c J t)))).trans (I.base.keep b o e n K B)
  ·obtain⟨sl,l⟩:=I.base.slot b o e n K B
   exact⟨sl,(f.2 b (Rc (RQ (RH e) (I.ok.cab x c J t)))).trans l⟩
  ·obtain⟨o',l⟩:=I.base.there b o e B
   exact⟨o',(f.2 b (Rc (RQ (RH e) (I.ok.cab x c J t)))).trans l⟩
  ·by_cases hj:j=i
   ·subst hj
    rw[hi]at l;cases l;rw[RS G]at D;cases D;exact⟨u,r,.inr ⟨.inl F,c,t,hc'⟩⟩
   ·rw[RK (SR hj)]at D
    obtain⟨u',r',q⟩:=hl j y v' l D e3;refine⟨u',r',?_⟩;rcases q with q|⟨k,c',e,z'⟩
    ·exact .inl q
    ·refine .inr ⟨k,c',e,z'.sameBut f ?_⟩
     rintro rfl;exact hj (si hN l (I.ok.inj _ _ _ e t▸hi))
  ·by_cases hcc:c'=c
   ·subst hcc;exact⟨_,hc'⟩
   ·obtain⟨w2,z2⟩:=I.cell y c' e
    exact⟨w2,z2.sameBut f hcc⟩
  ·obtain⟨e,n,ne,nf,d⟩:=I.pin p hp
   refine⟨(f.2 p.1 ?_).trans e,n,ne,nf,d⟩;intro q;rw[q,R]at e;have q':oc=p.2:=Ri e;exact d w' (by rw[<-q'];exact P)
theorem nP{M:X8}{A:SH}{E:Q2->Q7->Prop}{i:Nat}{x:Str}{v:V}{u:Q2}{Q:Unit->Q7->Prop}(I:Inv X a σ H s)(f:X.N.Nodup)(hi:X.N[i]?=Zz x)(d:Loc X.env.scope x)(r:RelV v u)(h:∀b,Inv X a (σ.set i (Zz v)) H b->Q () b)(e:X.fn x=true∨X.env.scope.names.lookup x=Zz .local:=by first|exact .inl rfl|exact .inr rfl|assumption):RB M A (XJ X.env x u) Q E s:=
 ve I f hi d r (λb g _=>h b g) e
theorem Inv.call'(I:Inv X a σ H s)(k:s'.os=s.os)(u:Un (frs X.stack) ch H H' s.heap s'.heap)(d:lr X.prog X.w H' s'.heap)(l:VB s'.gens)(f:∀b∈ch,(b∈X.ex∨X.s₀.heap.objs.size<=b)/\b≠X.env.locals/\(∀x c,X.env.cells.lookup x=Zz c->c≠b)/\∀p∈X.pn++a,p.1≠b):Inv X a σ H' s':=by
 obtain⟨m,h,i,g,j⟩:=s';have e:j=s.os:=k;subst e;exact I.call (g':=h) (t':=g) (d':=i) u d l f
end
noncomputable abbrev XK:=Q2->Option Q8->Hp->Prop
noncomputable abbrev St:=List (Option V)
noncomputable abbrev VK:=V->Hp->Prop
noncomputable abbrev TE:=St->Hp->VK->Prop
noncomputable abbrev TT:=St->Hp->(Bool->Hp->Prop)->Prop
noncomputable abbrev TA:=St->Hp->(List V->Hp->Prop)->Prop
structure Ends where
 nx:St->Hp->Prop
 rt:VK
 bk:St->Hp->Prop:=λ_ _=>False
 ct:St->Hp->Prop:=λ_ _=>False
noncomputable abbrev TS:=Ends->St->Hp->Prop
inductive EP (X:Cx) (pins:List (Q8×Obj)) (σ:St) (Q:VK) (u:Q2) (s':Q7)  : Prop where
 |mk (v H') (_:Inv X pins σ H' s') (_:RelV v u) (_:Q v H')
def TP(X:Cx)(pins:List (Q8×Obj))(σ:St)(Q:Bool->Hp->Prop)(b:Bool)(s':Q7):Prop:=∃H',Inv X pins σ H' s'/\Q b H'
inductive AP (X:Cx) (pins:List (Q8×Obj)) (σ:St) (Q:List V->Hp->Prop) (us:List Q2) (s':Q7)  : Prop where
 |mk (vs H') (_:Inv X pins σ H' s') (_:Vals vs us) (_:Q vs H')
def SP(X:Cx)(pins:List (Q8×Obj))(D:Ends)(f:Flow)(s':Q7):Prop:=
 match f with
 |.next=>∃σ' H',Inv X pins σ' H' s'/\D.nx σ' H'
 |.brk=>∃σ' H',Inv X pins σ' H' s'/\D.bk σ' H'
 |.cont=>∃σ' H',Inv X pins σ' H' s'/\D.ct σ' H'
 |.ret u=>∃v σ' H',Inv X pins σ' H' s'/\RelV v u/\D.rt v H'
def PE(X:Cx)(e:Rq)(t:TE):Prop:=
 ∀(pins:List (Q8×Obj)) (s:Q7) (σ:St) (H:Hp) (Q:VK),Inv X pins σ H s->t σ H Q->RB (RC X.prog X.w) X.A (eval e X.env) (EP X pins σ Q) X.xe s
def PT(X:Cx)(e:Rq)(t:TT):Prop:=
 ∀(pins:List (Q8×Obj)) (s:Q7) (σ:St) (H:Hp) (Q:Bool->Hp->Prop),Inv X pins σ H s->t σ H Q->RB (RC X.prog X.w) X.A (isTrue e X.env (eval e X.env)) (TP X pins σ Q) X.xe s
def PW(X:Cx)(e:Rq)(t:TT):Prop:=
 ∀(whole:Sem Q2) (pins:List (Q8×Obj)) (s:Q7) (σ:St) (H:Hp) (Q:Bool->Hp->Prop),Inv X pins σ H s->t σ H Q->RB (RC X.prog X.w) X.A (isTrue e X.env whole) (TP X pins σ Q) X.xe s
theorem PW.pt(h:PW X e t):PT X e t:=h _
def PA(X:Cx)(es:List Rq)(t:TA):Prop:=
 ∀(pos:Pos) (pins:List (Q8×Obj)) (s:Q7) (σ:St) (H:Hp) (Q:List V->Hp->Prop),Inv X pins σ H s->t σ H Q->RB (RC X.prog X.w) X.A (spliced (backTo pos (S9 es X.env))) (AP X pins σ Q) X.xe s
def PS(X:Cx)(st:Rv)(t:TS):Prop:=
 ∀(pins:List (Q8×Obj)) (s:Q7) (σ:St) (H:Hp) (D:Ends),Inv X pins σ H s->t D σ H->RB (RC X.prog X.w) X.A (exec st X.env) (SP X pins D) X.xe s
def du(X:Cx)(st:List Rv)(t:TS):Prop:=
 ∀(pins:List (Q8×Obj)) (s:Q7) (σ:St) (H:Hp) (D:Ends),Inv X pins σ H s->t D σ H->RB (RC X.prog X.w) X.A (execs st X.env) (SP X pins D) X.xe s
theorem bY{α:Type}{t:Sem α}{Q b:α->Q7->Prop}{M:X8}{A:SH}{E:Q2->Q7->Prop}{s:Q7}(h:RB M A t Q E s)(c:∀a s,Q a s->b a s):RB M A t b E s:=SQ h c λ_ _ x=>x
section
variable{X:Cx}
theorem bin(ha:PE X a ta)(hb:PE X b tb){R:V->V->Hp->Prop}(I:Inv X e σ H s)(h:ta σ H λx H1=>tb σ H1 λy g=>R x y g){α:Type}{Q:α->Q7->Prop}{f:Q2->Q2->Sem α}(hf:∀v u s2 x y g,Inv X e σ g s2->RelV x v->RelV y u->R x y g->RB (RC X.prog X.w) X.A (f v u) Q X.xe s2):
  RB (RC X.prog X.w) X.A (eval a X.env) (λv s₁=>RB (RC X.prog X.w) X.A (eval b X.env) (λu i=>RB (RC X.prog X.w) X.A (f v u) Q X.xe i) X.xe s₁) X.xe s:=by
 refine bY (ha e s σ H _ I h) λv s1 ⟨x,H1,I1,r1,q1⟩=>?_
 refine bY (hb e s1 σ H1 _ I1 q1) λu s2 ⟨y,g,I2,r2,q2⟩=>?_
 exact hf v u s2 x y g I2 r1 r2 q2
def LN(i:Nat):TE:=λσ H Q=>∃v,σ[i]?=Zz (Zz v)/\Q v H
def tC(v:V):TE:=λ_ H Q=>Q v H
theorem A0(t:X.N[i]?=Zz x)(n:Nc X.env.scope x)(g:(x==("__debug__" : Str))=false:=by decide)(j:(x==("__classdict__" : Str))=false:=by decide):PE X (.Name x pos) (LN i):=by
 intro f s σ H Q I h;obtain⟨v,e,h⟩:=h;obtain⟨m,o,q⟩:=I.loc;obtain⟨u,r,l⟩:=q i x v t e n;have d:EP X f σ Q u s:=⟨v,H,I,r,h⟩
 rcases l with⟨b,p⟩|⟨b,c,k,a⟩
 ·exact X9 (wpAny_loadName_local I.ok.kind b o p d) g
 ·rcases b with b|b
  ·exact X9 (wpAny_loadName_cell I.ok.kind b k a d) g
  ·exact X9 (wpAny_loadName_free I.ok.kind b k a d j) g
theorem GP{i j pos}:PE X (.Constant (.int i) j pos) (tC (.int i)):=λ_ _ _ H _ I h=>wpAny_Constant_int ⟨.int i,H,I.tok _,⟨_,rfl⟩,h⟩
theorem NF{b j pos}:PE X (.Constant (.bool b) j pos) (tC (.bl b)):=λ_ _ _ H _ I h=>Constant_bool ⟨.bl b,H,I,rfl,h⟩
theorem Md{j pos}:PE X (.Constant .none j pos) (tC .non):=λ_ _ _ H _ I h=>Constant_none ⟨.non,H,I,rfl,h⟩
theorem MX{x j pos}:PE X (.Constant (.str x) j pos) (tC (.str x)):=λ_ _ _ H _ I h=>Calls.Constant_str ⟨.str x,H,I.tok _,⟨_,rfl⟩,h⟩
def Gl(X:Cx)(x:Str):Prop:=X.env.kindOf x=Zz .globalImplicit
theorem kt{E:Q2->Q7->Prop}{a:List (Q8×Obj)}{s:Q7}{σ:St}{H:Hp}{x:Str}{u:Q2}{pos:Pos}{Q:Q2->Q7->Prop}(I:Inv X a σ H s)(c:Gl X x)(b:X.mg x=Zz u)(h:Q u s)(d:(x==("__debug__" : Str))=false:=by decide):RB (RC X.prog X.w) X.A (eval (.Name x pos) X.env) Q E s:=
 Calls.Name_function_global I.ok.kind c (Calls.loadGlobal_global (by rw[I.ok.glob];exact I.mod.glob.keeps I.bk) b h) d
theorem lT{E:Q2->Q7->Prop}{a:List (Q8×Obj)}{s:Q7}{σ:St}{H:Hp}{x:Str}{u:Q2}{pos:Pos}{Q:Q2->Q7->Prop}(I:Inv X a σ H s)(e:Gl X x)(d:X.mg x=Zy)(b:Sy x=Zz u)(h:Q u s)(c:x≠"__name__":=by decide)(f:(x==("__debug__" : Str))=false:=by decide):RB (RC X.prog X.w) X.A (eval (.Name x pos) X.env) Q E s:=by
 obtain⟨j,i,g⟩:=I.mod.blt;exact Calls.Name_function_global I.ok.kind e (Calls.loadGlobal_builtin (by rw[I.ok.glob];exact I.mod.glob.keeps I.bk) d (by rw[I.ok.blt];exact i.keeps I.bk) ((g x c).trans b) h) f
theorem c5(b:Gl X x)(a:X.mg x=Zz u)(r:RelV v u)(c:(x==("__debug__" : Str))=false:=by decide):PE X (.Name x pos) (tC v):=
 λ_ _ _ H _ I h=>kt I b a ⟨v,H,I,r,h⟩ c
theorem B4(d:Gl X x)(c:X.mg x=Zy)(a:Sy x=Zz u)(r:RelV v u)(b:x≠"__name__":=by decide)(e:(x==("__debug__" : Str))=false:=by decide):PE X (.Name x pos) (tC v):=
 λ_ _ _ H _ I h=>lT I d c a ⟨v,H,I,r,h⟩ b e
variable{a b:Rq}{ta tb:TE}{pos:Pos}
def PC(X:Cx)(op:X1)(a b:Rq)(t:TE):Prop:=
 ∀(pins:List (Q8×Obj)) (s:Q7) (σ:St) (H:Hp) (Q:VK),Inv X pins σ H s->t σ H Q ->
  RB (RC X.prog X.w) X.A (eval a X.env) (λv s₁=>RB (RC X.prog X.w) X.A (eval b X.env) (λu s₂=>RB (RC X.prog X.w) X.A (Rj op v u) (EP X pins σ Q) X.xe s₂) X.xe s₁) X.xe s
theorem G7(b:Rq)(h:op≠.In)(a:op≠.NotIn):Tj op b=false:=by
 have d:(op==CmpOp.In)=false:=by cases op<;>first|rfl|exact Xk rfl h
 have c:(op==CmpOp.NotIn)=false:=by cases op<;>first|rfl|exact Xk rfl a
 cases b<;>simp[Tj,d,c]
def tB(t:TE):TT:=λσ H Q=>t σ H λx H1=>∃c,x=.bl c/\Q c H1
theorem Lh(h:PC X op a b t)(f:Tj op b=false:=by first|exact G7 _ (by decide) (by decide)|rfl):PT X (.Compare a [op] [b] pos) (tB t):=by
 intro e s σ H Q I j;refine wpAny_isTrue_Compare1 (bY (h e s σ H _ I j) λv p f=>bY f λu o k=>bY k λc n ⟨x,m,l,g,i⟩=>?_) f;obtain⟨d,rfl,q⟩:=i;cases g;exact SE ⟨m,l,q⟩
variable{tA tB':TT}{rest:List Rq}
def PV(t u:TT):TT:=λσ H Q=>t σ H λc H1=>if c=true then u σ H1 Q else Q false H1
def Qm(t u:TT):TT:=λσ H Q=>t σ H λc H1=>if c=true then Q true H1 else u σ H1 Q
def Pj(t:TT):TT:=λσ H Q=>t σ H λc H1=>Q (!c) H1
theorem IC(d:PT X a tA):PW X (.BoolOp .And [a] pos) tA:=by
 intro f b s σ H Q I h;refine isTrue_and (bY (d b s σ H Q I h) λc g e=>?_);cases c with
 |true=>exact isTrue_and_nil e
 |false=>exact e
theorem La(d:PT X a tA):PW X (.BoolOp .Or [a] pos) tA:=by
 intro f b s σ H Q I h;refine isTrue_or (bY (d b s σ H Q I h) λc g e=>?_);cases c with
 |false=>exact isTrue_or_nil e
 |true=>exact e
theorem L7(l:PT X a tA)(k:PW X (.BoolOp .And (b::rest) pos) tB'):PW X (.BoolOp .And (a::b::rest) pos) (PV tA tB'):=by
 intro i d s σ H Q I h;refine isTrue_and (bY (l d s σ H _ I h) λc j ⟨g,f,e⟩=>?_);cases c with
 |true=>exact k i d j σ g Q f e
 |false=>exact⟨g,f,e⟩
theorem Oh(l:PT X a tA)(k:PW X (.BoolOp .Or (b::rest) pos) tB'):PW X (.BoolOp .Or (a::b::rest) pos) (Qm tA tB'):=by
 intro i d s σ H Q I h;refine isTrue_or (bY (l d s σ H _ I h) λc j ⟨g,f,e⟩=>?_);cases c with
 |true=>exact⟨g,f,e⟩
 |false=>exact k i d j σ g Q f e
theorem LD(d:PT X a tA):PT X (.UnaryOp .Not a pos) (Pj tA):=by
 intro b s σ H Q I h;exact isTrue_not (d b s σ H (λc e=>Q (!c) e) I h)
def Nt(ta tb:TE):TE:=λσ H Q=>ta σ H λx H1=>∃c,x=.bl c/\if c=true then tb σ H1 Q else Q (.bl false) H1
def Pn(ta tb:TE):TE:=λσ H Q=>ta σ H λx H1=>∃c,x=.bl c/\if c=true then Q (.bl true) H1 else tb σ H1 Q
def N9(ta:TE):TE:=λσ H Q=>ta σ H λx H1=>∃c,x=.bl c/\Q (.bl (!c)) H1
theorem Mz{op}(h:PE X a t):PE X (.BoolOp op [a] pos) t:=λb s σ H Q I c=>BoolOp_one (h b s σ H Q I c)
theorem Lq(l:PE X a ta)(k:PE X (.BoolOp .And (b::rest) pos) tb):PE X (.BoolOp .And (a::b::rest) pos) (Nt ta tb):=by
 intro d s σ H Q I h;refine BoolOp_and (bY (l d s σ H _ I h) λv i ⟨x,g,f,j,e⟩=>?_);obtain⟨c,rfl,e⟩:=e;cases j;refine SE ?_;cases c with
 |true=>exact k d i σ g Q f e
 |false=>exact⟨.bl false,g,f,rfl,e⟩
theorem Oc(l:PE X a ta)(k:PE X (.BoolOp .Or (b::rest) pos) tb):PE X (.BoolOp .Or (a::b::rest) pos) (Pn ta tb):=by
 intro d s σ H Q I h;refine BoolOp_or (bY (l d s σ H _ I h) λv i ⟨x,g,f,j,e⟩=>?_);obtain⟨c,rfl,e⟩:=e;cases j;refine SE ?_;cases c with
 |false=>exact k d i σ g Q f e
 |true=>exact⟨.bl true,g,f,rfl,e⟩
theorem Mf(f:PE X a ta):PE X (.UnaryOp .Not a pos) (N9 ta):=by
 intro b s σ H Q I h;refine UnaryOp_ (bY (f b s σ H _ I h) λv j ⟨x,i,g,e,d⟩=>?_);obtain⟨c,rfl,d⟩:=d;cases e;exact not_of (SE ⟨.bl (!c),i,g,rfl,d⟩)
end
def sU(K:Rf)(H:Hp)(a:Q8)(xs:List V):Prop:=
 Rd H a (.lst xs) ∨
  ∃(o:Obj) (its:Array Q2) (n:Nat),K.lookup a=Zz o/\o.cls=.type "list"/\o.dict=Zy/\o.data=.seq its n/\its.size<=RP/\Vals xs its.toList
def lA(K:Rf)(H:Hp)(a:Q8)(xs:List V):Prop:=
 Rd H a (.tup xs) ∨
  ∃(o:Obj) (its:Array Q2) (n:Nat),K.lookup a=Zz o/\o.cls=.type "tuple"/\o.data=.seq its n/\its.size<=RP/\Vals xs its.toList/\o.dict=Zy
noncomputable def PM:Q2->Option V
 |.none=>Zz .non
 |.bool b=>Zz (.bl b)
 |.int i _=>Zz (.int i)
 |.str x _=>Zz (.str x)
 |.bytes b _=>Zz (.xA b)
 |.float b _=>Zz (.flt b)
 |.ref a=>Zz (.ref a)
 |.type n=>Zz (.ty n)
 |_=>Zy
theorem RelV.abs(r:RelV x u):PM u=Zz x:=by
 cases x with
 |non=>cases r;rfl
 |bl _=>cases r;rfl
 |int _=>obtain⟨t,rfl⟩:=r;rfl
 |str _=>obtain⟨t,rfl⟩:=r;rfl
 |xA _=>obtain⟨t,rfl⟩:=r;rfl
 |flt _=>obtain⟨t,rfl⟩:=r;rfl
 |ref _=>cases r;rfl
 |ty _=>cases r;rfl
theorem RelV.inj(r:RelV x u)(q:RelV y u):x=y:=Ri (r.abs.symm.trans q.abs)
theorem Vals.inj:∀{xs ys:List V}{us:List Q2},Vals xs us->Vals ys us->xs=ys
 |_,_,_,.nil,.nil=>rfl
 |_,_,_,.cons r t,.cons b a=>by rw[r.inj b,Vals.inj t a]
section
variable{X:Cx}{pins:List (Q8×Obj)}{σ:St}{H:Hp}{s:Q7}{a:Q8}{xs ys:List V}
theorem sU.of{K:Rf}(h:H a=Zz (.lst xs)):sU K H a xs:=.inl (.inl h)
theorem lA.of{K:Rf}(h:H a=Zz (.tup xs)):lA K H a xs:=.inl (.inl h)
theorem Inv.list(I:Inv X pins σ H s)(h:sU X.K H a xs):∃b:List Q2,Vals xs b/\PlainL s.heap a b.toArray/\xs.length<=RP:=by
 rcases h with h|⟨o,b,n,d,g,f,c,i,r⟩
 ·obtain⟨z,b,n,r,e⟩:=h.ok I.hok
  exact⟨b,r,⟨_,n,e,rfl,rfl,rfl⟩,z⟩
 ·refine⟨b.toList,r,⟨o,n,I.li a o d,g,f,by simpa using c⟩,?_⟩
  have e:=r.length;simp only[Rr]at e;omega
theorem Inv.tuple(I:Inv X pins σ H s)(h:lA X.K H a xs):∃b:List Q2,Vals xs b/\X7 s.heap a b.toArray/\xs.length<=RP:=by
 rcases h with h|⟨o,b,n,d,g,c,i,r,f⟩
 ·obtain⟨z,b,r,p⟩:=h.ok I.hok
  exact⟨b,r,p.is,z⟩
 ·refine⟨b.toList,r,⟨o,I.li a o d,g,n,by simpa using c⟩,?_⟩
  have e:=r.length;simp only[Rr]at e;omega
theorem Inv.E1(I:Inv X pins σ H s)(h:sU X.K H a xs)(h':sU X.K H a ys):xs=ys:=by
 obtain⟨c,r,⟨o,n,e,_,_,d⟩,_⟩:=I.list h;obtain⟨its',i,⟨k,l,f,_,_,g⟩,_⟩:=I.list h';rw[e]at f;cases f;rw[d]at g;injection g with j _;have:c=its':=by simpa using congrArg Array.toList j
 subst this;exact r.inj i
theorem Inv.DC(I:Inv X pins σ H s)(h:lA X.K H a xs)(h':lA X.K H a ys):xs=ys:=by
 obtain⟨c,r,⟨o,e,_,n,d⟩,_⟩:=I.tuple h;obtain⟨its',i,⟨k,f,_,l,g⟩,_⟩:=I.tuple h';rw[e]at f;cases f;rw[d]at g;injection g with j _;have:c=its':=by simpa using congrArg Array.toList j
 subst this;exact r.inj i
end
noncomputable abbrev Cx.wish(X:Cx)(E:Q2->Q7->Prop):Cx:={ X with xe:=E }
noncomputable abbrev Cx.Qj(X:Cx):Cx:=X.wish λ_ _=>False
theorem Cx.Ok.wish{X:Cx}(ok:X.Ok)(E:Q2->Q7->Prop):(X.wish E).Ok:=
 ⟨ok.mod,ok.kind,ok.glob,ok.blt,ok.above,ok.inj,ok.has,ok.cab,ok.hd,ok.frames,ok.M8,ok.OJ,ok.bs,ok.Gy,ok.BO,ok.C7,ok.mO,ok.Jm⟩
section
variable{X:Cx}{pins:List (Q8×Obj)}{σ:St}{H:Hp}{s:Q7}{E:Q2->Q7->Prop}
theorem Inv.wish(I:Inv X pins σ H s)(E:Q2->Q7->Prop):Inv (X.wish E) pins σ H s:=⟨I.ok.wish E,I.os,I.bare,I.base,I.loc,I.cell,I.free,I.eG,I.pin,I.hok,I.len⟩
end
section
variable{X:Cx}{st:Rv}{rest:List Rv}{t u:TS}{e:Rq}{te:TE}{pos:Pos}
def KH:TS:=λD σ H=>D.nx σ H
def NI(t u:TS):TS:=λD σ H=>t { D with nx:=u D } σ H
theorem B2:du X [] KH:=λ_ _ σ H _ I h=>VI ⟨σ,H,I,h⟩
theorem cE(h1:PS X st t)(h2:du X rest u):du X (st::rest) (NI t u):=by
 intro a s σ H D I h;refine W5 (bY (h1 a s σ H { D with nx:=u D } I h) λf d q=>?_);cases f with
 |next =>
  obtain⟨b,H',I',q⟩:=q;exact h2 a d b H' D I' q
 |ret v=>exact q
 |brk=>exact q
 |cont=>exact q
theorem Inv.quiet(I:Inv X pins σ H s):interactive X.env=false:=by simp[interactive,I.ok.kind]
def Ny(te:TE):TS:=λD σ H=>te σ H λ_ H1=>D.nx σ H1
theorem HZ(d:PE X e te)(c:V4 e Zy pos.line X.env=pure false:=by rfl):PS X (.Expr e pos) (Ny te):=by
 intro a s σ H D I h;exact wpAny_Expr_any (bY (d a s σ H _ I h) λv i ⟨x,g,f,j,b⟩=>⟨σ,g,f,b⟩) I.quiet c
def PQ(te:TE):TS:=λD σ H=>te σ H D.rt
theorem Mw(d:PE X e te):PS X (.Return (Zz e) pos) (PQ te):=by
 intro a s σ H D I h;exact wpAny_Return_some (bY (d a s σ H _ I h) λv i ⟨x,g,f,b,c⟩=>⟨x,σ,g,f,b,c⟩)
def O6(c:TT)(t u:TS):TS:=λD σ H=>c σ H λb H1=>if b=true then t D σ H1 else u D σ H1
theorem NA(k:PT X c tc)(m:du X a t)(l:du X b u):PS X (.If c a b pos) (O6 tc t u):=by
 intro e s σ H D I h;refine wpAny_If (bY (k e s σ H _ I h) λd f ⟨j,i,g⟩=>?_);cases d with
 |true=>exact m e f σ j D i g
 |false=>exact l e f σ j D i g
def L4:TS:=λ_ _ _=>False
theorem Eo:du X sts L4:=λ_ _ _ _ _ _ h=>h.elim
end
noncomputable abbrev TG:=V->St->Hp->(St->Hp->Prop)->Prop
noncomputable abbrev OF:=List V->St->Hp->(St->Hp->Prop)->Prop
def PG(X:Cx)(target:Rq)(t:TG):Prop:=
 ∀(pins:List (Q8×Obj)) (s:Q7) (σ:St) (H:Hp) (v:V) (u:Q2) (Q:St->Hp->Prop),Inv X pins σ H s->RelV v u->t v σ H Q ->
  RB (RC X.prog X.w) X.A (assign target X.env u) (λ_ s'=>∃σ' H',Inv X pins σ' H' s'/\Q σ' H') X.xe s
def Nw(X:Cx)(ts:List Rq)(t:OF):Prop:=
 ∀(pins:List (Q8×Obj)) (s:Q7) (σ:St) (H:Hp) (vs:List V) (us:List Q2) (Q:St->Hp->Prop),Inv X pins σ H s->Vals vs us->t vs σ H Q ->
  RB (RC X.prog X.w) X.A (assignInOrder ((RM ts X.env).map (·.2)) us) (λ_ s'=>∃σ' H',Inv X pins σ' H' s'/\Q σ' H') X.xe s
noncomputable abbrev Nk:=V->V->V->Hp->(Hp->Prop)->Prop
def Ot(X:Cx)(t:Nk):Prop:=
 ∀(pins:List (Q8×Obj)) (s:Q7) (σ:St) (H:Hp) (o i v:V) (ov iv u:Q2) (Q:Hp->Prop),Inv X pins σ H s->RelV o ov->RelV i iv->RelV v u->t o i v H Q ->
  RB (RC X.prog X.w) X.A (setItem ov iv u) (λ_ s'=>∃H',Inv X pins σ H' s'/\Q H') X.xe s
noncomputable abbrev PZ:=V->V->Hp->VK->Prop
def OS(X:Cx)(op:W6)(t:PZ):Prop:=
 ∀(pins:List (Q8×Obj)) (s:Q7) (σ:St) (H:Hp) (x y:V) (v u:Q2) (Q:VK),Inv X pins σ H s->RelV x v->RelV y u->t x y H Q ->
  RB (RC X.prog X.w) X.A (inplaceOp op v u) (EP X pins σ Q) X.xe s
section
variable{X:Cx}{pos:Pos}
def HG(i:Nat):TG:=λv σ H Q=>Q (σ.set i (Zz v)) H
theorem bS(d:X.N.Nodup)(hi:X.N[i]?=Zz x)(b:Loc X.env.scope x)(c:X.fn x=true∨X.env.scope.names.lookup x=Zz .local:=by first|exact .inl rfl|exact .inr rfl|assumption):PG X (.Name x pos) (HG i):=by
 intro a s σ H v u Q I r h;exact wpAny_assign_Name (nP I d hi b r (λf e=>⟨_,H,e,h⟩) c)
noncomputable def Pe:OF:=λvs σ H Q=>vs=[]/\Q σ H
noncomputable def Ni(t:TG)(u:OF):OF:=λvs σ H Q=>∃v r,vs=v::r/\t v σ H λσ' H'=>u r σ' H' Q
theorem qF:Nw X [] Pe:=by
 intro a s σ H b c Q I r h;obtain⟨e,h⟩:=h;subst e;cases r;exact assignInOrder_nil ⟨σ,H,I,h⟩
theorem bJ(h1:PG X e t)(h2:Nw X es u)(i:(RM (e::es) X.env).map (·.2)=assign e X.env::(RM es X.env).map (·.2):=by rfl):Nw X (e::es) (Ni t u):=by
 intro a s σ H vs us Q I r h;obtain⟨v,vr,e1,h⟩:=h;subst e1;cases r with
 |cons r f =>
  rw[i];refine assignInOrder_cons (bY (h1 a s σ H _ _ _ I r h) λ_ d ⟨b,H1,I1,g⟩=>?_);exact h2 a d b H1 _ _ Q I1 f g
inductive Pq (K:Rf) (n:Nat) (t:OF) (v:V) (σ:L2.St) (H:Hp) (Q:L2.St->Hp->Prop):Prop where
 |mk (a xs) (_:v=.ref a) (_:lA K H a xs) (_:xs.length=n) (_:t xs σ H Q)
theorem zP(y:X.calm=true)(h:Nw X es t)(w:(RM es X.env).length=n:=by rfl)(f:(RM es X.env).findIdx? (·.1)=Zy:=by rfl):PG X (.Tuple es k pos) (Pq X.K n t):=by
 intro c s σ H v u Q I r d;obtain⟨a,j,A,q,x,d⟩:=d;subst A;cases r;obtain⟨l,g,p,C⟩:=I.tuple q;refine assign_Tuple_tuple (I.ok.hd y) p (by simp[w,<-x,g.length]) f λz m=>?_
 have B:Inv X c σ H { s with heap:=z }:=I.kept (t':=s.toks) λb o e=>m b o (Rc (RH e)) e
 exact h c _ σ H j _ Q B (by simpa using g) d
def OZ(to ti:TE)(t:Nk):TG:=λv σ H Q=>to σ H λo H1=>ti σ H1 λi H2=>t o i v H2 λH3=>Q σ H3
theorem K5(ho:PE X o to)(hi:PE X i ti)(hs:Ot X t)(ha:∀v,assign (.Subscript o i pos) X.env v=(do
  let c <-Vq [v] (eval o X.env)
  let iv <-Vq [v,c] (eval i X.env)
  Ux pos
  Vq [v,c,iv] (setItem c iv v)
  release [v,c,iv] []):=by intro _;rfl):PG X (.Subscript o i pos) (OZ to ti t):=by
 intro b s σ H v u Q I r h;rw[ha];refine Q0 (SF (bY (ho b s σ H _ I h) λc s1 ⟨x,H1,I1,r1,q1⟩=>?_));refine Q0 (SF (bY (hi b s1 σ H1 _ I1 q1) λiv s2 ⟨y,H2,I2,r2,q2⟩=>?_));refine Q0 (Sk (Q0 (SF (bY (hs b s2 σ H2 x y v c iv u _ I2 r1 r2 r q2) λ_ s3 ⟨H3,I3,q3⟩=>?_))));exact wpAny_release ⟨σ,H3,I3,q3⟩
def N0(te:TE)(g:TG):TS:=λD σ H=>te σ H λx H1=>g x σ H1 D.nx
theorem A8(k:PE X e te)(j:PG X tg g)(i:Vy [tg] e pos.line X.env=pure false:=by rfl)(f:Vz [tg] e X.env=pure Zy:=by rfl)(l:(RM [tg] X.env).map (·.2)=[assign tg X.env]:=by rfl):PS X (.Assign [tg] e pos) (N0 te g):=by
 intro a s σ H D I h;refine wpAny_Assign_stores (bY (k a s σ H _ I h) λv b ⟨x,n,m,c,d⟩=>?_) i f;rw[l];exact bY (j a b σ n x v _ m c d) λ_ o q=>q
theorem Lw(k:X.N.Nodup)(hi:X.N[i]?=Zz x)(d:Loc X.env.scope x)(j:PE X e te)(f:V4 e (Zz (.Name x pos')) pos.line X.env=pure false:=by rfl)(g:X.fn x=true∨X.env.scope.names.lookup x=Zz .local:=by first|exact .inl rfl|exact .inr rfl|assumption):
  PS X (.Assign [.Name x pos'] e pos) (N0 te (HG i)):=by
 intro a s σ H D I h;refine wpAny_Assign_Name (bY (j a s σ H _ I h) λv p ⟨y,n,m,b,c⟩=>?_) f;exact nP m k hi d b (λo l=>⟨_,n,l,c⟩) g
def Pk(i:Nat)(te:TE)(ti:PZ):TS:=λD σ H=>∃x,σ[i]?=Zz (Zz x)/\te σ H λy H1=>ti x y H1 λz H2=>D.nx (σ.set i (Zz z)) H2
theorem MP(O:X.N.Nodup)(hi:X.N[i]?=Zz x)(n:Loc X.env.scope x)(L:PE X e te)(E:OS X op ti)(K:X.fn x=true∨X.env.scope.names.lookup x=Zz .local:=by first|exact .inl rfl|exact .inr rfl|assumption):
  PS X (.AugAssign (.Name x pos') op e pos) (Pk i te ti):=by
 intro a s σ H D I h;obtain⟨v,P,h⟩:=h;obtain⟨m,F,J⟩:=I.loc;have j:Nc X.env.scope x:=by rcases n with k|k;exact .inl k;exact .inr (.inl k)
 obtain⟨u,r,l⟩:=J i x v hi P j;refine wpAny_AugAssign_Name ?_;have o:RB (RC X.prog X.w) X.A (eval e X.env) (λw g=>RB (RC X.prog X.w) X.A (inplaceOp op u w) (λr f=>RB (RC X.prog X.w) X.A (XJ X.env x r) (λ_=>SP X a D .next) X.xe f) X.xe g) X.xe s:=by
  refine bY (L a s σ H _ I h) λw p ⟨y,U,S,t,C⟩=>?_
  refine bY (E a p σ U v y u w _ S r t C) λz Y ⟨V,T,R,q,B⟩=>?_
  exact nP R O hi n q (λW Q=>⟨_,T,Q,B⟩) K
 rcases l with⟨b,G⟩|⟨b,c,M,d⟩
 ·exact wpAny_loadName_local I.ok.kind b F G o
 ·rcases b with b|b
  ·exact wpAny_loadName_cell I.ok.kind b M d o
  ·rcases n with k|k
   ·have:X.env.scope.names.lookup x=Zz .free:=b
    rw[k]at this;cases this
   ·have:X.env.scope.names.lookup x=Zz .free:=b
    rw[k]at this;cases this
noncomputable def Qe(f:Int->Int->Int):PZ:=λx y H Q=>∃i j,x=.int i/\y=.int j/\Q (.int (f i j)) H
theorem L5:OS X .Add (Qe λi j=>i+j):=by
 intro a s σ H x y v u Q I c b h;obtain⟨i,j,e,d,q⟩:=h;subst e;subst d;obtain⟨t,rfl⟩:=c;obtain⟨f,rfl⟩:=b;exact iadd_int ⟨.int _,H,I.tok _,⟨_,rfl⟩,q⟩
theorem Mj:OS X .Sub (Qe λi j=>i-j):=by
 intro a s σ H x y v u Q I c b h;obtain⟨i,j,e,d,q⟩:=h;subst e;subst d;obtain⟨t,rfl⟩:=c;obtain⟨f,rfl⟩:=b;exact isub_int ⟨.int _,H,I.tok _,⟨_,rfl⟩,q⟩
def MO(c:TT)(tb:TS):TS:=λD σ H=>∃W:Nat->St->Hp->Prop,(∃m,W m σ H)/\∀m σ H,W m σ H ->
 c σ H λb H1=>if b=true then ∃N:St->Hp->Prop,(∀σ' H',N σ' H'->∃m',m'<m/\W m' σ' H')/\tb { D with nx:=N,ct:=N,bk:=D.nx } σ H1 else D.nx σ H1
theorem Fg(t:Wa (RC X.prog X.w) X.A X.env X.xe)(hc:PT X c tc)(hb:du X body tb):PS X (.While c body [] pos) (MO tc tb):=by
 intro d s σ H D I h;obtain⟨W,⟨m0,w0⟩,i⟩:=h;refine wpAny_While (codeAny_whileLoop (λn s'=>∃g H',Inv X d g H' s'/\W n g H') ?_ m0 ⟨σ,H,I,w0⟩);rintro n s1 ⟨e,H1,I1,w1⟩;refine TZ t (bY (hc d s1 e H1 _ I1 (i n e H1 w1)) λb s2 ⟨H2,I2,l⟩=>?_);cases b with
 |true =>
  obtain⟨N,hN,l⟩:=l;rw[Xf rfl];refine TZ t (bY (hb d s2 e H2 _ I2 l) λf s3 k=>?_);cases f with
  |next =>
   obtain⟨a,j,r,o⟩:=k;obtain⟨p,q,m⟩:=hN a j o;exact⟨p,q,a,j,r,m⟩
  |cont =>
   obtain⟨a,j,r,o⟩:=k;obtain⟨p,q,m⟩:=hN a j o;exact⟨p,q,a,j,r,m⟩
  |brk=>exact k
  |ret v=>exact k
 |false =>
  rw[Xg RG];exact VI ⟨e,H2,I2,l⟩
end
structure It where
 go:Nat->Hp->Prop
 P4:Nat->Hp->V->Hp->Prop
 stop:Nat->Hp->Prop
def de(X:Cx)(pins:List (Q8×Obj))(H:Hp)(b:Q8):Prop:=
 H b=Zy/\b≠X.env.locals/\b∉X.fs/\(b∈X.ex∨X.s₀.heap.objs.size<=b)/\(∀x c,X.env.cells.lookup x=Zz c->c≠b)/\∀p∈X.pn++pins,p.1≠b
theorem Inv.HK(I:Inv X pins σ H s)(a:s.heap.objs.size<=b)(f:H' b=Zy):de X pins H' b:=by
 refine⟨f,Uy (RQ I.lt a),I.Mn a,.inr (Re I.sz a),λx c e z=>?_,λp d z=>?_⟩
 ·obtain⟨v,q⟩:=I.cell x c e
  exact Xk (RQ q.lt (by rw[z];exact a)) (SD _)
 ·exact Xk (RQ (RH (I.pin p d).1) (by rw[z];exact a)) (SD _)
structure Turn (P:Rk) (w:Rz) (K:Rf) (tg:Rq) (J:It) (fp:List Q8) (it:Q8) (tn:Nat->Rm->Prop):Prop where
 mem:it∈fp
 obj:∀i h,tn i h->∀b∈fp,∃o,h.get? b=Zz o/\∀v,o.data≠.cell v
 keep:∀i h h',tn i h->(∀b∈fp,∀o,h.get? b=Zz o->h'.get? b=Zz o)->tn i h'
 item:∀(X:Cx),X.prog=P->X.w=w->X.K=K->X.calm=true->∀(i:Nat) (pins:List (Q8×Obj)) (s:Q7) (σ:St) (H:Hp) (E:Q2->Q7->Prop),Inv X pins σ H s->(∀b∈fp,de X pins H b)->tn i s.heap->J.go i H ->
  RB (RC P w) X.A (pyNext (.ref it)) (λr s1=>∃u,r=Zz u /\
   RB (RC P w) X.A (U6 tg (.ref it) u) (λ_ s2=>∃x H',Inv X pins σ H' s2/\RelV x u/\J.P4 i H x H'/\tn (i+1) s2.heap/\∀b∈fp,H' b=Zy) E s1) E s
 done:∀(X:Cx),X.prog=P->X.w=w->X.K=K->X.calm=true->∀(i:Nat) (pins:List (Q8×Obj)) (s:Q7) (σ:St) (H:Hp) (E:Q2->Q7->Prop),Inv X pins σ H s->(∀b∈fp,de X pins H b)->tn i s.heap->J.stop i H ->
  RB (RC P w) X.A (pyNext (.ref it)) (λr s1=>r=Zy/\Inv X pins σ H s1) E s
 self:∀(A:SH) (i:Nat) (s:Q7) (Q:Q2->Q7->Prop) (E:Q2->Q7->Prop),tn i s.heap->Q (.ref it) s->RB (RC P w) A (pyIter (.ref it)) Q E s
noncomputable abbrev TI:=St->Hp->(It->Hp->Prop)->Prop
def PIE(X:Cx)(pins:List (Q8×Obj))(σ:St)(tg:Rq)(R:It->Hp->Prop)(itv:Q2)(s2:Q7):Prop:=
 ∃(it:Q8) (fp:List Q8) (tn:Nat->Rm->Prop) (J:It) (H':Hp),itv=.ref it/\Inv X pins σ H' s2/\Turn X.prog X.w X.K tg J fp it tn/\tn 0 s2.heap/\(∀b∈fp,de X pins H' b)/\R J H'
def PI(X:Cx)(tg iter:Rq)(wi:TI):Prop:=
 ∀(pins:List (Q8×Obj)) (s:Q7) (σ:St) (H:Hp) (R:It->Hp->Prop),Inv X pins σ H s->wi σ H R ->
  RB (RC X.prog X.w) X.A (eval iter X.env) (λv s1=>RB (RC X.prog X.w) X.A (pyIter v) (PIE X pins σ tg R) X.xe s1) X.xe s
theorem CT{M:X8}{A:SH}{E:Q2->Q7->Prop}{s:Q7}{tg:Rq}{it:Q8}{u:Q2}{o:Obj}{n:String}{b:Array Q2}{Q:Unit->Q7->Prop}(d:s.heap.get? it=Zz o)(g:o.cls=.type n)(f:o.data=.fields b)(e:["enumerate","zip","dict_itemiterator","dict_reverseitemiterator","odict_iterator","itertools.zip_longest","itertools.pairwise"].contains n=false)(a:Q () s):RB M A (U6 tg (.ref it) u) Q E s:=by
 unfold U6;cases tg<;>first
  |exact Q5 a
  |(cases u<;>first
   |exact Q5 a
   |(
    refine Q0 (wpAny_load d ?_);rw[g,f];show RB M A (if(["enumerate","zip","dict_itemiterator","dict_reverseitemiterator","odict_iterator","itertools.zip_longest","itertools.pairwise"].contains n&&b[0]?==Zz (rawInt _))=true then _ else _) Q E s;rw[Xg (by intro h;rw[e,Bool.false_and]at h;cases h)];exact Q5 a))
noncomputable def NK(K:Rf)(a:Q8):It:=
 ⟨λi H=>∃xs x,sU K H a xs/\xs[i]?=Zz x,λi H x H'=>H'=H/\∀xs,sU K H a xs->xs[i]?=Zz x,λi H=>∃xs,sU K H a xs/\xs.length<=i⟩
noncomputable def Qb(K:Rf)(a:Q8):It:=
 ⟨λi H=>∃xs x,lA K H a xs/\xs[i]?=Zz x,λi H x H'=>H'=H/\∀xs,lA K H a xs->xs[i]?=Zz x,λi H=>∃xs,lA K H a xs/\xs.length<=i⟩
noncomputable def NC(lo:Int)(n:Nat):It:=⟨λi _=>i<n,λi H x H'=>H'=H/\x=.int (lo+i),λi _=>n<=i⟩
theorem D8{K:Rf}(a it:Q8):Turn P w K tg (NK K a) [it] it (λi h=>h.IsListIter it a i) where
 mem:=by simp
 obj:=λi h f b j=>by
  have e:b=it:=by simpa using j
  subst e;obtain⟨o,e,c,d⟩:=f;exact⟨o,e,λv z=>by rw[d]at z;cases z⟩
 keep:=λi h r f k=>f.at λo e=>k it (by simp) o e
 item:=by
  intro X D B F O i g s σ H E I q f C;subst D B F;obtain⟨Q,x,n,A⟩:=C;obtain⟨y,t,p,T⟩:=I.list n;obtain⟨u,V,S⟩:=t.get A;obtain⟨N,M,Y,L,J,G⟩:=q it (by simp);refine wpAny_pyNext_list_item f p.isList (x:=u) (by simpa using V) λr l R=>?_
  have I1:Inv X g σ H { s with heap:=r }:=I.turned (t':=s.toks) (λb o j e=>(R.2 b j).trans e) N M L J G;obtain⟨o,e,c,d⟩:=id l;exact⟨u,rfl,CT (s:={ s with heap:=r }) e c d (by decide) ⟨x,H,I1,S,⟨rfl,λys U=>by rw[I.E1 U n];exact A⟩,l,λb j=>(q b j).1⟩⟩
 done:=by
  intro X D B F O i g s σ H E I q f C;subst D B F;obtain⟨Q,n,A⟩:=C;obtain⟨y,t,p,T⟩:=I.list n;obtain⟨N,M,Y,L,J,G⟩:=q it (by simp);have hl:=t.length;exact wpAny_pyNext_list_end (I.ok.hd O) f p.isList (by simp;omega) λr Z=>⟨rfl,I.turned (t':=s.toks) (λb o j e=>Z b o j e) N M L J G⟩
 self:=λ_ _ _ _ _ f h=>wpAny_pyIter_listiter f h
theorem zZ{K:Rf}(a it:Q8):Turn P w K tg (Qb K a) [it] it (λi h=>h.IsTupleIter it a i) where
 mem:=by simp
 obj:=λi h f b l=>by
  have e:b=it:=by simpa using l
  subst e;obtain⟨o,e,c,d⟩:=f;exact⟨o,e,λv z=>by rw[d]at z;cases z⟩
 keep:=λi h t f k=>f.at λo e=>k it (by simp) o e
 item:=by
  intro X D B F O i g s σ H E I r f C;subst D B F;obtain⟨Q,x,q,A⟩:=C;obtain⟨j,y,p,T⟩:=I.tuple q;obtain⟨u,V,S⟩:=y.get A;obtain⟨N,M,Y,L,J,G⟩:=r it (by simp);refine wpAny_pyNext_tuple_item f (show s.heap.IsTuple a j.toArray from p) (x:=u) (by simpa using V) λt m R=>?_
  have I1:Inv X g σ H { s with heap:=t }:=I.turned (t':=s.toks) (λb o l e=>(R.2 b l).trans e) N M L J G;obtain⟨o,e,c,d⟩:=id m;exact⟨u,rfl,CT (s:={ s with heap:=t }) e c d (by decide) ⟨x,H,I1,S,⟨rfl,λys U=>by rw[I.DC U q];exact A⟩,m,λb l=>(r b l).1⟩⟩
 done:=by
  intro X D B F O i g s σ H E I r f C;subst D B F;obtain⟨Q,q,A⟩:=C;obtain⟨j,y,p,T⟩:=I.tuple q;obtain⟨N,M,Y,L,J,G⟩:=r it (by simp);have hl:=y.length;exact wpAny_pyNext_tuple_end (I.ok.hd O) f (show s.heap.IsTuple a j.toArray from p) (by simp;omega) λt Z=>⟨rfl,I.turned (t':=s.toks) (λb o l e=>Z b o l e) N M L J G⟩
 self:=λ_ _ _ _ _ f h=>wpAny_pyIter_tupleiter f h
theorem BI{K:Rf}(it:Q8)(lo:Int)(n:Nat):Turn P w K tg (NC lo n) [it] it (λi h=>IsRangeIter h it (lo+(i:Nat)*1) ((n:Int)-(i:Nat)) 1) where
 mem:=by simp
 obj:=λi h a b d=>by
  have e:b=it:=by simpa using d
  subst e;exact⟨_,a,λv z=>by
   have F:Data.fields _=Data.cell v:=z;cases F⟩
 keep:=λi h l a k=>k it (by simp) _ a
 item:=by
  intro X r m u q i c s σ H E I j a p;subst r m u;obtain⟨C,B,L,A,y,x⟩:=j it (by simp);have W:=Walks.range (prog:=X.prog) (w:=X.w) (I.ok.hd q) it lo 1 n;refine W.item i s _ _ p a λv l D J f G=>?_
  obtain⟨t,rfl⟩:=J;have N:Inv X c σ H { s with heap:=l,toks:=D }:=I.turned (λb o d e=>G b o (by simpa using d) e) C B A y x;refine⟨_,rfl,CT (s:={ s with heap:=l,toks:=D }) (n:="range_iterator") f rfl rfl (by decide) ⟨.int (lo+i),H,N,⟨t,?_⟩,⟨rfl,rfl⟩,f,λb d=>(j b d).1⟩⟩;rw[Int.mul_one]
 done:=by
  intro X r m u q i c s σ H E I j a p;subst r m u;obtain⟨C,B,L,A,y,x⟩:=j it (by simp);exact wpAny_pyNext_range_end (I.ok.hd q) a (by have:n<=i:=p;omega) λl M=>⟨rfl,I.turned (t':=s.toks) (λb o d e=>M b o d e) C B A y x⟩
 self:=λ_ _ _ _ _ a h=>wpAny_pyIter_rangeiter a h
section
variable{X:Cx}{tg:Rq}
theorem yk{a:List (Q8×Obj)}{σ:St}{H:Hp}{s:Q7}{R:It->Hp->Prop}{E:Q2->Q7->Prop}{lo hi:Int}{t u v:Tok}{d:Nat}(I:Inv X a σ H s)(k:-(2^62)<=lo)(j:lo<2^62)(i:-(2^62)<=hi)(h:hi<2^62)(q:R (NC lo (hi-lo).toNat) H):RB (RC X.prog X.w) X.A (pyIter (.ref s.heap.objs.size)) (PIE X a σ tg R) E { s with heap:=s.heap.push { cls:=.type "range",data:=.fields #[.int lo t,.int hi u,.int 1 v] },toks:=d }:=by
 refine wpAny_pyIter_range (IsRange.new ..) (small_one k j i h) ?_;have f:Inv X a σ H { s with heap:=s.heap.push { cls:=.type "range",data:=.fields #[.int lo t,.int hi u,.int 1 v] },toks:=d }:=I.kept λb o e=>Q6 _ e
 refine⟨(s.heap.push { cls:=.type "range",data:=.fields #[.int lo t,.int hi u,.int 1 v] }).objs.size,[(s.heap.push { cls:=.type "range",data:=.fields #[.int lo t,.int hi u,.int 1 v] }).objs.size],_,_,H,rfl,
  f.kept (t':=d) λb o e=>Q6 _ e,BI _ lo (hi-lo).toNat,?_,λb g=>?_,q⟩
 ·have m:lo+((0:Nat):Int)*1=lo:=by simp
  have l:(((hi-lo).toNat:Nat):Int)-((0:Nat):Int)=Builtin.Range.rangeSize lo hi 1:=by rw[rangeSize_one];split<;>omega
  show IsRangeIter _ _ (lo+((0:Nat):Int)*1) ((((hi-lo).toNat:Nat):Int)-((0:Nat):Int)) 1;rw[m,l];exact RL _ rfl
 ·have e:b=(s.heap.push { cls:=.type "range",data:=.fields #[.int lo t,.int hi u,.int 1 v] }).objs.size:=by simpa using g
  subst e;exact f.HK (R1 _) (f.hok.fresh (R1 _))
def Og(ta:TA):TI:=λσ H R=>ta σ H λvs H1=>∃j:Int,vs=[.int j]/\-(2^62)<=j/\j<2^62/\R (NC 0 j.toNat) H1
def Oo(ta:TA):TI:=λσ H R=>ta σ H λvs H1=>∃i j:Int,vs=[.int i,.int j]/\(-(2^62)<=i/\i<2^62/\-(2^62)<=j/\j<2^62)/\R (NC i (j-i).toNat) H1
theorem EI{p pos:Pos}(hg:Gl X "range")(hm:X.mg "range" = Zy)(ha:PA X [a] ta)(k:S9 [a] X.env=[(false,eval a X.env)]:=by rfl):PI X tg (.Call (.Name "range" p) [a] [] pos) (Og ta):=by
 intro b s σ H R I h;refine Call_ (lT I hg hm boot_range (TJ (bY (ha pos b s σ H _ I h) λus s1 ⟨vs,H1,I1,g,c⟩=>?_) k rfl));obtain⟨j,e,c,i,q⟩:=c;subst e;cases g with
 |cons r f =>
  cases f;obtain⟨t,rfl⟩:=r;exact call_range_1 (yk I1 (by omega) (by omega) c i (by simpa using q))
theorem Dx(hg:Gl X "range")(hm:X.mg "range" = Zy)(ha:PA X [a,b] ta)(hs:S9 [a,b] X.env=[(false,eval a X.env),(false,eval b X.env)]:=by rfl)(d:S9 [b] X.env=[(false,eval b X.env)]:=by rfl):
  PI X tg (.Call (.Name "range" p) [a,b] [] pos) (Oo ta):=by
 intro c s σ H R I h;refine Call_ (lT I hg hm boot_range (TJ (bY (ha pos c s σ H _ I h) λus s1 ⟨vs,H1,I1,l,k⟩=>?_) (by rw[hs,d]) (by rw[d];rfl)));obtain⟨i,j,e,⟨k,u,o,n⟩,q⟩:=k;subst e;cases l with
 |cons r g =>
  cases g with
  |cons m g =>
   cases g;obtain⟨t,rfl⟩:=r;obtain⟨t',rfl⟩:=m;exact call_range_2 (yk I1 k u o n q)
def OV(wi:TI)(g:TG)(tb:TS):TS:=λD σ H=>wi σ H λJ H1=>∃W:Nat->Nat->St->Hp->Prop,(∃m,W 0 m σ H1)/\∀i m σ H,W i m σ H ->
 (J.stop i H/\D.nx σ H)∨(J.go i H/\∃N:St->Hp->Prop,(∀σ' H',N σ' H'->∃m',m'<m/\W (i+1) m' σ' H')/\∀x H',J.P4 i H x H'->g x σ H' λσ2 H2=>tb { D with nx:=N,ct:=N,bk:=D.nx } σ2 H2)
noncomputable def jc(fp:List Q8)(h:Rm):List (Q8×Obj):=fp.filterMap λb=>(h.get? b).map λo=>(b,o)
theorem bW(a:b∈fp)(e:h.get? b=Zz o):(b,o)∈jc fp h:=List.mem_filterMap.mpr ⟨b,a,by rw[e];rfl⟩
theorem uL(a:p∈jc fp h):p.1∈fp/\h.get? p.1=Zz p.2:=by
 obtain⟨b,c,e⟩:=List.mem_filterMap.mp a;cases q:h.get? b with
 |none=>rw[q]at e;cases e
 |some o =>
  rw[q]at e;have d:(b,o)=p:=Ri e;subst d;exact⟨c,q⟩
theorem Inv.pinned(I:Inv X a σ H s)(hf:∀b∈f,de X a H b)(ho:∀b∈f,∃o,s.heap.get? b=Zz o/\∀v,o.data≠.cell v):Inv X (a++jc f s.heap) σ H s:=
 I.C0 λp hp=>(S1.mp hp).elim (λz=>I.pin p (RI _ z)) λz=>by
  obtain⟨c,e⟩:=uL z;obtain⟨f0,f1,f2,_⟩:=hf p.1 c;obtain⟨o,g,d⟩:=ho p.1 c;rw[e]at g;cases g;exact⟨e,f0,f1,f2,d⟩
theorem Inv.cR(I:Inv X (pins++pl) σ H s):Inv X pins σ H s:=I.C0 λp a=>I.pin p (RI _ (Rt _ a))
theorem Mh(hp:Wa (RC X.prog X.w) X.A X.env X.xe)(hc:X.calm=true)(hi:PI X tg iter wi)(hg:PG X tg g)(hb:du X body tb)(hs:∀x,Sm iter X.env x=pure x:=by intro _;rfl):PS X (.For tg iter body [] pos) (OV wi g tb):=by
 intro pins s σ H D I h;refine wpAny_For (bY (hi pins s σ H _ I h) λv s1 h1=>bY h1 λitv s2 h2=>?_) hs;obtain⟨it,fp,tn,J,H2,e,I2,T,st2,f2,W,⟨m0,w0⟩,turn⟩:=h2;subst e
 -- what stays true of the iterator's objects through the loop
 have stat:∀{H':Hp},(∀b∈fp,H' b=Zy)->∀b∈fp,de X pins H' b:=λhn b hb=>⟨hn b hb,(f2 b hb).2⟩
 refine codeAny_forLoop_any (λn s'=>∃i σ' H',Inv X pins σ' H' s'/\tn i s'.heap/\(∀b∈fp,H' b=Zy)/\W i n σ' H') ?_ m0 ⟨0,σ,H2,I2,st2,λb hb=>(f2 b hb).1,w0⟩;rintro n s3 ⟨i,σ3,H3,I3,st3,fr3,w3⟩;rcases turn i n σ3 H3 w3 with⟨stop,qn⟩|⟨go,N,hN,step⟩
 ·refine TZ hp (bY (T.done X rfl rfl rfl hc i pins s3 σ3 H3 X.xe I3 (stat fr3) st3 stop) λr s4 ⟨hr,I4⟩=>?_)
  subst hr;exact VI ⟨σ3,H3,I4,qn⟩
 ·refine TZ hp (bY (T.item X rfl rfl rfl hc i pins s3 σ3 H3 X.xe I3 (stat fr3) st3 go) λr s4 ⟨u,hr,h4⟩=>?_)
  subst hr;refine TZ hp (bY h4 λ_ s5 ⟨x,H5,I5,r5,y5,st5,fr5⟩=>?_);have I5':=I5.pinned (stat fr5) (T.obj _ _ st5);refine TZ hp (bY (hg _ s5 σ3 H5 x u _ I5' r5 (step x H5 y5)) λ_ s6 ⟨σ6,H6,I6,q6⟩=>?_);refine TZ hp (bY (hb _ s6 σ6 H6 _ I6 q6) λf s7 q7=>?_);have again:∀{σ7:St}{H7:Hp},Inv X (pins++jc fp s5.heap) σ7 H7 s7->N σ7 H7->∃m,m<n/\∃i σ' H',Inv X pins σ' H' s7/\tn i s7.heap/\(∀b∈fp,H' b=Zy)/\W i m σ' H':=λ{σ7 H7} I7 n7=>by
   obtain⟨m',hm,w7⟩:=hN σ7 H7 n7;refine⟨m',hm,i+1,σ7,H7,I7.cR,T.keep _ _ _ st5 λb hb o e=>(I7.pin (b,o) (RI _ (RI _ (bW hb e)))).1,λb hb=>?_,w7⟩;obtain⟨o,e,d⟩:=T.obj _ _ st5 b hb;exact(I7.pin (b,o) (RI _ (RI _ (bW hb e)))).2.1
  cases f with
  |next=>obtain⟨σ7,H7,I7,n7⟩:=q7;exact again I7 n7
  |cont=>obtain⟨σ7,H7,I7,n7⟩:=q7;exact again I7 n7
  |brk=>obtain⟨σ7,H7,I7,q7⟩:=q7;exact⟨σ7,H7,I7.cR,q7⟩
  |ret v=>obtain⟨x7,σ7,H7,I7,r7,q7⟩:=q7;exact⟨x7,σ7,H7,I7.cR,r7,q7⟩
end
noncomputable abbrev R2:=V->V->Hp->VK->Prop
def dU(X:Cx)(f:Q2->Q2->Sem Q2)(r:R2):Prop:=
 ∀(pins:List (Q8×Obj)) (s:Q7) (σ:St) (H:Hp) (x y:V) (v u:Q2) (Q:VK),Inv X pins σ H s->RelV x v->RelV y u->r x y H Q ->
  RB (RC X.prog X.w) X.A (f v u) (EP X pins σ Q) X.xe s
def db(X:Cx)(f:Q2)(r:List V->Hp->VK->Prop):Prop:=
 ∀(pins:List (Q8×Obj)) (s:Q7) (σ:St) (H:Hp) (xs:List V) (us:List Q2) (Q:VK),Inv X pins σ H s->Vals xs us->r xs H Q ->
  RB (RC X.prog X.w) X.A (call f us) (EP X pins σ Q) X.xe s
def Px(X:Cx)(r:V->Hp->(Bool->Hp->Prop)->Prop):Prop:=
 ∀(pins:List (Q8×Obj)) (s:Q7) (σ:St) (H:Hp) (x:V) (v:Q2) (Q:Bool->Hp->Prop),Inv X pins σ H s->RelV x v->r x H Q ->
  RB (RC X.prog X.w) X.A (truthy v) (TP X pins σ Q) X.xe s
def N3(r:R2)(ta tb:TE):TE:=λσ H Q=>ta σ H λx H1=>tb σ H1 λy H2=>r x y H2 Q
inductive rI (C:Int->Int->Prop) (g:Int->Int->V) (x:V) (y:V) (H:Hp) (Q:VK):Prop where
 |mk (i j) (_:x=.int i) (_:y=.int j) (_:C i j) (_:Q (g i j) H)
inductive KJ (g:Int->Int->V) (x:V) (y:V) (H:Hp) (Q:VK):Prop where
 |mk (i j) (_:x=.int i) (_:y=.int j) (_:Q (g i j) H)
section
variable{X:Cx}{a b c:Rq}{ta tb tc:TE}{pos:Pos}
theorem iq(ha:PE X a ta)(hb:PE X b tb){R:V->V->Hp->Prop}(I:Inv X e σ H s)(h:ta σ H λx H1=>tb σ H1 λy g=>R x y g){f:Q2->Q2->Sem Q2}(hf:∀v u s2 x y g,Inv X e σ g s2->RelV x v->RelV y u->R x y g->RB (RC X.prog X.w) X.A (f v u) Q X.xe s2):
  RB (RC X.prog X.w) X.A (eval a X.env) (λv s₁=>RB (RC X.prog X.w) X.A (eval b X.env) (λu i=>RB (RC X.prog X.w) X.A (f v u) Q X.xe i) X.xe s₁) X.xe s:=by
 refine bY (ha e s σ H _ I h) λv s1 ⟨x,H1,I1,r1,q1⟩=>?_
 refine bY (hb e s1 σ H1 _ I1 q1) λu s2 ⟨y,g,I2,r2,q2⟩=>?_
 exact hf v u s2 x y g I2 r1 r2 q2
theorem KC{r:R2}(g:dU X (SK op) r)(j:PE X a ta)(i:PE X b tb):PE X (.BinOp a op b pos) (N3 r ta tb):=by
 intro pins s σ H Q I h;exact wpAny_BinOp (iq j i I h λv u s2 x y l k f e q=>g pins s2 σ l x y v u Q k f e q)
theorem OR{g:Int->Int->Int}(a:∀(i j:Int) (t u:Tok) (s:Q7) (Q:Q2->Q7->Prop) (E:Q2->Q7->Prop),C i j->Q (.int (g i j) s.toks) { s with toks:=s.toks+1 }->RB (RC X.prog X.w) X.A (f (.int i t) (.int j u)) Q E s):
  dU X f (rI C λi j=>.int (g i j)):=by
 intro c s σ H x y v u Q I k e h;obtain⟨i,j,rfl,rfl,l,q⟩:=h;obtain⟨t,rfl⟩:=k;obtain⟨d,rfl⟩:=e;exact a i j t d s _ _ l ⟨.int (g i j),H,I.tok _,⟨_,rfl⟩,q⟩
theorem Nj{g:Int->Int->Int}(a:∀(i j:Int) (t u:Tok) (s:Q7) (Q:Q2->Q7->Prop) (E:Q2->Q7->Prop),Q (.int (g i j) s.toks) { s with toks:=s.toks+1 }->RB (RC X.prog X.w) X.A (f (.int i t) (.int j u)) Q E s):
  dU X f (KJ λi j=>.int (g i j)):=by
 intro c s σ H x y v u Q I k e h;obtain⟨i,j,rfl,rfl,q⟩:=h;obtain⟨t,rfl⟩:=k;obtain⟨d,rfl⟩:=e;exact a i j t d s _ _ ⟨.int (g i j),H,I.tok _,⟨_,rfl⟩,q⟩
theorem Jg{g:Int->Int->Bool}(a:∀(i j:Int) (t u:Tok) (s:Q7) (Q:Q2->Q7->Prop) (E:Q2->Q7->Prop),Q (.bool (g i j)) s->RB (RC X.prog X.w) X.A (f (.int i t) (.int j u)) Q E s):
  dU X f (KJ λi j=>.bl (g i j)):=by
 intro b s σ H x y v u Q I e d h;obtain⟨i,j,rfl,rfl,q⟩:=h;obtain⟨t,rfl⟩:=e;obtain⟨c,rfl⟩:=d;exact a i j t c s _ _ ⟨.bl (g i j),H,I,rfl,q⟩
def Pv(i j:Int):Prop:=0<j/\j<1073741824
def PF(i j:Int):Prop:=0<=j/\j<=1000000/\i.natAbs<2^64
def Jw(i j:Int):Prop:=(-(2^64)<i/\i<2^64)∨(-(2^64)<j/\j<2^64)
theorem Jw.ok(h:Jw i j):XY i j:=by
 rcases h with⟨b,a⟩|⟨b,a⟩
 ·exact .of_left (intBits_le_64 b a)
 ·exact .of_right (intBits_le_64 b a)
theorem MF:dU X (SK .Add) (KJ λi j=>.int (i+j)):=Nj λ_ _ _ _ _ _ _ q=>add_int q
theorem K2:dU X (SK .Sub) (KJ λi j=>.int (i-j)):=Nj λ_ _ _ _ _ _ _ q=>sub_int q
theorem Jr:dU X (SK .FloorDiv) (rI Pv λi j=>.int (i / j)):=OR λi j _ _ _ _ _ a q=>by
 have c:(0:Int)<j:=a.1;have b:j<1073741824:=a.2;exact floordiv_int (by omega) (by rw[Int.fdiv_eq_ediv_of_nonneg i (by omega)];exact q) (.inl (PyProof.noPylong_small (by omega)))
theorem Ma:dU X (SK .Mod) (rI (λ_ j=>0<j) λi j=>.int (i%j)):=OR λi j _ _ _ _ _ a q=>by
 have b:(0:Int)<j:=a;exact mod_int' (by omega) (by rw[Int.fmod_eq_emod_of_nonneg i (by omega)];exact q)
theorem MT:dU X (SK .Pow) (rI PF λi j=>.int (i^j.toNat)):=OR λ_ _ _ _ _ _ _ a q=>pow_int_small a.1 a.2.1 a.2.2 q
end
noncomputable def L1:V->V->Bool
 |.non,.non=>true|.non,.int _=>true|.int _,.non=>true|.non,.bl _=>true|.bl _,.non=>true|.non,.str _=>true|.str _,.non=>true
 |.int _,.int _=>true|.bl _,.bl _=>true|.str _,.str _=>true|.xA _,.xA _=>true
 |.int _,.str _=>true|.str _,.int _=>true|.bl _,.str _=>true|.str _,.bl _=>true
 |_,_=>false
def Qt:R2:=λx y H Q=>L1 x y=true/\Q (.bl (decide (x=y))) H
def Qu:R2:=λx y H Q=>L1 x y=true/\Q (.bl (!decide (x=y))) H
theorem wD:decide (V.int i=V.int j)=(i==j):=by
 rw[Sr];simp
theorem zI:decide (V.bl i=V.bl j)=(i==j):=by
 rw[Sr];simp
theorem B1:decide (V.str i=V.str j)=(i==j):=by
 rw[Sr];simp
theorem CP:decide (V.xA i=V.xA j)=(i.toList==j.toList):=by
 rw[Sr];cases i;cases j;simp
section
variable{X:Cx}{a b c:Rq}{ta tb tc:TE}{pos:Pos}
theorem bc(I:Inv X pins σ H s)(q:Q (.bl k) H)(e:k=k'):EP X pins σ Q (.bool k') s:=by
 subst e;exact⟨.bl k,H,I,rfl,q⟩
theorem NS:dU X (Rj .Eq) Qt:=by
 intro pins s σ H x y v u Q I rx a h;obtain⟨hs,q⟩:=h;cases x with
 |non =>
  cases rx;cases y with
  |non=>cases a;exact PySem.EqNone.eq_none_none (bc I q (by simp))
  |bl j=>cases a;exact PySem.EqNone.eq_none_bool (bc I q (by simp))
  |int j=>obtain⟨t',rfl⟩:=a;exact PySem.EqNone.eq_none_int (bc I q (by simp))
  |str j=>obtain⟨t',rfl⟩:=a;exact PySem.EqNone.eq_none_str (bc I q (by simp))
  |_=>exact Xk (show false=true from hs) RG
 |bl i =>
  cases rx;cases y with
  |non=>cases a;exact PySem.EqNone.eq_bool_none (bc I q (by simp))
  |bl j=>cases a;exact eq_bool (bc I q zI)
  |str j=>obtain⟨t',rfl⟩:=a;exact PySem.EqMixed.eq_bool_str (bc I q (by simp))
  |_=>exact Xk (show false=true from hs) RG
 |int i =>
  obtain⟨t,rfl⟩:=rx;cases y with
  |non=>cases a;exact PySem.EqNone.eq_int_none (bc I q (by simp))
  |int j=>obtain⟨t',rfl⟩:=a;exact eq_int (bc I q wD)
  |str j=>obtain⟨t',rfl⟩:=a;exact PySem.EqMixed.eq_int_str (bc I q (by simp))
  |_=>exact Xk (show false=true from hs) RG
 |str i =>
  obtain⟨t,rfl⟩:=rx;cases y with
  |non=>cases a;exact PySem.EqNone.eq_str_none (bc I q (by simp))
  |bl j=>cases a;exact PySem.EqMixed.eq_str_bool (bc I q (by simp))
  |int j=>obtain⟨t',rfl⟩:=a;exact PySem.EqMixed.eq_str_int (bc I q (by simp))
  |str j=>obtain⟨t',rfl⟩:=a;exact eq_str (bc I q B1)
  |_=>exact Xk (show false=true from hs) RG
 |xA i =>
  obtain⟨t,rfl⟩:=rx;cases y with
  |xA j=>obtain⟨t',rfl⟩:=a;exact PySem.W.eq_bytes (bc I q CP)
  |_=>exact Xk (show false=true from hs) RG
 |_=>cases y<;>exact Xk (show false=true from hs) RG
theorem Oz:dU X (Rj .NotEq) Qu:=by
 intro pins s σ H x y v u Q I rx a h;obtain⟨hs,q⟩:=h;cases x with
 |non =>
  cases rx;cases y with
  |non=>cases a;exact PySem.EqNone.ne_none_none (bc I q (by simp))
  |bl j=>cases a;exact PySem.EqNone.ne_none_bool (bc I q (by simp))
  |int j=>obtain⟨t',rfl⟩:=a;exact PySem.EqNone.ne_none_int (bc I q (by simp))
  |str j=>obtain⟨t',rfl⟩:=a;exact PySem.EqNone.ne_none_str (bc I q (by simp))
  |_=>exact Xk (show false=true from hs) RG
 |bl i =>
  cases rx;cases y with
  |non=>cases a;exact PySem.EqNone.ne_bool_none (bc I q (by simp))
  |bl j=>cases a;exact ne_bool (bc I q (congrArg not zI))
  |str j=>obtain⟨t',rfl⟩:=a;exact PySem.EqMixed.ne_bool_str (bc I q (by simp))
  |_=>exact Xk (show false=true from hs) RG
 |int i =>
  obtain⟨t,rfl⟩:=rx;cases y with
  |non=>cases a;exact PySem.EqNone.ne_int_none (bc I q (by simp))
  |int j=>obtain⟨t',rfl⟩:=a;exact ne_int (bc I q (congrArg not wD))
  |str j=>obtain⟨t',rfl⟩:=a;exact PySem.EqMixed.ne_int_str (bc I q (by simp))
  |_=>exact Xk (show false=true from hs) RG
 |str i =>
  obtain⟨t,rfl⟩:=rx;cases y with
  |non=>cases a;exact PySem.EqNone.ne_str_none (bc I q (by simp))
  |bl j=>cases a;exact PySem.EqMixed.ne_str_bool (bc I q (by simp))
  |int j=>obtain⟨t',rfl⟩:=a;exact PySem.EqMixed.ne_str_int (bc I q (by simp))
  |str j=>obtain⟨t',rfl⟩:=a;exact ne_str (bc I q (congrArg not B1))
  |_=>exact Xk (show false=true from hs) RG
 |xA i =>
  obtain⟨t,rfl⟩:=rx;cases y with
  |xA j=>obtain⟨t',rfl⟩:=a;exact PySem.W.ne_bytes (bc I q (congrArg not CP))
  |_=>exact Xk (show false=true from hs) RG
 |_=>cases y<;>exact Xk (show false=true from hs) RG
theorem NO:dU X (Rj .Lt) (KJ λi j=>.bl (decide (i<j))):=Jg λ_ _ _ _ _ _ _ q=>lt_int q
theorem NG:dU X (Rj .LtE) (KJ λi j=>.bl (decide (i<=j))):=Jg λ_ _ _ _ _ _ _ q=>le_int q
theorem N5:dU X (Rj .Gt) (KJ λi j=>.bl (decide (j<i))):=Jg λ_ _ _ _ _ _ _ q=>gt_int q
theorem NL:dU X (Rj .GtE) (KJ λi j=>.bl (decide (j<=i))):=Jg λ_ _ _ _ _ _ _ q=>ge_int q
theorem D5:dU X (Rj .Lt) (λx y H Q=>∃i j,x=.str i/\y=.str j/\Q (.bl (decide (i.cps.toList<j.cps.toList))) H):=by
 intro a s σ H x y v u Q I c b h;obtain⟨i,j,rfl,rfl,q⟩:=h;obtain⟨t,rfl⟩:=c;obtain⟨d,rfl⟩:=b;exact lt_str (bc I q rfl)
theorem EJ:dU X (Rj .In) (λx y H Q=>∃i j,x=.str i/\y=.str j/\Q (.bl (!(S0 j i 0 j.length 1).isEmpty)) H):=by
 intro a s σ H x y v u Q I c b h;obtain⟨i,j,rfl,rfl,q⟩:=h;obtain⟨t,rfl⟩:=c;obtain⟨d,rfl⟩:=b;exact in_str (bc I q rfl)
theorem MM:dU X (Rj .Is) (λx y H Q=>y=.non/\Q (.bl (decide (x=.non))) H):=by
 intro b s σ H x y v u Q I a c h;obtain⟨rfl,q⟩:=h;cases c;refine is_none_gen (bc I q ?_);cases x<;>first
  |(cases a;rfl)
  |(obtain⟨t,rfl⟩:=a;rfl)
theorem J7:dU X (Rj .IsNot) (λx y H Q=>y=.non/\Q (.bl (!decide (x=.non))) H):=by
 intro b s σ H x y v u Q I a c h;obtain⟨rfl,q⟩:=h;cases c;refine isnot_none_gen (bc I q ?_);cases x<;>first
  |(cases a;rfl)
  |(obtain⟨t,rfl⟩:=a;rfl)
theorem xq:dU X (Rj .NotIn) (λx y H Q=>∃i j,x=.str i/\y=.str j/\Q (.bl (!(!(S0 j i 0 j.length 1).isEmpty))) H):=by
 intro a s σ H x y v u Q I c b h;obtain⟨i,j,rfl,rfl,q⟩:=h;obtain⟨t,rfl⟩:=c;obtain⟨d,rfl⟩:=b;exact notIn_str (bc I q rfl)
theorem JU{r:R2}(g:dU X (Rj op) r)(k:PE X a ta)(j:PE X b tb)(i:Tj op b=false):PE X (.Compare a [op] [b] pos) (N3 r ta tb):=by
 intro pins s σ H Q I h;exact wpAny_Compare1 (iq k j I h λv u s2 x y m l f e q=>g pins s2 σ m x y v u Q l f e q) i
def FN(t:TE):TT:=λσ H Q=>t σ H λx H'=>∃k,x=.bl k/\Q k H'
theorem IR(p:dU X (Rj op) r)(w:PE X a ta)(t:PE X b tb)(q:Tj op b=false):PT X (.Compare a [op] [b] pos) (FN (N3 r ta tb)):=by
 intro d s σ H Q I h;refine wpAny_isTrue_Compare1 (bY (w d s σ H _ I h) λv g ⟨x,F,C,l,o⟩=>bY (t d g σ F _ C o) λu f ⟨y,E,B,j,n⟩ =>
  bY (p d f σ E x y v u _ B l j n) λc G ⟨z,D,A,i,k,e,m⟩=>?_) q
 subst e;cases i;exact SE ⟨D,A,m⟩
def Au(r r':R2)(ta tb tc:TE):TE:=λσ H Q=>ta σ H λx H1=>tb σ H1 λy H2=>r x y H2 λz H3=>∃k,z=.bl k /\
 (if k=true then tc σ H3 λw' H4=>r' y w' H4 Q else Q (.bl false) H3)
theorem GM(G:dU X (Rj op) r)(g:dU X (Rj op') r')(M:PE X a ta)(L:PE X b tb)(K:PE X c tc)(J:Wy [op,op'] [b,c]=false:=by with_unfolding_all rfl):PE X (.Compare a [op,op'] [b,c] pos) (Au r r' ta tb tc):=by
 intro f s σ H Q I h;refine Compare_chain (bY (M f s σ H _ I h) λv w ⟨x,T,P,C,F⟩=>chain_link (bY (L f w σ T _ P F) λu t ⟨y,S,O,i,E⟩ =>
  bY (G f t σ S x y v u _ O C i E) λd q ⟨z,m,l,B,k,e,j⟩=>?_)) J
 subst e;cases B;refine SE ?_;cases k with
 |false=>exact ite_ff ⟨.bl false,m,l,rfl,j⟩
 |true=>exact ite_tt (chain_last (bY (K f q σ m _ l j) λo p ⟨n,R,N,A,D⟩=>g f p σ R y n u o Q N i A D))
theorem E3(L:dU X (Rj op) r)(g:dU X (Rj op') r')(P:PE X a ta)(O:PE X b tb)(N:PE X c tc)(M:Wy [op,op'] [b,c]=false:=by with_unfolding_all rfl):PT X (.Compare a [op,op'] [b,c] pos) (FN (Au r r' ta tb tc)):=by
 intro f s σ H Q I h;refine isTrue_chain (bY (P f s σ H _ I h) λv w ⟨x,H1,W,D,J⟩=>test_link (bY (O f w σ H1 _ W J) λu t ⟨y,H2,V,i,G⟩ =>
  bY (L f t σ H2 x y v u _ V D i G) λd q ⟨z,m,l,C,k,e,j⟩=>?_)) M
 subst e;cases C;refine SE ?_;cases k with
 |false =>
  obtain⟨k',S,K⟩:=j;cases S;exact ite_ff ⟨m,l,K⟩
 |true =>
  refine ite_tt (test_last (bY (N f q σ m _ l j) λo p ⟨n,Z,U,B,F⟩=>bY (g f p σ Z y n u o _ U i B F) λd' s5 ⟨z2,Y,T,A,k2,R,E⟩=>?_));subst R;cases A;exact SE ⟨Y,T,E⟩
def Lo(K:Rf)(x:V)(H:Hp)(k:Bool):Prop:=
 match x with
 |.non=>k=false
 |.bl b=>k=b
 |.int i=>k=(i != 0)
 |.str y=>y.length<=RP/\k=((y.length:Int) != 0)
 |.xA y=>y.size<=RP/\k=((y.size:Int) != 0)
 |.ref p=>(∃xs,sU K H p xs/\k=!xs.isEmpty)∨(∃xs,lA K H p xs/\k=!xs.isEmpty)∨∃kvs,H p=Zz (.dK kvs)/\k=!kvs.isEmpty
 |_=>False
theorem A3{κ:Type}{a:List (κ×V)}{b:List (κ×Q2)}(r:KV a b):(!b.isEmpty)=!a.isEmpty:=by
 cases r<;>rfl
theorem qG{xs:List V}{a:List Q2}(r:Vals xs a):(!a.toArray.isEmpty)=!xs.isEmpty:=by
 cases r<;>simp
theorem pf:(RP:Nat)<2^63:=by rw[SW];decide
theorem K8:Px X (λx H Q=>∃k,Lo X.K x H k/\Q k H):=by
 intro pins s σ H x v Q I g h;obtain⟨k,e,q⟩:=h;have hl:=pf;have hs:RP=16777216:=SW;cases x with
 |non =>
  cases g;have a:k=false:=e;subst a;exact truthy_none ⟨H,I,q⟩
 |bl b =>
  cases g;have a:k=b:=e;subst a;exact SE ⟨H,I,q⟩
 |int i =>
  obtain⟨t,rfl⟩:=g;have a:k=(i != 0):=e;subst a;exact PySem.P.truthy_int ⟨H,I,q⟩
 |str y =>
  obtain⟨t,rfl⟩:=g;obtain⟨hy,a⟩:y.length<=RP/\k=((y.length:Int) != 0):=e;subst a;exact PySem.P.truthy_str (by omega) ⟨H,I.tok _,q⟩
 |xA y =>
  obtain⟨t,rfl⟩:=g;obtain⟨hy,a⟩:y.size<=RP/\k=((y.size:Int) != 0):=e;subst a;exact PySem.W.truthy_bytes (by omega) ⟨H,I.tok _,q⟩
 |ref p =>
  cases g;have a:(∃f,sU X.K H p f/\k=!f.isEmpty)∨(∃f,lA X.K H p f/\k=!f.isEmpty)∨∃c,H p=Zz (.dK c)/\k=!c.isEmpty:=e;rcases a with⟨f,hx,a⟩|⟨f,hx,a⟩|⟨c,hx,a⟩
  ·subst a
   obtain⟨its,r,pl,hz⟩:=I.list hx;have d:=r.length;exact wpAny_truthy_list pl.isList (by simp only[Q9];omega) ⟨H,I.tok _,by rw[qG r];exact q⟩
  ·subst a
   obtain⟨its,r,pl,hz⟩:=I.tuple hx;have d:=r.length;exact truthy_tuple pl (by simp only[Q9];omega) ⟨H,I.tok _,by rw[qG r];exact q⟩
  ·subst a
   obtain⟨hz,hS,vs,r,m⟩:c.length<=RP/\(p==Vb)=false/\∃vs,KV c vs/\s.heap.DictOf (eC X.prog X.w) p vs:=I.hok p _ hx;have d:c.length=vs.length:=Paired.length r;exact wpAny_truthy_dict hS m (by omega) ⟨H,I.tok _,by rw[A3 r];exact q⟩
 |_=>exact(show False from e).elim
theorem Hi(ha:PE X a ta)(he:∀b,isTrue a X.env b=(do let v <-b;Ux a.pos;Vq [v] (truthy v))):
  PT X a (λσ H Q=>ta σ H λx H'=>∃k,Lo X.K x H' k/\Q k H'):=by
 intro c s σ H Q I h;exact isTrue_plain (bY (ha c s σ H _ I h) λv s1 ⟨x,H1,I1,r1,q1⟩=>K8 c s1 σ H1 x v Q I1 r1 q1) (he _)
theorem AV:dU X (SK .Add) (λx y H Q=>∃i j,x=.str i/\y=.str j/\i.length+j.length<=RP/\Q (.str (i++j)) H):=by
 intro a s σ H x y v u Q I d c h;obtain⟨i,j,rfl,rfl,e,q⟩:=h;obtain⟨t,rfl⟩:=d;obtain⟨b,rfl⟩:=c;exact add_str (λb f=>⟨.str (i++j),H,I.tok _,⟨_,rfl⟩,q⟩) e
theorem vals1(r:Vals [x] us):∃u,us=[u]/\RelV x u:=by
 cases r with
 |cons c b=>cases b;exact⟨_,rfl,c⟩
theorem vals2(r:Vals [x,y] us):∃u w',us=[u,w']/\RelV x u/\RelV y w':=by
 cases r with
 |cons e d =>
  cases d with
  |cons c b=>cases b;exact⟨_,_,rfl,e,c⟩
theorem Ed(hc:X.calm=true):db X (.builtin "min") (λxs H Q=>∃i j,xs=[.int i,.int j]/\Q (.int (if j<i then j else i)) H):=by
 intro pins s σ H xs us Q I r h;obtain⟨i,j,rfl,q⟩:=h;obtain⟨u,w',rfl,⟨t,rfl⟩,⟨t',rfl⟩⟩:=vals2 r;refine min_two_ints (I.ok.hd hc) λh' tk k=>⟨_,H,I.kept k,?_,q⟩
 by_cases hj:j<i
 ·rw[Xf hj,Xf hj];exact⟨_,rfl⟩
 ·rw[Xg hj,Xg hj];exact⟨_,rfl⟩
theorem uI:db X (.type "int") (λxs H Q=>(∃i,xs=[.int i]/\Q (.int i) H)∨∃k,xs=[.bl k]/\Q (.int (if k then 1 else 0)) H):=by
 intro pins s σ H xs us Q I r h;rcases h with⟨i,rfl,q⟩|⟨k,rfl,q⟩
 ·obtain⟨u,rfl,t,rfl⟩:=vals1 r
  exact call_int_int ⟨.int i,H,I,⟨_,rfl⟩,q⟩
 ·obtain⟨u,rfl,r1⟩:=vals1 r
  cases r1;exact call_int_bool ⟨.int (if k then 1 else 0),H,I.tok _,⟨_,rfl⟩,q⟩
theorem wA:db X (.type "str") (λxs H Q=>∃i,xs=[.int i]/\i.natAbs.log2<1920/\Q (.str (toString i)) H):=by
 intro pins s σ H xs us Q I r h;obtain⟨i,rfl,hz,q⟩:=h;obtain⟨u,rfl,t,rfl⟩:=vals1 r;exact PySem.P.str_of_int hz ⟨.str _,H,I.tok _,⟨_,rfl⟩,q⟩
def PH(K:Rf)(x:V)(H:Hp)(n:Nat):Prop:=
 match x with
 |.str y=>y.length<=RP/\n=y.length
 |.xA y=>y.size<=RP/\n=y.size
 |.ref p=>(∃xs,sU K H p xs/\n=xs.length)∨∃xs,lA K H p xs/\n=xs.length
 |_=>False
theorem nk:db X (.builtin "len") (λxs H Q=>∃x n,xs=[x]/\PH X.K x H n/\Q (.int n) H):=by
 intro pins s σ H xs us Q I r h;obtain⟨x,n,rfl,e,q⟩:=h;obtain⟨u,rfl,rx⟩:=vals1 r;have hl:=pf;have hs:RP=16777216:=SW;cases x with
 |str y =>
  obtain⟨t,rfl⟩:=rx;obtain⟨hy,e'⟩:y.length<=RP/\n=y.length:=e;subst e';exact len_str (by omega) ⟨.int _,H,I.tok _,⟨_,rfl⟩,q⟩
 |xA y =>
  obtain⟨t,rfl⟩:=rx;obtain⟨hy,e'⟩:y.size<=RP/\n=y.size:=e;subst e';exact PySem.W.len_bytes (by omega) ⟨.int _,H,I.tok _,⟨_,rfl⟩,q⟩
 |ref p =>
  cases rx;have e':(∃xs,sU X.K H p xs/\n=xs.length)∨∃xs,lA X.K H p xs/\n=xs.length:=e;rcases e' with⟨xs,hx,e'⟩|⟨xs,hx,e'⟩
  ·subst e'
   obtain⟨its,r',pl,hz⟩:=I.list hx;have hlen:=r'.length;exact Calls.call_len_list pl.isList (by simp only[Q9];omega) ⟨.int xs.length,H,I.tok _,⟨_,by simp only[Q9];rw[hlen]⟩,q⟩
  ·subst e'
   obtain⟨its,r',pl,hz⟩:=I.tuple hx;have hlen:=r'.length;exact len_tuple pl (by simp only[Q9];omega) ⟨.int xs.length,H,I.tok _,⟨_,by simp only[Q9];rw[hlen]⟩,q⟩
 |_=>exact(show False from e).elim
end
structure LP (h:Rm) (x dx C:Q8) (mA:Str->Option Q2):Prop where
 obj:h.get? x=Zz (instObj C dx)
 ns:h.Ns1 dx mA
 ne:dx≠x
theorem uZ{h:Rm}(n:h.Ns1 dx mA):∃od,h.get? dx=Zz od/\∀name,lookIn name od=Zz (mA name):=by
 obtain⟨o,es,ep,ho,hd,hk,_,hm⟩:=n;refine⟨o,ho,λname=>?_⟩;have e:=hm name;unfold nsFind findBy at e;rw[<-Array.find?_toList]at e;unfold lookIn;rw[hd];dsimp only;split
 ·rename_i y q
  rw[q]at e;exact congrArg Zz e
 ·rename_i q
  rw[q]at e;have a:es.toList.any (·.refKey)=false:=by
   rw[List.any_eq_false];intro y hy;obtain⟨z,t,hkey⟩:=hk y (Array.mem_toList_iff.mp hy);simp[DictEntry.refKey,hkey]
  have a':¬es.toList.any (·.refKey)=true:=by rw[a];exact RG
  rw[Xg a'];exact congrArg Zz e
theorem LP.look(I:LP h x dx C mA):∃a,PySem.W.InstAt h x (instObj C dx) C (Zz a)/\∀name,lookIn name a=Zz (mA name):=
 let⟨a,b,c⟩:=uZ I.ns
 ⟨a,⟨I.obj,rfl,rfl,b⟩,c⟩
theorem pN.some_of(r:pN (Zz v) o):∃u,o=Zz u/\RelV v u:=by
 cases o with
 |none=>exact(show False from r).elim
 |some u=>exact⟨u,rfl,r⟩
theorem pN.none_of(r:pN Zy o):o=Zy:=by
 cases o with
 |none=>rfl
 |some u=>exact(show False from r).elim
theorem Dt(r:RelV v u):PySem.W.handedIn u=true:=by
 cases v with
 |non=>cases(show u=UJ from r);rfl
 |bl b=>cases(show u=SZ b from r);rfl
 |int i=>obtain⟨t,e⟩:=(show ∃t,u=WZ i t from r);cases e;rfl
 |str x=>obtain⟨t,e⟩:=(show ∃t,u=UQ x t from r);cases e;rfl
 |xA b=>obtain⟨t,e⟩:=(show ∃t,u=Value.bytes b t from r);cases e;rfl
 |flt b=>obtain⟨t,e⟩:=(show ∃t,u=X0 b t from r);cases e;rfl
 |ref a=>cases(show u=SV a from r);rfl
 |ty n=>cases(show u=Va n from r);rfl
section
variable{P:Rk}{w:Rz}{H H':Hp}{h h':Rm}{a C dx:Q8}{fs fs':List (Str×V)}
theorem IE(c:lr P w H h)(e:H a=Zz (.ins C dx fs)):∃b,LP h a dx C b/\(∀f,pN (fs.lookup f) (b f))/\PySem.Within b (fs.map (·.1))/\fs.length<=1000/\H dx=Zz (.own a):=by
 obtain⟨d,z,i,g,b,n,r,q⟩:=(show cL P w H h a (.ins C dx fs)from c a _ e)
 exact⟨b,⟨g,n,i⟩,r,q,z,d⟩
end
structure Pf (K:Rf) (C:Q8):Prop where
 pg:PySem.W.plainGet K C Str.empty=true
 hd:W7 K C=true
 po:PySem.W.plainOver K C=true
 sa:findIn K (.ref C) "__setattr__" = Zz (Zz (.builtin "object.__setattr__"))
theorem Pf.get{K:Rf}(c:Pf K C)(f:Str):PySem.W.plainGet K C f=true:=c.pg
structure Qx (K:Rf) (C:Q8) (f:Str) (v:V) (u:Q2):Prop where
 at_:findIn K (.ref C) f=Zz (Zz u)
 rel:RelV v u
 get:Wb K u "__get__" = Zz Zy
 cp:PySem.W.copiedNames.contains f=false
structure Meth (K:Rf) (C:Q8) (m:Str) (f:Q8):Prop where
 at_:findIn K (.ref C) m=Zz (Zz (.ref f))
 fn:PySem.W.isFn K (.ref f)=true
 kp:keepIn K (.ref f)=true
section
variable{X:Cx}{pins:List (Q8×Obj)}{σ:St}{H:Hp}{s:Q7}{a C dx:Q8}{fs:List (Str×V)}{f:Str}{v:V}{A:SH}{E:Q2->Q7->Prop}
theorem Jx(b:Sz e f env (eval e env)=eval e env)(h:RB (RC prog w) A (eval e env) (λo a=>RB (RC prog w) A (getAttr o f true) Q E a) E s):RB (RC prog w) A (eval (.Attribute e f pos) env) Q E s:=
 Attribute_any_ h (by rw[arm_eval_Attribute,b])
end
section
variable{X:Cx}{pins:List (Q8×Obj)}{σ:St}{H:Hp}{s:Q7}{A:SH}{E:Q2->Q7->Prop}{Q:Q2->Q7->Prop}{c:Q2}{b:Bool}
inductive pM (K:Rf) (H:Hp):V->Q2->Prop where
 |non:pM K H .non (.type "NoneType")
 |bl (x:Bool):pM K H (.bl x) (.type "bool")
 |int (i:Int):pM K H (.int i) (.type "int")
 |str (x:Str):pM K H (.str x) (.type "str")
 |flt (x:UInt64):pM K H (.flt x) (.type "float")
 |lst {a:Q8}{xs:List V}(e:H a=Zz (.lst xs)):pM K H (.ref a) (.type "list")
 |jS {a:Q8}{o:Obj}{xs:List V}(e:H a=Zz (.jS o (.lst xs))):pM K H (.ref a) (.type "list")
 |tup {a:Q8}{xs:List V}(e:H a=Zz (.tup xs)):pM K H (.ref a) (.type "tuple")
 |dK {a:Q8}{kvs:List (Key×V)}(e:H a=Zz (.dK kvs)):pM K H (.ref a) (.type "dict")
 |dT {a:Q8}{kvs:List (List Key×V)}(e:H a=Zz (.dT kvs)):pM K H (.ref a) (.type "dict")
 |ins {a C dx:Q8}{fs:List (Str×V)}(e:H a=Zz (.ins C dx fs)) (cl:Pf K C) (ha:findIn K (.ref C) "__class__" = Zz (Zz (.builtin "object.__class__")))
  (hn:Wb K (.builtin "object.__class__") "__get__" = Zz (Zz (.builtin "getset_descriptor.__get__"))) (htk:PySem.W.takesIn K (.builtin "object.__class__")=Zz true)
  (hm:mroIn K C (.type "object")=Zz true):pM K H (.ref a) (.ref C)
theorem iK(I:Inv X pins σ H s)(d:RelV x u)(ty:pM X.K H x t)(e:kitOne X.K t c=Zz b)(h:∀tk,Q (.bool b) { s with toks:=tk }):
  RB (RC X.prog X.w) A (call (.builtin "isinstance") [u,c]) Q E s:=by
 cases ty with
 |non=>cases(show u=UJ from d);exact UG PySem.W.kitx_none I.li U1 e (λz=>nomatch z) h
 |bl y=>cases(show u=SZ y from d);exact UG PySem.W.kitx_bool I.li U1 e (λz=>nomatch z) h
 |int i=>obtain⟨t,q⟩:=(show ∃t,u=WZ i t from d);cases q;exact UG PySem.W.kitx_int I.li U1 e (λz=>nomatch z) h
 |str y=>obtain⟨t,q⟩:=(show ∃t,u=UQ y t from d);cases q;exact UG PySem.W.kitx_str I.li U1 e (λz=>nomatch z) h
 |flt y=>obtain⟨t,q⟩:=(show ∃t,u=X0 y t from d);cases q;exact UG PySem.W.kitx_float I.li U1 e (λz=>nomatch z) h
 |@lst a k f =>
  cases(show u=SV a from d);obtain⟨_,_,n,_,g⟩:=(show cL X.prog X.w H s.heap a (.lst k)from I.hok a _ f)
  exact UG XM I.li ⟨_,g,rfl⟩ e (λz=>nomatch z) h
 |@jS a ob k f =>
  cases(show u=SV a from d);obtain⟨_,_,_,n,_,g⟩:=(show cL X.prog X.w H s.heap a (.jS ob (.lst k))from I.hok a _ f)
  exact UG XM I.li ⟨_,g,rfl⟩ e (λz=>nomatch z) h
 |@tup a k f =>
  cases(show u=SV a from d);obtain⟨_,_,_,p⟩:=(show cL X.prog X.w H s.heap a (.tup k)from I.hok a _ f)
  obtain⟨o,g,l,_⟩:=p;exact UG PySem.W.kitx_tuple I.li ⟨o,g,l⟩ e (λz=>nomatch z) h
 |@dK a j f =>
  cases(show u=SV a from d);obtain⟨_,_,vs,_,p⟩:=(show cL X.prog X.w H s.heap a (.dK j)from I.hok a _ f)
  obtain⟨o,es,ep,g,l,_⟩:=p;exact UG PySem.W.kitx_dict I.li ⟨o,g,l.1⟩ e (λz=>nomatch z) h
 |@dT a j f =>
  cases(show u=SV a from d);obtain⟨_,_,k,_,o,es,ep,g,l,_⟩:=(show cL X.prog X.w H s.heap a (.dT j)from I.hok a _ f)
  exact UG PySem.W.kitx_dict I.li ⟨o,g,l.1⟩ e (λz=>nomatch z) h
 |@ins a C dx fs f v ha hn m hm =>
  cases(show u=SV a from d);obtain⟨mA,O,_⟩:=IE I.hok f;obtain⟨od,J,_⟩:=O.look;exact UG (PySem.W.kitx_own (v.get _) v.hd ha hn m hm) I.li J e (λz=>nomatch z) h
end
structure iQ (k:Nat) (A:SH):Prop where
 hd:A.handled=Zy
 dp:A.depth+3*k+5<Vf
 un:A.units+16*k+200<cLine
theorem iQ.deeper(r:iQ (k+1) A)(env:Env):iQ k (A.deeper env):=
 ⟨r.hd,by have:=r.dp;show A.depth+1+3*k+5<_;omega,by have:=r.un;show A.units+3+16*k+200<_;omega⟩
theorem Am{A:SH}:(A.under (.builtin "type.__call__" ⟨.ref C::us,kw⟩)).depth=A.depth+1:=by
 first|rfl|simp[Wo,Code.weight,Code.isCreation,Code.isGuard,Code.isCaller,Code.frames,Code.isFrame,guardIds]
theorem iQ.depth(r:iQ k A):A.depth<Vf:=by have:=r.dp;omega
theorem iQ.units(r:iQ k A):A.units+64<cLine:=by have:=r.un;omega
def Pd:TA:=λ_ H Q=>Q [] H
def N2(ta:TE)(tr:TA):TA:=λσ H Q=>ta σ H λx H1=>tr σ H1 λxs H2=>Q (x::xs) H2
section
variable{X:Cx}{e:Rq}{es:List Rq}{te:TE}{t:TA}{pos:Pos}
theorem BK:PA X [] Pd:=λ_ _ _ _ H Q I h=>Calls.spliced_nil ⟨[],H,I,.nil,h⟩
theorem ny(m:PE X e te)(l:PA X es t)(k:S9 (e::es) X.env=(false,eval e X.env)::S9 es X.env:=by rfl):PA X (e::es) (N2 te t):=by
 intro b a s σ H Q I h;rw[k];show RB _ _ (spliced ((false,eval e X.env)::backTo b (S9 es X.env))) _ _ s;refine Calls.spliced_cons (bY (m a s σ H _ I h) λu d ⟨x,q,o,g,j⟩=>?_);exact bY (l b a d σ q _ o j) λr v ⟨c,p,n,f,i⟩=>⟨x::c,p,n,.cons g f,i⟩
def Pc(t:TA):TE:=λσ H Q=>t σ H λxs H1=>xs.length<=RP/\∀p,H1 p=Zy->Q (.ref p) (upd H1 p (.tup xs))
def O3(t:TA):TE:=λσ H Q=>t σ H λxs H1=>xs.length<=RP/\∀p,H1 p=Zy->Q (.ref p) (upd H1 p (.lst xs))
theorem LR{x1}(h:PA X es t):PE X (.Tuple es x1 pos) (Pc t):=by
 intro a s σ H Q I j;refine wpAny_Tuple_spliced (bY (h pos a s σ H _ I j) λi c ⟨g,f,d,r,z,q⟩=>⟨by rw[<-r.length];exact z,?_⟩);have k:f c.heap.objs.size=Zy:=d.hok.fresh (R1 _);refine⟨.ref c.heap.objs.size,upd f c.heap.objs.size (.tup g),d.laid (t':=c.toks) (λb u e=>Q6 _ e) (R1 _) ?_,rfl,q _ k⟩;exact⟨z,i,r,⟨_,RL _ rfl,rfl,⟨_,rfl⟩,rfl⟩⟩
theorem LQ(h:PA X es t):PE X (.List es pos) (O3 t):=by
 intro a s σ H Q I j;refine wpAny_List_spliced (bY (h pos a s σ H _ I j) λi c ⟨g,f,d,r,z,q⟩=>⟨by rw[<-r.length];exact z,?_⟩);have k:f c.heap.objs.size=Zy:=d.hok.fresh (R1 _);refine⟨.ref c.heap.objs.size,upd f c.heap.objs.size (.lst g),d.laid (t':=c.toks) (λb u e=>Q6 _ e) (R1 _) ?_,rfl,q _ k⟩;exact⟨z,i,0,r,RL _ rfl⟩
end
noncomputable abbrev Sp:=List V->Hp->VK->XK->Prop
noncomputable abbrev JB:=List Env->Hp->Q7->XK->Q2->Q7->Prop
structure yE (P:Rk) (w:Rz) (K:Rf) (mg:Str->Option Q2) (base:Rm) (A:SH) (outer:List Env) (s:Q7) (H:Hp):Prop where
 frames:A.frames=Zz outer
 mod:Mod K mg base
 bs:∀b o,base.get? b=Zz o->s.heap.get? b=Zz o/\H b=Zy
 Gy:base.objs.size<=s.heap.objs.size
 mO:s.heap.FunFrames base outer
 Jm:∀b∈frs outer,H b=Zy
 hok:lr P w H s.heap
 bare:VB s.gens
def CE(outer:List Env)(P:Rk)(w:Rz)(H:Hp)(s:Q7)(Q:VK)(u:Q2)(s':Q7):Prop:=
 ∃v H',s'.os=s.os/\VB s'.gens/\Un (frs outer) [] H H' s.heap s'.heap/\lr P w H' s'.heap/\RelV v u/\Q v H'
def CR(CX:JB)(outer:List Env)(P:Rk)(w:Rz)(H:Hp)(s:Q7)(Q:VK)(E:XK)(r:Result)(s':Q7):Prop:=
 match r with
 |.ok (.ret u)=>CE outer P w H s Q u s'
 |.ok _=>False
 |.error e=>CX outer H s E e s'
structure oo (P:Rk) (w:Rz) (K:Rf) (mg:Str->Option Q2) (base:Rm) (CX:JB) (k:Nat) (f:Q8) (fd:Tb) (ps:List Str) (sp:Sp):Prop where
 len:∀vs H Q E,sp vs H Q E->vs.length=ps.length
 run:∀(A:SH) (outer:List Env) (s:Q7) (H:Hp) (args:Args) (us:List Q2) (vs:List V) (Q:VK) (E:XK),iQ k A->yE P w K mg base A outer s H->Wc s fd args (ps.zip us)->Vals vs us->sp vs H Q E ->
  Tc (RC P w) A (.call (.ref f) args) (CR CX outer P w H s Q E) s
theorem yE.make{K:Rf}(e:yE P w K mg base A outer s H)(C:Q8)(us:List Q2)(a:List (Str×Q2)):
 yE P w K mg base (A.under (.builtin "type.__call__" ⟨.ref C::us,a⟩)) outer s H:=⟨by first|exact e.frames|(simpa[Wo,Code.envs,Code.isFrame,pushEnvs]using e.frames),e.mod,e.bs,e.Gy,e.mO,e.Jm,e.hok,e.bare⟩
section
variable{X:Cx}{pins:List (Q8×Obj)}{σ:St}{H:Hp}{s s':Q7}
theorem Inv.env0(I:Inv X pins σ H s):yE X.prog X.w X.K X.mg X.base X.A X.stack s H:=
 ⟨I.ok.frames,I.ok.mod,I.bs,Re I.ok.Gy I.sz,I.stack,I.qg,I.hok,I.bare⟩
theorem Inv.after(I:Inv X pins σ H s)(h:CE X.stack X.prog X.w H s Q u s'):EP X pins σ Q u s':=by
 obtain⟨v,k,i,a,f,e,r,q⟩:=h;obtain⟨j,g,d,t,c⟩:=s';obtain rfl:c=s.os:=i;exact⟨v,k,I.call (h':=j) (g':=g) (d':=d) (t':=t) (ch:=[]) f e a (λb z=>Xk z (by simp)),r,q⟩
end
def Oa(sp:Sp)(dvs:List V)(E:XK)(t:TA):TE:=λσ H Q=>t σ H λvs H1=>sp (vs++dvs) H1 Q E
def Binds(K:Rf)(fd:Tb)(ps:List Str)(ds:List Q2):Prop:=
 ∀(s:Q7) (us:List Q2),K.In s.heap->(us++ds).length=ps.length->Wc s fd ⟨us,[]⟩ (ps.zip (us++ds))
theorem Binds.all{K:Rf}(h:∀us:List Q2,us.length=ps.length->TQ fd ⟨us,[]⟩=pure (ps.zip us)):Binds K fd ps []:=λs us _ hl=>by
 rw[RY]at hl ⊢;exact .of_eq (h us hl)
def BJ(CX:JB)(X:Cx)(E:XK):Prop:=∀(pins:List (Q8×Obj)) (σ:St) (H:Hp) (s:Q7) (e:Q2) (s':Q7),Inv X pins σ H s->CX X.stack H s E e s'->X.xe e s'
section
variable{X:Cx}{CX:JB}{k:Nat}{f C:Q8}{fd:Tb}{ps:List Str}{sp:Sp}{dvs:List V}{ds:List Q2}{E:XK}{x m:Str}{p pos apos:Pos}{e o:Rq}{es:List Rq}{ta:TE}{t:TA}
theorem KS(F:oo X.prog X.w X.K X.mg X.base CX k f fd ps sp)(hr:iQ k X.A)(hb:Binds X.K fd ps ds)(hd:Vals dvs ds)(hx:BJ CX X E)(I:Inv X pins σ H s)(r:Vals vs us)(h:sp (vs++dvs) H Q E):RB (RC X.prog X.w) X.A (call (.ref f) us) (EP X pins σ Q) X.xe s:=by
 have c:Vals (vs++dvs) (us++ds):=r.append hd;have hl:(us++ds).length=ps.length:=by rw[<-c.length];exact F.len _ _ _ _ h
 refine Vg (Td (F.run X.A X.stack s H ⟨us,[]⟩ (us++ds) (vs++dvs) Q E hr I.env0 (hb s us I.li hl) c h) λr s' a=>?_);cases r with
 |error e=>exact hx pins σ H s e s' I a
 |ok fl =>
  cases fl with
  |ret u=>exact I.after a
  |next=>exact TR a
  |brk=>exact TR a
  |cont=>exact TR a
theorem I9(F:oo X.prog X.w X.K X.mg X.base CX k f fd ps sp)(i:iQ k X.A)(m:Gl X x)(j:X.mg x=Zz (.ref f))(l:keepIn X.K (.ref f)=true)(u:Binds X.K fd ps ds)(o:Vals dvs ds)(g:BJ CX X E)(v:PA X (e::es) t)(c:(x==("__debug__" : Str))=false:=by decide)(n:S9 (e::es) X.env=(false,eval e X.env)::S9 es X.env:=by rfl)(b:(backTo pos (S9 es X.env)).any (·.1)=false:=by rfl):
  PE X (.Call (.Name x p) (e::es) [] pos) (Oa sp dvs E t):=by
 intro a s σ H Q I h;refine TU (kt I m j ?_ c);refine PySem.W.callWith_K (h₀:=X.base) I.ok.mod.Ow l (bY (v pos a s σ H _ I h) λz B ⟨y,C,d,r,q⟩=>⟨d.li,?_⟩) n b;exact KS F i u o g d r q
structure Mk (K:Rf) (C f:Q8):Prop where
 makes:PySem.W.makesIn K C=true
 init:findIn K (.ref C) "__init__" = Zz (Zz (.ref f))
 fn:PySem.W.isFn K (.ref f)=true
 kp:keepIn K (.ref C)=true
end
section
variable{X:Cx}{CX:JB}{k:Nat}{f C:Q8}{fd:Tb}{ps ks:List Str}{sp:Sp}{E:XK}{x m:Str}{p pos apos kpos:Pos}{e o:Rq}{es:List Rq}{kws:List Wd}{te ta:TE}{t tk:TA}{nm:Option Str}
structure Ph (K:Rf) (fd:Tb) (ps ks:List Str) (g:List Q2->List Q2->List Q2) (gV:List V->List V->List V):Prop where
 to:∀(s:Q7) (us ws:List Q2),K.In s.heap->(g us ws).length=ps.length->Wc s fd ⟨us,ks.zip ws⟩ (ps.zip (g us ws))
 rel:∀{vs:List V}{us:List Q2}{zs:List V}{ws:List Q2},Vals vs us->Vals zs ws->Vals (gV vs zs) (g us ws)
variable{g:List Q2->List Q2->List Q2}{gV:List V->List V->List V}
end
structure av (N P:List Str) (sc:VF):Prop where
 kind:sc.kind=.function
 co:sc.isCoroutine=false
 gen:sc.isGenerator=false
 nd:N.Nodup
 pre:N.take P.length=P
 NJ:∀x∈P,sc.names.lookup x=Zz .local∨sc.names.lookup x=Zz .cell
 MY:∀y∈sc.names,y.2≠.free
theorem vc{b:Str->Option UK}:∀{a:List (Str×Q2)}{m:Str->Option Q2},(∀v,(x,v)∉a)->bindL b a m x=m x
 |[],_,_=>rfl
 |(n,v)::r,m,h=>by
  unfold bindL;rw[vc λw d=>h w (R5 _ d)];split
  ·have:x≠n:=by rintro rfl;exact h v RU
   simp[this]
  ·rfl
theorem tW{b:Str->Option UK}:∀{a:List (Str×Q2)}{m:Str->Option Q2},(∀v,(x,v)∉a)->bindC b a m x=m x
 |[],_,_=>rfl
 |(n,v)::r,m,h=>by
  unfold bindC;rw[tW λw d=>h w (R5 _ d)];split
  ·rfl
  ·have:x≠n:=by rintro rfl;exact h v RU
   simp[this]
theorem u4{a:Str->Option UK}:∀{P:List Str}{b:List Q2}{i:Nat}{m:Str->Option Q2},P.Nodup->P[i]?=Zz x->b[i]?=Zz v->a x=Zz .local ->
  bindL a (P.zip b) m x=Zz v
 |[],_,_,_,_,h,_,_=>by simp at h
 |_::_,[],_,_,_,_,h,_=>by simp at h
 |p::P,w::b,0,m,e,d,c,f=>by
  simp at d c;subst d;subst c;show bindL a ((p,w)::P.zip b) m p=_;unfold bindL;rw[vc λv g=>(Uf.mp e).1 (VJ g).1,Xf f];simp
 |p::P,w::b,i+1,m,e,d,c,f=>by
  show bindL a ((p,w)::P.zip b) m x=_;unfold bindL;exact u4 (i:=i) (Uf.mp e).2 (by simpa using d) (by simpa using c) f
theorem u8{a:Str->Option UK}:∀{P:List Str}{b:List Q2}{i:Nat}{m:Str->Option Q2},P.Nodup->P[i]?=Zz x->b[i]?=Zz v->a x≠Zz .local ->
  bindC a (P.zip b) m x=Zz v
 |[],_,_,_,_,h,_,_=>by simp at h
 |_::_,[],_,_,_,_,h,_=>by simp at h
 |p::P,w::b,0,m,e,d,c,f=>by
  simp at d c;subst d;subst c;show bindC a ((p,w)::P.zip b) m p=_;unfold bindC;rw[tW λv g=>(Uf.mp e).1 (VJ g).1,Xg f];simp
 |p::P,w::b,i+1,m,e,d,c,f=>by
  show bindC a ((p,w)::P.zip b) m x=_;unfold bindC;exact u8 (i:=i) (Uf.mp e).2 (by simpa using d) (by simpa using c) f
noncomputable def start(N:List Str)(vs:List V):St:=vs.map Zz++R4 (N.length-vs.length) Zy
noncomputable def kh(CX:JB)(P:Rk)(w:Rz)(K:Rf)(mg:Str->Option Q2)(base:Rm)(N:List Str)(qual:Str)(scope:VF)(f:Q8)(cd:Q2)(A:SH)(outer:List Env)(s:Q7)(H:Hp)(E:XK):Cx where
 prog:=P
 w:=w
 K:=K
 mg:=mg
 base:=base
 A:=A.deeper (envOfC qual scope s.heap.objs.size f cd)
 N:=N
 s₀:=s
 H₀:=H
 env:=envOfC qual scope s.heap.objs.size f cd
 outer:=outer
 stack:=envOfC qual scope s.heap.objs.size f cd::outer
 ex:=[]
 calm:=true
 fn:=λ_=>true
 pn:=[]
 xe:=λe s'=>RB (RC P w) (A.deeper (envOfC qual scope s.heap.objs.size f cd)) (leaving (envOfC qual scope s.heap.objs.size f cd) e) (λ_ s''=>CX outer H s E e s'') (λe' s''=>CX outer H s E e' s'') s'
theorem xX{a:VF}(h:a.names.lookup x=Zz .cell):∃c,(US n a.names []).lookup x=Zz c:=by
 have q:=Vh a.names n [] (.inl h);exact UX.mp q
theorem ue{CX:JB}{P:Rk}{w:Rz}{K:Rf}{mg:Str->Option Q2}{m:Rm}{N ps:List Str}{j:Str}{scope:VF}{f:Q8}{cd:Q2}{A:SH}{g:List Env}{s s1:Q7}{H:Hp}{E:XK}{us:List Q2}{o:List V}(S:av N ps scope)(hd:A.handled=Zy)(e0:yE P w K mg m A g s H)(hl:o.length=ps.length)(r:Vals o us)(x:InCallC s s.heap.objs.size (bindL (envOfC j scope s.heap.objs.size f cd).kindOf (ps.zip us) λ_=>Zy) (US (s.heap.objs.size+1) scope.names []) (bindC (envOfC j scope s.heap.objs.size f cd).kindOf (ps.zip us) λ_=>Zy) s1):
  Inv (kh CX P w K mg m N j scope f cd A g s H E) [] (start N o) H s1:=by
 have hpl:ps.length<=N.length:=by have:=congrArg Rg S.pre;rw[Rn]at this;omega
 obtain⟨G,tk,rfl,hk⟩:=x.done;have t:∀b:Q8,b∉(kh CX P w K mg m N j scope f cd A g s H E).ex:=λb z=>Xk (show b∈([]:List Q8)from z) (by simp)
 refine⟨⟨e0.mod,S.kind,rfl,rfl,R1 _,λy z c G l=>?_,λy B=>?_,λy c _ h=>?_,λ_=>hd,Around.frames_deeper e0.frames,.inr ⟨rfl,rfl⟩,λb z=>Xk z (t b),e0.bs,e0.Gy,λb _ _=>t b,λb z=>Xk z (t b),e0.mO,e0.Jm⟩,
  rfl,e0.bare,Un.kept hk,⟨_,x.toInCall.ns,λi y v G l h3=>?_⟩,λy c h=>⟨_,x.cell y c h⟩,e0.hok.fresh (R1 _),λy c h=>?_,λp D=>Xk (show p∈([]:List (Q8×Obj))from D) (by simp),e0.hok.kept hk,?_⟩
 ·exact name_of_addr x.apart (TC G) (TC l)
 ·have B:scope.names.lookup y=Zz .cell∨scope.names.lookup y=Zz .free:=B
  rcases B with B|B
  ·exact xX B
  ·exact Xk rfl (S.MY _ (TC B))
 ·exact Uw (x.above y c (TC h))
 ·have F:i<o.length:=by
   unfold start at l;by_cases F:i<o.length
   ·exact F
   ·rw[RZ (by simpa using F)]at l
    rw[SA]at l;split at l<;>cases l
  have ha:o[i]?=Zz v:=by
   unfold start at l;rw[RR (by simpa using F),Rh]at l;cases e:o[i]? with
   |none=>rw[e]at l;cases l
   |some a=>rw[e]at l;cases l;rfl
  obtain⟨u,hu,rv⟩:=r.get ha;have D:ps[i]?=Zz y:=by
   rw[<-S.pre,List.getElem?_take_of_lt (by omega)];exact G
  have C:ps.Nodup:=by rw[<-S.pre];exact S.nd.sublist (List.take_sublist _ _)
  refine⟨u,rv,?_⟩;rcases S.NJ y (SX D)with k|k
  ·exact .inl ⟨k,u4 C D hu k⟩
  ·obtain⟨c,e⟩:=xX (n:=s.heap.objs.size+1) k
   refine .inr ⟨.inl k,c,e,?_⟩;have q:=x.cell y c e;rw[u8 C D hu (by show scope.names.lookup y≠_;rw[k];decide)]at q;exact q
 ·exact e0.hok.fresh (Uw (x.above y c (TC h)))
 ·unfold start
  show _=N.length;rw[R7,Q4,S7];omega
theorem N4{K:Rf}{dV kV doc pm g ct oc:Q2}(lk:K.lookup f=Zz ⟨oc,od,.func (fnOf name d params body scope dV kV doc pm an g ct),osl⟩)(hcd:codeIn K g d=true)(S:av N ps scope)(len:∀vs H Q E,sp vs H Q E->vs.length=ps.length)(hbody:∀(A:SH) (c:List Env) (s:Q7) (H:Hp) (vs:List V) (Q:VK) (E:XK),iQ (k+1) A->lr P w H s.heap->sp vs H Q E ->
   ∃t,du (kh CX P w K mg h N d scope f g A c s H E) body t/\t { nx:=λ_ H'=>Q .non H',rt:=Q } (start N vs) H):
  oo P w K mg h CX (k+1) f (fnOf name d params body scope dV kV doc pm an g ct) ps sp:=by
 refine⟨len,λA c s H args us vs Q E hr e0 hb r hsp=>?_⟩;have hl:=len _ _ _ _ hsp;have KX:K.In s.heap:=e0.mod.Ow.keeps λb o e=>(e0.bs b o e).1
 have lim:s.heap.NoLimit:=e0.mod.nolimit.keeps λb o e=>(e0.bs b o e).1
 have hkind:∀y∈ps.zip us,scope.names.lookup y.1=Zz .local∨(scope.names.lookup y.1=Zz .cell/\((US (s.heap.objs.size+1) scope.names []).lookup y.1).isSome=true):=λ⟨n,v⟩ hy=>by
  rcases S.NJ n (VJ hy).1 with q|q
  ·exact .inl q
  ·exact .inr ⟨q,Vh _ _ _ (.inl q)⟩
 refine codeAny_call_function hr.depth (KX _ _ lk) rfl S.co S.gen rfl (PySem.W.codeRec_of KX hcd) (hb _ _ _ _ ?_)
 refine wpAny_newFunctionEnv_cells S.kind hkind λenv he s1 x=>?_
 subst he;refine⟨lim.keeps x.toInCall.keep,codeAny_func ?_⟩;obtain⟨t,ht,hq⟩:=hbody A c s H vs Q E hr e0.hok hsp;have I:Inv (kh CX P w K mg h N d scope f g A c s H E) [] (start N vs) H s1:=ue S hr.hd e0 hl r x;refine SQ (ht [] s1 (start N vs) H _ I hq) (λfl s' hs=>?_) λe s' hs=>hs
 have fin:∀{i:St}{H':Hp}{v:V}{u:Q2},Inv (kh CX P w K mg h N d scope f g A c s H E) [] i H' s'->RelV v u->Q v H'->CE c P w H s Q u s':=
  λ{i H' v u} J rv q=>⟨v,H',J.os,J.bare,J.base,J.hok,rv,q⟩
 cases fl with
 |ret u =>
  obtain⟨v,i,H',J,rv,q⟩:=hs;exact fin J rv q
 |next =>
  obtain⟨i,H',J,q⟩:=hs;exact fin (v:=V.non) (u:=UJ) J rfl q
 |brk =>
  obtain⟨_,_,_,q⟩:=hs;exact TR q
 |cont =>
  obtain⟨_,_,_,q⟩:=hs;exact TR q
section
variable{X:Cx}{x:Str}{p pos:Pos}{e:Rq}{es:List Rq}{t:TA}{id T:String}{r:List V->Hp->VK->Prop}
def O4(r:List V->Hp->VK->Prop)(t:TA):TE:=λσ H Q=>t σ H λvs H1=>r vs H1 Q
theorem rK(q:db X (.builtin id) r)(n:Gl X x)(m:X.mg x=Zy)(k:Sy x=Zz (.builtin id))(u:PA X (e::es) t)(l:x≠"__name__":=by decide)(c:(x==("__debug__" : Str))=false:=by decide)(o:S9 (e::es) X.env=(false,eval e X.env)::S9 es X.env:=by rfl)(b:(backTo pos (S9 es X.env)).any (·.1)=false:=by rfl):PE X (.Call (.Name x p) (e::es) [] pos) (O4 r t):=by
 intro a s σ H Q I h;refine TU (lT I n m k ?_ l c);exact PyProof.Rows.callWith_builtin1 (bY (u pos a s σ H _ I h) λf g ⟨d,w,v,i,j⟩=>q a g σ w d f Q v i j) o b
theorem uW(q:db X (.type T) r)(n:Gl X x)(m:X.mg x=Zy)(k:Sy x=Zz (.type T))(u:PA X (e::es) t)(l:x≠"__name__":=by decide)(c:(x==("__debug__" : Str))=false:=by decide)(o:S9 (e::es) X.env=(false,eval e X.env)::S9 es X.env:=by rfl)(b:(backTo pos (S9 es X.env)).any (·.1)=false:=by rfl):PE X (.Call (.Name x p) (e::es) [] pos) (O4 r t):=by
 intro a s σ H Q I h;refine TU (lT I n m k ?_ l c);exact TJ (bY (u pos a s σ H _ I h) λf g ⟨d,w,v,i,j⟩=>q a g σ w d f Q v i j) o b
end
end L2
namespace HT
open PySem PyProof.Rows
section
variable{prog:Rk}{w:Rz}{A:SH}{E:Q2->Q7->Prop}{s:Q7}
theorem Io(y:X7 s.heap t vs.toArray)(z:X7 s.heap b ws.toArray)(p:vs≠[])(C:ws=[]->Q (.ref t) s)(B:ws≠[]->Q (.ref s.heap.objs.size) { s with heap:=s.heap.push { cls:=.type "tuple",data:=.seq (vs++ws).toArray } })(j:vs.length+ws.length<=RP):RB (RC prog w) A (SK .Add (.ref t) (.ref b)) Q E s:=by
 obtain⟨⟨l,v,h,m⟩,i,u,n,r⟩:=id y;obtain⟨⟨x,g,k,c⟩,a,f,o,d⟩:=id z;simp only at u r f d;subst u r f d;have e:vs.toArray++ws.toArray=(vs++ws).toArray:=by simp
 by_cases hw:ws=[]
 ·exact Wp ⟨_,i,rfl⟩ ⟨_,a,rfl⟩ W8 Wj Uz Um (UY _ _)
   (tuple_addW1 t b vs.toArray ws.toArray n o v g m c (by simpa using p) (by simp[hw])) ⟨i,a,C hw⟩
 ·refine Wp ⟨_,i,rfl⟩ ⟨_,a,rfl⟩ W8 Wj Uz Um (UY _ _)
   (tuple_addW2 t b vs.toArray ws.toArray n o v g m c (by simpa using p) (by simpa using hw) (by rw[Q9,Q9];exact j)) ⟨i,a,?_⟩
  rw[e];exact B hw
noncomputable def cq(n d:Nat):Option Int->Nat
 |none=>d
 |some v=>if v<0 then(v+(n:Int)).toNat else min v.toNat n
theorem HH(n d:Nat)(a:d<=n)(o:Option Int):cq n d o<=n:=by
 cases o with
 |none=>exact a
 |some v =>
  show(if v<0 then(v+(n:Int)).toNat else min v.toNat n)<=n;by_cases hv:v<0
  ·rw[Xf hv];omega
  ·rw[Xg hv];exact W9 _ _
theorem CV(v:Int)(n d:Nat):(if v<0 then max (v+(n:Int)) 0 else min v (n:Int))=((cq n d (Zz v):Nat):Int):=by
 show(if v<0 then max (v+(n:Int)) 0 else min v (n:Int))=(((if v<0 then(v+(n:Int)).toNat else min v.toNat n):Nat):Int)
 by_cases hv:v<0
 ·simp only[Xf hv];omega
 ·simp only[Xg hv];omega
theorem Bv(lo hi:Option Int)(n:Nat):UV lo hi 1 (n:Int)=(((cq n 0 lo:Nat):Int),((cq n n hi:Nat):Int)):=by
 have b:¬((1:Int)<0):=by omega
 unfold UV;simp only[b,if_false];refine Prod.ext ?_ ?_
 ·cases lo with
  |none=>rfl
  |some v=>exact CV v n 0
 ·cases hi with
  |none=>rfl
  |some v=>exact CV v n n
theorem zz(i j:Nat):TY (i:Int) (j:Int) 1=j-i:=by
 unfold TY;have a:(1:Int)>0:=by omega
 simp only[a,if_true,Int.ediv_one];split<;>omega
theorem sT(p:V5 v o)(h:Q o s):RB (RC prog w) A (Builtin.Slice.slicePartIndex v) Q E s:=by
 cases p with
 |none=>exact slicePart_none h
 |int i t=>exact slicePart_int h
theorem iz{lo hi:Option Int}{n:Nat}(f:s.heap.IsSliceOf sl vl vu .none)(e:V5 vl lo)(d:V5 vu hi)(h:Q (((cq n 0 lo:Nat):Int),1,cq n n hi-cq n 0 lo) s):RB (RC prog w) A (Builtin.Slice.sliceApplied (.ref sl) (pure (n:Int))) Q E s:=by
 obtain⟨i,b,g,c⟩:=id f;unfold Builtin.Slice.sliceApplied Builtin.Slice.sliceFields;refine Q0 (Q0 (UL b c (x:=vl) rfl (Q0 (UL b c (x:=vu) rfl (Q0 (UL b c (x:=.none) rfl (Q5 ?_)))))));refine Q0 (slicePart_none ?_);show RB _ _ (if((1:Int)==0)=true then _ else _) _ _ s;rw[Xg (by decide)];refine Q0 (sT e (Q0 (sT d (Q0 (Q5 ?_)))));show RB _ _ (match UV lo hi 1 (n:Int)with|(lo,hi)=>pure (lo,(1:Int),TY lo hi 1)) _ _ s;rw[Bv lo hi n];show RB _ _ (pure (((cq n 0 lo:Nat):Int),(1:Int),TY ((cq n 0 lo:Nat):Int) ((cq n n hi:Nat):Int) 1)) _ _ s;rw[zz];exact Q5 h
theorem Hk(xs:Array Q2)(i k:Nat):((S4 k).filterMap λ(m:Nat)=>xs[((i:Int)+(m:Int)*1).toNat]?).toArray=((xs.toList.drop i).take k).toArray:=by
 have e:(λ(m:Nat)=>xs[((i:Int)+(m:Int)*1).toNat]?)=λm=>xs[i+m]?:=by
  funext m
  have:((i:Int)+(m:Int)*1).toNat=i+m:=by omega
  rw[this]
 rw[e];have:=pick_run xs i k;rw[List.filterMap_map]at this;have a:((λx=>xs[x]?) ∘ λx=>i+x)=λm=>xs[i+m]?:=rfl
 rw[a]at this;rw[this]
theorem mf{lo hi:Option Int}(b:X7 s.heap t items)(g:s.heap.IsSliceOf sl vl vu .none)(pl:V5 vl lo)(pu:V5 vu hi)(hw:¬(cq items.size 0 lo=0/\cq items.size items.size hi=items.size))(h:Q (.ref s.heap.objs.size) { s with heap:=s.heap.push { cls:=.type "tuple",data:=.seq ((items.toList.drop (cq items.size 0 lo)).take (cq items.size items.size hi-cq items.size 0 lo)).toArray } })(hsz:items.size<=RP):RB (RC prog w) A (VC (.ref t) (.ref sl)) Q E s:=by
 have a:sizeOk (.seq ((items.toList.drop (cq items.size 0 lo)).take (cq items.size items.size hi-cq items.size 0 lo)).toArray):=by
  show((items.toList.drop (cq items.size 0 lo)).take (cq items.size items.size hi-cq items.size 0 lo)).toArray.size<=RP;rw[Q9,Rn,Sh,Rr];omega
 have hj:cq items.size items.size hi<=items.size:=HH _ _ (R1 _) hi;obtain⟨os,c,e,hds⟩:=id g;have f:s.TypeIs (.ref sl) "slice":=⟨os,c,e⟩
 unfold VC
 try with_reducible refine SF ?_
 first|refine Q0 (Q5 ?_)|skip
 refine Q0 (wpAny_sequenceKey b.typeIs (by decide) ?_);refine Q0 (Si (name:=Wq "__getitem__") b.typeIs Ss
  (Sj Ss b.typeIs entry_tuple_getitem ?_ (args_tuple_getitem _ _)))
 show RB _ _ (Builtin.Tuple.tupleItemsOf (.ref t) >>= _) _ _ s;refine Q0 (tupleItemsOf_ b ?_);refine Q0 (VX f ?_);rw[Xf (by decide)];refine Q0 (iz g pl pu ?_);have d:¬((((cq items.size 0 lo:Nat):Int)==0&&(1:Int)==1&&(cq items.size items.size hi-cq items.size 0 lo)==items.size)=true):=by
  intro q;rw[Q3,Q3]at q;have q1:((cq items.size 0 lo:Nat):Int)=0:=eq_of_beq q.1.1;have q2:cq items.size items.size hi-cq items.size 0 lo=items.size:=eq_of_beq q.2;exact hw ⟨by omega,by omega⟩
 show RB _ _ (if(((cq items.size 0 lo:Nat):Int)==0&&(1:Int)==1&&(cq items.size items.size hi-cq items.size 0 lo)==items.size)=true then _ else _) _ _ s;rw[Xg d,Hk]
 first
  |exact Q0 (m:=Tk _) (SS (Q5 ⟨_,rfl,Q5 h⟩) a)
  |exact Q0 (m:=Tk _) (SS (Q0 (Q5 (Q5 ⟨_,rfl,Q5 h⟩))) a)
  |exact Q0 (Q0 (m:=Tk _) (SS (Q5 (Q5 ⟨_,rfl,Q5 h⟩)) a))
  |exact Q0 (Q0 (m:=Tk _) (SS (Q5 ⟨_,rfl,Q5 h⟩) a))
end
end HT
namespace L2
open PySem PySem.Spec PyProof.Rows
noncomputable abbrev TO:=St->Hp->(Option Int->Hp->Prop)->Prop
def PO(X:Cx)(e:Option Rq)(t:TO):Prop:=
 ∀(pins:List (Q8×Obj)) (s:Q7) (σ:St) (H:Hp) (Q:Option Int->Hp->Prop),Inv X pins σ H s->t σ H Q ->
  RB (RC X.prog X.w) X.A (evalPart e X.env) (λu s'=>∃o H',Inv X pins σ H' s'/\V5 u o/\Q o H') X.xe s
def JX:TO:=λ_ H Q=>Q Zy H
def NE(t:TE):TO:=λσ H Q=>t σ H λx H1=>∃i,x=.int i/\Q (Zz i) H1
section
variable{X:Cx}{e:Rq}{te:TE}{lo hi:Option Rq}{tl th:TO}{pos p2:Pos}
theorem Jd:PO X Zy JX:=by
 intro a s σ H Q I h;rw[evalPart_none];exact Q5 ⟨Zy,H,I,.none,h⟩
theorem JV(h:PE X e te):PO X (Zz e) (NE te):=by
 intro a s σ H Q I d;rw[evalPart_some];refine bY (h a s σ H _ I d) λu j ⟨x,g,f,b,c⟩=>?_
 obtain⟨i,rfl,q⟩:=c;obtain⟨t,rfl⟩:=b;exact⟨Zz i,g,f,.int i t,q⟩
def OT(X:Cx)(r:V->Option Int->Option Int->Hp->VK->Prop):Prop:=
 ∀(pins:List (Q8×Obj)) (s:Q7) (σ:St) (H:Hp) (x:V) (v vl vu:Q2) (lo hi:Option Int) (sl:Q8) (Q:VK),Inv X pins σ H s->RelV x v->s.heap.IsSliceOf sl vl vu .none->V5 vl lo->V5 vu hi->r x lo hi H Q ->
  ∃T id,WG (.type T) "__getitem__" = pure (Zz (.builtin id))/\s.TypeIs v T/\RB (RC X.prog X.w) X.A (VC v (.ref sl)) (EP X pins σ Q) X.xe s
def Qs(r:V->Option Int->Option Int->Hp->VK->Prop)(te:TE)(tl th:TO):TE:=λσ H Q=>te σ H λx H1=>tl σ H1 λl H2=>th σ H2 λu H3=>r x l u H3 Q
theorem Hj(C:OT X r)(F:PE X e te)(D:PO X lo tl)(z:PO X hi th):PE X (.Subscript e (.Slice lo hi Zy p2) pos) (Qs r te tl th):=by
 intro a s σ H Q I h;refine XA (bY (F a s σ H _ I h) λv k ⟨x,O,M,m,p⟩=>?_);refine wpAny_Slice (bY (D a k σ O _ M p) λg j ⟨l,N,L,y,o⟩=>bY (z a j σ N _ L o) λf c ⟨u,i,K,t,n⟩=>?_);rw[evalPart_none];refine Q5 ?_;have J:Inv X a σ i { c with heap:=c.heap.push { cls:=.type "slice",data:=.fields #[g,f,.none] } }:=K.kept (t':=c.toks) λb P q=>Q6 _ q
 obtain⟨T,id,G,B,E⟩:=C a { c with heap:=c.heap.push { cls:=.type "slice",data:=.fields #[g,f,.none] } } σ i x v g f l u c.heap.objs.size Q J m (Heap.IsSliceOf.new ..) y t n;show RB (RC X.prog X.w) X.A (Wk e (.Slice lo hi Zy p2) v (.ref c.heap.objs.size)) (EP X a σ Q) X.xe { c with heap:=c.heap.push { cls:=.type "slice",data:=.fields #[g,f,.none] } };exact tail_any (ops:=[.ref c.heap.objs.size,v]) B G E (by with_unfolding_all rfl)
noncomputable def A6(xs:List V)(lo hi:Option Int):List V:=(xs.drop (HT.cq xs.length 0 lo)).take (HT.cq xs.length xs.length hi-HT.cq xs.length 0 lo)
theorem pH(xs:List V)(lo hi:Option Int):(A6 xs lo hi).length<=xs.length:=by
 unfold A6;rw[Rn,Sh];omega
def Pi(K:Rf):V->Option Int->Option Int->Hp->VK->Prop:=λx lo hi H Q=>∃a xs,x=.ref a/\lA K H a xs /\
 ¬(HT.cq xs.length 0 lo=0/\HT.cq xs.length xs.length hi=xs.length)/\∀p,H p=Zy->Q (.ref p) (upd H p (.tup (A6 xs lo hi)))
theorem Lz:OT X (Pi X.K):=by
 intro i s σ H x v y w e g z Q I l u n m h;obtain⟨a,d,rfl,p,t,q⟩:=h;cases l;obtain⟨f,r,k,j⟩:=I.tuple p;have c:f.toArray.size=d.length:=by rw[Q9];exact r.length.symm
 refine⟨"tuple",_,PyProof.Rows.slot_tuple_getitem.lookup,k.typeIs,?_⟩;refine HT.mf k u n m (by rw[c];exact t) ?_ (by rw[c];exact j);rw[c];refine⟨.ref s.heap.objs.size,_,I.laid (t':=s.toks) (o:=.tup (A6 d e g)) (λb A q=>Q6 _ q) (R1 _) ?_,rfl,q _ (I.hok.fresh (R1 _))⟩;exact⟨Re (pH d e g) j,_,(r.drop (HT.cq d.length 0 e)).take (HT.cq d.length d.length g-HT.cq d.length 0 e),sf.new _ _⟩
def OD(K:Rf):R2:=λx y H Q=>∃a b xs ys,x=.ref a/\y=.ref b/\lA K H a xs/\lA K H b ys/\xs≠[]/\xs.length+ys.length<=RP /\
 (ys=[]->Q (.ref a) H)/\(ys≠[]->∀p,H p=Zy->Q (.ref p) (upd H p (.tup (xs++ys))))
theorem Vals.jq(r:Vals xs us):us=[]↔xs=[]:=by
 cases r with
 |nil=>simp
 |cons _ _=>simp
theorem Jy:dU X (SK .Add) (OD X.K):=by
 intro e s σ H x y v u Q I l k h;obtain⟨a,b,j,i,rfl,rfl,C,B,A,g,n,m⟩:=h;cases l;cases k;obtain⟨t,d,r,_⟩:=I.tuple C;obtain⟨f,c,p,_⟩:=I.tuple B;refine HT.Io r p (λz=>A (d.jq.mp z)) (λz=>⟨.ref a,H,I,rfl,n (c.jq.mp z)⟩) (λz=>?_) (by rw[<-d.length,<-c.length];exact g);refine⟨.ref s.heap.objs.size,_,I.laid (t':=s.toks) (o:=.tup (j++i)) (λb D q=>Q6 _ q) (R1 _) ?_,rfl,m (λw=>z (c.jq.mpr w)) _ (I.hok.fresh (R1 _))⟩;exact⟨by rw[R7];exact g,_,d.append c,sf.new _ _⟩
end
noncomputable def Mo(n:Nat)(i:Int):Option Nat:=if 0<=i then(if i<n then Zz i.toNat else Zy)else if -(n:Int)<=i then Zz (i+n).toNat else Zy
noncomputable def Mv{α:Type}(xs:List α)(i:Int):Option α:=(Mo xs.length i).bind λj=>xs[j]?
theorem vY(h:Mo n i=Zz j):XN i n=Zz j/\j<n/\-(n:Int)<=i/\i<n:=by
 unfold Mo at h;by_cases h0:0<=i
 ·rw[Xf h0]at h
  by_cases h1:i<n
  ·rw[Xf h1]at h
   have e:i.toNat=j:=Ri h;exact⟨by rw[X2 h0 h1,e],by omega,by omega,h1⟩
  ·rw[Xg h1]at h;cases h
 ·rw[Xg h0]at h
  by_cases h1:-(n:Int)<=i
  ·rw[Xf h1]at h
   have e:(i+n).toNat=j:=Ri h;exact⟨by rw[Wr (by omega) h1,e],by omega,h1,by omega⟩
  ·rw[Xg h1]at h;cases h
theorem vL{α:Type}{xs:List α}{v:α}(h:Mv xs i=Zz v):∃j,XN i xs.length=Zz j/\xs[j]?=Zz v/\j<xs.length/\-(xs.length:Int)<=i/\i<xs.length:=by
 unfold Mv at h;cases e:Mo xs.length i with
 |none=>rw[e]at h;cases h
 |some j =>
  rw[e]at h;obtain⟨d,c,b,a⟩:=vY e;exact⟨j,d,h,c,b,a⟩
def CW(b:Rq):Prop:=∀o i,WP b false o i=operate [o,i] (VC o i)
def Nq(X:Cx)(r:R2):Prop:=
 ∀(value slice:Rq) (pins:List (Q8×Obj)) (s:Q7) (σ:St) (H:Hp) (x y:V) (v u:Q2) (Q:VK),Inv X pins σ H s->RelV x v->RelV y u->r x y H Q ->
  WP slice false v u=operate [v,u] (VC v u)->RB (RC X.prog X.w) X.A (Wk value slice v u) (EP X pins σ Q) X.xe s
def KL(X:Cx)(id:String)(r:V->List V->Hp->VK->Prop):Prop:=
 ∀(pins:List (Q8×Obj)) (s:Q7) (σ:St) (H:Hp) (x:V) (xs:List V) (v:Q2) (us:List Q2) (Q:VK),Inv X pins σ H s->RelV x v->Vals xs us->r x xs H Q ->
  RB (RC X.prog X.w) X.A (call (.builtin id) (v::us)) (EP X pins σ Q) X.xe s
section
variable{X:Cx}{a b:Rq}{ta tb:TE}{pos:Pos}
theorem Ob(i:Nq X r)(k:PE X a ta)(j:PE X b tb)(g:CW b):PE X (.Subscript a b pos) (N3 r ta tb):=by
 intro c s σ H Q I h;exact XA (iq k j I h λv u d x y m l f e q=>i a b c d σ m x y v u Q l f e q (g _ _))
inductive Po (K:Rf) (x:V) (y:V) (H:Hp) (Q:VK):Prop where
 |mk (p xs i v) (_:x=.ref p) (_:y=.int i) (_:sU K H p xs) (_:Mv xs i=Zz v) (_:Q v H)
inductive OY (K:Rf) (x:V) (y:V) (H:Hp) (Q:VK):Prop where
 |mk (p xs i v) (_:x=.ref p) (_:y=.int i) (_:lA K H p xs) (_:Mv xs i=Zz v) (_:Q v H)
inductive O1  (x:V) (y:V) (H:Hp) (Q:VK):Prop where
 |mk (z i c) (_:x=.str z) (_:y=.int i) (_:z.length<=RP) (_:Mv z.cps.toList i=Zz c) (_:Q (.str ⟨#[c]⟩) H)
theorem Ce:Nq X (Po X.K):=by
 intro d e a s σ H x y v u Q I B A h m;obtain⟨p,L,i,z,rfl,rfl,C,E,q⟩:=h;cases B;obtain⟨t,rfl⟩:=A;obtain⟨k,r,g,M⟩:=I.list C;obtain⟨j,c,J,O,G,F⟩:=vL E;obtain⟨w,n,f⟩:=r.get J;have D:=r.length;have N:=pf;have b:EP X a σ Q w s:=⟨z,H,I,f,q⟩
 by_cases h0:0<=i
 ·have l:i.toNat=j:=by
   rw[X2 h0 F]at c;exact Ri c
  exact item_listR g.isList h0 (by omega) (by rw[l];simpa using n) b m
 ·have l:(i+(k.toArray.size:Int)).toNat=j:=by
   rw[Wr (by omega) G]at c;rw[Q9,<-D];exact Ri c
  exact subscriptTail_builtinR (x:=w) g.isList.typeIs slot_list_getitem.lookup
   (wpAny_getItem_list_neg (Q:=λr o=>r=w/\EP X a σ Q r o) g.isList (by omega) (by rw[Q9]<;>omega) (by omega) (by rw[l];simpa using n) ⟨rfl,b⟩) m
theorem LK:Nq X (OY X.K):=by
 intro b c a s σ H x y v u Q I l k h n;obtain⟨p,F,i,z,rfl,rfl,o,B,q⟩:=h;cases l;obtain⟨t,rfl⟩:=k;obtain⟨m,r,f,G⟩:=I.tuple o;obtain⟨j,D,C,N,M,L⟩:=vL B;obtain⟨w,E,d⟩:=r.get C;have A:=r.length;have J:=pf;have e:EP X a σ Q w s:=⟨z,H,I,d,q⟩
 exact subscriptTail_builtinR (x:=w) f.typeIs slot_tuple_getitem.lookup
  (getItem_tuple (j:=j) (Q:=λr g=>r=w/\EP X a σ Q r g) f (by omega) (by omega) (by rw[Q9,<-A];exact D) (by simpa using E) ⟨rfl,e⟩) n
theorem Me:Nq X O1:=by
 intro a b d s σ H x y v u Q I g f h k;obtain⟨z,i,c,rfl,rfl,B,m,q⟩:=h;obtain⟨t,rfl⟩:=g;obtain⟨A,rfl⟩:=f;obtain⟨j,e,p,D,o,n⟩:=vL m;have l:z.cps.toList.length=z.length:=by simp[XB]
 rw[l]at e o n;have C:=pf;exact tail_any (V6 s z t) slot_str_getitem.lookup (getItem_str (c:=c) (by
  have w:decide (i < -(2^63:Int))=false:=Xh (by omega);have r:decide (i ≥ 2^63)=false:=Xh (by omega);rw[w,r,Bool.or_false]) (by rw[e];simpa using p) ⟨.str ⟨#[c]⟩,H,I.tok _,⟨_,rfl⟩,q⟩) k
theorem zL(a:List Q2)(n j:Nat)(u:Q2):U2 (·.setIfInBounds j u) { cls:=.type "list",data:=.seq a.toArray n }={ cls:=.type "list",data:=.seq (a.set j u).toArray n }:=by
 simp[U2]
theorem Inv.lst(I:Inv X pins σ H s)(h:H p=Zz (.lst xs)):
  ∃(a:List Q2) (n:Nat),Vals xs a/\s.heap.get? p=Zz { cls:=.type "list",data:=.seq a.toArray n }/\xs.length<=RP:=by
 obtain⟨z,a,n,r,e⟩:=I.hok p _ h;exact⟨a,n,r,e,z⟩
theorem Inv.MQ{a its':List Q2}(I:Inv X pins σ H s)(h:H p=Zz (.lst xs))(i:s.heap.get? p=Zz { cls:=.type "list",data:=.seq a.toArray n })(c:f { cls:=.type "list",data:=.seq a.toArray n }={ cls:=.type "list",data:=.seq its'.toArray n' })(r:Vals ys its')(g:ys.length<=RP)(t:Nat):
  Inv X pins σ (upd H p (.lst ys)) { s with heap:=s.heap.update p f,toks:=t }:=by
 have e:(s.heap.update p f).get? p=Zz { cls:=.type "list",data:=.seq its'.toArray n' }:=by
  rw[Ry f i (by rw[c]<;>rfl),c]
 refine I.write (x:=p) (e:=p) (by rw[h];trivial) (.inl rfl) (λb u j q=>(Rs _ _ (SR j)).trans q) ⟨_,e⟩ ?_;exact⟨g,its',n',r,e⟩
inductive Od  (o:V) (i:V) (v:V) (H:Hp) (Q:(Hp->Prop)):Prop where
 |mk (p xs k j) (_:o=.ref p) (_:i=.int k) (_:H p=Zz (.lst xs)) (_:Mo xs.length k=Zz j) (_:Q (upd H p (.lst (xs.set j v))))
theorem set_list:Ot X Od:=by
 intro a s σ H o i v E F u Q I A B z h;obtain⟨p,y,k,j,rfl,rfl,g,D,q⟩:=h;cases A;obtain⟨t,rfl⟩:=B;obtain⟨b,n,r,d,C⟩:=I.lst g;obtain⟨c,J,w,m⟩:=vY D;have e:=r.length;have G:=pf;have x:Inv X a σ (upd H p (.lst (y.set j v))) { s with heap:=s.heap.update p (U2 (·.setIfInBounds j u)) }:=
  I.MQ g d (zL b n j u) (r.set z j) (by rw[S8];exact C) s.toks
 by_cases h0:0<=k
 ·have f:k.toNat=j:=by
   rw[X2 h0 m]at c;exact Ri c
  exact PySem.W.ki_setAt d h0 (by omega) (by rw[Q9,<-e];exact m) (by rw[f];exact⟨_,x,q⟩)
 ·have f:(k+(b.toArray.size:Int)).toNat=j:=by
   rw[Wr (by omega) w]at c;rw[Q9,<-e];exact Ri c
  exact PySem.W.ki_setBack d (by omega) (by rw[Q9,<-e];exact w) (by omega) (by rw[f];exact⟨_,x,q⟩)
theorem wN(lo hi:Option Int)(n:Nat):(Uo lo hi Zy n).1=((HT.cq n 0 lo:Nat):Int)/\(Uo lo hi Zy n).2.1=((HT.cq n n hi:Nat):Int)/\(Uo lo hi Zy n).2.2=1:=by
 refine⟨?_,?_,rfl⟩
 ·cases lo with
  |none=>simp[Uo,HT.cq]
  |some i =>
   simp only[Uo,HT.cq,Option.getD_none,show(1:Int)>0 by decide,if_true];by_cases h:i<0
   ·simp only[h,if_true]<;>omega
   ·simp only[h,if_false]<;>omega
 ·cases hi with
  |none=>simp[Uo,HT.cq]
  |some i =>
   simp only[Uo,HT.cq,Option.getD_none,show(1:Int)>0 by decide,if_true];by_cases h:i<0
   ·simp only[h,if_true]<;>omega
   ·simp only[h,if_false]<;>omega
theorem tM(a:List Q2)(lo hi:Option Int):slicePick a.toArray lo hi Zy=((a.drop (HT.cq a.length 0 lo)).take (HT.cq a.length a.length hi-HT.cq a.length 0 lo)).toArray:=by
 obtain⟨d,c,b⟩:=wN lo hi a.toArray.size;unfold slicePick;rw[d,c,b];simp only[sliceRange_one,pick_run,Q9]<;>rfl
def O5(K:Rf):V->Option Int->Option Int->Hp->VK->Prop:=λx lo hi H Q=>∃a xs,x=.ref a/\sU K H a xs/\∀p,H p=Zy->Q (.ref p) (upd H p (.lst (A6 xs lo hi)))
theorem BY:OT X (O5 X.K):=by
 intro g s σ H x v w u e f y Q I j t l k h;obtain⟨a,c,rfl,p,q⟩:=h;cases j;obtain⟨m,r,i,n⟩:=I.list p;have d:=r.length;refine⟨"list",_,slot_list_getitem.lookup,i.isList.typeIs,?_⟩;refine wpAny_getItem_list_slice i.isList t l k .none (by simp) ?_ (by rw[Q9]<;>omega);rw[tM,<-d];refine⟨.ref s.heap.objs.size,_,I.laid (t':=s.toks) (o:=.lst (A6 c e f)) (λb z q=>Q6 _ q) (R1 _) ?_,rfl,q _ (I.hok.fresh (R1 _))⟩;exact⟨Re (pH c e f) n,_,0,(r.drop (HT.cq c.length 0 e)).take (HT.cq c.length c.length f-HT.cq c.length 0 e),RL _ rfl⟩
noncomputable def jB:V->Bool
 |.non=>true
 |.bl _=>true
 |.int _=>true
 |.str _=>true
 |_=>false
noncomputable def HX:V->V->Bool
 |.non,.non=>true
 |.bl a,.bl b=>a==b
 |.bl a,.int b=>(if a then 1 else 0)==b
 |.int a,.bl b=>a==(if b then 1 else 0)
 |.int a,.int b=>a==b
 |.str a,.str b=>a==b
 |_,_=>false
theorem MG(ry:RelV y u)(c:RelV x v)(fy:jB y=true)(fx:jB x=true):Wn A s u v (HX y x):=by
 cases y with
 |non =>
  cases ry;cases x with
  |non=>cases c;exact SeqAt.EqAt.same _
  |bl b=>cases c;exact SeqAt.EqAt.none_bool b
  |int b=>obtain⟨t,rfl⟩:=c;exact SeqAt.EqAt.none_int b t
  |str b=>obtain⟨t,rfl⟩:=c;exact SeqAt.EqAt.none_str b t
  |_=>exact Xk (show false=true from fx) RG
 |bl a =>
  cases ry;cases x with
  |non=>cases c;exact SeqAt.EqAt.bool_none a
  |bl b=>cases c;exact SeqAt.EqAt.bool_bool a b
  |int b=>obtain⟨t,rfl⟩:=c;exact SeqAt.EqAt.bool_int a b t
  |str b=>obtain⟨t,rfl⟩:=c;exact SeqAt.EqAt.bool_str a b t
  |_=>exact Xk (show false=true from fx) RG
 |int a =>
  obtain⟨d,rfl⟩:=ry;cases x with
  |non=>cases c;exact SeqAt.EqAt.int_none a d
  |bl b=>cases c;exact SeqAt.EqAt.int_bool a d b
  |int b=>obtain⟨t,rfl⟩:=c;exact SeqAt.EqAt.int_int a d b t
  |str b=>obtain⟨t,rfl⟩:=c;exact SeqAt.EqAt.int_str a d b t
  |_=>exact Xk (show false=true from fx) RG
 |str a =>
  obtain⟨d,rfl⟩:=ry;cases x with
  |non=>cases c;exact SeqAt.EqAt.str_none a d
  |bl b=>cases c;exact SeqAt.EqAt.str_bool a d b
  |int b=>obtain⟨t,rfl⟩:=c;exact SeqAt.EqAt.str_int a d b t
  |str b=>obtain⟨t,rfl⟩:=c;exact SeqAt.EqAt.str_str a d b t
  |_=>exact Xk (show false=true from fx) RG
 |_=>exact Xk (show false=true from fy) RG
noncomputable def zY(x:V)(u:Q2):Bool:=match u with
 |.none=>HX .non x
 |.bool b=>HX (.bl b) x
 |.int i _=>HX (.int i) x
 |.str z _=>HX (.str z) x
 |_=>false
theorem Hh(r:RelV y u)(f:jB y=true):zY x u=HX y x:=by
 cases y with
 |non=>cases r;rfl
 |bl b=>cases r;rfl
 |int i=>obtain⟨t,rfl⟩:=r;rfl
 |str z=>obtain⟨t,rfl⟩:=r;rfl
 |_=>exact Xk (show false=true from f) RG
theorem mS:∀{xs:List V}{us:List Q2},Vals xs us->xs.all jB=true->us.any (zY x)=xs.any λy=>HX y x
 |_,_,.nil,_=>rfl
 |y::xs,u::us,.cons r t,f=>by
  rw[Ro,Q3]at f;rw[UZ,UZ,Hh r f.1,mS t f.2]
theorem j3(d:RelV x v)(e:jB x=true):∀{xs:List V}{us:List Q2},Vals xs us->xs.all jB=true->∀u∈us,Wn A s u v (zY x u)
 |_,_,.nil,_=>λu b=>by cases b
 |y::xs,u::us,.cons r t,f=>λu' b=>by
  rw[Ro,Q3]at f;rcases R6.mp b with rfl|b
  ·rw[Hh r f.1];exact MG r d f.1 e
  ·exact j3 d e t f.2 u' b
noncomputable def inV(x:V)(xs:List V):Bool:=xs.any λy=>HX y x
inductive Qh (K:Rf) (neg:Bool) (x:V) (y:V) (H:Hp) (Q:VK):Prop where
 |mk (p xs) (_:y=.ref p) (_:(sU K H p xs∨lA K H p xs)) (_:jB x=true) (_:xs.all jB=true) (_:Q (.bl (if neg then !inV x xs else inV x xs)) H)
theorem uc:dU X (Rj .In) (Qh X.K false):=by
 intro pins s σ H x y v u Q I rx ry h;obtain⟨p,xs,rfl,b,fx,c,q⟩:=h;cases ry;rcases b with b|b
 ·obtain⟨a,r,d,hz⟩:=I.list b
  refine SeqAt.in_listAt (zY x) d.isList (λw e=>j3 rx fx r c w (by simpa using e)) ⟨.bl _,H,I,rfl,?_⟩;rw[show a.toArray.any (zY x)=a.any (zY x) by simp,mS r c];exact q
 ·obtain⟨a,r,d,hz⟩:=I.tuple b
  refine SeqAt.in_tupleAt (zY x) d (λw e=>j3 rx fx r c w (by simpa using e)) ⟨.bl _,H,I,rfl,?_⟩;rw[show a.toArray.any (zY x)=a.any (zY x) by simp,mS r c];exact q
theorem nH:dU X (Rj .NotIn) (Qh X.K true):=by
 intro pins s σ H x y v u Q I rx ry h;obtain⟨p,xs,rfl,b,fx,c,q⟩:=h;cases ry;rcases b with b|b
 ·obtain⟨a,r,d,hz⟩:=I.list b
  refine SeqAt.notIn_listAt (zY x) d.isList (λw e=>j3 rx fx r c w (by simpa using e)) ⟨.bl _,H,I,rfl,?_⟩;rw[show a.toArray.any (zY x)=a.any (zY x) by simp,mS r c];exact q
 ·obtain⟨a,r,d,hz⟩:=I.tuple b
  refine SeqAt.notIn_tupleAt (zY x) d (λw e=>j3 rx fx r c w (by simpa using e)) ⟨.bl _,H,I,rfl,?_⟩;rw[show a.toArray.any (zY x)=a.any (zY x) by simp,mS r c];exact q
theorem mP:db X (.type "list") (λxs H Q=>∃p ys,xs=[.ref p]/\(sU X.K H p ys∨lA X.K H p ys)/\∀l,H l=Zy->Q (.ref l) (upd H l (.lst ys))):=by
 intro pins s σ H xs us Q I r h;obtain⟨p,ys,rfl,hq,q⟩:=h;obtain⟨u,rfl,rx⟩:=vals1 r;cases rx;have fin:∀(its:List Q2),Vals ys its->ys.length<=RP->∀(h':Rm) (c':Nat),(∀b o',s.heap.get? b=Zz o'->h'.get? b=Zz o') ->
   h'.get? s.heap.objs.size=Zz { cls:=.type "list",dict:=Zy,data:=.seq its.toArray c',slots:=#[] }->EP X pins σ Q (.ref s.heap.objs.size) { s with heap:=h' }:=λits r' hz h' c' kp e =>
  ⟨.ref s.heap.objs.size,_,I.laid (t':=s.toks) kp (R1 _) (show cL X.prog X.w _ h' _ (.lst ys)from⟨hz,its,c',r',e⟩),rfl,q _ (I.hok.fresh (R1 _))⟩
 rcases hq with hq|hq
 ·obtain⟨its,r',pl,hz⟩:=I.list hq
  have hlen:=r'.length;obtain⟨o,ho,hc,n,hd⟩:=pl.isList;exact W0 p (.inl rfl) ho hc hd (λh' c' kp e=>fin its r' hz h' c' kp e) (by simp only[Q9]<;>omega)
 ·obtain⟨its,r',pl,hz⟩:=I.tuple hq
  have hlen:=r'.length;obtain⟨o,ho,hc,n,hd⟩:=pl;exact W0 p (.inr rfl) ho hc hd (λh' c' kp e=>fin its r' hz h' c' kp e) (by simp only[Q9]<;>omega)
theorem lD:db X (.type "tuple") (λxs H Q=>∃p ys,xs=[.ref p]/\((sU X.K H p ys/\∀l,H l=Zy->Q (.ref l) (upd H l (.tup ys)))∨(lA X.K H p ys/\Q (.ref p) H))):=by
 intro pins s σ H xs us Q I r h;obtain⟨p,ys,rfl,h⟩:=h;obtain⟨u,rfl,rx⟩:=vals1 r;cases rx;rcases h with⟨hq,q⟩|⟨hq,q⟩
 ·obtain⟨its,r',pl,hz⟩:=I.list hq
  have hlen:=r'.length;refine call_tuple_list pl.isList (λh' kp=>?_) (by simp only[Q9]<;>omega);have I1:Inv X pins σ H { s with heap:=h' }:=I.kept (t':=s.toks) kp;have I2:Inv X pins σ (upd H h'.objs.size (.tup ys)) { s with heap:=h'.push { cls:=.type "tuple",data:=.seq its.toArray } }:=
   I1.laid (t':=s.toks) (λb o e=>Q6 _ e) (R1 _) (show cL X.prog X.w _ _ _ (.tup ys)from⟨hz,its,r',sf.new _ _⟩)
  exact⟨.ref h'.objs.size,_,I2,rfl,q _ (I1.hok.fresh (R1 _))⟩
 ·obtain⟨its,r',pl,hz⟩:=I.tuple hq
  exact call_tuple_same pl ⟨.ref p,H,I,rfl,q⟩
def MN(K:Rf)(T:String)(x:V)(H:Hp):Prop:=match x with
 |.str _=>T = "str"
 |.int _=>T = "int"
 |.ref p=>(T = "list"/\∃xs,sU K H p xs)∨(T = "tuple"/\∃o,K.lookup p=Zz o/\o.cls=.type "tuple"/\o.dict=Zy) ∨
  (T = "dict"/\((∃kvs,H p=Zz (.dK kvs))∨∃kvs,H p=Zz (.dT kvs)))∨(T = "set"/\∃S n,H p=Zz (.set S n))
 |_=>False
theorem KW{f:List (Q8×Obj)}{σ:St}{H:Hp}{s:Q7}{T:String}{x:V}{v:Q2}(I:Inv X f σ H s)(r:RelV x v)(ty:MN X.K T x H):
  s.TypeIs v T/\∀a,v=.ref a->∃ob,s.heap.get? a=Zz ob/\ob.dict=Zy:=by
 cases x with
 |str z =>
  obtain⟨t,rfl⟩:=r;cases(show T = "str" from ty);exact⟨V6 s z t,λ_ e=>nomatch e⟩
 |int i =>
  obtain⟨t,rfl⟩:=r;cases(show T = "int" from ty);exact⟨WH s i t,λ_ e=>nomatch e⟩
 |ref p =>
  cases r;rcases ty with⟨rfl,xs,hq⟩|⟨rfl,o,b,hc,hd⟩|⟨rfl,b⟩|⟨rfl,S,n,b⟩
  ·obtain⟨its,_,pl,_⟩:=I.list hq
   refine⟨pl.isList.typeIs,λa e=>?_⟩;cases e;obtain⟨o,n,e,c,hd,_⟩:=pl;exact⟨o,e,hd⟩
  ·refine⟨⟨o,I.li p o b,hc⟩,λa e=>?_⟩
   cases e;exact⟨o,I.li _ o b,hd⟩
  ·have z:∃o,s.heap.get? p=Zz o/\o.ExactDict:=by
    rcases b with⟨h,b⟩|⟨h,b⟩
    ·obtain⟨_,_,_,_,o,_,_,e,d,_⟩:=I.hok p _ b
     exact⟨o,e,d⟩
    ·obtain⟨_,_,_,_,o,_,_,e,d,_⟩:=I.hok p _ b
     exact⟨o,e,d⟩
   obtain⟨o,e,d⟩:=z;refine⟨⟨o,e,d.1⟩,λa e2=>?_⟩;cases e2;exact⟨o,e,d.2.1⟩
  ·obtain⟨o,_,_,_,e,d,_⟩:=I.hok p _ b
   refine⟨⟨o,e,d.1⟩,λa e2=>?_⟩;cases e2;exact⟨o,e,d.2.1⟩
 |_=>exact TR ty
def Qn(K:Rf)(T:String)(r:V->List V->Hp->VK->Prop)(to:TE)(t:TA):TE:=λσ H Q=>to σ H λx H1=>MN K T x H1/\t σ H1 λxs H2=>r x xs H2 Q
variable{o e:Rq}{es:List Rq}{to:TE}{t:TA}{name:Str}{apos cpos:Pos}{T id:String}{r:V->List V->Hp->VK->Prop}
theorem su(A:PlainAttrs T)(f:Slot T name id)(i:typeOf (.builtin id)=pure (.type "method_descriptor"))(D:KL X id r)(C:PE X o to)(E:PA X (e::es) t)(d:Sz o name X.env (eval o X.env)=eval o X.env:=by rfl)(g:((backTo cpos (S9 (e::es) X.env)).all (λx=>!x.1)&&(XZ cpos (X3 [] X.env)).all (λx=>x.1.isSome)
   && decide ((e::es).length+([]:List Wd).length+(if([]:List Wd).isEmpty then 0 else 1)<30))=true:=by rfl)(c:(apos.endLine==cpos.line)=true:=by rfl)(B:S9 (e::es) X.env=(false,eval e X.env)::S9 es X.env:=by rfl)(b:(backTo cpos (S9 es X.env)).any (·.1)=false:=by rfl):
  PE X (.Call (.Attribute o name apos) (e::es) [] cpos) (Qn X.K T r to t):=by
 intro a s σ H Q I h;refine wpAny_Call_method_late d g c rfl (bY (C a s σ H _ I h) λv u ⟨x,M,l,j,p,z⟩=>?_);obtain⟨G,F⟩:=KW l j p;refine⟨T,id,A,f,i,G,F,?_⟩;have k:=E cpos a u σ M _ l z;rw[B]at k ⊢;refine Calls.callWith_builtin (by show(false || (backTo cpos (S9 es X.env)).any (·.1))=false;rw[b]<;>rfl) (Calls.evalArgs_plain ?_);exact bY k λn q ⟨m,L,J,w,y⟩=>D a q σ L x m v n Q J j w y
end
def Qa(X:Cx)(id:String)(r:V->List V->Hp->VK->Prop):Prop:=
 ∀(pins:List (Q8×Obj)) (s:Q7) (σ:St) (H:Hp) (x:V) (xs:List V) (v:Q2) (us:List Q2) (Q:VK),Inv X pins σ H s->RelV x v->Vals xs us->r x xs H Q ->
  RB (RC X.prog X.w) X.A (call (.builtin id) (v::us)) (EP X pins σ Q) X.xe s
theorem Vals.one:∀{x:V}{us:List Q2},Vals [x] us->∃u,us=[u]/\RelV x u
 |_,_,.cons r .nil=>⟨_,rfl,r⟩
theorem Vals.eraseIdx:∀{xs:List V}{us:List Q2}(i:Nat),Vals xs us->Vals (xs.eraseIdx i) (us.eraseIdx i)
 |_,_,_,.nil=>.nil
 |_,_,0,.cons _ t=>t
 |_,_,i+1,.cons r t=>.cons r (Vals.eraseIdx i t)
theorem Vals.rep(h:Vals xs us):∀k:Nat,Vals (R4 k xs).flatten (R4 k us).flatten
 |0=>.nil
 |k+1=>by
  rw[SN,SN,Sb,Sb];exact Vals.append h (Vals.rep h k)
theorem tX{α:Type}:∀(l:List α) (i:Nat),(l.eraseIdx i).length<=l.length
 |[],_=>R1 _
 |_::_,0=>TK _
 |_::r,i+1=>Nat.succ_le_succ (tX r i)
theorem foldl_rep(a:List Q2):∀(k:Nat) (b:List Q2),
  Vi (λd c=>d++c) b.toArray (R4 k a.toArray)=(b++(R4 k a).flatten).toArray
 |0,b=>by simp
 |k+1,b=>by
  have e:b.toArray++a.toArray=(b++a).toArray:=by simp
  have f:(b++a)++(R4 k a).flatten=b++(R4 (k+1) a).flatten:=by
   rw[SN,Sb,S3]
  rw[<-f,<-foldl_rep a k (b++a),<-e,SN,U7]
section
variable{X:Cx}{pins:List (Q8×Obj)}{σ:St}{H:Hp}{s:Q7}{l b:Q8}{xs ys zs:List V}
theorem Inv.Mp{a its':List Q2}(I:Inv X pins σ H s)(j:H l=Zz (.lst xs))(e:s.heap.get? l=Zz { cls:=.type "list",data:=.seq a.toArray n })(h:f a.toArray=its'.toArray)(d:Vals ys its')(c:ys.length<=RP):
  Inv X pins σ (upd H l (.lst ys)) { s with heap:=s.heap.update l (U2 f),toks:=t' }:=by
 have q:=PySem.IsL.update e f;rw[h]at q;refine I.write (x:=l) (e:=l) (by rw[j];exact trivial) (.inl rfl) (λk u i g=>(Rs s.heap (U2 f) (SR i)).trans g) ⟨_,q⟩ ?_;exact⟨c,its',_,d,q⟩
theorem Inv.Ge(I:Inv X pins σ H s)(c:Vals ys its)(b:ys.length<=RP):
  Inv X pins σ (upd H s.heap.objs.size (.lst ys)) { s with heap:=s.heap.push { cls:=.type "list",data:=.seq its.toArray },toks:=t' }:=
 I.laid (λ_ _ q=>Q6 _ q) (R1 _) ⟨b,its,0,c,RL _ rfl⟩
theorem Inv.fresh(I:Inv X pins σ H s):H s.heap.objs.size=Zy:=I.hok.fresh (R1 _)
theorem Inv.zg(I:Inv X pins σ H s)(b:H l=Zz (.lst xs)):xs.length<=RP/\∃(a:List Q2) (n:Nat),Vals xs a/\xs.length=a.length/\s.heap.get? l=Zz { cls:=.type "list",data:=.seq a.toArray n }:=by
 obtain⟨z,a,n,r,e⟩:=I.hok l _ b;exact⟨z,a,n,r,r.length,e⟩
theorem FL(h:n<=RP):Ua n=false:=by
 unfold Ua;exact Xh (by omega)
end
section
variable{X:Cx}
inductive JM  (x:V) (vs:List V) (H:Hp) (Q:VK):Prop where
 |mk (l xs y) (_:x=.ref l) (_:vs=[y]) (_:H l=Zz (.lst xs)) (_:xs.length<RP) (_:Q .non (upd H l (.lst (xs++[y]))))
theorem DO:Qa X "list.append" JM:=by
 intro b s σ H x j v k Q I d f h;obtain⟨l,i,y,rfl,rfl,c,m,q⟩:=h;cases d;obtain⟨u,rfl,g⟩:=f.one;obtain⟨z,a,n,r,o,e⟩:=I.zg c;refine Sx F.slot_list_append ⟨_,e,rfl⟩ F.entry_list_append (F.args_list_append_2 _ _) (PySem.list_append l a.toArray n u (by rw[Q9];omega)) ⟨e,?_⟩;refine⟨.non,_,I.Mp (its':=a++[u]) c e (by simp) (r.append (.cons g .nil)) ?_,rfl,q⟩;rw[R7,UD];omega
inductive Lv  (x:V) (vs:List V) (H:Hp) (Q:VK):Prop where
 |mk (l xs i k y) (_:x=.ref l) (_:vs=[.int i]) (_:H l=Zz (.lst xs)) (_:-(2^63)<=i) (_:i<2^63) (_:XN i xs.length=Zz k) (_:xs[k]?=Zz y) (_:Q y (upd H l (.lst (xs.eraseIdx k))))
theorem GS:Qa X "list.pop" Lv:=by
 intro c s σ H x E v G Q I g j h;obtain⟨l,f,i,k,y,rfl,rfl,d,D,C,B,o,q⟩:=h;cases g;obtain⟨u,rfl,m⟩:=j.one;obtain⟨t,rfl⟩:=m;obtain⟨z,a,n,r,A,e⟩:=I.zg d;obtain⟨w,p,b⟩:=r.get o;refine Sx F.slot_list_pop ⟨_,e,rfl⟩ F.entry_list_pop (F.args_list_pop_2 _ _)
  (MeetsSeq.list_pop_at l a.toArray n i t k w (WQ D C) (by rw[Q9,<-A];exact B) (by rw[<-UE];exact p) (by rw[Q9];omega)) ⟨e,?_⟩
 refine⟨y,_,I.Mp (its':=a.eraseIdx k) d e ?_ (r.eraseIdx k) ?_,b,q⟩
 ·show a.toArray.eraseIdxIfInBounds k=(a.eraseIdx k).toArray
  rw[List.eraseIdxIfInBounds_toArray]
 ·have:=tX f k
  omega
inductive PU  (x:V) (y:V) (H:Hp) (Q:VK):Prop where
 |mk (l b xs zs) (_:x=.ref l) (_:y=.ref b) (_:H l=Zz (.lst xs)) (_:H b=Zz (.lst zs)) (_:xs.length+zs.length<=RP) (_:∀p,H p=Zy->Q (.ref p) (upd H p (.lst (xs++zs))))
theorem Lu:dU X (SK .Add) PU:=by
 intro d s σ H x y v u Q I g f h;obtain⟨l,b,A,t,rfl,rfl,k,m,C,q⟩:=h;cases g;cases f;obtain⟨z,c,n,r,D,e⟩:=I.zg k;obtain⟨w,a,B,i,j,p⟩:=I.zg m;refine PySem.P.add_list e p ?_ (by rw[Q9,Q9];omega);have o:c.toArray++a.toArray=(c++a).toArray:=by simp
 rw[o];exact⟨.ref _,_,I.Ge (t':=s.toks) (r.append i) (by rw[R7];omega),rfl,q _ I.fresh⟩
def P5:R2:=λx y H Q=>∃l k xs,x=.ref l/\y=.int k/\H l=Zz (.lst xs)/\-(2^63)<=k/\k<2^63/\xs.length*k.toNat<=RP /\
 ∀p,H p=Zy->Q (.ref p) (upd H p (.lst (R4 k.toNat xs).flatten))
theorem len_rep{α:Type}(xs:List α)(k:Nat):(R4 k xs).flatten.length=k*xs.length:=by
 induction k with
 |zero=>simp
 |succ k c=>rw[SN,Sb,R7,c,Nat.succ_mul,Nat.add_comm]
theorem Lr:dU X (SK .Mult) P5:=by
 intro w s σ H x y v u Q I rx ry h;obtain⟨l,k,xs,rfl,rfl,hH,h1,h2,A,q⟩:=h;cases rx;obtain⟨t,rfl⟩:=ry;obtain⟨z,b,n,r,hl,e⟩:=I.zg hH;have g:b.toArray.size*k.toNat<=RP:=by rw[Q9,<-hl];exact A
 have j:¬b.toArray.size*k.toNat>(2^63-1) / 8:=by
  have:(RP:Nat)<=(2^63-1) / 8:=by decide
  omega
 have i:¬(!Builtin.List.listFitsIndex k)=true:=by
  rw[WQ h1 h2];exact RG
 have d:¬Ua (b.toArray.size*k.toNat)=true:=by
  rw[FL g];exact RG
 have f:Vi (λp o=>p++o) #[] (R4 (if b.toArray.isEmpty=true then 0 else k.toNat) b.toArray)=(R4 k.toNat b).flatten.toArray:=by
  have f0:∀m:Nat,Vi (λp o=>p++o) #[] (R4 m b.toArray)=(R4 m b).flatten.toArray:=λm=>by
   have:=foldl_rep b m [];rw[T9]at this;exact this
  rw[f0];cases b with
  |nil=>simp
  |cons a r'=>rw[Xg (by simp)]
 refine wpAny_binaryOp_repeat_ref (T:="list") (U:="int") (by decide) ⟨_,e,rfl⟩ (λs'=>WH s' k t) noFill_list_mul F.fills_int_mul VL repeat_list F.slot_int_index.lookup
  (Sx VL (WH s k t) F.entry_int_rmul (F.args_int_rmul_2 _ _) (int___rmul___int_list k t l b.toArray n)
   ⟨e,rfl,⟨_,e,rfl⟩,Sx F.slot_list_mul ⟨_,e,rfl⟩ F.entry_list_mul (F.args_list_mul_2 _ _) (AutoListH.list___mul___list_int_3 l b.toArray n k t i j d) ⟨e,?_⟩⟩)
 rw[f];exact⟨.ref _,_,I.Ge (t':=s.toks) (r.rep k.toNat) (by rw[len_rep,VY];exact A),rfl,q _ I.fresh⟩
end
section
variable{prog:Rk}{w:Rz}{A:SH}{E:Q2->Q7->Prop}{s:Q7}
set_option maxRecDepth 100000 in
end
end L2
namespace Att
open PySem PySem.W PySem.Calls PyProof.Rows
theorem pL{P:Params}{h:Rm}:∀(ns:List Int) (e:List Q2),WellAll P h e (ns.map WData.int)->We e ns:=by
 intro ns
 induction ns with
 |nil =>
  intro e w;rw[T3]at w;cases w;exact .nil
 |cons n ns ih =>
  intro e w;rw[R8]at w;cases w with
  |cons a b =>
   cases a;exact .cons _ _ (ih _ b)
theorem Ds{l:Ws}(hn:l.most=Zz n)(c:l.row.toRowW.claim.pre args=true)(k:WellAll P h vals args):
  ∃a vs b,vals=[SV a]/\args=[WData.list (b.map WData.int)]/\h.get? a=Zz { cls:=.type "list",data:=.seq vs.toArray }/\We vs b/\b.length<=n:=by
 have m:WShape.hasAll [] args [.list .int]=true:=(pre_splitW c).1;have o:l.pre.holds [] { args:=args }=true:=(pre_splitW c).2;obtain⟨d,r,rfl,h1,h2⟩:=hasAllW_cons m;obtain rfl:=hasAllW_nil h2;obtain⟨xs,rfl,h3⟩:=hasW_list h1;obtain⟨b,rfl⟩:=items_int h3;have f:b.length<=n:=by
  unfold OpenLaw.pre at o;have j:(WTm.not (.lt (.lit (.int (n:Int))) (.len (.arg 0)))).holds [] { args:=[.list (b.map .int)] }=true:=by
   have j:=(holds_andW o).1;rw[hn]at j;exact j
  have i:=condW_of j (w_not (w_lt w_lit (w_len_list (w_arg rfl))));rw[Q4]at i;refine Nat.le_of_not_lt λq=>?_
  have q':(n:Int)<((b.length:Nat):Int):=by omega
  first
   |(rw[Xi q']at i;exact Xk i (by decide))
   |(simp at i;omega)
 cases k with
 |cons w1 w2 =>
  cases w2;cases w1 with
  |list ho g=>exact⟨_,_,b,rfl,rfl,ho,pL b _ g,f⟩
theorem Dc(l:Ws)(args:List WData):l.row.toRowW.claim.post args (.bool true) args=true:=
 postW_of (r:=l.row.toRowW) (X:=(true==true))
  (show WShape.has [] (.bool true) .bool=true by first|rfl|decide|simp[WShape.has,WShape.arms,WShape.armsAll])
  (show(WTm.eq .res (.lit (.bool true))).value [] { args:=args,res:=Zz (.bool true),after:=args }=Zz (.bool (true==true))from w_eq_bool (w_res rfl) w_lit) rfl
theorem yx{l:Ws}(L:l.most=Zz n)(A:d.params.defaults=[])(call:∀(w:Rz) (c b:Q7) (t x:Str->Option Q2) (m:Q8) (o:Obj) (v u g:Q2) (a:Q8) (h:List Q2) (s:List Int),
   Ground q loose [] XP w c t x b.heap->YP w b.heap ->
   b.heap.get? m=Zz o->o.data=.func (docDef d.name d.params d.body d.scope v u g)->b.heap.CodeRec u d.name->t d.name=Zz (.ref m) ->
   b.heap.get? a=Zz { cls:=.type "list",data:=.seq h.toArray }->We h s->s.length<=n->b.gens=#[] ->
   Tc (RC l.prog w) Wf (.call (.ref m) ⟨[.ref a],[]⟩) (λr p=>r=.ok (.ret (.bool true))/\OldK b.heap p.heap/\p.os=b.os/\VB p.gens) b):
  WalkO q loose XP YP l.row.toRowW d [] (λf h=>U3 f h):=by
 intro w c b t x G Y m o v u g T H K P B E z O F C U i D I y N;obtain rfl:T=.none:=Dflts.none E A;obtain rfl:H=.none:=Dflts.noKw E;obtain⟨a,h,s,rfl,rfl,j,e,k⟩:=Ds L i y;refine enter_call (Td (call w c b t x m o v u g a h s G Y K (fd_plain P) B z j e k O) λr p J=>?_);obtain⟨rfl,S,R,Q⟩:=J;exact⟨.inl ⟨.bool true,.bool true,[],rfl,λ_=>rfl,.bool true,Dc l _,λ_=>⟨List.Pairwise.nil,λ_ M=>(nomatch M)⟩⟩,S,R,Q⟩
end Att
namespace L2
open PySem PySem.Spec PyProof.Rows
theorem tY:∀{a:List Q2}{b:List Int},We a b->Vals (b.map V.int) a
 |_,_,.nil=>.nil
 |_,_,.cons n t h=>.cons ⟨t,rfl⟩ (tY h)
noncomputable def fA(s:Rv):Arguments:=match s with
 |.FunctionDef _ a _ _ _ _ _ _ _ _=>a
 |_=>{ posonlyargs:=[],args:=[],vararg:=Zy,kwonlyargs:=[],kw_defaults:=[],kwarg:=Zy,defaults:=[] }
noncomputable def bR(s:Rv):List Rv:=match s with
 |.FunctionDef _ _ b _ _ _ _ _ _ _=>b
 |_=>[]
noncomputable def ai(s:Rv):VF:=match s with
 |.FunctionDef _ _ _ _ _ _ sc _ _ _=>sc
 |_=>{ kind:=.function,names:=[],isGenerator:=false,isCoroutine:=false }
noncomputable abbrev Qk:JB:=λ_ _ _ _ _ _=>False
structure HV (K:Rf) (x qual:Str) (st:Rv) (f:Q8) (fd:Tb):Prop where
 ex:∃(oc:Q2) (od:Option Q8) (kV doc pm:Q2) (an:Option Q8) (cdv ct:Q2) (osl:Array (Option Q2)),
  fd=fnOf x qual (fA st) (bR st) (ai st) .none kV doc pm an cdv ct/\K.lookup f=Zz ⟨oc,od,.func fd,osl⟩/\codeIn K cdv qual=true
 kp:keepIn K (.ref f)=true
section
variable{P:Rk}{w:Rz}{K:Rf}{mg:Str->Option Q2}{base:Rm}
theorem HV.binds{st:Rv}(F:HV K x qual st f fd)(h:∀(d a c:Q2) (g:Option Q8) (b e:Q2) (us:List Q2),us.length=ps.length->TQ (fnOf x qual (fA st) (bR st) (ai st) .none d a c g b e) ⟨us,[]⟩=pure (ps.zip us)):Binds K fd ps []:=by
 obtain⟨l,k,d,a,c,g,b,e,i,rfl,m,j⟩:=F.ex;exact .all (h d a c g b e)
theorem zF{st:Rv}{e b d a g:Q2}(l:K.lookup f=Zz ⟨oc,od,.func (fnOf x qual (fA st) (bR st) (ai st) .none e b d an a g),osl⟩)(c:codeIn K a qual=true)(k:keepIn K (.ref f)=true):HV K x qual st f (fnOf x qual (fA st) (bR st) (ai st) .none e b d an a g):=⟨⟨oc,od,e,b,d,an,a,g,osl,rfl,l,c⟩,k⟩
end
theorem BD{A B:Prop}(h:B):if false=true then A else B:=by
 rw[Xg RG];exact h
theorem Ai{A B:Prop}(h:A):if true=true then A else B:=by
 rw[Xf rfl];exact h
end L2
end
section
namespace L2
open PySem PySem.Spec PyProof.Rows
section
variable{κ:Type}[DecidableEq κ]
noncomputable def mZ(kvs:List (κ×V))(k:κ):Option V:=(kvs.find? λkv=>decide (kv.1=k)).map (·.2)
theorem HE{k:κ}(e:p.1=k):mZ (p::r) k=Zz p.2:=by simp[mZ,U8,e]
theorem F0{k:κ}(e:¬p.1=k):mZ (p::r) k=mZ r k:=by simp[mZ,U8,e]
theorem KV.val{d:List (κ×Q2)}(r:KV kvs d)(k:κ):pN (mZ kvs k) (WI d k):=by
 unfold KV at r
 induction r with
 |nil=>exact U1
 |@cons p q m a h t j =>
  obtain⟨f,l⟩:=h;by_cases e:p.1=k
  ·have c:q.1=k:=f.symm.trans e
   have b:WI (q::a) k=Zz q.2:=by simp[WI,U8,c]
   rw[HE e,b];exact l
  ·have c:¬q.1=k:=λz=>e (f.trans z)
   have b:WI (q::a) k=WI a k:=by simp[WI,U8,c]
   rw[F0 e,b];exact j
end
theorem Hd(r:RelV (kV k) u):(eC P w).is k u=true:=by
 cases k with
 |inl i=>obtain⟨t,e⟩:=(show ∃t,u=WZ i t from r);subst e;exact zk P w i t
 |inr x=>obtain⟨t,e⟩:=(show ∃t,u=UQ x t from r);subst e;exact zm P w x t
abbrev KT(H:Hp):List (List Key×V)->List (List Key×Q8×Q2)->Prop:=Sl λp q=>p.1=q.1/\H q.2.1=Zz (.tup (p.1.map kV))/\RelV p.2 q.2.2
def NW(i:Rq):Prop:=∀ov iv,WP i false ov iv=operate [ov,iv] (VC ov iv)
theorem I0{prog:Rk}{w:Rz}{A:SH}{E:Q2->Q7->Prop}{s:Q7}{env:Env}{value slice:Rq}{pos:Pos}{T id:String}{Q:Q2->Q7->Prop}(l:WG (.type T) "__getitem__" = pure (Zz (.builtin id)))(k:NW slice)(h:RB (RC prog w) A (eval value env) (λo d=>RB (RC prog w) A (eval slice env) (λi s₂=>s₂.TypeIs o T/\RB (RC prog w) A (VC o i) Q E s₂) E d) E s):
  RB (RC prog w) A (eval (.Subscript value slice pos) env) Q E s:=by
 refine XA (SQ h (λo d g=>SQ g (λi s₂ b=>?_) λ_ _ x=>x) λ_ _ x=>x);obtain⟨j,b⟩:=b;unfold Wk;refine Q0 ?_;rw[getitemInPython_of_ne j.not_modules];refine Q0 (wpAny_specialOf j l ?_);have e:RB (RC prog w) A (WP slice false o i) (λr c=>RB (RC prog w) A (letTemporaryGo value o r >>= λ_=>pure r) Q E c) E s₂:=by
  rw[k o i];exact wpAny_operating (SQ b (λr c f=>Q0 (wpAny_letTemporaryGo (Q5 f))) λ_ _ x=>x)
 first
  |exact Q5 (Q0 e)
  |exact Q0 (Q5 (Q0 e))
  |exact Q0 e
end L2
namespace Mi
open PySem PySem.Spec PyProof.Rows L2
theorem sX(t:U9)(n:Nat):(t.orStandIn n).led=t.led:=by unfold SetTable.orStandIn;split<;>rfl
theorem pQ(t:U9)(n:Nat)(h:t.plain=false):(t.orStandIn n).plain=false:=by unfold SetTable.orStandIn;split<;>first|exact h|rfl
theorem Ad(t:U9)(es:Array (Int×Q2))(h:Int)(x:Q2):(layNew t es h x).2.1.led=t.led:=by
 unfold layNew;split
 ·exact sX _ _
 ·rfl
theorem wj(t:U9)(es:Array (Int×Q2))(h:Int)(x:Q2)(hp:t.plain=false):(layNew t es h x).2.1.plain=false:=by
 unfold layNew;split
 ·exact pQ _ _ hp
 ·rfl
theorem rZ{t t':U9}(h:t.relaid hs n=Zz (t',o)):t'.led=t.led/\t'.plain=t.plain:=by
 unfold SetTable.relaid SetTable.laid at h;simp only[Option.bind_eq_bind]at h;obtain⟨w,_,h2⟩:=Uq.mp h;cases h2;exact⟨rfl,rfl⟩
theorem vJ(t:U9)(es:Array (Int×Q2))(n:Nat):(Vj t es n).2.1.led=t.led:=by
 unfold Vj;split
 ·rename_i t' o h
  dsimp only;split
  ·exact(rZ h).1
  ·rfl
 ·rfl
theorem rG(t:U9)(es:Array (Int×Q2))(n:Nat)(hp:t.plain=false):(Vj t es n).2.1.plain=false:=by
 unfold Vj;split
 ·rename_i t' o h
  dsimp only;split
  ·exact(rZ h).2.trans hp
  ·rfl
 ·rfl
structure NH (prog:Rk) (w:Rz) (led:Bool) (o:Obj) (D:List Str) (es:Array (Int×Q2)) (ep:Nat) (t:U9):Prop where
 ex:o.ExactSet
 data:o.data=.set es ep t
 el:ElemsOf (SM prog w) es.toList
 N6:(es.toList.map λe=>strOf e.2).Perm D
 nd:D.Nodup
 room:es.size<V7
 fits:t.fits es.size=true
 led:t.led=led
 plain:es.size≠0->t.plain=false
inductive ms (prog:Rk) (w:Rz) (led:Bool) (h:Rm) (a:Q8) (D:List Str)  : Prop where
 |mk (o es ep t) (_:h.get? a=Zz o) (_:NH prog w led o D es ep t)
theorem pr(h:Ti x v=true):strOf v=x:=by
 obtain⟨t,rfl⟩:=VR h;rfl
section
variable{prog:Rk}{w:Rz}{A:SH}{E:Q2->Q7->Prop}{s:Q7}{led:Bool}
theorem Fk(h:∃k,(SM prog w).is k v=true):Ti (strOf v) v=true:=by
 obtain⟨k,hk⟩:=h;have hk:=hk;rw[pr hk];exact hk
theorem yz(he:ElemsOf (SM prog w) es)(k:Str):(∃e∈es,(SM prog w).is k e.2=true)↔k∈es.map λe=>strOf e.2:=by
 constructor
 ·rintro ⟨e,he,hk⟩
  exact Rb.mpr ⟨e,he,pr hk⟩
 ·intro h
  obtain⟨e,hm,rfl⟩:=Rb.mp h;obtain⟨⟨k,hk,_⟩,_⟩:=he e hm;exact⟨e,hm,Fk ⟨k,hk⟩⟩
theorem add_str(hS:ms prog w led s.heap a D)(hroom:D.length+1<V7)(h:∀h' b,UR a s.heap h'->ms prog w led h' a (if x∈D then D else D++[x])->Q b { s with heap:=h' }):
  RB (RC prog w) A (Wt a (.str x tk) (hashStr w x)) Q E s:=by
 obtain⟨o,es,ep,t,ho,hE⟩:=hS;have hex:=hE.ex;have hd:=hE.data;have hel:=hE.el;have hf:=hE.fits;have hkey:(SM prog w).is x (.str x tk)=true:=by show Ti x (.str x tk)=true;simp[Ti]
 have hsc:(UQ x tk).scannable=true:=rfl;have hlen:es.size=D.length:=by rw[<-hE.N6.length_eq,Q4,Rr]
 show RB (RC prog w) A (Wt a (.str x tk) ((SM prog w).hash x)) Q E s;unfold Wt setAddHashedIn;refine SF (Q0 (Sc ho hd hf ?_));dsimp only;rw[byScan_of hsc hE.room hel];simp only[↓reduceIte];unfold setAddByScan;refine Q0 ?_;refine Q0 (Uk ?_);refine Q0 (wpAny_setScan_of hkey ho hd hf hel ?_);cases hr:List.findIdx? (λe=>(SM prog w).is x e.2) es.toList with
 |some j =>
  obtain⟨hj,hpj,_⟩:=List.findIdx?_eq_some_iff_getElem.mp hr;have hm:=hE.N6.mem_iff.mp ((yz hel x).mp ⟨_,Ts hj,hpj⟩);refine Q5 (Q5 ?_);have:=h s.heap false (Heap.SameBut.refl a s.heap) (by rw[Xf hm];exact⟨o,es,ep,t,ho,hE⟩);exact this
 |none =>
  have hm:x∉D:=λhx=>by
   obtain⟨e,he,hp⟩:=(yz hel x).mpr (hE.N6.mem_iff.mpr hx);have:=List.findIdx?_eq_none_iff.mp hr e he;rw[hp]at this;exact Bool.noConfusion this
  have hgw:∀(b:Bool) (s₁:Q7) (Q':Unit->Q7->Prop),Q' () s₁->RB (RC prog w) A (match b with|true=>rule "set.scan.the-table-gave-way" | false=>pure ()) Q' E s₁:=
   λb s₁ Q' hq=>by cases b<;>first|exact Q5 hq|exact Uk hq
  have hperm:=layNew_perm t es ((SM prog w).hash x) (.str x tk);have hfits:=layNew_fits t es ((SM prog w).hash x) (.str x tk);have hled:=Ad t es ((SM prog w).hash x) (.str x tk);have hplain:=wj t es ((SM prog w).hash x) (.str x tk);generalize hL:layNew t es ((SM prog w).hash x) (.str x tk)=L at hperm hfits hled hplain ⊢;obtain⟨es1,t1,wasDummy,gave⟩:=L;dsimp only at hperm hfits hled hplain ⊢;rw[Array.toList_push]at hperm;have hel1:=(hel.push hkey hsc).perm hperm;have hsz1:es1.size=es.size+1:=by rw[<-Rr,hperm.length_eq,R7,Rr];rfl
  have hb1:es1.size<V7:=by omega
  have hst1:(es1.toList.map λe=>strOf e.2).Perm (D++[x]):=by
   refine(hperm.map _).trans ?_;rw[Ug];exact hE.N6.append_right _
  have hnd:(D++[x]).Nodup:=by
   rw[List.nodup_append];refine⟨hE.nd,by simp,λy hy z hz=>?_⟩;rw[Rp.mp hz];exact λe=>hm (e▸hy)
  -- the end,at a table that is plain no more
  have fin:∀t2:U9,t2.led=led->t2.plain=false->t2.fits es1.size=true->RB (RC prog w) A (do
    storeSet a es1 t2
    if(!wasDummy&&t2.tooFull)=true then do
      (match(Vj t2 es1 (TV es1.size)).2.2 with|true=>rule "set.scan.the-table-gave-way" | false=>pure ())
      storeSet a (Vj t2 es1 (TV es1.size)).1 (Vj t2 es1 (TV es1.size)).2.1
      pure (Zz true)
     else pure (Zz true)) (λr s'=>match r with
      |some b=>Q b s'
      |none=>False) E s:=λt2 hl2 hp2 hf2=>by
   have hg1:(s.heap.update a (Vk es1 t2)).get? a=Zz { o with data:=.set es1 (ep+1) t2 }:=by
    have:=Ry (Vk es1 t2) ho (by rw[putSet_of es1 t2 hd];rfl);rw[putSet_of es1 t2 hd]at this;exact this
   have hsb1:=SO s.heap a (Vk es1 t2);refine Q0 (wpAny_storeSet_of ho hd ?_ (Vr hb1));split
   ·have hp:=relayAll_perm t2 es1 (TV es1.size)
    have hfr:=relayAll_fits t2 es1 (TV es1.size);have hrl:=vJ t2 es1 (TV es1.size);have hrp:=rG t2 es1 (TV es1.size) hp2;generalize Vj t2 es1 (TV es1.size)=Rl at hp hfr hrl hrp ⊢;obtain⟨es2,t3,gave2⟩:=Rl;dsimp only at hp hfr hrl hrp ⊢;have hsz:es2.size=es1.size:=by rw[<-Rr,hp.length_eq,Rr]
    refine Q0 (hgw _ _ _ ?_);refine Q0 (wpAny_storeSet_of hg1 rfl ?_ (Vr (by omega)));have hg2:((s.heap.update a (Vk es1 t2)).update a (Vk es2 t3)).get? a=Zz { o with data:=.set es2 (ep+1+1) t3 }:=
     Ry (Vk es2 t3) hg1 rfl
    refine Q5 (h _ true (hsb1.trans (SO _ a _)) ?_);rw[Xg hm];exact⟨_,es2,_,t3,hg2,⟨hex,rfl,hel1.perm hp,(hp.map _).trans hst1,hnd,by omega,hfr,hrl.trans hl2,λ_=>hrp⟩⟩
   ·refine Q5 (h _ true hsb1 ?_)
    rw[Xg hm];exact⟨_,es1,_,t2,hg1,⟨hex,rfl,hel1,hst1,hnd,hb1,hf2,hl2,λ_=>hp2⟩⟩
  refine Q0 (hgw _ _ _ ?_);have done:∀{r:Option Bool}{s':Q7},(match r with
    |some b=>Q b s'
    |none=>False)->RB (RC prog w) A (match r with
     |some added=>pure added
     |none=>setAddHashedIn a (.str x tk) ((SM prog w).hash x) 99999) Q E s':=λ{r s'} hr=>by
   cases r with
   |none=>exact hr.elim
   |some b=>exact Q5 hr
  split
  ·refine Q0 ?_
   rw[hashByValue_scannable 8 hsc];refine Q5 ?_;exact SQ (fin { t1 with plain:=false } (hled.trans hE.led) rfl (SetTable.fits_plain_off hfits)) (λr s' hr=>done hr) λ_ _ e=>e
  ·rename_i hpl
   refine Q0 (Q5 ?_);simp only[↓reduceIte];exact SQ (fin t1 (hled.trans hE.led) (by simpa using hpl) hfits) (λr s' hr=>done hr) λ_ _ e=>e
noncomputable def dd(val:Nat->Str):Nat->List Str
 |0=>[]
 |i+1=>if val i∈dd val i then dd val i else dd val i++[val i]
theorem BC(val:Nat->Str):∀i,(dd val i).length<=i
 |0=>R1 _
 |i+1=>by
  have:=BC val i;unfold dd;split
  ·omega
  ·rw[R7,UD];omega
noncomputable abbrev eK(w:Rz):Bool:=!w.params.followText "set-order"
theorem ms.at'(hS:ms prog w led h a D)(k:∀o,h.get? a=Zz o->h'.get? a=Zz o):ms prog w led h' a D:=by
 obtain⟨o,es,ep,t,ho,hE⟩:=hS;exact⟨o,es,ep,t,k o ho,hE⟩
theorem Gx{St:Nat->Q7->Prop}(W:WalksS prog w A.in1 I fp wr G n P St)(S:Q8)(hSf:S∉fp)(val:Nat->Str)(hval:∀i v,P i v->∃t,v=.str (val i) t)(hb:n+1<V7):∀(k i:Nat) (s:Q7),n-i=k->i<=n->St i s->ms prog w led s.heap S (dd val i) ->
   (∀s',Moved (S::wr) G s s'->ms prog w led s'.heap S (dd val n)->R (.ok (.ret .none)) s')->Tc (RC prog w) A (.builtin "set.update.loop" ⟨[.ref S,.ref I],[]⟩) R s:=by
 have hSw:=λh=>hSf (W.sub _ h)
 have hsub:∀b∈wr,b∈S::wr:=λb hb=>R5 _ hb
 intro k
 induction k with
 |zero =>
  intro i s hk hi hst hS hR;have hin:i=n:=by omega
  subst hin;refine UA PyProof.Rows.F.entry_set_update_loop ?_;rw[Te TD _];refine Q0 (W.done s _ _ hst λs' hm=>?_);exact Q5 (hR s' (hm.mono hsub) (hS.at' λo ho=>hm.heap S _ hSw ho))
 |succ k ih =>
  intro i s hk hi hst hS hR;have hlt:i<n:=by omega
  refine UA PyProof.Rows.F.entry_set_update_loop ?_;rw[Te TD _];refine Q0 (W.item i s _ _ hlt hst λv s' hP hst' hm=>?_);obtain⟨t,rfl⟩:=hval i v hP;have hS':=hS.at' λo ho=>hm.heap S _ hSw ho
  refine Q0 (SF ?_);unfold setAdd;refine SF ?_;refine Q0 ((SM prog w).pyHash (by show Ti (val i) (.str (val i) t)=true;simp[Ti]) ?_);have hroom:(dd val i).length+1<V7:=by have:=BC val i;omega
  refine add_str hS' hroom λh' b hsb hS2=>?_
  refine Q5 ⟨W1 TD _,ih (i+1) _ (by omega) hlt (W.frame _ s' _ _ hst' (TK _) λb hb o e=>?_) hS2 λs'' hm'' hS''=>?_⟩
  ·rw[hsb.2 b (λh:b=S=>hSf (by rw[<-h];exact hb))];exact e
  ·refine hR s'' (Moved.trans W.gtrans ((hm.mono hsub).then_heap (TK _) λb o hb e=>?_) hm'') hS''
   rw[hsb.2 b (λh:b=S=>hb (by rw[h];exact RU))];exact e
theorem ES(a:Q2)(h:Q₁ (.ref s.heap.objs.size) { s with heap:=s.heap.push { cls:=.type "set",dict:=Zy,data:=.set #[] 0 (.fresh 0 0 (eK w)) } }):
  Tc (RC prog w) A (.call (.builtin "set.__new__") ⟨[.type "set",a],[]⟩) (wants Q₁ E) s:=by
 refine Uh ?_;refine Q0 (X4 (PySem.F.newCall_set_1 a) (Q5 ⟨W1 PySem.F.plain_set_new _,UA PySem.F.entry_set_new ?_⟩));rw[Te PySem.F.plain_set_new _];unfold Builtin.«set.__new__» Builtin.Frozenset.newClass;have hsub:=sub_set_self;obtain⟨hp,g,d,tk,os⟩:=s
 wp_walk
 refine Tt (Q5 ?_);simp only[newObj];refine Q0 (wpAny_alloc (Q5 ?_));exact Q5 h
theorem Eb(ha:h.get? a=Zz { cls:=.type "set",dict:=Zy,data:=.set #[] 0 (.fresh 0 0 led) }):ms prog w led h a []:=
 ⟨_,#[],0,_,ha,⟨⟨rfl,rfl,rfl⟩,rfl,λe he=>by simp at he,List.Perm.nil,List.nodup_nil,by unfold V7;decide,rfl,rfl,λh=>Xk rfl h⟩⟩
set_option maxHeartbeats 3200000 in
theorem tF(hh:A.handled=Zy)(hl:s.heap.IsList l items)(hv:∀(i:Nat) v,items[i]?=Zz v->∃t,v=.str (val i) t)(hb:items.size+1<V7)(h:∀(h':Rm) (tk:Nat),ms prog w (eK w) h' s.heap.objs.size (dd val items.size)->(∀b o,s.heap.get? b=Zz o->h'.get? b=Zz o)->Q (.ref s.heap.objs.size) { s with heap:=h',toks:=tk }):
  RB (RC prog w) A (U3 (.type "set") [.ref l]) Q E s:=by
 obtain⟨c,tl,hmro⟩:=PySem.F.called_set.mro;have hmade:=PySem.F.called_set.made;have hsub:=PySem.F.called_set.sub;refine Vg (Uh ?_);refine Q5 ⟨Vl _ (by decide +kernel),UA PySem.F.entry_type_call ?_⟩;rw[Around.under_plain (weight_type_call_type "set" [.ref l] []) rfl];have h1:=PySem.F.called_set.notType;have h2:=PySem.F.called_set.canCreate;have hct:=PySem.F.typeCall_set_1 (.ref l)
 repeat (any_goals (first|assumption|wp_step))
 refine Td (ES (.ref l) (E:=E) (Q₁:=λobj s₁=>obj=.ref s.heap.objs.size/\s₁={ s with heap:=s.heap.push { cls:=.type "set",dict:=Zy,data:=.set #[] 0 (.fresh 0 0 (eK w)) } }) ⟨rfl,rfl⟩) λr s₁ hr=>?_
 cases r with
 |error e=>exact hr
 |ok fl =>
  cases fl with
  |ret obj =>
   obtain⟨rfl,rfl⟩:=hr;have hS:(s.heap.push { cls:=.type "set",dict:=Zy,data:=.set #[] 0 (.fresh 0 0 (eK w)) }).get? s.heap.objs.size=Zz { cls:=.type "set",dict:=Zy,data:=.set #[] 0 (.fresh 0 0 (eK w)) }:=RL _ rfl;have hT:Wl { s with heap:=s.heap.push { cls:=.type "set",dict:=Zy,data:=.set #[] 0 (.fresh 0 0 (eK w)) } } (.ref s.heap.objs.size) "set":=⟨_,hS,rfl⟩
   have hli:=PySem.F.called_set.init.lookup;have hbi:=PySem.F.called_set.init.bind (.ref s.heap.objs.size)
   repeat (any_goals (first|assumption|wp_step))
   refine Td (VG (R:=wants (λr s₂=>r=.none/\∃h' tk,s₂={ s with heap:=h',toks:=tk }/\ms prog w (eK w) h' s.heap.objs.size (dd val items.size)/\(∀b o,s.heap.get? b=Zz o->h'.get? b=Zz o)) E) PySem.F.called_set.init.plain PySem.F.entry_set_init (check_set_init_1 hT ?_)) λr₂ s₂ hr₂=>?_
   ·obtain⟨ol,hol,hcl,nl,hdl⟩:=hl
    obtain⟨ocls,odict,odata,oslots⟩:=ol;simp only at hcl hdl;subst hcl;subst hdl;have hol':(s.heap.push { cls:=.type "set",dict:=Zy,data:=.set #[] 0 (.fresh 0 0 (eK w)) }).get? l=Zz { cls:=.type "list",dict:=odict,data:=.seq items nl,slots:=oslots }:=Q6 _ hol;have hsls:=PySem.F.sub_list_set;have hslf:=PySem.F.sub_list_frozenset;have hne:(Va "list" == Va "dict")=false:=by decide
    have hl1:(s.heap.push { cls:=.type "set",dict:=Zy,data:=.set #[] 0 (.fresh 0 0 (eK w)) }).IsList l items:=⟨_,hol',rfl,nl,rfl⟩
    unfold Builtin.«set.__init__» noKeywords Builtin.Frozenset.updateFrom;generalize hPI:pyIter=PI
    wp_walk
    subst hPI;refine Vs hl1 ?_;refine Q0 (wpAny_runValue ?_);have hlS:=RH hol;have hh3:A.in1.in1.in1.handled=Zy:=by simp[hh]
    have hneI:l≠(s.heap.push { cls:=.type "set",dict:=Zy,data:=.set #[] 0 (.fresh 0 0 (eK w)) }).objs.size:=by
     rw[SL];exact Rc (Sn hlS)
    have hSf:s.heap.objs.size∉[(s.heap.push { cls:=.type "set",dict:=Zy,data:=.set #[] 0 (.fresh 0 0 (eK w)) }).objs.size,l]:=by
     rw[SL];simp only[R6,Rp,R3,or_false,not_or];exact⟨Rc (TM _),Uy hlS⟩
    refine Gx (led:=eK w) ((Walks.list hh3 _ l hneI items).toS) s.heap.objs.size hSf val hv hb (items.size-0) 0 _ (by omega) (Ur _)
     ⟨⟨_,RL _ rfl,rfl,rfl⟩,(hl1.push _)⟩ ?hS0 ?hR
    case hS0 =>
     exact Eb (Q6 _ hS)
    case hR =>
     intro s' hm hS';obtain⟨h',g',d',tk',os'⟩:=s';have eg:=hm.gens;have ed:=hm.drawn;have eo:=hm.os;subst eg;subst ed;subst eo;refine Q5 ?_;refine Q5 ⟨rfl,h',tk',rfl,hS',λb o e=>?_⟩;have hb:=RH e;have hb1:=Rc hb;have hb2:b≠(s.heap.push { cls:=.type "set",dict:=Zy,data:=.set #[] 0 (.fresh 0 0 (eK w)) }).objs.size:=by
      rw[SL];exact Rc (Sn hb)
     exact hm.heap b o (by simp only[R6,Rp,R3,or_false,not_or];exact⟨hb1,hb2⟩) (Q6 _ (Q6 _ e))
   ·cases r₂ with
    |error e=>exact hr₂
    |ok fl₂ =>
     cases fl₂ with
     |ret r =>
      obtain⟨rfl,h',tk,rfl,hS',hk'⟩:=hr₂
      repeat (any_goals (first|assumption|wp_step))
      exact h _ _ hS' hk'
     |_=>exact hr₂.elim
  |_=>exact hr.elim
end
end Mi
namespace PySem.F
theorem iR:Manifest.owners.lookup (String.ofList ['r','o','t','a','r','e','t','i','_','t','e','s'].reverse)=Zz Manifest.sig_set_iterator:=by kernel_rfl
theorem aH:Slot "set_iterator" "__next__" "set_iterator.__next__" :=
 .of (owner:="set_iterator") (n:="__next__") (by rw[typeLookup_type,builtinLookup_eq_fast];kernel_rfl) (by decide +kernel) (by decide +kernel) (by decide +kernel)
  (by first|exact .inl (by decide +kernel)|exact .inr (by decide +kernel)) (by rw[WR];kernel_rfl)
theorem bG:Xa table "set_iterator.__next__" = Zz Builtin.«set_iterator.__next__»:=entryFor_of_tree (by kernel_rfl)
theorem bC(a:Q2):argsOk "set_iterator.__next__" ⟨[a],[]⟩:=by
 unfold argsOk;rw[signature?_of (n:=['_','_','t','x','e','n','_','_']) (by kernel_rfl) iR];kernel_rfl
theorem lg:Xa table "set.__iter__" = Zz Builtin.«frozenset.__iter__»:=entryFor_alias (id':="frozenset.__iter__") (by kernel_rfl) rfl (by decide +kernel) (by kernel_rfl)
end PySem.F
namespace Mi
open PySem PySem.Spec PyProof.Rows L2
section
variable{M:X8}{A:SH}{E:Q2->Q7->Prop}{s:Q7}
theorem wp_choose'(b:n≠0)(h:∀i d,i<n->Q i { s with drawn:=d }):RB M A (choose src n) Q E s:=
 λΓ p c=>⟨b,h _ _ (XC _ (Nat.pos_of_ne_zero b))⟩
theorem lK{α:Type}:∀(l:List α) (i:Nat) (h:i<l.length),(l[i]::l.eraseIdx i).Perm l
 |_::_,0,_=>.refl _
 |x::l,i+1,h=>by
  have a:i<l.length:=by simpa using h
  exact(List.Perm.swap ..).trans ((lK l i a).cons x)
theorem pw{α:Type}:∀(n:Nat) (xs:List α) {s:Q7}{Q:List α->Q7->Prop},xs.length=n->(∀ys d,ys.Perm xs->Q ys { s with drawn:=d })->RB M A (XO n xs) Q E s
 |0,xs,s,Q,hl,h=>by
  have e:=SG hl;subst e;unfold XO;exact Q5 (h [] s.drawn .nil)
 |n+1,[],s,Q,hl,h=>by simp at hl
 |n+1,x::xs,s,Q,hl,h=>by
  unfold XO;refine Q0 (wp_choose' (by simp) λi d hi=>?_);have e:=Ra hi;rw[e];refine Q0 (pw n ((x::xs).eraseIdx i) (by rw[UM hi,hl];rfl) λys d' hp=>?_);exact Q5 (h _ d' ((hp.cons _).trans (lK _ _ hi)))
theorem u6{α:Type}(next:Nat->Nat):∀(a k:Nat) (left:List α) (b:Array α),left.length=a->(Wu next a k left b).toList.Perm (b.toList++left)
 |0,k,left,b,h=>by
  have e:=SG h;subst e;unfold Wu;rw[RY]
 |a+1,k,left,b,h=>by
  unfold Wu;have c:next k%left.length<left.length:=XC _ (by omega)
  rw[Ra c];refine(u6 next a (k+1) _ _ (by rw[UM c];omega)).trans ?_;rw[Array.toList_push,S3];exact(lK left _ c).append_left _
theorem picked{α:Type}(next:Nat->Nat)(xs:Array α):(Us next xs).toList.Perm xs.toList:=by
 unfold Us;exact u6 next xs.size 0 xs.toList #[] (by simp)
end
section
variable{prog:Rk}{w:Rz}{A:SH}{E:Q2->Q7->Prop}{s:Q7}
def c8(h:Rm)(it a:Q8)(first:Q2)(i n ep:Nat):Prop:=∃o,h.get? it=Zz o/\o.cls=.type "set_iterator"/\o.data=.fields #[first,.int i 0,.ref a,.int n 0,.int ep 0]
theorem c8.typeIs(h:c8 s.heap it a first i n ep):s.TypeIs (.ref it) "set_iterator":=let⟨o,b,c,_⟩:=h;⟨o,b,c⟩
theorem Aq{pp:Nat}(h:c8 s.heap it a (.ref tp) i es.size ep)(ha:s.heap.get? a=Zz o)(hd:o.data=.set es ep t)(hf:t.fits es.size=true)(htp:s.heap.IsTuple tp pl)(hp:pl[i]?=Zz (.int pp 0))(he:es[pp]?=Zz e)(q:∀h',c8 h' it a (.ref tp) (i+1) es.size ep->UR it s.heap h'->Q (Zz e.2) { s with heap:=h' }):RB (RC prog w) A (pyNext (.ref it)) Q E s:=by
 obtain⟨oi,d,hci,b⟩:=id h;obtain⟨ot,hot,_,nt,hdt⟩:=htp;unfold pyNext;refine Q0 (Ub (Si h.typeIs PySem.F.aH (Sj PySem.F.aH h.typeIs PySem.F.bG ?_ (PySem.F.bC _))));unfold Builtin.«set_iterator.__next__» WA;simp only[TN,TL,RV,↓reduceIte,bind_assoc,S2,bne_self_eq_false];refine Q0 (Q5 ?_);refine Q0 (UN d b ?_);refine Q0 (Sa ha hd hf ?_);simp only[bne_self_eq_false,RV,↓reduceIte];refine Q0 (wpAny_seqItems hot hdt ?_);simp only[T6,hp];refine Q0 ?_;unfold setNextDrawn;refine Q0 (Sc ha hd hf ?_);simp only[bne_self_eq_false,RV,↓reduceIte,he];refine Q5 ?_;refine Q0 (Se d b (by simp) (Q5 ⟨_,rfl,Q5 (q _ ⟨_,Ry _ d (Sv (SI b _)),(Vt ..).trans hci,?_⟩ (SO ..))⟩));rw[SI b];simp[rawInt]
theorem d5(h:Q (M.w.params.followText "set-order") s):RB M A setsByText Q E s:=by
 unfold setsByText;exact Q0 (Tt (Q5 h))
theorem sG{Q:Q2->Q7->Prop}(h:c8 s.heap it a f0 i n ep)(q:∀h',c8 h' it a c (i+1) n ep->UR it s.heap h'->Q v { s with heap:=h' }):
  RB (RC prog w) A (do Xb (.ref it) 0 c;Xb (.ref it) 1 (rawInt ((i:Int)+1));ret v) (λfin s'=>∃r,fin=.done (.ret r)/\Q r s') E s:=by
 obtain⟨oi,hoi,hci,d⟩:=id h;refine Q0 (Se hoi d (by simp) ?_);have h1:(s.heap.update it (Tl λx=>x.setIfInBounds 0 c)).get? it=Zz (Tl (λx=>x.setIfInBounds 0 c) oi):=Ry _ hoi (Sv (SI d _));have e:(Tl (λx=>x.setIfInBounds 0 c) oi).data=.fields #[c,.int i 0,.ref a,.int n 0,.int ep 0]:=by rw[SI d];simp
 refine Q0 (Se h1 e (by simp) (Q5 ⟨_,rfl,q _ ⟨_,Ry _ h1 (Sv (SI e _)),(Vt ..).trans ((Vt ..).trans hci),?_⟩ ((SO ..).trans (SO ..))⟩));rw[SI e];simp[rawInt]
theorem C4{i sl:Nat}(hb:w.params.followText "set-order" = true)(h:c8 s.heap it a (.int sl 0) i d.size ep)(ha:s.heap.get? a=Zz o)(hd:o.data=.set d ep t)(hf:t.fits d.size=true)(he:(Us (w.params.setOrder a ep) d)[i]?=Zz e)(q:∀h',c8 h' it a (.int sl 0) (i+1) d.size ep->UR it s.heap h'->Q (Zz e.2) { s with heap:=h' }):RB (RC prog w) A (pyNext (.ref it)) Q E s:=by
 obtain⟨oi,hoi,hci,hdi⟩:=id h;unfold pyNext;refine Q0 (Ub (Si h.typeIs PySem.F.aH (Sj PySem.F.aH h.typeIs PySem.F.bG ?_ (PySem.F.bC _))));unfold Builtin.«set_iterator.__next__» WA;simp only[TN,TL,RV,↓reduceIte,bind_assoc,S2,bne_self_eq_false];refine Q0 (Q5 ?_);refine Q0 (UN hoi hdi ?_);refine Q0 (Sa ha hd hf ?_);simp only[bne_self_eq_false,RV,↓reduceIte];refine Q0 ?_;unfold XV;refine Q0 (Sc ha hd hf ?_);refine Q0 (d5 ?_);show RB _ _ (if w.params.followText "set-order" = true then _ else _) _ _ _;rw[Xf hb];simp only[T6,bne_self_eq_false,RV,↓reduceIte];refine Q0 ?_;unfold setWalk;refine Q0 (Sc ha hd hf ?_);refine Q0 (d5 ?_);show RB _ _ (if w.params.followText "set-order" = true then _ else _) _ _ _;rw[Xf hb];refine Q0 (Tt (Q5 ?_));refine Q5 ?_;show RB _ _ (match((Us (w.params.setOrder a ep) d)[i]?).map λe=>(e.2,sl)with
  |some (x,next)=>_
  |none=>_) _ _ _
 rw[he];exact sG h λh' h1 h2=>Q5 (q h' h1 h2)
theorem K3(j:Nat):T5 #[j] 0=0:=by simp[T5,SetTable.below.go]
theorem LH(j:Nat):T5 #[j] (j+1)=1:=by simp[T5,SetTable.below.go]
theorem lV{α:Type}{Q:α->Q7->Prop}(d:A.handled=Zy)(q:∀g e,(∀c o,s.heap.get? c=Zz o->g.get? c=Zz o)->(∃o,g.get? e=Zz o/\o.cls=.type "StopIteration")->E (.ref e) { s with heap:=g }):RB (RC prog w) A (newExc (.type "StopIteration") [] >>= λe=>(raiseNew e:Sem α)) Q E s:=by
 refine Q0 ?_;simp only[newExc,newTuple];refine Q0 (SS ?_ (by size_fits));refine Q0 (X4 (by first|rfl|(simp only[firstArgMember];rfl)) (SS ?_ (by size_fits)));simp only[raiseNew];refine Q0 (wpAny_handled ?_);rw[d];exact Q0 (Q5 (wpAny_throw (q _ _ (λc o e=>Q6 _ (Q6 _ e)) ⟨_,RL _ rfl,rfl⟩)))
theorem Gc(hb:w.params.followText "set-order" = false)(d:t.led=true)(hpl:t.place=#[j])(h:c8 s.heap it a (.int 0 0) 0 1 ep)(ha:s.heap.get? a=Zz o)(hd:o.data=.set #[e] ep t)(hf:t.fits 1=true)(q:∀h',c8 h' it a (.int (j+1:Nat) 0) 1 1 ep->UR it s.heap h'->Q (Zz e.2) { s with heap:=h' }):RB (RC prog w) A (pyNext (.ref it)) Q E s:=by
 obtain⟨oi,hoi,hci,hdi⟩:=id h;unfold pyNext;refine Q0 (Ub (Si h.typeIs PySem.F.aH (Sj PySem.F.aH h.typeIs PySem.F.bG ?_ (PySem.F.bC _))));unfold Builtin.«set_iterator.__next__» WA;simp only[TN,TL,RV,↓reduceIte,bind_assoc,S2,bne_self_eq_false];refine Q0 (Q5 ?_);refine Q0 (UN hoi hdi ?_);refine Q0 (Sa ha hd hf ?_);rw[Xg (by simp)];refine Q0 ?_;unfold XV;refine Q0 (Sc ha hd hf ?_);refine Q0 (d5 ?_);show RB _ _ (if w.params.followText "set-order" = true then _ else _) _ _ _;rw[Xg (by rw[hb];decide)];split
 ·rename_i b
  have b:(!t.plain&&decide (1>1))=true:=b;simp at b
 ·refine Q0 ?_
  show RB _ _ (if(!t.led&&!(#[e]:Array (Int×Q2)).isEmpty)=true then _ else _) _ _ _;rw[Xg (by rw[d];simp)];refine Q5 ?_;rw[hpl];show RB _ _ (pure (match(#[e]:Array (Int×Q2))[T5 #[j] 0]?,(#[j]:Array Nat)[T5 #[j] 0]? with
   |some (_,x),Zz j=>Zz (x,j+1)
   |_,_=>Zy)) _ _ _
  rw[K3];refine Q5 ?_;exact sG h λh' h1 h2=>Q5 (q h' h1 h2)
theorem AO(hA:A.handled=Zy)(h:c8 s.heap it a f0 i n ep)(b:∀{Q':Fin->Q7->Prop}{E':Q2->Q7->Prop},(∀g e,VH it s.heap g->(∃o,g.get? e=Zz o/\o.cls=.type "StopIteration")->E' (.ref e) { s with heap:=g })->RB (RC prog w) A.in1 (Builtin.«set_iterator.__next__» ⟨[.ref it],[]⟩) Q' E' s)(q:∀g,VH it s.heap g->Q Zy { s with heap:=g }):RB (RC prog w) A (pyNext (.ref it)) Q E s:=by
 unfold pyNext;refine Q0 (Ub (Si h.typeIs PySem.F.aH (Sj PySem.F.aH h.typeIs PySem.F.bG (b λg e k he=>?_) (PySem.F.bC _))));obtain⟨o,ho,hc⟩:=he;exact Q0 (wpAny_isInstance ⟨o,ho,hc⟩ isSubtype_stop (Q5 (q g k)))
theorem Da(hA:A.handled=Zy)(h:c8 s.heap it a (.ref tp) i es.size ep)(ha:s.heap.get? a=Zz o)(hd:o.data=.set es ep t)(hf:t.fits es.size=true)(htp:s.heap.IsTuple tp pl)(hp:pl[i]?=Zy)(q:∀g,VH it s.heap g->Q Zy { s with heap:=g }):RB (RC prog w) A (pyNext (.ref it)) Q E s:=by
 refine AO hA h (λ{Q' E'} r=>?_) q;obtain⟨oi,hoi,hci,hdi⟩:=id h;obtain⟨ot,hot,_,nt,hdt⟩:=htp;unfold Builtin.«set_iterator.__next__» WA;simp only[TN,TL,RV,↓reduceIte,bind_assoc,S2,bne_self_eq_false];refine Q0 (Q5 ?_);refine Q0 (UN hoi hdi ?_);refine Q0 (Sa ha hd hf ?_);simp only[bne_self_eq_false,RV,↓reduceIte];refine Q0 (wpAny_seqItems hot hdt ?_);simp only[T6,hp];refine Q0 (Se hoi hdi (by simp) ?_);have h1:(s.heap.update it (Tl λx=>x.setIfInBounds 0 (rawInt 0))).get? it=Zz (Tl (λx=>x.setIfInBounds 0 (rawInt 0)) oi):=Ry _ hoi (Sv (SI hdi _));have hd1:(Tl (λx=>x.setIfInBounds 0 (rawInt 0)) oi).data=.fields #[rawInt 0,.int i 0,.ref a,.int es.size 0,.int ep 0]:=by rw[SI hdi];simp
 refine Q0 (Se h1 hd1 (by simp) (lV (by simp[hA]) λg e k he=>r g e (λc o n x=>?_) he));exact k c o (((SO ..).trans (SO ..)).extBut c o n x)
theorem EZ{i u:Nat}(hA:A.handled=Zy)(hb:w.params.followText "set-order" = true)(h:c8 s.heap it a (.int u 0) i es.size ep)(p:s.heap.get? a=Zz o)(m:o.data=.set es ep t)(j:t.fits es.size=true)(l:(Us (w.params.setOrder a ep) es)[i]?=Zy)(q:∀g,VH it s.heap g->Q Zy { s with heap:=g }):RB (RC prog w) A (pyNext (.ref it)) Q E s:=by
 refine AO hA h (λ{Q' E'} r=>?_) q;obtain⟨oi,b,hci,d⟩:=id h;unfold Builtin.«set_iterator.__next__» WA;simp only[TN,TL,RV,↓reduceIte,bind_assoc,S2,bne_self_eq_false];refine Q0 (Q5 ?_);refine Q0 (UN b d ?_);refine Q0 (Sa p m j ?_);simp only[bne_self_eq_false,RV,↓reduceIte];refine Q0 ?_;unfold XV;refine Q0 (Sc p m j ?_);refine Q0 (d5 ?_);show RB _ _ (if w.params.followText "set-order" = true then _ else _) _ _ _;rw[Xf hb];simp only[T6,bne_self_eq_false,RV,↓reduceIte];refine Q0 ?_;unfold setWalk;refine Q0 (Sc p m j ?_);refine Q0 (d5 ?_);show RB _ _ (if w.params.followText "set-order" = true then _ else _) _ _ _;rw[Xf hb];refine Q0 (Tt (Q5 ?_));refine Q5 ?_;show RB _ _ (match((Us (w.params.setOrder a ep) es)[i]?).map λe=>(e.2,u)with
  |some (x,next)=>_
  |none=>_) _ _ _
 rw[l];refine Q0 (Se b d (by simp) (lV (by simp[hA]) λg e k l=>r g e (λc o n x=>?_) l));exact k c o ((SO ..).extBut c o n x)
theorem Ir{i sl:Nat}(hA:A.handled=Zy)(hb:w.params.followText "set-order" = false)(f:t.led=true)(h:c8 s.heap it a (.int sl 0) i es.size ep)(ha:s.heap.get? a=Zz o)(hd:o.data=.set es ep t)(hf:t.fits es.size=true)(hs:es.size<=1)(he:es[T5 t.place sl]?=Zy)(q:∀g,VH it s.heap g->Q Zy { s with heap:=g }):RB (RC prog w) A (pyNext (.ref it)) Q E s:=by
 refine AO hA h (λ{Q' E'} r=>?_) q;obtain⟨oi,d,hci,l⟩:=id h;unfold Builtin.«set_iterator.__next__» WA;simp only[TN,TL,RV,↓reduceIte,bind_assoc,S2,bne_self_eq_false];refine Q0 (Q5 ?_);refine Q0 (UN d l ?_);refine Q0 (Sa ha hd hf ?_);simp only[bne_self_eq_false,RV,↓reduceIte];refine Q0 ?_;unfold XV;refine Q0 (Sc ha hd hf ?_);refine Q0 (d5 ?_);show RB _ _ (if w.params.followText "set-order" = true then _ else _) _ _ _;rw[Xg (by rw[hb];decide)];split
 ·rename_i b
  have b:(!t.plain&&decide (es.size>1))=true:=b;simp at b;omega
 ·refine Q0 ?_
  show RB _ _ (if(!t.led&&!es.isEmpty)=true then _ else _) _ _ _;rw[Xg (by rw[f];simp)];refine Q5 ?_;show RB _ _ (pure (match es[T5 t.place sl]?,t.place[T5 t.place sl]? with
   |some (_,x),Zz j=>Zz (x,j+1)
   |_,_=>Zy)) _ _ _
  rw[he];refine Q5 ?_;refine Q0 (Se d l (by simp) (lV (by simp[hA]) λg e k he=>r g e (λc o n x=>?_) he));exact k c o ((SO ..).extBut c o n x)
end
end Mi
namespace PySem.F
theorem dH:Slot "set_iterator" "__iter__" "set_iterator.__iter__" :=
 .of (owner:="set_iterator") (n:="__iter__") (by rw[typeLookup_type,builtinLookup_eq_fast];kernel_rfl) (by decide +kernel) (by decide +kernel) (by decide +kernel)
  (by first|exact .inl (by decide +kernel)|exact .inr (by decide +kernel)) (by rw[WR];kernel_rfl)
theorem iT:Xa table "set_iterator.__iter__" = Zz Builtin.«dict_keyiterator.__iter__»:=entryFor_alias (id':="dict_keyiterator.__iter__") (by kernel_rfl) rfl (by decide +kernel) (by kernel_rfl)
theorem hZ(a:Q2):argsOk "set_iterator.__iter__" ⟨[a],[]⟩:=by
 unfold argsOk;rw[signature?_of (n:=['_','_','r','e','t','i','_','_']) (by kernel_rfl) iR];kernel_rfl
end PySem.F
namespace Mi
open PySem PySem.Spec PyProof.Rows L2
section
variable{prog:Rk}{w:Rz}{A:SH}{E:Q2->Q7->Prop}{s:Q7}
theorem c8.at'(x:c8 h it a f0 i n ep)(k:∀o,h.get? it=Zz o->h'.get? it=Zz o):c8 h' it a f0 i n ep:=let⟨o,b,r⟩:=x;⟨o,k o b,r⟩
inductive nK (w:Rz) (h:Rm) (it a tp:Q8) (vs:List Q2) (i:Nat):Prop where
 |drawn {o:Obj}{es:Array (Int×Q2)}{ep:Nat}{t:U9}{pl:Array Q2}:c8 h it a (.ref tp) i es.size ep->h.get? a=Zz o->o.data=.set es ep t->t.fits es.size=true->h.IsTuple tp pl ->
  (∀(k:Nat) v,vs[k]?=Zz v->∃(pp:Nat) (e:Int×Q2),pl[k]?=Zz (.int pp 0)/\es[pp]?=Zz e/\e.2=v)->pl.size=vs.length->nK w h it a tp vs i
 |text {o:Obj}{es:Array (Int×Q2)}{ep:Nat}{t:U9}:w.params.followText "set-order" = true->c8 h it a (.int (0:Nat) 0) i es.size ep->h.get? a=Zz o->o.data=.set es ep t->t.fits es.size=true ->
  vs=(Us (w.params.setOrder a ep) es).toList.map (·.2)->nK w h it a tp vs i
 |few {o:Obj}{es:Array (Int×Q2)}{ep:Nat}{t:U9}{sl:Nat}:w.params.followText "set-order" = false->t.led=true->c8 h it a (.int sl 0) i es.size ep->h.get? a=Zz o->o.data=.set es ep t->t.fits es.size=true->es.size<=1 ->
  vs=es.toList.map (·.2)->(i=0/\sl=0∨i=1/\es.size=1/\∃j,t.place=#[j]/\sl=j+1)->nK w h it a tp vs i
theorem nK.at'(x:nK w h it a tp vs i)(k:∀b∈[it,a,tp],∀o,h.get? b=Zz o->h'.get? b=Zz o):nK w h' it a tp vs i:=by
 cases x with
 |drawn g f e d c l j=>exact .drawn (g.at' (k it (by simp))) (k a (by simp) _ f) e d (let⟨o,ho,r⟩:=c;⟨o,k tp (by simp) o ho,r⟩) l j
 |text m g f e d c=>exact .text m (g.at' (k it (by simp))) (k a (by simp) _ f) e d c
 |few m hl g f e d c l j=>exact .few m hl (g.at' (k it (by simp))) (k a (by simp) _ f) e d c l j
theorem DF{t:U9}(h:t.fits 1=true):∃j,t.place=#[j]:=by
 unfold SetTable.fits at h;simp only[Q3,beq_iff_eq]at h;have a:=h.1;rcases b:t.place with⟨l⟩
 rw[b]at a
 match l,a with
 |[j],_=>exact⟨j,rfl⟩
theorem JS{α:Type}{es:Array α}(h:es.size=1):∃e,es=#[e]:=by
 rcases es with⟨l⟩
 match l,h with
 |[e],_=>exact⟨e,rfl⟩
theorem EE(hA:A.handled=Zy):Walks prog w A it [it,a,tp] [it] vs.length (λi v=>vs[i]?=Zz v) (λi h=>nK w h it a tp vs i/\a≠it/\tp≠it) where
 sub:=λb hb=>by simp at hb;simp[hb]
 frame:=λ_ _ _ u hk=>⟨u.1.at' hk,u.2⟩
 item:=λi s Q E hi u hQ=>by
  obtain⟨u,na,nt⟩:=u;have hv:=Ra hi;cases u with
  |drawn c m f d p h6 h7 =>
   obtain⟨pp,e,q1,q2,q3⟩:=h6 i _ hv;refine Aq c m f d p q1 q2 λh' r hs=>?_
   rw[q3];obtain⟨ot,hot,rt⟩:=p;exact hQ _ h' s.toks hv ⟨.drawn r (hs.extBut _ _ na m) f d ⟨ot,hs.extBut _ _ nt hot,rt⟩ h6 h7,na,nt⟩ λb o hb e=>hs.extBut b o (λh=>hb (by simp[h])) e
  |@text o y ep t h0 c m f d p =>
   have he:∃e,(Us (w.params.setOrder a ep) y)[i]?=Zz e/\e.2=vs[i]:=by
    have n:=hv;generalize hx:vs[i]=x at n ⊢;rw[p,Rh,UE]at n;cases q:(Us (w.params.setOrder a ep) y)[i]? with
    |none=>rw[q]at n;cases n
    |some e=>rw[q]at n;exact⟨e,rfl,Ri n⟩
   obtain⟨e,he,hev⟩:=he;refine C4 h0 c m f d he λh' r hs=>?_
   rw[hev];exact hQ _ h' s.toks hv ⟨.text h0 r (hs.extBut _ _ na m) f d p,na,nt⟩ λb o hb e=>hs.extBut b o (λh=>hb (by simp[h])) e
  |@few o y ep t sl h0 hl c m f d p h6 h7 =>
   have hsz:vs.length=y.size:=by rw[h6,Q4,Rr]
   have e1:y.size=1:=by omega
   rcases h7 with⟨rfl,rfl⟩|⟨rfl,_⟩
   ·obtain⟨e,rfl⟩:=JS e1
    obtain⟨j,hj⟩:=DF d;refine Gc h0 hl hj c m f d λh' r hs=>?_
    have hve:e.2=vs[0]:=by simp[h6]
    rw[hve];exact hQ _ h' s.toks hv ⟨.few h0 hl r (hs.extBut _ _ na m) f d p h6 (.inr ⟨rfl,rfl,j,hj,rfl⟩),na,nt⟩ λb o hb e=>hs.extBut b o (λh=>hb (by simp[h])) e
   ·omega
 done:=λs Q E u hQ=>by
  obtain⟨u,na,nt⟩:=u;have fin:∀g,VH it s.heap g->Q Zy { s with heap:=g }:=λg k=>hQ g s.toks λb o hb e=>k b o (λh=>hb (by simp[h])) e
  cases u with
  |drawn c m f d p h6 h7=>exact Da hA c m f d p (by rw[<-h7];simp) fin
  |@text o y ep t h0 c m f d p=>exact EZ hA h0 c m f d (by rw[p];simp) fin
  |@few o y ep t sl h0 hl c m f d p h6 h7 =>
   have hsz:vs.length=y.size:=by rw[h6,Q4,Rr]
   refine Ir hA h0 hl c m f d p ?_ fin;rcases h7 with⟨h8,rfl⟩|⟨h8,h9,j,hj,rfl⟩
   ·have:y.size=0:=by omega
    simp[this]
   ·rw[hj,LH]
    simp[h9]
 self:=λi s Q E u h=>by
  have hT:s.TypeIs (.ref it) "set_iterator":=by
   cases u.1 with
   |drawn c=>exact c.typeIs
   |text _ c=>exact c.typeIs
   |few _ _ c=>exact c.typeIs
  refine wpAny_pyIter_slot hT PySem.F.dH (Sj PySem.F.dH hT PySem.F.iT ?_ (PySem.F.hZ _));exact Q5 ⟨_,rfl,"set_iterator",_,hT,PySem.F.aH.lookup,h⟩
def qv(vs:List Q2)(D:List Str):Prop:=(∀v∈vs,∃x t,v=.str x t)/\(vs.map strOf).Perm D
theorem sR(b:NH prog w led o D es ep t){l:List (Int×Q2)}(a:l.Perm es.toList):qv (l.map (·.2)) D:=by
 constructor
 ·intro v c
  obtain⟨e,g,rfl⟩:=Rb.mp c;obtain⟨⟨k,f,_⟩,_⟩:=b.el e (a.mem_iff.mp g);obtain⟨u,d⟩:=VR f;exact⟨k,u,d⟩
 ·rw[SJ]
  exact(a.map (strOf ∘ λe:Int×Q2=>e.2)).trans b.N6
theorem range_list:∀l:List (Int×Q2),(S4 l.length).filterMap (λp=>l[p]?)=l
 |[]=>rfl
 |x::l=>by
  rw[RN,List.range_succ_eq_map,Tq,List.filterMap_map];show x::(S4 l.length).filterMap (λp=>l[p]?)=_;rw[range_list l]
theorem BG(a:Array (Int×Q2)):((S4 a.size).filterMap λp=>a[p]?)=a.toList:=by
 have:=range_list a.toList;rw[Rr]at this;simpa only[UE]using this
theorem wZ{b:Array (Int×Q2)}:∀{ys:List Nat},(∀p∈ys,p<b.size)->(ys.filterMap λp=>b[p]?)=ys.map λp=>b[p]?.getD (0,.none)
 |[],_=>rfl
 |p::ys,h=>by
  have a:=h p RU;rw[Tq,R8,wZ λq c=>h q (R5 _ c)];simp[a]
theorem GA(hS:ms prog w (eK w) s.heap a D)(h:∀(h':Rm) d it n vs,nK w h' it a n vs 0->a≠it->n≠it->qv vs D->s.heap.objs.size<=it->(n=a∨s.heap.objs.size<=n)->n<h'.objs.size->it<h'.objs.size->(∀b o,s.heap.get? b=Zz o->h'.get? b=Zz o)->Q (.ref it) { s with heap:=h',drawn:=d }):
  RB (RC prog w) A (pyIter (.ref a)) Q E s:=by
 obtain⟨o,l,ep,t,ha,g⟩:=hS;have hT:s.TypeIs (.ref a) "set":=⟨o,ha,g.ex.1⟩
 have hal:=RH ha;refine wpAny_pyIter_slot hT PySem.F.slot_set_iter (Sj PySem.F.slot_set_iter hT PySem.F.lg ?_ (PySem.F.args_set_iter_1 _));unfold Builtin.«frozenset.__iter__» Builtin.Frozenset.slot0 WA;simp only[TN,TL,RV,↓reduceIte,bind_assoc,S2,bne_self_eq_false];unfold Builtin.Frozenset.addrOf Builtin.Frozenset.sizeOf;refine Q0 (Q5 ?_)
 first
  |refine Q0 (Q0 (Sa ha g.data g.fits (Q5 ?_)))
  |(refine Q0 (Q5 ?_);refine Q0 (Q0 (Sa ha g.data g.fits (Q5 ?_))))
 refine Q0 ?_;unfold setDrawn;refine Q0 (Sc ha g.data g.fits ?_);refine Q0 (d5 ?_);refine Q5 ?_
 -- what is m at the end
 have m:∀(u:Rm) (d:_) (first:Q2),(∀b o,s.heap.get? b=Zz o->u.get? b=Zz o)->s.heap.objs.size<=u.objs.size->(∀h':Rm,(∀b o,u.get? b=Zz o->h'.get? b=Zz o)->h'.objs.size=u.objs.size+1->c8 h' u.objs.size a first 0 l.size ep->∃n vs,nK w h' u.objs.size a n vs 0/\n≠u.objs.size/\qv vs D/\(n=a∨s.heap.objs.size<=n)/\n<h'.objs.size) ->
   RB (RC prog w) A.in1 (do
    let e <-setEpoch a
    let r <-newFields "set_iterator" [first,rawInt 0,.ref a,rawInt l.size,rawInt e]
    ret r) (λfin s'=>∃v,fin=.done (.ret v)/\∃T' r,s'.TypeIs v T'/\WG (.type T') "__next__" = pure (Zz r)/\Q v s') E { s with heap:=u,drawn:=d }:=λu d first k1 z1 mk=>by
  refine Q0 (wpAny_setEpoch_of (k1 _ _ ha) g.data g.fits ?_);refine Q0 (SS (Q5 ⟨_,rfl,"set_iterator",_,⟨_,RL _ rfl,rfl⟩,PySem.F.aH.lookup,?_⟩));have hz:(u.push { cls:=.type "set_iterator",data:=.fields [first,rawInt 0,.ref a,rawInt l.size,rawInt ep].toArray }).objs.size=u.objs.size+1:=SL ..;obtain⟨n,vs,q1,q2,q3,q4,q5⟩:=mk (u.push { cls:=.type "set_iterator",data:=.fields [first,rawInt 0,.ref a,rawInt l.size,rawInt ep].toArray }) (λb o e=>Q6 _ e) hz ⟨_,RL _ rfl,rfl,rfl⟩;exact h _ d u.objs.size n vs q1 (Rc (RQ hal z1)) q2 q3 z1 q4 q5 (by rw[hz];exact TM _) λb o e=>Q6 _ (k1 b o e)
 cases hb:w.params.followText "set-order" with
 |true =>
  rw[Xg (by show ¬((!(w.params.followText "set-order")&&_)=true);rw[hb];simp)];refine Q0 (Q5 ?_);refine m s.heap s.drawn (rawInt 0) (λ_ _ e=>e) (R1 _) λh' k hz r=>?_
  exact⟨a,_,.text hb r (k _ _ ha) g.data g.fits rfl,Rc hal,sR g (picked _ _),.inl rfl,by rw[hz];exact Sn hal⟩
 |false =>
  by_cases h2:l.size<=1
  ·rw[Xg (by
    show ¬((!(w.params.followText "set-order")&&(!t.plain&&decide (l.size>1)))=true);simp
    intros
    omega)]
   refine Q0 (Q5 ?_);refine m s.heap s.drawn (rawInt 0) (λ_ _ e=>e) (R1 _) λh' k hz r=>?_
   exact⟨a,_,.few hb (by rw[g.led];simp[hb]) (r) (k _ _ ha) g.data g.fits h2 rfl (.inl ⟨rfl,rfl⟩),Rc hal,sR g (.refl _),.inl rfl,by rw[hz];exact Sn hal⟩
  ·have hpl:=g.plain (by omega)
   rw[Xf (by
    show(!(w.params.followText "set-order")&&(!t.plain&&decide (l.size>1)))=true;rw[hb,hpl];simp;omega)]
   refine Q0 (pw l.size (S4 l.size) Tf λys d hp=>?_);refine Q0 (wpAny_newTuple ?_ (by rw[Q4,hp.length_eq,Tf];exact Vr g.room));have hz1:(s.heap.push { cls:=.type "tuple",data:=.seq (ys.map λ(i:Nat)=>rawInt i).toArray }).objs.size=s.heap.objs.size+1:=SL ..;refine m (s.heap.push { cls:=.type "tuple",data:=.seq (ys.map λ(i:Nat)=>rawInt i).toArray }) d (.ref s.heap.objs.size) (λb o e=>Q6 _ e) (by omega) λh' k hz r=>?_
   have hys:∀p∈ys,p<l.size:=λp hm=>Ve.mp (hp.mem_iff.mp hm)
   have hvs:(ys.filterMap λp=>l[p]?).Perm l.toList:=by
    rw[<-BG l];exact hp.filterMap _
   refine⟨s.heap.objs.size,(ys.filterMap λp=>l[p]?).map (·.2),.drawn r (k _ _ (Q6 _ ha)) g.data g.fits ⟨_,k _ _ (RL _ rfl),rfl,_,rfl⟩ ?_ ?_,by rw[hz1];exact Rc (TM _),sR g hvs,.inr (R1 _),by rw[hz,hz1];exact Sn (TM _)⟩
   ·have e:=wZ hys
    intro j v hv;rw[e,SJ,Rh]at hv;cases q:ys[j]? with
    |none=>rw[q]at hv;cases hv
    |some p =>
     rw[q]at hv;have hlt:=hys p (SX q);refine⟨p,l[p],?_,by simp[hlt],?_⟩
     ·simp[q,rawInt]
     ·have:=Ri hv
      simpa[hlt]using this
   ·rw[wZ hys]
    simp only[Q9,Q4]
theorem yI(hA:A.handled=Zy)(hS:ms prog w (eK w) s.heap a D)(hz:D.length<=1000)(q:∀h' tk d vs,qv vs D->(∀b o,s.heap.get? b=Zz o->h'.get? b=Zz o)->s.toks<=tk->s.heap.objs.size<h'.objs.size->Q vs { s with heap:=h',toks:=tk,drawn:=d }):RB (RC prog w) A (collect (.ref a)) Q E s:=by
 obtain⟨o,es,ep,t,ha,hE⟩:=id hS;have hal:=RH ha;have hsz:D.length<=RP:=by rw[SW];omega
 unfold collect;refine Q0 (wpAny_runValue (UA PySem.F.entry_proto_collect ?_));rw[Te PySem.F.plain_proto_collect _];refine Q0 (SS ?_);refine Q5 ⟨W1 PySem.F.plain_list_iadd _,UA PySem.F.entry_list_iadd ?_⟩;rw[Te PySem.F.plain_list_iadd _];have hS₁:ms prog w (eK w) (s.heap.push { cls:=.type "list",data:=.seq ([]:List Q2).toArray }) a D:=hS.at' λo e=>Q6 _ e
 have hL₁:(s.heap.push { cls:=.type "list",data:=.seq ([]:List Q2).toArray }).get? s.heap.objs.size=Zz { cls:=.type "list",data:=.seq ([]:List Q2).toArray }:=RL _ rfl;have ha₁:(s.heap.push { cls:=.type "list",data:=.seq ([]:List Q2).toArray }).get? a=Zz o:=Q6 _ ha;have hne:=Uy hal;have h1:Builtin.List.listSameRef (.ref s.heap.objs.size) (.ref a)=false:=by simp[Builtin.List.listSameRef,hne]
 show RB _ A.in1 (Builtin.List.listExtendWith (.ref s.heap.objs.size) (.ref a) (.ref s.heap.objs.size)) _ _ _;unfold Builtin.List.listExtendWith;have hT:Wl { s with heap:=s.heap.push { cls:=.type "list",data:=.seq ([]:List Q2).toArray } } (.ref a) "set":=⟨o,ha₁,hE.ex.1⟩
 refine Q0 (VX hT ?_);rw[Xg (by rw[h1];decide)];refine Q0 (GA hS₁ λh' d it tp vs st na nt tx l1 l2 l3 l4 k=>?_);have hT':Wl { s with heap:=h',drawn:=d } (.ref a) "set":=⟨o,k _ _ ha₁,hE.ex.1⟩
 refine Q0 (SF ?_);unfold Builtin.List.listLengthHint;refine Q0 (wpAny_specialOf hT' PySem.F.slot_set_len.lookup ?_);generalize hid:("set.__len__" : String)=id0
 wp_delta
 rw[show splitId id0=Zz ("set","__len__")from by subst hid;decide +kernel];subst hid;refine Q0 (wpAny_isInstance (b:=true) hT' (by rw[WR];kernel_rfl) ?_);refine Q0 (VX hT' ?_);refine Q5 ?_;rw[Xf (by rfl)];refine Q0 (Uk ?_);have hL':=k _ _ hL₁;refine Q0 ?_;unfold Builtin.List.listTouch;refine Q0 (listUpdate_at hL' rfl ?_ (by simp) (by simp[SW]));have hL2:=get?_update_seq hL' (λxs=>xs.push UJ);refine listUpdate_at hL2 rfl ?_ (by simp[SW]) (by simp[SW]);have hL3:=get?_update_seq hL2 (λxs=>xs.pop);have hse:((#[]:Array Q2).push UJ).pop=#[]:=by simp
 rw[hse]at hL3;have hSf:s.heap.objs.size∉[it,a,tp]:=by
  have z:(s.heap.push { cls:=.type "list",data:=.seq ([]:List Q2).toArray }).objs.size=s.heap.objs.size+1:=SL ..;have l1':=z▸l1;simp only[R6,R3,or_false,not_or];refine⟨Rc l1',hne,?_⟩;rcases l2 with rfl|l2
  ·exact hne
  ·have l2':=z▸l2
   exact Rc l2'
 have hot:∀b∈[it,a,tp],∀o,h'.get? b=Zz o->((h'.update s.heap.objs.size (U2 λxs=>xs.push UJ)).update s.heap.objs.size (U2 λxs=>xs.pop)).get? b=Zz o:=λb hb o e=>by
  have nb:s.heap.objs.size≠b:=λz=>hSf (by rw[z];exact hb)
  rw[Rs _ _ nb,Rs _ _ nb];exact e
 have hvl:vs.length=D.length:=by rw[<-tx.2.length_eq,Q4]
 refine Q5 ⟨W1 PySem.F.plain_extend_loop _,codeAny_extend_loopS ((EE (by simp[hA])).toS) (by omega) _ hSf _ vs.length 0 _ _ _ rfl (Ur _) ⟨st.at' hot,na,nt⟩ hL3 (ItemsOf.nil _) λs' acc' c' hm hS' hacc=>?_⟩;refine Q0 (wpAny_load hS' ?_);have hacc':acc'.toList=vs:=by
  obtain⟨h1,h2⟩:=hacc;refine List.ext_getElem? λj=>?_
  rw[UE];cases qj:acc'[j]? with
  |some v=>rw[h2 j v qj]
  |none =>
   rw[Sw];have:=Array.getElem?_eq_none_iff.mp qj;omega
 obtain⟨hh,g',d',tk',os'⟩:=s';have eg:g'=s.gens:=hm.gens;have ed:d'=d:=hm.drawn;have eo:os'=s.os:=hm.os;subst eg;subst ed;subst eo;refine Q5 ?_;show Q acc'.toList _;rw[hacc'];refine q hh tk' d' vs tx (λb o e=>?_) hm.toks (RH hS');have nb:s.heap.objs.size≠b:=Uy (RH e);have nit:b≠it:=λz=>by
  have z1:(s.heap.push { cls:=.type "list",data:=.seq ([]:List Q2).toArray }).objs.size=s.heap.objs.size+1:=SL ..;have l1':s.heap.objs.size+1<=it:=z1▸l1;have:=RH e;rw[z]at this;exact Xk (RQ this (Nat.le_of_succ_le l1')) (SD _)
 refine hm.heap b o (by simp only[R6,R3,or_false,not_or];exact⟨λz=>nb z.symm,nit⟩) ?_;show((h'.update s.heap.objs.size (U2 λxs=>xs.push UJ)).update s.heap.objs.size (U2 λxs=>xs.pop)).get? b=Zz o;rw[Rs _ _ nb,Rs _ _ nb];exact k b o (Q6 _ e)
theorem AG(hA:A.handled=Zy)(hS:ms prog w (eK w) s.heap a D)(hz:D.length<64)(q:∀h' tk d l out ss' e,XW out ss'->ss'.Perm D->sortedS ss'=true->h'.get? l=Zz (seqObj "list" out.toArray e)->s.heap.objs.size<=l->(∀b o,s.heap.get? b=Zz o->h'.get? b=Zz o)->s.toks<=tk->Q (.ref l) { s with heap:=h',toks:=tk,drawn:=d }):
  RB (RC prog w) A (U3 (.builtin "sorted") [.ref a]) Q E s:=by
 refine Calls.call_function_entry kind_sorted plain_sorted entry_sorted (args_sorted1 _) ?_
 unfold Builtin.«sorted»;refine Q0 (Q5 ?_);refine Q0 (yI (by simp[hA]) hS (by omega) λh' tk d vs tx k ht hlt=>?_);have hvl:vs.length=D.length:=by rw[<-tx.2.length_eq,Q4]
 refine Q0 (wpAny_newList ?_ (by rw[SW];omega));have hoL:(h'.push (seqObj "list" vs.toArray 0)).get? h'.objs.size=Zz (seqObj "list" vs.toArray 0):=RL _ rfl;have hStr:=strsAre_map vs tx.1;refine Q0 (SF (Sj slot_list_sort ⟨_,hoL,rfl⟩ entry_list_sort (list_sort_treeK strKind_oneLt hoL hStr.keysOf (λv₁ v₂ rest e=>keyKind_strs (by rw[<-e];exact hStr)) (by omega) λst' a1 a2=>⟨_,rfl,?_⟩) (args_list_sort _)));obtain⟨ss',b1,b2,b3⟩:=sorted_out_str hStr a1 a2;obtain⟨e,he⟩:=sortedHeap_at hoL;refine Q5 ⟨_,rfl,q _ tk d h'.objs.size ((arrOf st').map (·.2)).toList ss' e b1 (b2.trans tx.2) b3 he (Uw hlt) (λb o x=>?_) ht⟩;rw[sortedHeap_old (Rc (RH (k b o x))) (by rw[size_push'];exact Sn (RH (k b o x)))];exact Q6 _ (k b o x)
end
end Mi
namespace Mi
open PySem
inductive T where
 |non|bl (b:Bool)|int (i:Int)|str (cs:List Nat)
 |tup (ts:List T)|lst (ts:List T)
 |dct (ks:List L2.Key) (ts:List T)
 |dG (ns:List Int)
 deriving Inhabited
inductive W where
 |t (x:T)|c (i:Nat)|x (cls:Nat) (nms:List Str) (ts:List T)
 deriving Inhabited
noncomputable abbrev Mem:=List (Option (Bool×List T))
structure Exc where
 cls:Nat
 nms:List Str
 FY:List T
inductive Res (a:Type) where
 |ok (x:a) (m:Mem)|exc (x:Exc) (m:Mem)|stuck
noncomputable def Res.bind{a b:Type}(r:Res a)(f:a->Mem->Res b):Res b:=match r with
 |.ok x m=>f x m
 |.exc x m=>.exc x m
 |.stuck=>.stuck
noncomputable abbrev Env:=List (Option W)
inductive B where
 |len|int|str|tuple|list|all|min2|jm|sorted|dY|jM
 deriving DecidableEq
inductive Mt where
 |join|append|fe|insert|split|partition
 deriving DecidableEq
inductive Ty where
 |int|bool|str|tuple|list|dict
 deriving DecidableEq
inductive Tg where
 |nm (i:Nat)|tp (is:List Nat)
 deriving DecidableEq
mutual
inductive E where
 |var (i:Nat)|gl (k:Nat)|con (x:T)
 |bin (op:W6) (a b:E)|not (a:E)
 |and (a b:E)|or (a b:E)
 |cmp (op:X1) (a b:E)|vO (op op':X1) (a b c:E)
 |tup (es:Es)|lst (es:Es)|zv (es:Es)|yG (a:E)|MU (a b:E)
 |ix (a b:E)|EK (a lo hi:E)|hole
 |call (f:Nat) (es:Es)|blt (b:B) (es:Es)|eA (b:Mt) (o:E) (es:Es)
 |xz (a:E) (ty:Ty)
 |comp (own:Nat) (keep:List Nat) (it:E) (tg:Tg) (cs:Es) (inner:E)
 |more (it:E) (tg:Tg) (cs:Es) (inner:E)
 |emit (a:E)
 |OI (a:E) (cs:List Nat) (nm:Str)|pW (a:E) (yes no:List Nat)
 |Ng (k:Nat) (e:E)|L8 (k:Nat) (neg:Bool) (e:E)
inductive Es where
 |nil|cons (e:E) (es:Es)
end
noncomputable def aA:E->Bool
 |.hole=>true
 |_=>false
inductive S where
 |done
 |asg (i:Nat) (e:E) (k:S)
 |le (is:List Nat) (e:E) (k:S)
 |Gi (is:List Nat) (e:E) (k:S)
 |set (o i v:E) (k:S)
 |aug (i:Nat) (op:W6) (e:E) (k:S)
 |bZ (c:E) (a b k:S)
 |vZ (tg:Tg) (it:E) (body k:S)
 |Ml (c:E) (body k:S)
 |ret (e:E) (k:S)
 |expr (e:E) (k:S)
 |DY (c:Nat) (nms:List Str) (es:Es) (k:S)
 |tri (b:S) (yes:List Nat) (nm:Option Nat) (h k:S)
noncomputable def lim:Nat:=1000000
noncomputable def cO:List Nat->List Nat->Bool
 |[],[]=>false
 |[],_::_=>true
 |_::_,[]=>false
 |a::x,b::y=>if a<b then true else if b<a then false else cO x y
noncomputable def b2i(b:Bool):Int:=if b then 1 else 0
mutual
noncomputable def eqT:T->T->Bool
 |.non,.non=>true
 |.bl a,.bl b=>a==b
 |.bl a,.int b=>b2i a==b
 |.int a,.bl b=>a==b2i b
 |.int a,.int b=>a==b
 |.str a,.str b=>a==b
 |.tup a,.tup b=>o6 a b
 |.lst a,.lst b=>o6 a b
 |_,_=>false
noncomputable def o6:List T->List T->Bool
 |[],[]=>true
 |a::x,b::y=>eqT a b&&o6 x y
 |_,_=>false
end
mutual
noncomputable def aw:Nat->T->Bool
 |_,.non=>true
 |_,.bl _=>true
 |_,.int _=>true
 |_,.str cs=>PyData.strOk ⟨cs.toArray⟩
 |n+1,.tup ts=>aL n ts
 |n+1,.lst ts=>aL n ts
 |_,_=>false
noncomputable def aL:Nat->List T->Bool
 |_,[]=>true
 |n,t::ts=>aw n t&&aL n ts
end
noncomputable def flat:T->Bool
 |.non|.bl _|.int _|.str _=>true
 |_=>false
mutual
noncomputable def Pz:Nat->T->Bool
 |_,.non=>true
 |_,.bl _=>true
 |_,.int _=>true
 |_,.str _=>true
 |n+1,.tup ts=>Fw n ts
 |n+1,.lst ts=>Fw n ts
 |_,_=>false
noncomputable def Fw:Nat->List T->Bool
 |_,[]=>true
 |n,t::ts=>Pz n t&&Fw n ts
end
noncomputable def vS:T->Bool
 |.non=>false
 |.bl b=>b
 |.int i=>i != 0
 |.str cs=>!cs.isEmpty
 |.tup ts=>!ts.isEmpty
 |.lst ts=>!ts.isEmpty
 |.dct ks _=>!ks.isEmpty
 |.dG ns=>!ns.isEmpty
noncomputable def iW(n:Nat)(i:Int):Option Nat:=if 0<=i then(if i<n then Zz i.toNat else Zy)else if -(n:Int)<=i then Zz (i+n).toNat else Zy
noncomputable def atT{a:Type}(xs:List a)(i:Int):Option a:=(iW xs.length i).bind λj=>xs[j]?
noncomputable def ug(n d:Nat):Option Int->Nat
 |none=>d
 |some i=>if i<0 then(i+n).toNat else min i.toNat n
noncomputable def cut{a:Type}(xs:List a)(lo hi:Option Int):List a:=
 (xs.drop (ug xs.length 0 lo)).take (ug xs.length xs.length hi-ug xs.length 0 lo)
noncomputable def sH{a:Type}(xs:List a)(k:Nat):List a:=(R4 k xs).flatten
noncomputable def AR:Nat:=(2^250)^8
noncomputable def small(i:Int):Bool:=decide (i.natAbs<2^64)
noncomputable def fV(i j:Int):Bool:=small i || small j || (decide (i.natAbs<AR)&&decide (j.natAbs<AR))
noncomputable def DH:T->T->Option T
 |.int i,.int j=>Zz (.int (i+j))
 |.str a,.str b=>if a.length+b.length<=lim then Zz (.str (a++b))else Zy
 |.tup a,.tup b=>if a.length+b.length<=lim then Zz (.tup (a++b))else Zy
 |.lst a,.lst b=>if a.length+b.length<=lim then Zz (.lst (a++b))else Zy
 |_,_=>Zy
noncomputable def MR(x y:T):Option T:=match y with
 |.int k=>match x with
  |.int i=>if fV i k then Zz (.int (i*k))else Zy
  |.tup a=>if(-(lim:Int)<=k/\k<=lim)/\a.length*k.toNat<=lim then Zz (.tup (sH a k.toNat))else Zy
  |.lst a=>if(-(lim:Int)<=k/\k<=lim)/\a.length*k.toNat<=lim then Zz (.lst (sH a k.toNat))else Zy
  |.str a=>if(0<=k/\k<=64)/\a.length<=1000 then Zz (.str (sH a k.toNat))else Zy
  |_=>Zy
 |_=>Zy
noncomputable def HN(f:Int->Int->Option T)(x y:T):Option T:=match x with
 |.int i=>match y with
  |.int j=>f i j
  |_=>Zy
 |_=>Zy
noncomputable def iq(op:W6)(x y:T):Option T:=
 match op with
 |.Add=>DH x y
 |.Sub=>HN (λi j=>Zz (.int (i-j))) x y
 |.Mult=>MR x y
 |.FloorDiv=>HN (λi j=>if 0<j/\j<1073741824 then Zz (.int (i / j))else Zy) x y
 |.Mod=>HN (λi j=>if 0<j then Zz (.int (i%j))else Zy) x y
 |.Pow=>HN (λi j=>if 0<=j/\j<=1000/\i.natAbs<2^64 then Zz (.int (i^j.toNat))else Zy) x y
 |_=>Zy
noncomputable def Jp(op:W6)(x y:T):Option T:=
 match op,x,y with
 |.Add,.int i,.int j=>Zz (.int (i+j))
 |.Sub,.int i,.int j=>Zz (.int (i-j))
 |_,_,_=>Zy
noncomputable def lz(x y:T):Bool:=match x,y with
 |.bl _,.int _=>false
 |.int _,.bl _=>false
 |x,y=>flat x&&flat y
noncomputable def lX(x:T)(y:T):Option Bool:=
 match y with
 |.tup ts=>if flat x&&ts.all flat then Zz (ts.any λt=>eqT t x)else Zy
 |.lst ts=>if flat x&&ts.all flat then Zz (ts.any λt=>eqT t x)else if aw 59 x&&aL 59 ts then Zz (ts.any λt=>eqT t x)else Zy
 |_=>Zy
noncomputable def nI(f:Int->Int->Bool)(x y:T):Option Bool:=match x with
 |.int i=>match y with
  |.int j=>Zz (f i j)
  |_=>Zy
 |_=>Zy
noncomputable def KO(x y:T):Option Bool:=match x with
 |.int i=>match y with
  |.int j=>Zz (decide (i<j))
  |_=>Zy
 |.str a=>match y with
  |.str b=>Zz (cO a b)
  |_=>Zy
 |_=>Zy
noncomputable def Kx(x y:T):Option Bool:=match x with
 |.int i=>match y with
  |.int j=>Zz (decide (i<=j))
  |_=>Zy
 |.str a=>match y with
  |.str b=>Zz (!cO b a)
  |_=>Zy
 |_=>Zy
noncomputable def A5(x y:T):Option Bool:=match x with
 |.str [a]=>match y with
  |.str b=>Zz (decide (a∈b))
  |y=>lX (.str [a]) y
 |.str (a::a'::r)=>match y with
  |.str b=>Zz (!(S0 ⟨b.toArray⟩ ⟨(a::a'::r).toArray⟩ 0 b.length 1).isEmpty)
  |y=>lX (.str (a::a'::r)) y
 |x=>lX x y
noncomputable def KD(x y:T):Option Bool:=match y with
 |.non=>Zz (match x with|.non=>true|_=>false)
 |.bl b=>Zz (match x with|.bl a=>a==b|_=>false)
 |_=>Zy
noncomputable def bn(op:X1)(x y:T):Option Bool:=
 match op with
 |.Lt=>KO x y
 |.LtE=>Kx x y
 |.Gt=>nI (λi j=>decide (j<i)) x y
 |.GtE=>nI (λi j=>decide (j<=i)) x y
 |.Eq=>if lz x y || (aw 60 x&&aw 60 y)then Zz (eqT x y)else Zy
 |.NotEq=>if lz x y || (aw 60 x&&aw 60 y)then Zz (!eqT x y)else Zy
 |.In=>A5 x y
 |.NotIn=>(A5 x y).map (!·)
 |.Is=>KD x y
 |.IsNot=>(KD x y).map (!·)
noncomputable def cJ(x:T)(ty:Ty):Bool:=
 match x,ty with
 |.int _,.int=>true
 |.bl _,.int=>true
 |.bl _,.bool=>true
 |.str _,.str=>true
 |.tup _,.tuple=>true
 |.lst _,.list=>true
 |.dG _,.list=>true
 |.dct _ _,.dict=>true
 |_,_=>false
noncomputable def uN(x i:T):Option T:=
 match x,i with
 |.tup ts,.int k=>atT ts k
 |.lst ts,.int k=>atT ts k
 |.dG ns,.int k=>(atT ns k).map .int
 |.str cs,.int k=>if cs.length<=lim then(atT cs k).map λc=>.str [c]else Zy
 |_,_=>Zy
noncomputable def EL(x:T)(lo hi:Option Int):Option T:=
 match x with
 |.tup ts=>Zz (.tup (cut ts lo hi))
 |.lst ts=>Zz (.lst (cut ts lo hi))
 |.dG ns=>Zz (.lst ((cut ns lo hi).map .int))
 |.str cs=>if cs.length<=lim then Zz (.str (cut cs lo hi))else Zy
 |_=>Zy
noncomputable def o7(x:List Nat):List (List Nat)->List (List Nat)
 |[]=>[x]
 |y::r=>if cO x y then x::y::r else if cO y x then y::o7 x r else y::r
noncomputable def bt(xs:List (List Nat)):List (List Nat):=xs.foldr o7 []
noncomputable def vR(x:List Nat):List (List Nat)->List (List Nat)
 |[]=>[x]
 |y::r=>if cO y x then y::vR x r else x::y::r
noncomputable def iC(xs:List (List Nat)):List (List Nat):=xs.foldr vR []
noncomputable def cu:List T->Option (List (List Nat))
 |[]=>Zz []
 |.str c::r=>(cu r).map (c::·)
 |_=>Zy
noncomputable def ek:List T->Option (List Bool)
 |[]=>Zz []
 |.bl c::r=>(ek r).map (c::·)
 |_=>Zy
noncomputable def aM(sep:List Nat):List (List Nat)->List Nat
 |[]=>[]
 |[x]=>x
 |x::r=>x++sep++aM sep r
noncomputable def ft(i:Int):List Nat:=(Wq (toString i)).cps.toList
noncomputable def rangeT(lo:Int)(n:Nat):List T:=(S4 n).map λk:Nat=>.int (lo+(k:Int))
noncomputable def ap(c:Nat):List Nat->List (List Nat)
 |[]=>[[]]
 |a::r=>if a=c then[]::ap c r else match ap c r with
  |x::xs=>(a::x)::xs
  |[]=>[[a]]
noncomputable def OW:T->Option (List Nat)
 |.str cs=>Zz cs
 |.int i=>if i.natAbs<2^250 then Zz (ft i)else Zy
 |_=>Zy
noncomputable def n8:T->Option (List T)
 |.tup ts=>Zz ts
 |.lst ts=>Zz ts
 |.dG ns=>Zz (ns.map .int)
 |.str cs=>if cs.length<=lim then Zz (cs.map λc=>.str [c])else Zy
 |_=>Zy
noncomputable def view(w:W)(m:Mem):Option T:=match w with
 |.t x=>Zz x
 |.x _ _ _=>Zy
 |.c i=>match m[i]? with
  |some (Zz (_,ts))=>Zz (.lst ts)
  |_=>Zy
noncomputable def cW(o:Option T)(m:Mem):Res W:=match o with
 |some t=>.ok (.t t) m
 |none=>.stuck
noncomputable def jS(w:W)(m:Mem):Res T:=match w with
 |.t x=>.ok x m
 |.x _ _ _=>.stuck
 |.c i=>match m[i]? with
  |some (Zz (false,ts))=>.ok (.lst ts) (m.set i Zy)
  |_=>.stuck
noncomputable def bX:List W->Mem->Res (List T)
 |[],m=>.ok [] m
 |w::ws,m=>(jS w m).bind λt m=>(bX ws m).bind λts m=>.ok (t::ts) m
noncomputable def views:List W->Mem->Option (List T)
 |[],_=>Zz []
 |w::ws,m=>(view w m).bind λt=>(views ws m).map (t::·)
noncomputable def bp(w:W)(m:Mem):Res (List T):=match w with
 |.x _ _ _=>.stuck
 |.t x=>match n8 x with
  |some ts=>.ok ts m
  |none=>.stuck
 |.c i=>match m[i]? with
  |some (Zz (_,ts))=>.ok ts (m.set i (Zz (true,ts)))
  |_=>.stuck
noncomputable def giveBack(w:W)(m0 m:Mem):Mem:=match w with
 |.t _=>m
 |.x _ _ _=>m
 |.c i=>match m0[i]? with
  |some c=>m.set i c
  |none=>m
noncomputable def bK(tg:Tg)(t:T)(env:Env):Option Env:=match tg with
 |.nm i=>Zz (env.set i (Zz (.t t)))
 |.tp is=>match t with
  |.tup ts=>if ts.length=is.length then Zz ((is.zip ts).foldl (λenv p=>env.set p.1 (Zz (.t p.2))) env)else Zy
  |_=>Zy
noncomputable def hU(f:T->Option T):List T->Option T
 |[x]=>f x
 |_=>Zy
noncomputable def F2(f:Int->Int->Option T):List T->Option T
 |[.int i,.int j]=>f i j
 |_=>Zy
noncomputable def Ju:T->Option T
 |.str cs=>if cs.length<=lim then Zz (.int cs.length)else Zy
 |.tup ts=>Zz (.int ts.length)
 |.lst ts=>Zz (.int ts.length)
 |.dG ns=>Zz (.int ns.length)
 |_=>Zy
noncomputable def aN(cs:List Nat):Int:=((cs.foldl (λn c=>n*10+(c-48)) 0:Nat):Int)
noncomputable def PP:T->Option T
 |.int i=>Zz (.int i)
 |.bl b=>Zz (.int (b2i b))
 |.str cs=>if cs≠[]/\cs.length<=600/\cs.all (λc=>decide (48<=c)&&decide (c<=57))=true then Zz (.int (aN cs))else Zy
 |_=>Zy
noncomputable def PY:T->Option T
 |.int i=>if i.natAbs<2^250 then Zz (.str (ft i))else Zy
 |_=>Zy
noncomputable def Pl:T->Option T
 |.tup ts=>Zz (.tup ts)
 |.lst ts=>Zz (.tup ts)
 |.str cs=>if cs.length<=lim then Zz (.tup (cs.map λc=>.str [c]))else Zy
 |_=>Zy
noncomputable def PB:T->Option T
 |.tup ts=>Zz (.lst ts)
 |.lst ts=>Zz (.lst ts)
 |_=>Zy
noncomputable def KM(f:List T->Option T):T->Option T
 |.lst ts=>f ts
 |_=>Zy
noncomputable def Pg:T->Option T
 |.int i=>if i<2^62/\-(2^62)<=i then Zz (.lst (rangeT 0 i.toNat))else Zy
 |_=>Zy
noncomputable def lh:T->Option L2.Key
 |.int i=>Zz (.inl i)
 |.str cs=>Zz (.inr ⟨cs.toArray⟩)
 |_=>Zy
noncomputable def cg(ks:List L2.Key)(ts:List T)(k:L2.Key):Option T:=((ks.zip ts).find? λp=>decide (p.1=k)).map (·.2)
noncomputable def zq(o:Option T)(f:List L2.Key->List T->Option T):Option T:=match o with
 |some (.dct ks vs)=>f ks vs
 |_=>Zy
noncomputable def C1(f:List T->Option T):T->Option T
 |.lst ts=>f ts
 |.tup ts=>f ts
 |_=>Zy
noncomputable def b8(b:B)(ts:List T):Option T:=
 match b with
 |.len=>hU Ju ts
 |.int=>hU PP ts
 |.str=>hU PY ts
 |.tuple=>hU Pl ts
 |.list=>hU PB ts
 |.all=>hU (C1 λts=>(ek ts).map λbs=>.bl (bs.all id)) ts
 |.jm=>hU (KM λts=>(cu ts).bind λxs=>if xs.length<64 then Zz (.lst ((bt xs).map .str))else Zy) ts
 |.sorted=>hU (KM λts=>(cu ts).bind λxs=>if xs.length<64 then Zz (.lst ((iC xs).map .str))else Zy) ts
 |.min2=>F2 (λi j=>Zz (.int (if j<i then j else i))) ts
 |.dY=>hU Pg ts
 |.jM=>F2 (λi j=>if(i<2^62/\-(2^62)<=i)/\j<2^62/\-(2^62)<=j then Zz (.lst (rangeT i (j-i).toNat))else Zy) ts
noncomputable def yh(cs sep:List Nat):T:=let p:=Wm ⟨cs.toArray⟩ ⟨sep.toArray⟩;.tup [.str p.1.cps.toList,.str p.2.1.cps.toList,.str p.2.2.cps.toList]
noncomputable def eT(b:Mt)(o:T)(ts:List T):Option T:=
 match b with
 |.join=>match o with
  |.str sep=>hU (C1 λxs=>(cu xs).bind λys=>if(ys.map Rg).sum+ys.length*sep.length<=lim then Zz (.str (aM sep ys))else Zy) ts
  |_=>Zy
 |.split=>match o with
  |.str cs=>match ts with
   |[.str [c]]=>if cs.length<=900000 then Zz (.lst ((ap c cs).map .str))else Zy
   |_=>Zy
  |_=>Zy
 |.partition=>match o with
  |.str cs=>match ts with
   |[.str (c::sep)]=>if cs.length<=900000 then Zz (yh cs (c::sep))else Zy
   |_=>Zy
  |_=>Zy
 |_=>Zy
noncomputable def oQ(b:Mt)(xs:List T)(ts:List T):Option (T×List T):=
 match b,ts with
 |.append,[t]=>if xs.length<lim then Zz (.non,xs++[t])else Zy
 |.insert,[.int i,t]=>if 0<=i/\i<=xs.length/\xs.length<lim then Zz (.non,xs.take i.toNat++t::xs.drop i.toNat)else Zy
 |.fe,[.int i]=>match iW xs.length i with
  |some k=>(xs[k]?).map λt=>(t,xs.eraseIdx k)
  |none=>Zy
 |_,_=>Zy
noncomputable def Ar(b:Mt)(o:W)(ws:List W)(m:Mem):Res W:=match b with
 |.append|.fe|.insert=>match o with
  |.c i=>(bX ws m).bind λts m=>match m[i]? with
   |some (Zz (false,xs))=>match oQ b xs ts with
    |some (t,ys)=>.ok (.t t) (m.set i (Zz (false,ys)))
    |none=>.stuck
   |_=>.stuck
  |.t _=>.stuck
  |.x _ _ _=>.stuck
 |_=>cW ((view o m).bind λx=>(views ws m).bind λts=>eT b x ts) m
noncomputable def Im(x y:W)(m:Mem):Res W:=match(view x m).bind λx=>(view y m).bind λy=>DH x y with
 |some (.lst ts)=>.ok (.c m.length) (m++[Zz (false,ts)])
 |_=>.stuck
noncomputable def setM(o i v:W)(m:Mem):Res Unit:=match o,i with
 |.c c,.t (.int k)=>(jS v m).bind λt m=>match m[c]? with
  |some (Zz (false,xs))=>match iW xs.length k with
   |some j=>.ok () (m.set c (Zz (false,xs.set j t)))
   |none=>.stuck
  |_=>.stuck
 |_,_=>.stuck
noncomputable def yy(w:W)(m:Mem):Res (Option Int):=match w with
 |.t (.int i)=>.ok (Zz i) m
 |_=>.stuck
noncomputable def o0(b:Mt)(w:W)(m:Mem):Bool:=match b with
 |.join|.split|.partition=>match view w m with
  |some (.str _)=>true
  |_=>false
 |.append|.fe|.insert=>match w with
  |.c i=>match m[i]? with
   |some (Zz _)=>true
   |_=>false
  |_=>false
noncomputable def cb(f:Env->Mem->Res (List T))(tg:Tg):List T->Env->Mem->Res (List T)
 |[],_,m=>.ok [] m
 |t::ts,env,m=>match bK tg t env with
  |none=>.stuck
  |some env'=>(f env' m).bind λxs m=>(cb f tg ts env m).bind λys m=>.ok (xs++ys) m
noncomputable def Res.only{a:Type}(r:Res a):Res a:=match r with
 |.exc _ _=>.stuck
 |r=>r
inductive Flow where
 |next (env:Env)|ret (w:W)
noncomputable def cj(f:Env->Mem->Res Flow)(tg:Tg):List T->Env->Mem->Res Flow
 |[],env,m=>.ok (.next env) m
 |t::ts,env,m=>match bK tg t env with
  |none=>.stuck
  |some env=>(f env m).bind λfl m=>match fl with
   |.next env=>cj f tg ts env m
   |.ret w=>.ok (.ret w) m
noncomputable def dk(c:Env->Mem->Res Bool)(f:Env->Mem->Res Flow):Nat->Env->Mem->Res Flow
 |0,_,_=>.stuck
 |n+1,env,m=>(c env m).bind λb m=>if b then(f env m).bind λfl m=>match fl with
   |.next env=>dk c f n env m
   |.ret w=>.ok (.ret w) m
  else .ok (.next env) m
noncomputable def turns:Nat:=1000000
noncomputable def MV:T->Bool
 |.str cs=>decide (cs.length<=lim)
 |_=>true
noncomputable def cK(w:W)(m:Mem):Res Bool:=match view w m with
 |some t=>if MV t then .ok (vS t) m else .stuck
 |none=>.stuck
noncomputable def jE(w:W)(m:Mem):Res Bool:=match w with
 |.t (.bl b)=>.ok b m
 |_=>.stuck
noncomputable def nQ(w:W)(m:Mem):Res (List T):=match w with
 |.t (.lst ts)=>.ok ts m
 |_=>.stuck
noncomputable def NZ(cs:List Nat)(nm:Str)(x:W):Option T:=match x with
 |.x c nms ts=>if c∈cs then(nms.zip ts).lookup nm else Zy
 |_=>Zy
noncomputable def Mu(yes no:List Nat)(x:W):Option T:=match x with
 |.x c _ _=>if c∈yes then Zz (.bl true)else if c∈no then Zz (.bl false)else Zy
 |_=>Zy
noncomputable def GO(n:Nat)(nm:Option Nat)(x:Exc):Env:=match nm with
 |some i=>(R4 n Zy).set i (Zz (.x x.cls x.nms x.FY))
 |none=>R4 n Zy
noncomputable def Nb(nm:Option Nat)(env:Env):Env:=match nm with
 |some i=>env.set i Zy
 |none=>env
noncomputable def PJ(acc:List Nat)(w:W)(m:Mem):Res (List Nat):=match(view w m).bind OW with
 |some a=>if acc.length+a.length<=lim then .ok (acc++a) m else .stuck
 |none=>.stuck
section
variable(call:Nat->List W->Mem->Res W) (gv:List T)
mutual
noncomputable def ev:E->Env->Mem->Res W
 |.var i,env,m=>match env[i]? with
  |some (Zz w)=>.ok w m
  |_=>.stuck
 |.gl k,_,m=>cW gv[k]? m
 |.con t,_,m=>.ok (.t t) m
 |.bin op a b,env,m=>(ev a env m).bind λx m=>(ev b env m).bind λy m=>cW ((view x m).bind λx=>(view y m).bind λy=>iq op x y) m
 |.not a,env,m=>(ev a env m).bind λx m=>(jE x m).bind λk m=>.ok (.t (.bl (!k))) m
 |.and a b,env,m=>(ev a env m).bind λx m=>(jE x m).bind λk m=>if k then ev b env m else .ok (.t (.bl false)) m
 |.or a b,env,m=>(ev a env m).bind λx m=>(jE x m).bind λk m=>if k then .ok (.t (.bl true)) m else ev b env m
 |.cmp op a b,env,m=>(ev a env m).bind λx m=>(ev b env m).bind λy m=>cW (((view x m).bind λx=>(view y m).bind λy=>bn op x y).map .bl) m
 |.vO op op' a b c,env,m=>(ev a env m).bind λx m=>(ev b env m).bind λy m =>
   match(view x m).bind λx=>(view y m).bind λy=>bn op x y with
   |some true=>(ev c env m).bind λz m=>cW (((view y m).bind λy=>(view z m).bind λz=>bn op' y z).map .bl) m
   |some false=>.ok (.t (.bl false)) m
   |none=>.stuck
 |.tup es,env,m=>(evs es env m).bind λws m=>(bX ws m).bind λts m=>if ts.length<=lim then .ok (.t (.tup ts)) m else .stuck
 |.lst es,env,m=>(evs es env m).bind λws m=>(bX ws m).bind λts m=>if ts.length<=lim then .ok (.t (.lst ts)) m else .stuck
 |.zv es,env,m=>(evs es env m).bind λws m=>(bX ws m).bind λts m=>if ts.length<=lim then .ok (.c m.length) (m++[Zz (false,ts)])else .stuck
 |.yG a,env,m=>(ev a env m).bind λx m=>match view x m with
  |some (.lst ts)=>.ok (.c m.length) (m++[Zz (false,ts)])
  |some (.tup ts)=>.ok (.c m.length) (m++[Zz (false,ts)])
  |_=>.stuck
 |.MU a b,env,m=>(ev a env m).bind λx m=>(ev b env m).bind λy m=>Im x y m
 |.ix a b,env,m=>(ev a env m).bind λx m=>(ev b env m).bind λy m=>cW ((view x m).bind λx=>(view y m).bind λy=>uN x y) m
 |.EK a lo hi,env,m=>(ev a env m).bind λx m=>(if aA lo then Res.ok Zy m else(ev lo env m).bind yy).bind λl m =>
   (if aA hi then Res.ok Zy m else(ev hi env m).bind yy).bind λh m=>cW ((view x m).bind λx=>EL x l h) m
 |.hole,_,m=>.ok (.t .non) m
 |.call f es,env,m=>(evs es env m).bind λws m=>call f ws m
 |.blt b es,env,m=>(evs es env m).bind λws m=>cW ((views ws m).bind λts=>b8 b ts) m
 |.eA b o es,env,m=>(ev o env m).bind λx m=>if o0 b x m then(evs es env m).bind λws m=>Ar b x ws m else .stuck
 |.xz a ty,env,m=>(ev a env m).bind λx m=>cW ((view x m).map λx=>.bl (cJ x ty)) m
 |.comp own keep it tg cs inner,env,m=>(ev it env m).only.bind λx m0=>(bp x m0).bind λts m =>
   (cb (λenv m=>(tests cs env m).bind λk m=>if k then(ev inner env m).bind nQ else .ok [] m) tg ts (R4 own Zy++keep.map λi=>(env[i]?).join) m).only.bind λout m =>
    if out.length<=lim then .ok (.t (.lst out)) (giveBack x m0 m)else .stuck
 |.more it tg cs inner,env,m=>(ev it env m).bind λx m0=>(bp x m0).bind λts m =>
   (cb (λenv m=>(tests cs env m).bind λk m=>if k then(ev inner env m).bind nQ else .ok [] m) tg ts env m).bind λout m=>.ok (.t (.lst out)) (giveBack x m0 m)
 |.emit a,env,m=>(ev a env m).bind λx m=>(jS x m).bind λt m=>.ok (.t (.lst [t])) m
 |.OI a cs nm,env,m=>(ev a env m).bind λx m=>cW (NZ cs nm x) m
 |.pW a yes no,env,m=>(ev a env m).bind λx m=>cW (Mu yes no x) m
 |.Ng k e,env,m=>(ev e env m).bind λx m=>cW ((view x m).bind λx=>zq gv[k]? λks vs=>(lh x).bind (cg ks vs)) m
 |.L8 k neg e,env,m=>(ev e env m).bind λx m=>cW ((view x m).bind λx=>zq gv[k]? λks vs=>(lh x).map λk=>.bl (if neg then !(cg ks vs k).isSome else(cg ks vs k).isSome)) m
noncomputable def evs:Es->Env->Mem->Res (List W)
 |.nil,_,m=>.ok [] m
 |.cons e es,env,m=>(ev e env m).bind λw m=>(evs es env m).bind λws m=>.ok (w::ws) m
noncomputable def Qv:Es->List Nat->Env->Mem->Res (List Nat)
 |.nil,acc,_,m=>.ok acc m
 |.cons e es,acc,env,m=>(ev e env m).bind λw m=>(PJ acc w m).bind λacc m=>Qv es acc env m
noncomputable def tests:Es->Env->Mem->Res Bool
 |.nil,_,m=>.ok true m
 |.cons e es,env,m=>(ev e env m).bind λx m=>(cK x m).bind λk m=>if k then tests es env m else .ok false m
end
noncomputable def ex:S->Env->Mem->Res Flow
 |.done,env,m=>.ok (.next env) m
 |.asg i e k,env,m=>(ev call gv e env m).bind λw m=>ex k (env.set i (Zz w)) m
 |.le is e k,env,m=>(ev call gv e env m).bind λw m=>match w with
  |.t t=>match bK (.tp is) t env with
   |some env=>ex k env m
   |none=>.stuck
  |.c _=>.stuck
  |.x _ _ _=>.stuck
 |.Gi is e k,env,m=>(ev call gv e env m).bind λw m=>match w with
  |.t (.lst ts)=>match bK (.tp is) (.tup ts) env with
   |some env=>ex k env m
   |none=>.stuck
  |_=>.stuck
 |.set o i v k,env,m=>(ev call gv v env m).bind λz m=>(ev call gv o env m).bind λx m=>(ev call gv i env m).bind λy m =>
   (setM x y z m).bind λ_ m=>ex k env m
 |.aug i op e k,env,m=>match env[i]? with
  |some (Zz x)=>(ev call gv e env m).bind λy m=>(cW ((view x m).bind λx=>(view y m).bind λy=>Jp op x y) m).bind λz m=>ex k (env.set i (Zz z)) m
  |_=>.stuck
 |.bZ c a b k,env,m=>(ev call gv c env m).bind λx m=>(cK x m).bind λt m =>
   (if t then ex a env m else ex b env m).bind λfl m=>match fl with
    |.next env=>ex k env m
    |fl=>.ok fl m
 |.vZ tg it body k,env,m=>(ev call gv it env m).bind λx m0=>(bp x m0).bind λts m =>
   (cj (λenv m=>ex body env m) tg ts env m).bind λfl m=>match fl with
    |.next env=>ex k env (giveBack x m0 m)
    |.ret w=>.ok (.ret w) (giveBack x m0 m)
 |.Ml c body k,env,m=>(dk (λenv m=>(ev call gv c env m).bind cK) (λenv m=>ex body env m) turns env m).bind λfl m=>match fl with
    |.next env=>ex k env m
    |fl=>.ok fl m
 |.ret e _,env,m=>(ev call gv e env m).bind λw m=>.ok (.ret w) m
 |.expr e k,env,m=>(ev call gv e env m).bind λ_ m=>ex k env m
 |.DY c nms es _,env,m=>(evs call gv es env m).bind λws m=>(bX ws m).bind λts m=>if nms=[]then(if ts.length<=1000 then .exc ⟨c,[],[]⟩ m else .stuck)else if ts.length=nms.length then .exc ⟨c,nms,ts⟩ m else .stuck
 |.tri b yes nm h k,env,m=>match ex b env m with
  |.ok fl m=>match fl with
   |.next env=>ex k env m
   |fl=>.ok fl m
  |.exc x m=>if x.cls∈yes then(ex h (GO env.length nm x) m).only.bind λfl m=>match fl with
    |.next env=>ex k (Nb nm env) m
    |.ret w=>.ok (.ret w) m
   else .stuck
  |.stuck=>.stuck
end
structure Fn where
 ps:Nat
 n:Nat
 body:S
 cell:Bool:=false
noncomputable def fin(n:Nat)(cell:Bool)(fl:Flow)(m:Mem):Res W:=match fl with
 |.ret (.t t)=>.ok (.t t) (m.take n)
 |.ret (.c i)=>if i<n then .ok (.c i) (m.take n)else match m[i]? with
  |some (Zz (false,ts))=>if cell then .ok (.c n) (m.take n++[Zz (false,ts)])else .ok (.t (.lst ts)) (m.take n)
  |_=>.stuck
 |.next _=>.ok (.t .non) (m.take n)
 |_=>.stuck
noncomputable def fU(fns:List Fn)(gv:List T):Nat->Nat->List W->Mem->Res W
 |0,_,_,_=>.stuck
 |n+1,f,ws,m=>match fns[f]? with
  |none=>.stuck
  |some d=>if ws.length=d.ps then(ex (fU fns gv n) gv d.body (ws.map Zz++R4 (d.n-d.ps) Zy) m).bind λfl m'=>fin m.length d.cell fl m' else .stuck
end Mi
namespace Mi
open PySem L2
abbrev FC(o:HO)(r:Option HO):Prop:=r=Zz o
theorem FC.of{o:HO}{r:Option HO}(h:r=Zz o):FC o r:=h
def zn(_:Rf)(_:Hp):Prop:=True
theorem zn.upd{K:Rf}{H:Hp}{a:Q8}{o:HO}(_:zn K H)(_:∀u,H a=Zz u->∃xs,u=.lst xs):zn K (upd H a o):=trivial
section
variable(K:Rf)
def ba(cm:List Q8)(m:Mem)(a:Q8):Prop:=∀(i:Nat) p,m[i]?=Zz (Zz p)->cm[i]?≠Zz a
def jN(H:Hp)(a:Q8)(ns:List Int):Prop:=(∃o,H a=Zz (.jS o (.lst (ns.map V.int)))) ∨
 ∃(o:Obj) (its:Array Q2) (n:Nat),K.lookup a=Zz o/\o.cls=.type "list"/\o.dict=Zy/\o.data=.seq its n/\its.size<=RP/\Vals (ns.map V.int) its.toList
inductive RT (cm:List Q8) (m:Mem) (H:Hp):T->V->Prop where
 |non:RT cm m H .non .non
 |bl (b:Bool):RT cm m H (.bl b) (.bl b)
 |int (i:Int):RT cm m H (.int i) (.int i)
 |str (cs:List Nat):RT cm m H (.str cs) (.str ⟨cs.toArray⟩)
 |tup {a:Q8}{ts:List T}{vs:List V}:lA K H a vs->ts.length=vs.length->(∀(i:Nat) t v,ts[i]?=Zz t->vs[i]?=Zz v->RT cm m H t v)->RT cm m H (.tup ts) (.ref a)
 |lst {a:Q8}{ts:List T}{vs:List V}:H a=Zz (.lst vs)->ba cm m a->ts.length=vs.length->(∀(i:Nat) t v,ts[i]?=Zz t->vs[i]?=Zz v->RT cm m H t v)->RT cm m H (.lst ts) (.ref a)
 |dct {a:Q8}{ks:List Key}{ts:List T}{vs:List V}:H a=Zz (.dK (ks.zip vs))->ba cm m a->ks.length=vs.length->ts.length=vs.length ->
  (∀(i:Nat) t v,ts[i]?=Zz t->vs[i]?=Zz v->RT cm m H t v)->RT cm m H (.dct ks ts) (.ref a)
 |dG {a:Q8}(ns:List Int):jN K H a ns->RT cm m H (.dG ns) (.ref a)
abbrev c6(cm:List Q8)(m:Mem)(H:Hp)(ts:List T)(vs:List V):Prop:=Sl (RT K cm m H) ts vs
def XF(cm:List Q8)(m:Mem)(H:Hp)(nms:List Str)(ts:List T)(dx:Option Q8):Prop:=match dx with
 |none=>nms=[]/\ts=[]
 |some d=>∃vs,H d=Zz (.xd (nms.zip vs))/\nms.length=vs.length/\c6 K cm m H ts vs
def RW(cm:List Q8)(m:Mem)(H:Hp):W->V->Prop
 |.t x,v=>RT K cm m H x v
 |.c i,v=>∃a,cm[i]?=Zz a/\v=.ref a
 |.x c nms ts,v=>∃a o u,v=.ref a/\H a=Zz (.jS o u)/\o.cls=.ref c/\(∃fs,o.data=.fields fs)/\XF K cm m H nms ts o.dict
abbrev zX(cm:List Q8)(m:Mem)(H:Hp)(ws:List W)(vs:List V):Prop:=Sl (RW K cm m H) ws vs
structure aE (cm:List Q8) (m:Mem) (H:Hp):Prop where
 len:cm.length=m.length
 inj:∀(i j:Nat) a p q,m[i]?=Zz (Zz p)->m[j]?=Zz (Zz q)->cm[i]?=Zz a->cm[j]?=Zz a->i=j
 at':∀(i:Nat) p,m[i]?=Zz (Zz p)->∃a vs,cm[i]?=Zz a/\H a=Zz (.lst vs)/\K.lookup a=Zy/\c6 K cm m H p.2 vs
 tab:zn K H
def bq(cm:List Q8)(m:Mem)(H:Hp)(env:Env)(σ:L2.St):Prop:=∀(i:Nat) w,env[i]?=Zz (Zz w)->∃v,σ[i]?=Zz (Zz v)/\RW K cm m H w v
structure dQ (cm:List Q8) (m:Mem) (H:Hp) (cm':List Q8) (m':Mem) (H':Hp):Prop where
 pre:∀(i:Nat) a,cm[i]?=Zz a->cm'[i]?=Zz a
 len:m.length<=m'.length
 lent:∀(i:Nat) ts,m[i]?=Zz (Zz (true,ts))->m'[i]?=Zz (Zz (true,ts))
 keep:∀a o,H a=Zz o->ba cm m a->FC o (H' a)/\ba cm' m' a
end
section
variable{K:Rf}{cm cm' cm'':List Q8}{m m' m'':Mem}{H H' H'':Hp}
theorem oh{α β:Type}{F:α->β->Prop}:∀{xs:List α}{ys:List β},xs.length=ys.length->(∀(i:Nat) x y,xs[i]?=Zz x->ys[i]?=Zz y->F x y)->Sl F xs ys
 |[],[],_,_=>.nil
 |x::xs,y::ys,c,h=>.cons (h 0 x y rfl rfl) (oh (by simpa using c) λi a b e d=>h (i+1) a b (by simpa using e) (by simpa using d))
 |[],_::_,c,_=>by simp at c
 |_::_,[],c,_=>by simp at c
theorem fR{α β:Type}{F:α->β->Prop}:∀{xs:List α}{ys:List β},Sl F xs ys->∀(i:Nat) x y,xs[i]?=Zz x->ys[i]?=Zz y->F x y
 |_,_,.nil,i,x,y,h,_=>by simp at h
 |_,_,.cons r t,0,x,y,b,a=>by simp at b a;subst b;subst a;exact r
 |_,_,.cons r t,i+1,x,y,b,a=>fR t i x y (by simpa using b) (by simpa using a)
theorem dq{α β:Type}{F:α->β->Prop}{xs:List α}{ys:List β}(h:Sl F xs ys){i:Nat}{x:α}(b:xs[i]?=Zz x):∃y,ys[i]?=Zz y/\F x y:=by
 have c:=h.length;have d:=(R0.mp b).1;have a:ys[i]?=Zz (ys[i]'(by omega)):=Ra (by omega);exact⟨_,a,fR h i _ _ b a⟩
theorem bB{α β:Type}{F:α->β->Prop}:∀{xs b:List α}{ys a:List β},Sl F xs ys->Sl F b a->Sl F (xs++b) (ys++a)
 |_,_,_,_,.nil,h=>h
 |_,_,_,_,.cons r t,h=>.cons r (bB t h)
theorem gW{α β:Type}{F:α->β->Prop}:∀{xs:List α}{ys:List β}(n:Nat),Sl F xs ys->Sl F (xs.take n) (ys.take n)
 |_,_,0,_=>.nil
 |_,_,_+1,.nil=>.nil
 |_,_,n+1,.cons r t=>.cons r (gW n t)
theorem gI{α β:Type}{F:α->β->Prop}:∀{xs:List α}{ys:List β}(n:Nat),Sl F xs ys->Sl F (xs.drop n) (ys.drop n)
 |_,_,0,r=>r
 |_,_,_+1,.nil=>.nil
 |_,_,n+1,.cons _ t=>gI n t
theorem qL{α β:Type}{F:α->β->Prop}{x:α}{y:β}(r:F x y):∀{xs:List α}{ys:List β}(i:Nat),Sl F xs ys->Sl F (xs.set i x) (ys.set i y)
 |_,_,_,.nil=>.nil
 |_,_,0,.cons _ t=>.cons r t
 |_,_,i+1,.cons q t=>.cons q (qL r i t)
theorem aO{α β:Type}{F G:α->β->Prop}(f:∀a b,F a b->G a b){xs:List α}{ys:List β}(h:Sl F xs ys):Sl G xs ys:=L2.Paired.Ms h f
theorem RT.AF{a:Q8}{ts:List T}{b:List V}(h:lA K H a b)(r:c6 K cm m H ts b):RT K cm m H (.tup ts) (.ref a):=.tup h r.length λi t v d c=>fR r i t v d c
theorem RT.Ld{a:Q8}{ts:List T}{b:List V}(h:H a=Zz (.lst b))(n:ba cm m a)(r:c6 K cm m H ts b):RT K cm m H (.lst ts) (.ref a):=.lst h n r.length λi t v d c=>fR r i t v d c
theorem RT.jQ{ts:List T}{v:V}(h:RT K cm m H (.tup ts) v):∃a vs,v=.ref a/\lA K H a vs/\c6 K cm m H ts vs:=by
 cases h with
 |tup e d c=>exact⟨_,_,rfl,e,oh d c⟩
theorem RT.Ls{ts:List T}{v:V}(h:RT K cm m H (.lst ts) v):∃a vs,v=.ref a/\H a=Zz (.lst vs)/\ba cm m a/\c6 K cm m H ts vs:=by
 cases h with
 |lst f e d c=>exact⟨_,_,rfl,f,e,oh d c⟩
theorem eW(M:aE K cm m H){a:Q8}{o:HO}(h:H a=Zz o)(f:∀c,o≠.lst c):ba cm m a:=λi d e z=>by
 obtain⟨b,c,j,g,_,_⟩:=M.at' i d e;rw[j]at z;cases z;rw[g]at h;cases h;exact f _ rfl
theorem dQ.Pr(x:dQ cm m H cm' m' H')(M:aE K cm m H){a:Q8}{vs:List V}(h:lA K H a vs):lA K H' a vs:=by
 rcases h with(h|⟨o,h⟩)|h
 ·exact .inl (.inl (x.keep a _ h (eW M h (λ_ z=>by cases z))).1)
 ·exact .inl (.inr ⟨o,(x.keep a _ h (eW M h (λ_ z=>by cases z))).1⟩)
 ·exact .inr h
theorem dQ.dG(x:dQ cm m H cm' m' H')(M:aE K cm m H){a:Q8}{ns:List Int}(h:jN K H a ns):jN K H' a ns:=by
 rcases h with⟨o,h⟩|h
 ·exact .inl ⟨o,(x.keep a _ h (eW M h (λ_ z=>by cases z))).1⟩
 ·exact .inr h
theorem jN.sq{a:Q8}{b:List Int}(h:jN K H a b):sU K H a (b.map V.int):=by
 rcases h with⟨o,h⟩|h
 ·exact .inl (.inr ⟨o,h⟩)
 ·exact .inr h
theorem RT.ext(x:dQ cm m H cm' m' H')(M:aE K cm m H)(M':aE K cm' m' H'){t:T}{v:V}(h:RT K cm m H t v):RT K cm' m' H' t v:=by
 induction h with
 |non=>exact .non
 |bl b=>exact .bl b
 |int i=>exact .int i
 |str cs=>exact .str cs
 |tup c a _ d=>exact .tup (x.Pr M c) a d
 |lst c a e _ d=>exact .lst (x.keep _ _ c a).1 (x.keep _ _ c a).2 e d
 |dG ns h=>exact .dG ns (x.dG M h)
 |dct c a e h4 _ d=>exact .dct (x.keep _ _ c a).1 (x.keep _ _ c a).2 e h4 d
theorem c6.ext(x:dQ cm m H cm' m' H')(M:aE K cm m H)(b:aE K cm' m' H'){ts:List T}{vs:List V}(h:c6 K cm m H ts vs):c6 K cm' m' H' ts vs:=aO (λ_ _ z=>z.ext x M b) h
theorem XF.ext(x:dQ cm m H cm' m' H')(M:aE K cm m H)(i:aE K cm' m' H'){a:List Str}{ts:List T}{dx:Option Q8}(h:XF K cm m H a ts dx):XF K cm' m' H' a ts dx:=by
 cases dx with
 |none=>exact h
 |some d =>
  obtain⟨e,c,g,f⟩:=h;exact⟨e,(x.keep d _ c (eW M c (λ_ z=>by cases z))).1,g,f.ext x M i⟩
theorem RW.ext(x:dQ cm m H cm' m' H')(M:aE K cm m H)(f:aE K cm' m' H'){w:W}{v:V}(h:RW K cm m H w v):RW K cm' m' H' w v:=by
 cases w with
 |t t=>exact RT.ext x M f h
 |c i=>obtain⟨a,e,b⟩:=h;exact⟨a,x.pre i a e,b⟩
 |x c g l=>obtain⟨a,o,u,e,b,k,d,j⟩:=h;exact⟨a,o,u,e,(x.keep a _ b (eW M b (λ_ z=>by cases z))).1,k,d,j.ext x M f⟩
theorem zX.ext(x:dQ cm m H cm' m' H')(M:aE K cm m H)(b:aE K cm' m' H'){ws:List W}{vs:List V}(h:zX K cm m H ws vs):zX K cm' m' H' ws vs:=aO (λ_ _ z=>RW.ext x M b z) h
theorem bq.ext(x:dQ cm m H cm' m' H')(M:aE K cm m H)(c:aE K cm' m' H'){env:Env}{σ:L2.St}(h:bq K cm m H env σ):bq K cm' m' H' env σ:=λi w e=>by
 obtain⟨v,b,a⟩:=h i w e;exact⟨v,b,a.ext x M c⟩
theorem dQ.refl:dQ cm m H cm m H:=⟨λ_ _ h=>h,R1 _,λ_ _ h=>h,λ_ _ h n=>⟨.of h,n⟩⟩
theorem dQ.trans(x:dQ cm m H cm' m' H')(y:dQ cm' m' H' cm'' m'' H''):dQ cm m H cm'' m'' H'':=
 ⟨λi a h=>y.pre i a (x.pre i a h),Re x.len y.len,λi b h=>y.lent i b (x.lent i b h),λa o h n=>y.keep a o (x.keep a o h n).1 (x.keep a o h n).2⟩
noncomputable abbrev XR:=Exc->List Q8->Mem->Hp->Prop
def M6:XR:=λ_ _ _ _=>False
variable(K) in
def aX{α:Type}(r:Res α)(xr:XR)(cm:List Q8)(m:Mem)(H:Hp)(k:α->List Q8->Mem->Hp->Prop):Prop:=match r with
 |.ok a m'=>∀cm' H',dQ cm m H cm' m' H'->aE K cm' m' H'->k a cm' m' H'
 |.exc x m'=>∀cm' H',dQ cm m H cm' m' H'->aE K cm' m' H'->xr x cm' m' H'
 |.stuck=>False
variable{xr:XR}
theorem aX.shift{α:Type}{r:Res α}{k:α->List Q8->Mem->Hp->Prop}(h:aX K r xr cm m H k)(x:dQ cm m H cm' m' H'):aX K r xr cm' m' H' k:=by
 cases r with
 |ok a f=>exact λc d e M=>h c d (x.trans e) M
 |exc a f=>exact λc d e M=>h c d (x.trans e) M
 |stuck=>exact h
theorem aX.bind{α β:Type}{r:Res α}{f:α->Mem->Res β}{k:β->List Q8->Mem->Hp->Prop}(h:aX K (r.bind f) xr cm m H k):
  aX K r xr cm m H λa cm' m' H'=>aX K (f a m') xr cm' m' H' k:=by
 cases r with
 |ok a m2=>exact λc h' e M=>aX.shift (show aX K (f a m2) xr cm m H k from h) e
 |exc a m2=>exact h
 |stuck=>exact h
theorem aX.KP{α β:Type}{r:Res α}{f:α->Mem->Res β}{k:β->List Q8->Mem->Hp->Prop}(h:aX K (r.bind f) xr cm m H k):
  aX K r xr cm m H λa _ m' _=>aX K (f a m') xr cm m H k:=by
 cases r with
 |ok a m2=>exact λc h' e M=>h
 |exc a m2=>exact h
 |stuck=>exact h
theorem aX.mono{α:Type}{r:Res α}{k k':α->List Q8->Mem->Hp->Prop}(h:aX K r xr cm m H k)(f:∀a cm' m' H',dQ cm m H cm' m' H'->aE K cm' m' H'->k a cm' m' H'->k' a cm' m' H'):aX K r xr cm m H k':=by
 cases r with
 |ok a m2=>exact λc h' e M=>f a c m2 h' e M (h c h' e M)
 |exc a m2=>exact h
 |stuck=>exact h
theorem aX.now{α:Type}{a:α}{k:α->List Q8->Mem->Hp->Prop}(h:aX K (.ok a m) xr cm m H k)(M:aE K cm m H):k a cm m H:=h cm H .refl M
theorem aX.to{α:Type}{a:α}{m':Mem}{k:α->List Q8->Mem->Hp->Prop}(h:aX K (.ok a m') xr cm m H k)(x:dQ cm m H cm' m' H')(M:aE K cm' m' H'):k a cm' m' H':=h cm' H' x M
end
section
variable(K:Rf) (call:Nat->List W->Mem->Res W) (gv:List T) (xr:XR)
inductive tE (e:E) (σ:L2.St) (H:Hp) (Q:VK):Prop where
 |mk (env cm m) (_:bq K cm m H env σ) (_:aE K cm m H) (_:aX K (ev call gv e env m) xr cm m H λw cm' m' H'=>∀v,RW K cm' m' H' w v->Q v H')
inductive tA (es:Es) (σ:L2.St) (H:Hp) (Q:List V->Hp->Prop):Prop where
 |mk (env cm m) (_:bq K cm m H env σ) (_:aE K cm m H) (_:aX K (evs call gv es env m) xr cm m H λws cm' m' H'=>∀vs,zX K cm' m' H' ws vs->Q vs H')
inductive tT (e:E) (σ:L2.St) (H:Hp) (Q:Bool->Hp->Prop):Prop where
 |mk (env cm m) (_:bq K cm m H env σ) (_:aE K cm m H) (_:aX K ((ev call gv e env m).bind cK) xr cm m H λk _ _ H'=>Q k H')
inductive r2 (f:W->W->Mem->Res W) (x:V) (y:V) (H:Hp) (Q:VK):Prop where
 |mk (cm m a b) (_:aE K cm m H) (_:RW K cm m H a x) (_:RW K cm m H b y) (_:aX K (f a b m) xr cm m H λw cm' m' H'=>∀v,RW K cm' m' H' w v->Q v H')
inductive r1 (f:W->Mem->Res W) (x:V) (H:Hp) (Q:VK):Prop where
 |mk (cm m a) (_:aE K cm m H) (_:RW K cm m H a x) (_:aX K (f a m) xr cm m H λw cm' m' H'=>∀v,RW K cm' m' H' w v->Q v H')
inductive rN (f:List W->Mem->Res W) (xs:List V) (H:Hp) (Q:VK):Prop where
 |mk (cm m ws) (_:aE K cm m H) (_:zX K cm m H ws xs) (_:aX K (f ws m) xr cm m H λw cm' m' H'=>∀v,RW K cm' m' H' w v->Q v H')
end
section
variable{K:Rf}{call:Nat->List W->Mem->Res W}{gv:List T}{xr:XR}{X:Cx}
theorem PE.mono{e:Rq}{t t':TE}(h:PE X e t)(f:∀σ H Q,t' σ H Q->t σ H Q):PE X e t':=λa s σ H Q I q=>h a s σ H Q I (f σ H Q q)
theorem PT.mono{e:Rq}{t t':TT}(h:PT X e t)(f:∀σ H Q,t' σ H Q->t σ H Q):PT X e t':=λa s σ H Q I q=>h a s σ H Q I (f σ H Q q)
theorem PA.mono{e:List Rq}{t t':TA}(h:PA X e t)(f:∀σ H Q,t' σ H Q->t σ H Q):PA X e t':=λb a s σ H Q I q=>h b a s σ H Q I (f σ H Q q)
theorem yV{a b e:E}{f:W->W->Mem->Res W}(h:∀env m,ev call gv e env m=(ev call gv a env m).bind λx m=>(ev call gv b env m).bind λy m=>f x y m)(σ:L2.St)(H:Hp)(Q:VK)(q:tE K call gv xr e σ H Q):
  N3 (r2 K xr f) (tE K call gv xr a) (tE K call gv xr b) σ H Q:=by
 obtain⟨env,cm,m,hE,hM,ho⟩:=q;rw[h]at ho;refine⟨env,cm,m,hE,hM,ho.bind.mono λw cm1 m1 H1 x1 M1 o1 v rv=>?_⟩;refine⟨env,cm1,m1,hE.ext x1 hM M1,M1,o1.bind.mono λw2 cm2 m2 H2 x2 M2 o2 v2 rv2=>?_⟩;exact⟨cm2,m2,w,w2,M2,rv.ext x2 M1 M2,rv2,o2⟩
end
end Mi
namespace Mi
open PySem PySem.Spec PyProof.Rows L2
section
variable{K:Rf}{cm:List Q8}{m:Mem}{H:Hp}{xr:XR}{X:Cx}
theorem ao(h:RW K cm m H w v)(e:view w m=Zz t)(n:∀ts,t≠.lst ts):RT K cm m H t v:=by
 cases w with
 |t x=>cases e;exact h
 |x _ _ _=>cases e
 |c i =>
  unfold view at e;dsimp only at e;split at e
  ·cases e;exact Xk rfl (n _)
  ·cases e
theorem be(M:aE K cm m H)(h:RW K cm m H w v)(e:view w m=Zz (.lst ts)):∃a vs,v=.ref a/\H a=Zz (.lst vs)/\c6 K cm m H ts vs:=by
 cases w with
 |t x =>
  cases e;obtain⟨a,vs,j,g,_,f⟩:=RT.Ls h;exact⟨a,vs,j,g,f⟩
 |x _ _ _=>cases e
 |c i =>
  unfold view at e;dsimp only at e;split at e
  ·rename_i fl us hu
   cases e;obtain⟨a,j,g⟩:=h;obtain⟨b,vs,f,l,_,k⟩:=M.at' i _ hu;rw[j]at f;cases f;exact⟨a,vs,g,l,k⟩
  ·cases e
theorem RT.b7(h:RT K cm m H (.int i) v):v=.int i:=by cases h;rfl
theorem RT.Ey(h:RT K cm m H (.bl b) v):v=.bl b:=by cases h;rfl
theorem RT.Iu(h:RT K cm m H .non v):v=.non:=by cases h;rfl
theorem RT.dA(h:RT K cm m H (.str cs) v):v=.str ⟨cs.toArray⟩:=by cases h;rfl
theorem RT.EB(h:RT K cm m H (.dG ns) v):∃a,v=.ref a/\jN K H a ns:=by
 cases h with
 |dG _ h=>exact⟨_,rfl,h⟩
theorem yF(M:aE K cm m H)(d:H p=Zy):ba cm m p:=λi c e z=>by
 obtain⟨a,g,f,b,_⟩:=M.at' i c e;rw[f]at z;cases z;rw[d]at b;cases b
theorem dQ.new(b:H p=Zy):dQ cm m H cm m (upd H p o):=
 ⟨λ_ _ h=>h,R1 _,λ_ _ h=>h,λa u h n=>⟨.of (by rw[aI (cT h b)];exact h),n⟩⟩
theorem RT.same(g:∀a o,H a=Zz o->H' a=Zz o)(h2:∀a,ba cm m a->H a≠Zy->ba cm' m' a)(h:RT K cm m H t v):RT K cm' m' H' t v:=by
 induction h with
 |non=>exact .non
 |bl b=>exact .bl b
 |int i=>exact .int i
 |str cs=>exact .str cs
 |tup d e _ f =>
  refine .tup ?_ e f;rcases d with(q|⟨o,q⟩)|q
  ·exact .inl (.inl (g _ _ q))
  ·exact .inl (.inr ⟨o,g _ _ q⟩)
  ·exact .inr q
 |lst d e q3 _ f=>exact .lst (g _ _ d) (h2 _ e (by rw[d];simp)) q3 f
 |dct d e q3 q4 _ f=>exact .dct (g _ _ d) (h2 _ e (by rw[d];simp)) q3 q4 f
 |dG ns q =>
  refine .dG ns ?_;rcases q with⟨o,q⟩|q
  ·exact .inl ⟨o,g _ _ q⟩
  ·exact .inr q
theorem XF.same(h1:∀a o,H a=Zz o->H' a=Zz o)(f:∀t v,RT K cm m H t v->RT K cm' m' H' t v)(h:XF K cm m H nms ts dx):XF K cm' m' H' nms ts dx:=by
 cases dx with
 |none=>exact h
 |some d =>
  obtain⟨vs,q1,q2,q3⟩:=h;exact⟨vs,h1 _ _ q1,q2,aO (λt v z=>f t v z) q3⟩
theorem XF.Kr(f:∀t v,RT K cm m H t v->RT K cm' m' H t v)(h:RW K cm m H (.x c nms ts) v):RW K cm' m' H (.x c nms ts) v:=by
 obtain⟨a,o,u,q1,q2,q3,q3',q4⟩:=h;exact⟨a,o,u,q1,q2,q3,q3',q4.same (λ_ _ z=>z) f⟩
theorem bM(b:H p=Zy):∀a u,H a=Zz u->upd H p o a=Zz u:=λa u h=>by rw[aI (cT h b)];exact h
theorem aE.new(M:aE K cm m H)(hp:H p=Zy):aE K cm m (upd H p o):=
 ⟨M.len,M.inj,λi d e=>by
  obtain⟨a,vs,j,h,g,f⟩:=M.at' i d e;exact⟨a,vs,j,bM hp _ _ h,g,aO (λ_ _ z=>z.same (bM hp) λ_ n _=>n) f⟩,M.tab.upd λu z=>by rw[hp]at z;cases z⟩
theorem c6.new(r:c6 K cm m H ts vs)(a:H p=Zy):c6 K cm m (upd H p o) ts vs:=aO (λ_ _ z=>z.same (bM a) λ_ n _=>n) r
theorem RT.K0(r:c6 K cm m H ts vs)(a:H p=Zy):RT K cm m (upd H p (.tup vs)) (.tup ts) (.ref p):=.AF (.of bx) (c6.new r a)
theorem RT.zK(M:aE K cm m H)(r:c6 K cm m H ts vs)(a:H p=Zy):RT K cm m (upd H p (.lst vs)) (.lst ts) (.ref p):=.Ld bx (yF M a) (c6.new r a)
theorem o9(f:cm.length=m.length)(n:ba cm m a)(d:a≠p):ba (cm++[p]) (m++[Zz c]) a:=λi b e z=>by
 by_cases hi:i<m.length
 ·rw[RR hi]at e
  rw[RR (by omega)]at z;exact n i b e z
 ·by_cases hj:i=m.length
  ·subst hj
   rw[<-f,RZ (R1 _)]at z;simp at z;exact d z.symm
  ·rw[Sw (by simp;omega)]at e
   cases e
theorem jH(M:aE K cm m H)(r:c6 K cm m H ts vs)(hp:H p=Zy)(hk:K.lookup p=Zy):
  dQ cm m H (cm++[p]) (m++[Zz (false,ts)]) (upd H p (.lst vs))/\aE K (cm++[p]) (m++[Zz (false,ts)]) (upd H p (.lst vs))/\RW K (cm++[p]) (m++[Zz (false,ts)]) (upd H p (.lst vs)) (.c m.length) (.ref p):=by
 have sm:∀{t:T}{v:V},RT K cm m H t v->RT K (cm++[p]) (m++[Zz (false,ts)]) (upd H p (.lst vs)) t v:=λh =>
  h.same (bM hp) λa n hn=>o9 M.len n λz=>by subst z;exact hn hp
 have y:∀{i:Nat}{c:Bool×List T},(m++[Zz (false,ts)])[i]?=Zz (Zz c)->(m[i]?=Zz (Zz c)/\i<m.length)∨(i=m.length/\c=(false,ts)):=λ{i c} e=>by
  by_cases hi:i<m.length
  ·rw[RR hi]at e
   exact .inl ⟨e,hi⟩
  ·by_cases hj:i=m.length
   ·subst hj
    simp at e;exact .inr ⟨rfl,e.symm⟩
   ·rw[Sw (by simp;omega)]at e
    cases e
 have B:∀{i:Nat},i<m.length->(cm++[p])[i]?=cm[i]?:=λ{i} h=>RR (by rw[M.len];exact h)
 have A:(cm++[p])[m.length]?=Zz p:=by rw[<-M.len];simp
 have np:∀{i:Nat}{c:Bool×List T}{a:Q8},m[i]?=Zz (Zz c)->cm[i]?=Zz a->a≠p:=λ{i c a} e1 x z=>by
  subst z;obtain⟨b,ws,w,s,_⟩:=M.at' i c e1;rw[x]at w;cases w;rw[hp]at s;cases s
 refine⟨⟨λi a h=>?_,by simp,λi C h=>?_,λa o h n=>⟨.of (bM hp _ _ h),o9 M.len n (cT h hp)⟩⟩,⟨by simp[M.len],λi j a C us' e1 x q f=>?_,λi C e=>?_,M.tab.upd λu z=>by rw[hp]at z;cases z⟩,⟨p,A,rfl⟩⟩
 ·rw[RR (R0.mp h).1];exact h
 ·rw[RR (R0.mp h).1];exact h
 ·rcases y e1 with⟨g1,l1⟩|⟨k1,_⟩
  ·rw[B l1]at q
   rcases y x with⟨g2,D⟩|⟨E,_⟩
   ·rw[B D]at f
    exact M.inj i j a _ _ g1 g2 q f
   ·rw[E,A]at f;cases f
    exact Xk rfl (np g1 q)
  ·rw[k1,A]at q;cases q
   rcases y x with⟨g2,D⟩|⟨E,_⟩
   ·rw[B D]at f
    exact Xk rfl (np g2 f)
   ·rw[k1,E]
 ·rcases y e with⟨g,l⟩|⟨k,z⟩
  ·obtain⟨a,ws,w,s,q3,q4⟩:=M.at' i C g
   exact⟨a,ws,by rw[B l];exact w,bM hp _ _ s,q3,aO (λ_ _ z=>sm z) q4⟩
  ·rw[k,z]
   exact⟨p,vs,A,bx,hk,aO (λ_ _ z=>sm z) r⟩
theorem iE(e:m[i]?=Zz (Zz c)){j:Nat}(q:(m.set i (Zz c'))[j]?=Zz (Zz d)):∃d',m[j]?=Zz (Zz d'):=by
 by_cases hj:j=i
 ·subst hj;exact⟨c,e⟩
 ·rw[RK (SR hj)]at q;exact⟨d,q⟩
theorem ju(M:aE K cm m H){a:Q8}(e:m[i]?=Zz (Zz (false,ts)))(p:cm[i]?=Zz a)(r:c6 K cm m H ts' vs'):
  dQ cm m H cm (m.set i (Zz (false,ts'))) (upd H a (.lst vs'))/\aE K cm (m.set i (Zz (false,ts'))) (upd H a (.lst vs')):=by
 have hi:=(R0.mp e).1;have nl:∀{b:Q8},ba cm m b->ba cm (m.set i (Zz (false,ts'))) b:=λ{b} n j s q=>by
  obtain⟨g,q'⟩:=iE e q;exact n j g q'
 have ne:∀{b:Q8},ba cm m b->b≠a:=λ{b} n z=>by subst z;exact n i _ e p
 have x:dQ cm m H cm (m.set i (Zz (false,ts'))) (upd H a (.lst vs')):=⟨λ_ _ h=>h,by simp,λj s h=>by
  by_cases hj:j=i
  ·subst hj;rw[e]at h;cases h
  ·rw[RK (SR hj)];exact h,λb o h n=>⟨.of (by rw[aI (ne n)];exact h),nl n⟩⟩
 have D:∀{t:T}{v:V},RT K cm m H t v->RT K cm (m.set i (Zz (false,ts'))) (upd H a (.lst vs')) t v:=λ{t v} h=>by
  induction h with
  |non=>exact .non
  |bl b=>exact .bl b
  |int i=>exact .int i
  |str cs=>exact .str cs
  |tup c d _ l=>exact .tup (x.Pr M c) d l
  |lst c d f _ l=>exact .lst (x.keep _ _ c d).1 (x.keep _ _ c d).2 f l
  |dct c d f w _ l=>exact .dct (x.keep _ _ c d).1 (x.keep _ _ c d).2 f w l
  |dG ns q=>exact .dG ns (x.dG M q)
 refine⟨x,⟨by simp[M.len],λj k b s g A y f1 f2=>?_,λj s q=>?_,by
  obtain⟨b0,F,C,E,_⟩:=M.at' i _ e;rw[p]at C;cases C;exact M.tab.upd λu z=>by rw[E]at z;cases z;exact⟨_,rfl⟩⟩⟩
 ·obtain⟨_,A⟩:=iE e A
  obtain⟨_,y⟩:=iE e y;exact M.inj j k b _ _ A y f1 f2
 ·by_cases hj:j=i
  ·subst hj
   rw[RS hi]at q;cases q;obtain⟨b,B,c,_,f,_⟩:=M.at' j _ e;rw[p]at c;cases c;exact⟨a,vs',p,bx,f,aO (λ_ _ z=>D z) r⟩
  ·rw[RK (SR hj)]at q
   obtain⟨b,B,c,d,f,w⟩:=M.at' j s q;have hb:b≠a:=λz=>by
    subst z;exact hj (M.inj j i b _ _ q e c p)
   exact⟨b,B,c,by rw[aI hb];exact d,f,aO (λ_ _ z=>D z) w⟩
theorem DK(M:aE K cm m H)(e:m[i]?=Zz (Zz (false,ts))):
  ∃a f,cm[i]?=Zz a/\H a=Zz (.lst f)/\K.lookup a=Zy/\dQ cm m H cm (m.set i Zy) H/\aE K cm (m.set i Zy) H/\c6 K cm (m.set i Zy) H ts f/\RT K cm (m.set i Zy) H (.lst ts) (.ref a):=by
 obtain⟨a,f,r,p,q3,q4⟩:=M.at' i _ e;have hi:=(R0.mp e).1;have d:∀{j:Nat}{us:Bool×List T},(m.set i Zy)[j]?=Zz (Zz us)->m[j]?=Zz (Zz us)/\j≠i:=λ{j us} q=>by
  by_cases hj:j=i
  ·subst hj;rw[RS hi]at q;cases q
  ·rw[RK (SR hj)]at q;exact⟨q,hj⟩
 have s:∀{b:Q8},ba cm m b->ba cm (m.set i Zy) b:=λ{b} n j us q=>n j us (d q).1
 have g:∀{t:T}{v:V},RT K cm m H t v->RT K cm (m.set i Zy) H t v:=λh=>h.same (λ_ _ z=>z) λ_ n _=>s n
 have na:ba cm (m.set i Zy) a:=λj us q z=>(d q).2 (M.inj j i a _ _ (d q).1 e z r)
 have l:=aO (λ_ _ z=>g z) q4;refine⟨a,f,r,p,q3,⟨λ_ _ h=>h,by simp,λj us h=>?_,λb o h n=>⟨.of h,s n⟩⟩,⟨by simp[M.len],λj k b us w e1 e2=>M.inj j k b _ _ (d e1).1 (d e2).1,λj us q=>?_,M.tab⟩,l,.Ld p na l⟩
 ·by_cases hj:j=i
  ·subst hj;rw[e]at h;cases h
  ·rw[RK (SR hj)];exact h
 ·obtain⟨b,u,p1,p2,p3,p4⟩:=M.at' j us (d q).1
  exact⟨b,u,p1,p2,p3,aO (λ_ _ z=>g z) p4⟩
theorem oJ(M:aE K cm m H){b b':Bool}(e:m[i]?=Zz (Zz (b,ts))):
  (∀a,ba cm m a↔ba cm (m.set i (Zz (b',ts))) a)/\aE K cm (m.set i (Zz (b',ts))) H/\(∀t v,RT K cm m H t v->RT K cm (m.set i (Zz (b',ts))) H t v):=by
 have hi:=(R0.mp e).1;have nl:∀a,ba cm m a↔ba cm (m.set i (Zz (b',ts))) a:=λa=>by
  constructor
  ·intro n j us q
   obtain⟨d,q'⟩:=iE e q;exact n j d q'
  ·intro n j us q
   by_cases hj:j=i
   ·subst hj
    exact n j _ (RS hi)
   ·exact n j us (by rw[RK (SR hj)];exact q)
 have sm:∀t v,RT K cm m H t v->RT K cm (m.set i (Zz (b',ts))) H t v:=λt v h=>h.same (λ_ _ z=>z) λa n _=>(nl a).mp n
 refine⟨nl,⟨by simp[M.len],λj k a us us' e1 e2 f1 f2=>?_,λj us q=>?_,M.tab⟩,sm⟩
 ·obtain⟨_,e1⟩:=iE e e1
  obtain⟨_,e2⟩:=iE e e2;exact M.inj j k a _ _ e1 e2 f1 f2
 ·by_cases hj:j=i
  ·subst hj
   rw[RS hi]at q;cases q;obtain⟨a,vs,q1,q2,q3,q4⟩:=M.at' j _ e;exact⟨a,vs,q1,q2,q3,aO (λ_ _ z=>sm _ _ z) q4⟩
  ·rw[RK (SR hj)]at q
   obtain⟨a,vs,q1,q2,q3,q4⟩:=M.at' j us q;exact⟨a,vs,q1,q2,q3,aO (λ_ _ z=>sm _ _ z) q4⟩
theorem DS(M:aE K cm m H)(e:m[i]?=Zz (Zz (b,ts))):dQ cm m H cm (m.set i (Zz (true,ts))) H/\aE K cm (m.set i (Zz (true,ts))) H:=by
 have hi:=(R0.mp e).1;obtain⟨nl,f,_⟩:=oJ (b':=true) M e;refine⟨⟨λ_ _ h=>h,by simp,λj us h=>?_,λa o h n=>⟨.of h,(nl a).mp n⟩⟩,f⟩;by_cases hj:j=i
 ·subst hj
  rw[e]at h;cases h;exact RS hi
 ·rw[RK (SR hj)];exact h
theorem kz(M:aE K cm m H)(e:bp w m=.ok ts m1)(x:dQ cm m1 H cm' m' H')(M':aE K cm' m' H'):
  dQ cm m H cm' (giveBack w m m') H'/\aE K cm' (giveBack w m m') H'/\∀t v,RT K cm' m' H' t v->RT K cm' (giveBack w m m') H' t v:=by
 cases w with
 |t t =>
  unfold bp at e;dsimp only at e;split at e<;>cases e;exact⟨x,M',λ_ _ h=>h⟩
 |x _ _ _=>cases e
 |c i =>
  unfold bp at e;dsimp only at e;split at e
  ·rename_i b us h
   cases e;have hi:=(R0.mp h).1;have h':=x.lent i ts (RS hi);have hi':=(R0.mp h').1;obtain⟨nl,M2,sm⟩:=oJ (b':=b) M' h';have eg:giveBack (.c i) m m'=m'.set i (Zz (b,ts)):=by unfold giveBack;dsimp only;rw[h]
   rw[eg];obtain⟨nl0,M1,_⟩:=oJ (b':=true) M h;refine⟨⟨λj a q=>x.pre j a q,by rw[S8];have:=x.len;rw[S8]at this;exact this,λj vs q=>?_,λa o q n=>?_⟩,M2,sm⟩
   ·by_cases hj:j=i
    ·subst hj
     rw[h]at q;cases q;exact RS hi'
    ·rw[RK (SR hj)]
     exact x.lent j vs (by rw[RK (SR hj)];exact q)
   ·obtain⟨q1,q2⟩:=x.keep a o q ((nl0 a).mp n)
    exact⟨q1,(nl a).mp q2⟩
  ·cases e
theorem bj:lim<=RP:=by rw[SW];decide
theorem cz{k:W->List Q8->Mem->Hp->Prop}(h:aX K (cW o m) xr cm m H k):∃t,o=Zz t/\aX K (.ok (.t t) m) xr cm m H k:=by
 cases o with
 |none=>exact h.elim
 |some t=>exact⟨t,rfl,h⟩
theorem j4{α:Type}{f:T->T->Option α}{z:α}(h:(o.bind λx=>p.bind λy=>f x y)=Zz z):∃x y,o=Zz x/\p=Zz y/\f x y=Zz z:=by
 cases o with
 |none=>cases h
 |some x =>
  cases p with
  |none=>cases h
  |some y=>exact⟨x,y,rfl,rfl,h⟩
theorem zE(a b:List Nat):(⟨a.toArray⟩:Str)++⟨b.toArray⟩=⟨(a++b).toArray⟩:=by
 show(⟨a.toArray++b.toArray⟩:Str)=_;simp
theorem gm(a:List Nat):(⟨a.toArray⟩:Str).length=a.length:=by simp[XB]
theorem ans{Q:VK}(ho:aX K (.ok (.t t) m) xr cm m H λw cm' m' H'=>∀v,RW K cm' m' H' w v->Q v H')(M:aE K cm m H){v:V}(r:RT K cm m H t v):Q v H:=ho.now M v r
theorem lW{ts:List T}{Q:VK}(ho:aX K (.ok (.t (.tup ts)) m) xr cm m H λw cm' m' H'=>∀v,RW K cm' m' H' w v->Q v H')(M:aE K cm m H)(r:c6 K cm m H ts vs)(hp:H p=Zy):
 Q (.ref p) (upd H p (.tup vs)):=ho.to (.new hp) (M.new hp) _ (RT.K0 r hp)
theorem ig{ts:List T}{Q:VK}(ho:aX K (.ok (.t (.lst ts)) m) xr cm m H λw cm' m' H'=>∀v,RW K cm' m' H' w v->Q v H')(M:aE K cm m H)(r:c6 K cm m H ts vs)(hp:H p=Zy):
 Q (.ref p) (upd H p (.lst vs)):=ho.to (.new hp) (M.new hp) _ (RT.zK M r hp)
theorem Ii(c:i.natAbs<AR)(a:j.natAbs<AR):XY i j:=by
 have b:∀{k:Int},k.natAbs<AR->Builtin.Int.intBits k<=2000:=λ{k} h=>intBits_le (by
  have e:AR=2^(250*8):=by unfold AR;rw[<-Nat.pow_mul]
  rw[e]at h;exact h)
 exact mulOk_of_bits (b c) (b a) (by decide)
theorem ur(h:small i=true):-(2^64)<i/\i<2^64:=by
 have a:=Xl h;omega
theorem Gj(h:fV i j=true):XY i j:=by
 unfold fV at h;simp only[Sf,Q3,decide_eq_true_eq]at h;rcases h with(h|h)|⟨b,a⟩
 ·exact Jw.ok (.inl (ur h))
 ·exact Jw.ok (.inr (ur h))
 ·exact Ii b a
theorem JE:dU X (SK .Mult) (rI (λi j=>fV i j=true) λi j=>.int (i*j)):=OR λ_ _ _ _ _ _ _ a q=>mul_int q (Gj a)
theorem Il{E:Q2->Q7->Prop}{ws:List Q2}(q:X7 s.heap t ([]:List Q2).toArray)(r:X7 s.heap b ws.toArray)(h:Q (.ref b) s):RB (RC prog w) A (SK .Add (.ref t) (.ref b)) Q E s:=by
 obtain⟨⟨v,u,l,o⟩,i,k,n,j⟩:=id q;obtain⟨⟨m,f,g,e⟩,a,d,p,c⟩:=id r;simp only at k j d c;subst k j d c;exact Wp ⟨_,i,rfl⟩ ⟨_,a,rfl⟩ W8 Wj Uz Um (UY _ _)
  (tuple_addW0 t b ([]:List Q2).toArray ws.toArray n p u f o e (by simp)) ⟨i,a,h⟩
theorem J5:dU X (SK .Add) (λx y H Q=>∃a b ys,x=.ref a/\y=.ref b/\lA X.K H a []/\lA X.K H b ys/\Q (.ref b) H):=by
 intro pins s σ H x y v u Q I rx ry h;obtain⟨a,b,ys,rfl,rfl,ha,hb,q⟩:=h;cases rx;cases ry;obtain⟨its,r1,p1,_⟩:=I.tuple ha;obtain⟨its2,r2,p2,_⟩:=I.tuple hb;cases r1;exact Il p1 p2 ⟨.ref b,H,I,rfl,q⟩
theorem ku{x y t:T}(e:HN f x y=Zz t):∃i j,x=.int i/\y=.int j/\f i j=Zz t:=by
 cases x with
 |int i=>cases y with
  |int j=>exact⟨i,j,rfl,rfl,e⟩
  |_=>cases e
 |_=>cases e
theorem rW(e:nI f x y=Zz c):∃i j,x=.int i/\y=.int j/\f i j=c:=by
 cases x with
 |int i=>cases y with
  |int j=>exact⟨i,j,rfl,rfl,Ri e⟩
  |_=>cases e
 |_=>cases e
noncomputable def zh(op:W6)(x y:W)(m:Mem):Res W:=cW ((view x m).bind λx=>(view y m).bind λy=>iq op x y) m
theorem Az:dU X (SK .Add) (r2 X.K xr (zh .Add)):=by
 rintro pins s σ H x y v u Q I rx ry ⟨cm,m,a,b,M,ra,rb,ho⟩;obtain⟨t,e,ho⟩:=cz ho;obtain⟨ta,tb,ea,eb,e⟩:=j4 e;change DH ta tb=Zz t at e;unfold DH at e;have hz:=bj;split at e
 ·cases e
  cases(ao ra ea (λ_ z=>by cases z)).b7;cases(ao rb eb (λ_ z=>by cases z)).b7;exact MF pins s σ H _ _ v u Q I rx ry ⟨_,_,rfl,rfl,ans ho M (.int _)⟩
 ·split at e<;>cases e
  cases(ao ra ea (λ_ z=>by cases z)).dA;cases(ao rb eb (λ_ z=>by cases z)).dA;exact AV pins s σ H _ _ v u Q I rx ry ⟨_,_,rfl,rfl,by rw[gm,gm];omega,by rw[zE];exact ans ho M (.str _)⟩
 ·split at e<;>cases e
  obtain⟨p,vs,rfl,h1,r1⟩:=(ao ra ea (λ_ z=>by cases z)).jQ;obtain⟨q,us,rfl,h2,r2⟩:=(ao rb eb (λ_ z=>by cases z)).jQ;have l1:=r1.length;have l2:=r2.length;cases vs with
  |nil =>
   cases r1;exact J5 pins s σ H _ _ v u Q I rx ry ⟨p,q,us,rfl,rfl,h1,h2,ans ho M (.AF h2 r2)⟩
  |cons v1 vs =>
   refine Jy pins s σ H _ _ v u Q I rx ry ⟨p,q,_,us,rfl,rfl,h1,h2,by simp,by omega,λz=>?_,λz l hl=>lW ho M (bB r1 r2) hl⟩;subst z;cases r2;rw[RY]at ho;exact ans ho M (.AF h1 r1)
 ·split at e<;>cases e
  obtain⟨p,vs,rfl,h1,r1⟩:=be M ra ea;obtain⟨q,us,rfl,h2,r2⟩:=be M rb eb;have l1:=r1.length;have l2:=r2.length;exact Lu pins s σ H _ _ v u Q I rx ry ⟨p,q,vs,us,rfl,rfl,h1,h2,by omega,λl hl=>ig ho M (bB r1 r2) hl⟩
 all_goals cases e
theorem An:dU X (SK .Sub) (r2 X.K xr (zh .Sub)):=by
 rintro c s σ H x y v u Q I g f ⟨cm,m,a,b,M,k,h,d⟩;obtain⟨t,e,d⟩:=cz d;obtain⟨q,p,n,l,e⟩:=j4 e;obtain⟨i,j,rfl,rfl,o⟩:=ku e;cases(ao k n (λ_ z=>by cases z)).b7;cases(ao h l (λ_ z=>by cases z)).b7;cases o;exact K2 c s σ H _ _ v u Q I g f ⟨_,_,rfl,rfl,ans d M (.int _)⟩
theorem yb:dU X (SK .FloorDiv) (r2 X.K xr (zh .FloorDiv)):=by
 rintro c s σ H x y v u Q I h g ⟨cm,m,a,b,M,l,k,d⟩;obtain⟨t,e,d⟩:=cz d;obtain⟨q,p,o,n,e⟩:=j4 e;obtain⟨i,j,rfl,rfl,f⟩:=ku e;cases(ao l o (λ_ z=>by cases z)).b7;cases(ao k n (λ_ z=>by cases z)).b7;split at f<;>cases f;exact Jr c s σ H _ _ v u Q I h g ⟨_,_,rfl,rfl,‹_/\_›,ans d M (.int _)⟩
theorem AY:dU X (SK .Mod) (r2 X.K xr (zh .Mod)):=by
 rintro c s σ H x y v u Q I h g ⟨cm,m,a,b,M,l,k,d⟩;obtain⟨t,e,d⟩:=cz d;obtain⟨q,p,o,n,e⟩:=j4 e;obtain⟨i,j,rfl,rfl,f⟩:=ku e;cases(ao l o (λ_ z=>by cases z)).b7;cases(ao k n (λ_ z=>by cases z)).b7;split at f<;>cases f;exact Ma c s σ H _ _ v u Q I h g ⟨_,_,rfl,rfl,‹_›,ans d M (.int _)⟩
theorem Aj:dU X (SK .Pow) (r2 X.K xr (zh .Pow)):=by
 rintro d s σ H x y v u Q I k h ⟨cm,m,a,b,M,n,l,g⟩;obtain⟨t,e,g⟩:=cz g;obtain⟨r,q,p,o,e⟩:=j4 e;obtain⟨i,j,rfl,rfl,f⟩:=ku e;cases(ao n p (λ_ z=>by cases z)).b7;cases(ao l o (λ_ z=>by cases z)).b7;have c:0<=j/\j<=1000/\i.natAbs<2^64:=by
  by_cases c:0<=j/\j<=1000/\i.natAbs<2^64
  ·exact c
  ·rw[Xg c]at f;cases f
 rw[Xf c]at f;cases f;exact MT d s σ H _ _ v u Q I k h ⟨_,_,rfl,rfl,⟨c.1,by omega,c.2.2⟩,ans g M (.int _)⟩
theorem lY{α β:Type}{F:α->β->Prop}{xs:List α}{ys:List β}(h:Sl F xs ys):∀k:Nat,Sl F (sH xs k) (R4 k ys).flatten
 |0=>.nil
 |k+1=>by
  unfold sH;rw[SN,SN,Sb,Sb];exact bB h (lY h k)
noncomputable def iO(op:X1)(x y:W)(m:Mem):Res W:=cW (((view x m).bind λx=>(view y m).bind λy=>bn op x y).map .bl) m
theorem ie(h:aX K (iO op a b m) xr cm m H k):∃f d c,view a m=Zz f/\view b m=Zz d/\bn op f d=Zz c/\aX K (.ok (.t (.bl c)) m) xr cm m H k:=by
 obtain⟨t,e,g⟩:=cz h;cases q:((view a m).bind λx=>(view b m).bind λy=>bn op x y)with
 |none=>rw[q]at e;cases e
 |some c =>
  rw[q]at e;cases e;obtain⟨f,d,j,i,e⟩:=j4 q;exact⟨f,d,c,j,i,e,g⟩
noncomputable def zx:T->V
 |.bl b=>.bl b
 |.int i=>.int i
 |.str cs=>.str ⟨cs.toArray⟩
 |_=>.non
theorem RT.fl(h:RT K cm m H t v)(f:flat t=true):v=zx t:=by
 cases h<;>first|rfl|cases f
theorem fP(h:RW K cm m H w v)(e:view w m=Zz t)(f:flat t=true):v=zx t:=
 (ao h e (λa z=>by subst z;cases f)).fl f
theorem vt{a b:List Nat}:(⟨a.toArray⟩:Str)=⟨b.toArray⟩↔a=b:=by
 constructor
 ·intro h
  injection h with h;simpa using h
 ·intro h;rw[h]
theorem F7{a b:List Nat}:decide (V.str ⟨a.toArray⟩=V.str ⟨b.toArray⟩)=(a==b):=by
 by_cases h:a=b
 ·subst h;simp
 ·rw[Xj.mpr h]
  exact Xh λz=>h (vt.mp (V.str.inj z))
theorem Cg{x y:T}(h:lz x y=true):flat x=true/\flat y=true/\L1 (zx x) (zx y)=true/\decide (zx x=zx y)=eqT x y:=by
 cases x<;>cases y<;>first
  |(cases h;done)
  |(refine⟨rfl,rfl,rfl,?_⟩;unfold eqT;first|exact wD|exact zI|exact F7|exact Xi rfl|exact Xh (λz=>nomatch z))
theorem H9(x y:T):bn .Eq x y=if lz x y || (aw 60 x&&aw 60 y)then Zz (eqT x y)else Zy:=by cases x<;>cases y<;>rfl
theorem Js(x y:T):bn .NotEq x y=if lz x y || (aw 60 x&&aw 60 y)then Zz (!eqT x y)else Zy:=by cases x<;>cases y<;>rfl
mutual
noncomputable def pyT:T->PyData
 |.bl b=>.bool b
 |.int i=>.int i
 |.str cs=>.str ⟨cs.toArray⟩
 |.tup ts=>.tuple (io ts)
 |.lst ts=>.list (io ts)
 |_=>.none
noncomputable def io:List T->List PyData
 |[]=>[]
 |t::ts=>pyT t::io ts
end
mutual
theorem l6:∀(n:Nat) (t:T),aw n t=true->Tu (pyT t)=true/\UT (pyT t)<=n
 |n,.non,h=>⟨by simp[pyT,Tu],by simp[pyT,UT]⟩
 |n,.bl b,h=>⟨by rw[pyT];simp[Tu],by rw[pyT];simp[UT]⟩
 |n,.int i,h=>⟨by rw[pyT];simp[Tu],by rw[pyT];simp[UT]⟩
 |n,.str c,h=>⟨by rw[pyT,Tu];rw[aw]at h;exact h,by rw[pyT];simp[UT]⟩
 |0,.tup a,h=>by simp[aw]at h
 |0,.lst a,h=>by simp[aw]at h
 |n+1,.tup a,h=>by
  rw[aw]at h;have:=wo n a h;exact⟨by rw[pyT,Tu];exact this.1,by rw[pyT];simp only[UT];omega⟩
 |n+1,.lst a,h=>by
  rw[aw]at h;have:=wo n a h;exact⟨by rw[pyT,Tu];exact this.1,by rw[pyT];simp only[UT];omega⟩
 |n,.dct _ _,h=>by cases n<;>simp[aw]at h
 |n,.dG _,h=>by cases n<;>simp[aw]at h
theorem wo:∀(n:Nat) (ts:List T),aL n ts=true->Vu (io ts)=true/\WM (io ts)<=n
 |n,[],h=>⟨by rw[io];simp[Vu],by rw[io];simp[WM]⟩
 |n,t::ts,h=>by
  rw[aL,Q3]at h;have b:=l6 n t h.1;have a:=wo n ts h.2;refine⟨by rw[io,Vu,b.1,a.1];rfl,?_⟩;rw[io,WM];omega
end
theorem str_beq{a b:List Nat}:((⟨a.toArray⟩:Str)==⟨b.toArray⟩)=(a==b):=by
 by_cases h:a=b
 ·subst h;simp
 ·rw[Xj.mpr h,Xj.mpr λz=>h (vt.mp z)]
mutual
theorem vF:∀(n k:Nat) (x y:T),aw n x=true->aw k y=true->S5 (pyT x) (pyT y)=eqT x y
 |n,k,.tup a,.tup ys,h1,c=>by
  cases n with
  |zero=>simp[aw]at h1
  |succ n=>cases k with
   |zero=>simp[aw]at c
   |succ k =>
    rw[aw]at h1 c;rw[pyT,pyT,S5,eqT];exact wq n k a ys h1 c
 |n,k,.lst a,.lst ys,h1,c=>by
  cases n with
  |zero=>simp[aw]at h1
  |succ n=>cases k with
   |zero=>simp[aw]at c
   |succ k =>
    rw[aw]at h1 c;rw[pyT,pyT,S5,eqT];exact wq n k a ys h1 c
 |n,k,.str a,.str ys,_,_=>by rw[pyT,pyT,S5,eqT];exact str_beq
 |n,k,.non,y,_,c=>by cases y<;>first|(simp[pyT,S5,eqT];done)|(cases k<;>simp[aw]at c)
 |n,k,.bl b,y,_,c=>by cases y<;>first|(simp[pyT,S5,eqT,b2i];done)|(cases k<;>simp[aw]at c)
 |n,k,.int b,y,_,c=>by cases y<;>first|(simp[pyT,S5,eqT,b2i];done)|(cases k<;>simp[aw]at c)
 |n,k,.str a,.non,_,_=>by simp[pyT,S5,eqT]
 |n,k,.str a,.bl _,_,_=>by simp[pyT,S5,eqT]
 |n,k,.str a,.int _,_,_=>by simp[pyT,S5,eqT]
 |n,k,.str a,.tup _,_,_=>by simp[pyT,S5,eqT]
 |n,k,.str a,.lst _,_,_=>by simp[pyT,S5,eqT]
 |n,k,.tup a,.non,_,_=>by simp[pyT,S5,eqT]
 |n,k,.tup a,.bl _,_,_=>by simp[pyT,S5,eqT]
 |n,k,.tup a,.int _,_,_=>by simp[pyT,S5,eqT]
 |n,k,.tup a,.str _,_,_=>by simp[pyT,S5,eqT]
 |n,k,.tup a,.lst _,_,_=>by simp[pyT,S5,eqT]
 |n,k,.lst a,.non,_,_=>by simp[pyT,S5,eqT]
 |n,k,.lst a,.bl _,_,_=>by simp[pyT,S5,eqT]
 |n,k,.lst a,.int _,_,_=>by simp[pyT,S5,eqT]
 |n,k,.lst a,.str _,_,_=>by simp[pyT,S5,eqT]
 |n,k,.lst a,.tup _,_,_=>by simp[pyT,S5,eqT]
 |n,k,x,.dct _ _,_,c=>by cases k<;>simp[aw]at c
 |n,k,x,.dG _,_,c=>by cases k<;>simp[aw]at c
 |n,k,.dct _ _,y,h1,_=>by cases n<;>simp[aw]at h1
 |n,k,.dG _,y,h1,_=>by cases n<;>simp[aw]at h1
theorem wq:∀(n k:Nat) (xs ys:List T),aL n xs=true->aL k ys=true->VD (io xs) (io ys)=o6 xs ys
 |n,k,[],[],_,_=>by rw[io,VD,o6]
 |n,k,[],_::_,_,_=>by rw[io,io,VD,o6]<;>simp
 |n,k,_::_,[],_,_=>by rw[io,io,VD,o6]<;>simp
 |n,k,x::xs,y::ys,b,a=>by
  rw[aL,Q3]at b a;rw[io,io,VD,o6,vF n k x y b.1 a.1,wq n k xs ys b.2 a.2]
end
theorem k9(I:Inv X pins σ H s):∀{ts:List T}{vs:List V}{us:List Q2},ts.length=vs.length->(∀(i:Nat) t v u,ts[i]?=Zz t->vs[i]?=Zz v->RelV v u->∃as,Reads s.heap u (pyT t) as)->Vals vs us->∃as,ReadsAll s.heap us (io ts) as
 |[],[],_,_,_,.nil=>⟨_,by rw[io];exact .nil⟩
 |t::ts,v::vs,_,f,h,.cons r rs=>by
  obtain⟨as,h1⟩:=h 0 t v _ rfl rfl r;obtain⟨bs,h2⟩:=k9 I (by simpa using f) (λi t v u a b c=>h (i+1) t v u (by simpa using a) (by simpa using b) c) rs;exact⟨_,by rw[io];exact .cons h1 h2⟩
 |[],_::_,_,f,_,_=>by simp at f
 |_::_,[],_,f,_,_=>by simp at f
theorem RT.reads(hK:X.K=K)(I:Inv X pins σ H s)(h:RT K cm m H t v):∀{n:Nat}{u:Q2},aw n t=true->RelV v u->∃as,Reads s.heap u (pyT t) as:=by
 subst hK
 induction h with
 |non=>intro n u _ r;cases r;exact⟨[],by simp only[pyT];exact .none⟩
 |bl b=>intro n u _ r;cases r;exact⟨_,by rw[pyT];exact .bool b⟩
 |int i=>intro n u _ r;obtain⟨t,rfl⟩:=r;exact⟨_,by rw[pyT];exact .int i t⟩
 |str cs=>intro n u _ r;obtain⟨t,rfl⟩:=r;exact⟨_,by rw[pyT];exact .str _ t⟩
 |@tup a ts vs h1 h2 h3 ih =>
  intro n u hd r;cases n with
  |zero=>simp[aw]at hd
  |succ n =>
   rw[aw]at hd;cases r;obtain⟨its,rv,⟨o,ho,hc,k,hdt⟩,hz⟩:=I.tuple h1;have hall:∀(i:Nat) t,ts[i]?=Zz t->aw n t=true:=λi t e=>by
    have:∀{l:List T},aL n l=true->∀x∈l,aw n x=true:=λ{l}=>by
     induction l with
     |nil=>intro _ x hx;cases hx
     |cons y l ih=>intro h x hx;rw[aL,Q3]at h;rcases R6.mp hx with rfl|hx;exact h.1;exact ih h.2 x hx
    exact this hd t (SX e)
   obtain⟨as,hr⟩:=k9 I h2 (λi t v u e1 e2 r=>ih i t v e1 e2 (hall i t e1) r) rv;exact⟨_,by rw[pyT];exact .tuple ho hc hdt (by simpa using hr)⟩
 |@lst a ts vs h1 h2 h3 h4 ih =>
  intro n u hd r;cases n with
  |zero=>simp[aw]at hd
  |succ n =>
   rw[aw]at hd;cases r;obtain⟨its,k,rv,ho,hz⟩:=I.lst h1;have hall:∀(i:Nat) t,ts[i]?=Zz t->aw n t=true:=λi t e=>by
    have:∀{l:List T},aL n l=true->∀x∈l,aw n x=true:=λ{l}=>by
     induction l with
     |nil=>intro _ x hx;cases hx
     |cons y l ih=>intro h x hx;rw[aL,Q3]at h;rcases R6.mp hx with rfl|hx;exact h.1;exact ih h.2 x hx
    exact this hd t (SX e)
   obtain⟨as,hr⟩:=k9 I h3 (λi t v u e1 e2 r=>ih i t v e1 e2 (hall i t e1) r) rv;exact⟨_,by rw[pyT];exact .list ho rfl rfl (by simpa using hr)⟩
 |dct _ _ _ _ _ _=>intro n u hd _;cases n<;>simp[aw]at hd
 |dG _ _=>intro n u hd _;cases n<;>simp[aw]at hd
theorem gq(I:Inv X pins σ H s)(M:aE X.K cm m H)(r:RW X.K cm m H w v)(e:view w m=Zz t)(rv:RelV v u)(hd:aw n t=true):∃as,Reads s.heap u (pyT t) as:=by
 cases t with
 |lst ts =>
  cases n with
  |zero=>simp[aw]at hd
  |succ n =>
   rw[aw]at hd;obtain⟨a,vs,rfl,h1,rr⟩:=be M r e;cases rv;obtain⟨its,k,rv,ho,hz⟩:=I.lst h1;obtain⟨as,hr⟩:=k9 I rr.length (λi t v u e1 e2 r=>RT.reads rfl I (fR rr i t v e1 e2) (by
    have:∀{l:List T},aL n l=true->∀x∈l,aw n x=true:=λ{l}=>by
     induction l with
     |nil=>intro _ x hx;cases hx
     |cons y l ih=>intro h x hx;rw[aL,Q3]at h;rcases R6.mp hx with rfl|hx;exact h.1;exact ih h.2 x hx
    exact this hd t (SX e1)) r) rv
   exact⟨_,by rw[pyT];exact .list ho rfl rfl (by simpa using hr)⟩
 |_=>exact RT.reads rfl I (ao r e (λ_ z=>by cases z)) hd rv
theorem DU(E:X.A.units+64<cLine):dU X (Rj .Eq) (r2 X.K xr (iO .Eq)):=by
 rintro f s σ H x y v u Q I k j ⟨F,m,a,b,M,n,l,g⟩;obtain⟨i,h,c,p,o,e,g⟩:=ie g;rw[H9]at e;split at e<;>cases e;rename_i d;rw[Sf]at d;rcases d with d|d
 ·obtain⟨B,z,w,t⟩:=Cg d
  cases fP n p B;cases fP l o z;exact NS f s σ H _ _ v u Q I k j ⟨w,by rw[t];exact ans g M (.bl _)⟩
 ·rw[Q3]at d
  obtain⟨J,r⟩:=gq I M n p k d.1;obtain⟨G,q⟩:=gq I M l o j d.2;have D:=l6 60 i d.1;have C:=l6 60 h d.2;refine SeqAt.compareEq_reads r q D.1 C.1 (by omega) ⟨.bl (eqT i h),H,I,?_,ans g M (.bl _)⟩;rw[vF 60 60 i h d.1 d.2];rfl
theorem C8(E:X.A.units+64<cLine):dU X (Rj .NotEq) (r2 X.K xr (iO .NotEq)):=by
 rintro f s σ H x y v u Q I k j ⟨F,m,a,b,M,n,l,g⟩;obtain⟨i,h,c,p,o,e,g⟩:=ie g;rw[Js]at e;split at e<;>cases e;rename_i d;rw[Sf]at d;rcases d with d|d
 ·obtain⟨B,z,w,t⟩:=Cg d
  cases fP n p B;cases fP l o z;exact Oz f s σ H _ _ v u Q I k j ⟨w,by rw[t];exact ans g M (.bl _)⟩
 ·rw[Q3]at d
  obtain⟨J,r⟩:=gq I M n p k d.1;obtain⟨G,q⟩:=gq I M l o j d.2;have D:=l6 60 i d.1;have C:=l6 60 h d.2;refine SeqAt.compareNe_reads r q D.1 C.1 (by omega) ⟨.bl (!eqT i h),H,I,?_,ans g M (.bl _)⟩;rw[vF 60 60 i h d.1 d.2];rfl
theorem oF:∀a b:List Nat,cO a b=decide (a<b)
 |[],[]=>by simp[cO]
 |[],_::_=>by simp[cO]
 |_::_,[]=>by simp[cO]
 |a::x,b::y=>by
  unfold cO;rw[oF x y];by_cases h:a<b
  ·rw[Xf h]
   exact(Xi (List.cons_lt_cons_iff.mpr (.inl h))).symm
  ·rw[Xg h]
   by_cases h2:b<a
   ·rw[Xf h2]
    refine(Xh λz=>?_).symm;rcases List.cons_lt_cons_iff.mp z with z|⟨z,_⟩<;>omega
   ·rw[Xg h2]
    have e:a=b:=by omega
    subst e;simp
theorem D4:dU X (Rj .Lt) (r2 X.K xr (iO .Lt)):=by
 rintro d s σ H x y v u Q I rx ry ⟨cm,m,a,b,M,ra,rb,f⟩;obtain⟨l,g,c,ea,eb,e,f⟩:=ie f;change KO l g=Zz c at e;cases l with
 |int i=>cases g with
  |int j =>
   cases e;cases(ao ra ea (λ_ z=>by cases z)).b7;cases(ao rb eb (λ_ z=>by cases z)).b7;exact NO d s σ H _ _ v u Q I rx ry ⟨_,_,rfl,rfl,ans f M (.bl _)⟩
  |_=>cases e
 |str i=>cases g with
  |str j =>
   cases e;cases(ao ra ea (λ_ z=>by cases z)).dA;cases(ao rb eb (λ_ z=>by cases z)).dA;refine D5 d s σ H _ _ v u Q I rx ry ⟨_,_,rfl,rfl,?_⟩;have:=ans f M (.bl _);rw[oF]at this;exact this
  |_=>cases e
 |_=>cases e
theorem DL:dU X (Rj .LtE) (r2 X.K xr (iO .LtE)):=by
 rintro d s σ H x y v u Q I rx n ⟨cm,m,a,b,M,ra,rb,f⟩;obtain⟨l,g,c,ea,eb,e,f⟩:=ie f;change Kx l g=Zz c at e;cases l with
 |int i=>cases g with
  |int j =>
   cases e;cases(ao ra ea (λ_ z=>by cases z)).b7;cases(ao rb eb (λ_ z=>by cases z)).b7;exact NG d s σ H _ _ v u Q I rx n ⟨_,_,rfl,rfl,ans f M (.bl _)⟩
  |_=>cases e
 |str i=>cases g with
  |str j =>
   cases e;cases(ao ra ea (λ_ z=>by cases z)).dA;cases(ao rb eb (λ_ z=>by cases z)).dA;obtain⟨t,rfl⟩:=rx;obtain⟨t',rfl⟩:=n;refine PySem.P.le_str ⟨.bl (!cO j i),H,I,?_,ans f M (.bl _)⟩;rw[oF];rfl
  |_=>cases e
 |_=>cases e
theorem Ee:dU X (Rj .Gt) (r2 X.K xr (iO .Gt)):=by
 rintro d s σ H x y v u Q I h g ⟨r,m,a,b,M,l,k,f⟩;obtain⟨q,p,c,o,n,e,f⟩:=ie f;obtain⟨i,j,rfl,rfl,rfl⟩:=rW e;cases(ao l o (λ_ z=>by cases z)).b7;cases(ao k n (λ_ z=>by cases z)).b7;exact N5 d s σ H _ _ v u Q I h g ⟨_,_,rfl,rfl,ans f M (.bl _)⟩
theorem Ec:dU X (Rj .GtE) (r2 X.K xr (iO .GtE)):=by
 rintro d s σ H x y v u Q I h g ⟨r,m,a,b,M,l,k,f⟩;obtain⟨q,p,c,o,n,e,f⟩:=ie f;obtain⟨i,j,rfl,rfl,rfl⟩:=rW e;cases(ao l o (λ_ z=>by cases z)).b7;cases(ao k n (λ_ z=>by cases z)).b7;exact NL d s σ H _ _ v u Q I h g ⟨_,_,rfl,rfl,ans f M (.bl _)⟩
theorem GD{a b:List Nat}:HX (.str ⟨a.toArray⟩) (.str ⟨b.toArray⟩)=(a==b):=by
 show((⟨a.toArray⟩:Str)==⟨b.toArray⟩)=(a==b)
 by_cases h:a=b
 ·subst h;simp
 ·rw[Xj.mpr h,Xj.mpr λz=>h (vt.mp z)]
theorem MA{x y:T}(f:flat x=true)(g:flat y=true):HX (zx y) (zx x)=eqT y x:=by
 cases x<;>cases y<;>first
  |(cases f;done)
  |(cases g;done)
  |(unfold eqT;exact GD)
  |(unfold eqT;rfl)
theorem c6.fl(h:c6 K cm m H ts vs)(f:ts.all flat=true):vs=ts.map zx/\vs.all jB=true:=by
 induction h with
 |nil=>exact⟨rfl,rfl⟩
 |@cons t v _ _ r _ c =>
  rw[Ro,Q3]at f;obtain⟨g,e⟩:=c f.2;have d:=r.fl f.1;subst d;refine⟨by rw[R8,g],?_⟩;rw[Ro,e,Bool.and_true];cases t<;>first|rfl|(cases f.1)
theorem Bk(f:flat x=true):∀{ts:List T},ts.all flat=true->inV (zx x) (ts.map zx)=ts.any λt=>eqT t x
 |[],_=>rfl
 |t::ts,g=>by
  rw[Ro,Q3]at g;have a:=Bk f g.2;unfold inV at a ⊢;rw[R8,UZ,UZ,a,MA f g.1]
theorem nL(f:flat x=true):jB (zx x)=true:=by cases x<;>first|rfl|cases f
theorem Mq(b:List Nat)(a:Nat):(!(S0 ⟨b.toArray⟩ ⟨#[a]⟩ 0 (⟨b.toArray⟩:Str).length 1).isEmpty)=decide (a∈b):=by
 have:=PySem.StrLaws.found_one (⟨b.toArray⟩:Str) a;simpa using this
theorem lF(e:bn .In x y=Zz c):(∃a b,x=.str a/\y=.str b/\c=!(S0 ⟨b.toArray⟩ ⟨a.toArray⟩ 0 (⟨b.toArray⟩:Str).length 1).isEmpty)∨(flat x=true/\∃ts,(y=.tup ts∨y=.lst ts)/\ts.all flat=true/\c=ts.any λt=>eqT t x)∨∃ts,y=.lst ts/\aw 59 x=true/\aL 59 ts=true/\c=ts.any λt=>eqT t x:=by
 have g:∀{x y:T}{c:Bool},lX x y=Zz c->(flat x=true/\∃ts,(y=.tup ts∨y=.lst ts)/\ts.all flat=true/\c=ts.any λt=>eqT t x)∨∃ts,y=.lst ts/\aw 59 x=true/\aL 59 ts=true/\c=ts.any λt=>eqT t x:=by
  intro x y c e;unfold lX at e;split at e
  ·split at e<;>cases e
   rename_i h;rw[Q3]at h;exact .inl ⟨h.1,_,.inl rfl,h.2,rfl⟩
  ·split at e
   ·cases e
    rename_i h;rw[Q3]at h;exact .inl ⟨h.1,_,.inr rfl,h.2,rfl⟩
   ·split at e<;>cases e
    rename_i h;rw[Q3]at h;exact .inr ⟨_,rfl,h.1,h.2,rfl⟩
  ·cases e
 cases x with
 |str cs =>
  cases cs with
  |nil=>cases y<;>exact .inr (g e)
  |cons a r =>
   cases r with
   |nil =>
    cases y with
    |str b=>cases e;exact .inl ⟨[a],b,rfl,rfl,(Mq b a).symm⟩
    |_=>exact .inr (g e)
   |cons a' r =>
    cases y with
    |str b=>cases e;exact .inl ⟨_,b,rfl,rfl,rfl⟩
    |_=>exact .inr (g e)
 |_=>cases y<;>exact .inr (g e)
theorem Gg(h:aL n ts=true):∀x∈ts,aw n x=true:=by
 induction ts with
 |nil=>intro x a;cases a
 |cons y l ih =>
  intro x a;rw[aL,Q3]at h;rcases R6.mp a with rfl|a
  ·exact h.1
  ·exact ih h.2 x a
theorem HC(r:Vals vs us):∀(i:Nat) (u:Q2),us[i]?=Zz u->∃v,vs[i]?=Zz v/\RelV v u:=by
 induction r with
 |nil=>intro i u h;simp at h
 |cons r rs ih =>
  intro i u h;cases i with
  |zero=>simp at h;subst h;exact⟨_,rfl,r⟩
  |succ i=>exact ih i u (by simpa using h)
theorem CG(U:X.A.units+64<cLine)(I:Inv X pins σ H s)(M:aE X.K cm m H)(B:RW X.K cm m H w xv)(N:view w m=Zz tx)(z:RelV xv v)(l:aw 59 tx=true)(L:H p=Zz (.lst vs))(r:c6 X.K cm m H ts vs)(P:aL 59 ts=true):
  ∃(a:Array Q2) (e:Q2->Bool),s.heap.IsList p a/\(∀y,y∈a->Wn X.A.in1 s y v (e y))/\a.any e=ts.any λt=>eqT t tx:=by
 classical
 obtain⟨R,E⟩:=gq I M B N z l;obtain⟨a,k,n,G,S⟩:=I.lst L;have x:=r.length.trans n.length;have h:∀(i:Nat) (t:T) (y:Q2),ts[i]?=Zz t->a[i]?=Zz y->Wn X.A.in1 s y v (eqT t tx):=by
  intro i t y b f;obtain⟨u,g,O⟩:=HC n i y f;have d:=Gg P t (SX b);obtain⟨Q,J⟩:=RT.reads rfl I (fR r i t u b g) d O;have D:=l6 59 t d;have C:=l6 59 tx l;have:=SeqAt.eqAt_reads (pyT t) (pyT tx) X.A.in1 s y v Q R J E D.1 C.1 (by
   have:X.A.in1.units<=X.A.units+1:=by simp[Around.in1]
   omega)
  rw[vF 59 59 t tx d l]at this;exact this
 refine⟨a.toArray,λy=>decide (∃(i:Nat) (t:T),ts[i]?=Zz t/\a[i]?=Zz y/\eqT t tx=true),⟨_,G,rfl,k,rfl⟩,λy o=>?_,?_⟩
 ·by_cases q:∃(i:Nat) (t:T),ts[i]?=Zz t/\a[i]?=Zz y/\eqT t tx=true
  ·dsimp only;rw[Xi q]
   obtain⟨i,t,b,f,g⟩:=q;have:=h i t y b f;rw[g]at this;exact this
  ·dsimp only;rw[Xh q]
   obtain⟨i,j,f⟩:=VS (show y∈a by simpa using o);have c:i<ts.length:=by omega
   have b:=Ra c;have f:a[i]?=Zz y:=by rw[<-f];exact Ra j
   have:=h i ts[i] y b f;cases q2:eqT ts[i] tx with
   |false=>rw[q2]at this;exact this
   |true=>exact Xk ⟨i,ts[i],b,f,q2⟩ q
 ·rw[Sr,List.any_toArray,Tv,Tv]
  constructor
  ·rintro ⟨y,o,q⟩
   obtain⟨i,t,b,_,g⟩:=Xl q;exact⟨t,SX b,g⟩
  ·rintro ⟨t,F,g⟩
   obtain⟨i,j,b⟩:=VS F;have c:i<a.length:=by omega
   exact⟨a[i],Ts c,Xi ⟨i,t,by rw[<-b];exact Ra j,Ra c,g⟩⟩
theorem zN(x y:T):bn .NotIn x y=(bn .In x y).map (!·):=by
 cases x with
 |str e =>
  cases e with
  |nil=>cases y<;>rfl
  |cons a r=>cases r<;>cases y<;>rfl
 |_=>cases y<;>rfl
theorem Dd(hu:X.A.units+64<cLine):dU X (Rj .In) (r2 X.K xr (iO .In)):=by
 rintro d s σ H x y v u Q I rx ry ⟨cm,m,a,b,M,ra,rb,ho⟩;obtain⟨ta,tb,c,ea,eb,e,ho⟩:=ie ho;rcases lF e with⟨p,q,rfl,rfl,rfl⟩|⟨f,ts,hy,g,rfl⟩|⟨ts,rfl,dx,dt,rfl⟩
 ·cases(ao ra ea (λ_ z=>by cases z)).dA
  cases(ao rb eb (λ_ z=>by cases z)).dA;exact EJ d s σ H _ _ v u Q I rx ry ⟨_,_,rfl,rfl,ans ho M (.bl _)⟩
 ·cases fP ra ea f
  have fin:∀{i:List V},c6 X.K cm m H ts i->i=ts.map zx/\i.all jB=true/\Q (.bl (inV (zx ta) i)) H:=λr=>by
   obtain⟨h1,h2⟩:=c6.fl r g;exact⟨h1,h2,by rw[h1,Bk f g];exact ans ho M (.bl _)⟩
  rcases hy with rfl|rfl
  ·obtain⟨p,i,rfl,h1,r⟩:=(ao rb eb (λ_ z=>by cases z)).jQ
   obtain⟨_,f2,f3⟩:=fin r;exact uc d s σ H _ _ v u Q I rx ry ⟨p,i,rfl,.inr h1,nL f,f2,f3⟩
  ·obtain⟨p,i,rfl,h1,r⟩:=be M rb eb
   obtain⟨_,f2,f3⟩:=fin r;exact uc d s σ H _ _ v u Q I rx ry ⟨p,i,rfl,.inl (.of h1),nL f,f2,f3⟩
 ·obtain⟨p,i,rfl,h1,r⟩:=be M rb eb
  cases ry;obtain⟨its,e,hl,he,ha⟩:=CG hu I M ra ea rx dx h1 r dt;refine SeqAt.in_listAt e hl he ?_;rw[ha];exact⟨.bl _,H,I,rfl,ans ho M (.bl _)⟩
theorem vU(hu:X.A.units+64<cLine):dU X (Rj .NotIn) (r2 X.K xr (iO .NotIn)):=by
 rintro d s σ H x y v u Q I rx ry ⟨cm,m,a,b,M,ra,rb,ho⟩;obtain⟨ta,tb,c',ea,eb,e,ho⟩:=ie ho;rw[zN]at e;cases e2:bn .In ta tb with
 |none=>rw[e2]at e;cases e
 |some c =>
 rw[e2]at e;cases e;rcases lF e2 with⟨p,q,rfl,rfl,rfl⟩|⟨f,ts,hy,g,rfl⟩|⟨ts,rfl,dx,dt,rfl⟩
 ·cases(ao ra ea (λ_ z=>by cases z)).dA
  cases(ao rb eb (λ_ z=>by cases z)).dA;exact xq d s σ H _ _ v u Q I rx ry ⟨_,_,rfl,rfl,ans ho M (.bl _)⟩
 ·cases fP ra ea f
  have fin:∀{i:List V},c6 X.K cm m H ts i->i=ts.map zx/\i.all jB=true/\Q (.bl (!inV (zx ta) i)) H:=λr=>by
   obtain⟨h1,h2⟩:=c6.fl r g;exact⟨h1,h2,by rw[h1,Bk f g];exact ans ho M (.bl _)⟩
  rcases hy with rfl|rfl
  ·obtain⟨p,i,rfl,h1,r⟩:=(ao rb eb (λ_ z=>by cases z)).jQ
   obtain⟨_,f2,f3⟩:=fin r;exact nH d s σ H _ _ v u Q I rx ry ⟨p,i,rfl,.inr h1,nL f,f2,f3⟩
  ·obtain⟨p,i,rfl,h1,r⟩:=be M rb eb
   obtain⟨_,f2,f3⟩:=fin r;exact nH d s σ H _ _ v u Q I rx ry ⟨p,i,rfl,.inl (.of h1),nL f,f2,f3⟩
 ·obtain⟨p,i,rfl,h1,r⟩:=be M rb eb
  cases ry;obtain⟨its,e,hl,he,ha⟩:=CG hu I M ra ea rx dx h1 r dt;refine SeqAt.notIn_listAt e hl he ?_;rw[ha];exact⟨.bl _,H,I,rfl,ans ho M (.bl _)⟩
noncomputable def M9:V->Option (Option Bool)
 |.non=>Zz Zy
 |.bl b=>Zz (Zz b)
 |_=>Zy
noncomputable def hdT:T->Option (Option Bool)
 |.non=>Zz Zy
 |.bl b=>Zz (Zz b)
 |_=>Zy
theorem RW.hd(M:aE K cm m H)(h:RW K cm m H w v)(e:view w m=Zz t):M9 v=hdT t:=by
 cases t with
 |lst d=>obtain⟨a,c,rfl,_⟩:=be M h e;rfl
 |_=>cases ao h e (λ_ z=>by cases z)<;>rfl
theorem Nz{E:Q2->Q7->Prop}(d:RelV x v)(h:Q (.bool (M9 x==Zz (Zz b))) s):
  RB (RC prog w) A (Rj .Is v (.bool b)) Q E s:=by
 cases x with
 |bl c =>
  cases d;refine wpAny_is_plain rfl ?_;have e:((SZ c)==(SZ b))=(M9 (.bl c)==Zz (Zz b)):=by cases c<;>cases b<;>rfl
  rw[e];exact h
 |non=>cases d;exact Tw rfl (λz=>nomatch z) h
 |int i=>obtain⟨t,rfl⟩:=d;exact Tw rfl (λz=>nomatch z) h
 |str i=>obtain⟨t,rfl⟩:=d;exact Tw rfl (λz=>nomatch z) h
 |xA i=>obtain⟨t,rfl⟩:=d;exact Tw rfl (λz=>nomatch z) h
 |flt i=>obtain⟨t,rfl⟩:=d;exact Tw rfl (λz=>nomatch z) h
 |ref a=>cases d;exact Tw rfl (λz=>nomatch z) h
 |ty n=>cases d;exact Tw rfl (λz=>nomatch z) h
theorem Fl{E:Q2->Q7->Prop}(d:RelV x v)(h:Q (.bool (!(M9 x==Zz (Zz b)))) s):
  RB (RC prog w) A (Rj .IsNot v (.bool b)) Q E s:=by
 cases x with
 |bl c =>
  cases d;refine wpAny_isNot_plain rfl ?_;have e:((SZ c)==(SZ b))=(M9 (.bl c)==Zz (Zz b)):=by cases c<;>cases b<;>rfl
  rw[e];exact h
 |non=>cases d;exact T7 rfl (λz=>nomatch z) h
 |int i=>obtain⟨t,rfl⟩:=d;exact T7 rfl (λz=>nomatch z) h
 |str i=>obtain⟨t,rfl⟩:=d;exact T7 rfl (λz=>nomatch z) h
 |xA i=>obtain⟨t,rfl⟩:=d;exact T7 rfl (λz=>nomatch z) h
 |flt i=>obtain⟨t,rfl⟩:=d;exact T7 rfl (λz=>nomatch z) h
 |ref a=>cases d;exact T7 rfl (λz=>nomatch z) h
 |ty n=>cases d;exact T7 rfl (λz=>nomatch z) h
theorem Co{x y:T}(e:bn .Is x y=Zz c):(y=.non/\c=(hdT x==Zz Zy))∨∃b,y=.bl b/\c=(hdT x==Zz (Zz b)):=by
 cases y with
 |non=>cases x<;>(cases e;exact .inl ⟨rfl,rfl⟩)
 |bl b =>
  refine .inr ⟨b,rfl,?_⟩;cases x with
  |bl a=>cases e;cases a<;>cases b<;>rfl
  |_=>cases e;rfl
 |_=>cases x<;>cases e
theorem BH(x y:T):bn .IsNot x y=(bn .Is x y).map (!·):=by
 cases y with
 |non=>cases x<;>rfl
 |bl b=>cases x<;>first|rfl|(rename_i a;cases a<;>cases b<;>rfl)
 |_=>cases x<;>rfl
theorem EW{x:V}:decide (x=.non)=(M9 x==Zz Zy):=by cases x<;>first|rfl|exact Xi rfl|exact a (λz=>nomatch z)
theorem Et:dU X (Rj .Is) (r2 X.K xr (iO .Is)):=by
 rintro d s σ H x y v u Q I i h ⟨cm,m,a,b,M,ra,j,g⟩;obtain⟨ta,tb,c,ea,eb,e,g⟩:=ie g;have hx:=RW.hd M ra ea;rcases Co e with⟨rfl,rfl⟩|⟨k,rfl,rfl⟩
 ·cases(ao j eb (λ_ z=>by cases z)).Iu
  refine MM d s σ H _ _ v u Q I i h ⟨rfl,?_⟩;rw[EW,hx];exact ans g M (.bl _)
 ·cases(ao j eb (λ_ z=>by cases z)).Ey
  cases h;refine Nz i ⟨.bl _,H,I,rfl,?_⟩;rw[hx];exact ans g M (.bl _)
theorem vA:dU X (Rj .IsNot) (r2 X.K xr (iO .IsNot)):=by
 rintro d s σ H x y v u Q I j i ⟨cm,m,a,b,M,ra,l,g⟩;obtain⟨ta,tb,c',ea,eb,e,g⟩:=ie g;have hx:=RW.hd M ra ea;rw[BH]at e;cases h:bn .Is ta tb with
 |none=>rw[h]at e;cases e
 |some c =>
 rw[h]at e;cases e;rcases Co h with⟨rfl,rfl⟩|⟨k,rfl,rfl⟩
 ·cases(ao l eb (λ_ z=>by cases z)).Iu
  refine J7 d s σ H _ _ v u Q I j i ⟨rfl,?_⟩;rw[EW,hx];exact ans g M (.bl _)
 ·cases(ao l eb (λ_ z=>by cases z)).Ey
  cases i;refine Fl j ⟨.bl _,H,I,rfl,?_⟩;rw[hx];exact ans g M (.bl _)
theorem o5(hu:X.A.units+64<cLine):∀op:X1,dU X (Rj op) (r2 X.K xr (iO op))
 |.Eq=>DU hu
 |.NotEq=>C8 hu
 |.Lt=>D4
 |.LtE=>DL
 |.Gt=>Ee
 |.GtE=>Ec
 |.Is=>Et
 |.IsNot=>vA
 |.In=>Dd hu
 |.NotIn=>vU hu
noncomputable def Ql(x y:W)(m:Mem):Res W:=cW ((view x m).bind λx=>(view y m).bind λy=>uN x y) m
theorem IH(n:Nat)(i:Int):iW n i=Mo n i:=rfl
theorem l9{α β:Type}{F:α->β->Prop}{xs:List α}{ys:List β}(h:Sl F xs ys){x:α}(e:atT xs i=Zz x):∃y,Mv ys i=Zz y/\F x y:=by
 unfold atT at e;unfold Mv;rw[<-h.length];cases q:iW xs.length i with
 |none=>rw[q]at e;cases e
 |some j =>
  rw[q]at e;rw[IH]at q;obtain⟨y,b,a⟩:=dq h e;exact⟨y,by rw[q];exact b,a⟩
theorem lN(a:List Int):c6 K cm m H (a.map .int) (a.map V.int):=by
 induction a with
 |nil=>exact .nil
 |cons n a d=>exact .cons (.int n) d
theorem Iy{α β:Type}(f:α->β)(xs:List α)(i:Int):atT (xs.map f) i=(atT xs i).map f:=by
 unfold atT;rw[Q4];cases iW xs.length i with
 |none=>rfl
 |some j=>simp
theorem OG:Nq X (r2 X.K xr Ql):=by
 rintro d f g s σ H x y v u Q I o n ⟨L,m,a,b,M,A,w,h⟩ B;obtain⟨t,e,h⟩:=cz h;obtain⟨G,F,D,C,e⟩:=j4 e;unfold uN at e;have J:=bj;split at e
 ·cases(ao w C (λ_ z=>by cases z)).b7
  obtain⟨p,E,rfl,i,r⟩:=(ao A D (λ_ z=>by cases z)).jQ;obtain⟨z,l,j⟩:=l9 r e;exact LK d f g s σ H _ _ v u Q I o n ⟨p,E,_,z,rfl,rfl,i,l,ans h M j⟩ B
 ·cases(ao w C (λ_ z=>by cases z)).b7
  obtain⟨p,E,rfl,i,r⟩:=be M A D;obtain⟨z,l,j⟩:=l9 r e;exact Ce d f g s σ H _ _ v u Q I o n ⟨p,E,_,z,rfl,rfl,.of i,l,ans h M j⟩ B
 ·cases(ao w C (λ_ z=>by cases z)).b7
  obtain⟨p,rfl,i⟩:=(ao A D (λ_ z=>by cases z)).EB;rw[<-Iy]at e;obtain⟨z,l,j⟩:=l9 (lN _) e;exact Ce d f g s σ H _ _ v u Q I o n ⟨p,_,_,z,rfl,rfl,i.sq,l,ans h M j⟩ B
 ·split at e
  ·rename_i cs k hl
   cases(ao w C (λ_ z=>by cases z)).b7;cases(ao A D (λ_ z=>by cases z)).dA;cases q:atT cs k with
   |none=>rw[q]at e;cases e
   |some c =>
    rw[q]at e;cases e;exact Me d f g s σ H _ _ v u Q I o n ⟨_,k,c,rfl,rfl,by rw[gm];omega,q,ans h M (.str [c])⟩ B
  ·cases e
 ·cases e
end
abbrev P6(h:Rm)(n:Nat)(f0:Q2)(f1:Bool):Prop:=
 h.get? (n+6)=Zz { cls:=.type "zip",dict:=Zy,data:=.fields #[f0,.bool f1,.bool false,.ref (n+4),.ref (n+5)],slots:=#[] }
abbrev Qg(h:Rm)(t:Nat)(a b c d:Q2):Prop:=h.get? t=Zz { cls:=.type "tuple",data:=.seq #[a,b,c,d] }
section
variable{P:Rk}{w:Rz}{A:SH}{E:Q2->Q7->Prop}{s:Q7}{n:Nat}{l:Nat->Nat}{xs:Nat->Array Q2}{p:Nat->Nat}
def PK(h:Rm)(n:Nat):Prop:=∃f1,P6 h n .none f1∨∃a:Nat,P6 h n (rawInt a) f1
structure Sd (n:Nat) (l:Nat->Nat) (k:Nat) (h:Rm):Prop where
 zip:PK h n
 its:Qg h (n+4) (.ref (n+0)) (.ref (n+1)) (.ref (n+2)) (.ref (n+3))
 out:∃a b c d,Qg h (n+5) a b c d
 pos:∀j:Nat,j<4->h.IsListIter (n+j) (l j) k/\l j<n
end
noncomputable def P8(cs:List Nat):It:=⟨λi _=>i<cs.length,λi H x H'=>H'=H/\∃c,cs[i]?=Zz c/\x=.str ⟨#[c]⟩,λi _=>cs.length<=i⟩
theorem yM{K:Rf}(y:["enumerate","zip","dict_itemiterator","dict_reverseitemiterator","odict_iterator","itertools.zip_longest","itertools.pairwise"].contains cl=false)(g:∀(A:SH) (i:Nat) (s:Q7) (Q:Q2->Q7->Prop) (E:Q2->Q7->Prop),s.heap.IsStrIter it cl ⟨cs.toArray⟩ t i->Q (.ref it) s->RB (RC P w) A (pyIter (.ref it)) Q E s)(W:∀T:SH,T.handled=Zy->Walks P w T it [it] [it] cs.length (SignAt ⟨cs.toArray⟩) (λi h=>h.IsStrIter it cl ⟨cs.toArray⟩ t i)):Turn P w K tg (P8 cs) [it] it (λi h=>h.IsStrIter it cl ⟨cs.toArray⟩ t i/\i<=cs.length) where
 mem:=by simp
 obj:=λi h a b j=>by
  have e:b=it:=by simpa using j
  subst e;obtain⟨⟨o,e,c,d⟩,_⟩:=a;exact⟨o,e,λv z=>by rw[d]at z;cases z⟩
 keep:=λi h G a k=>⟨let⟨⟨o,V,r⟩,_⟩:=a;⟨o,k it (by simp) o V,r⟩,a.2⟩
 item:=by
  intro X D q F C i f s σ H E I n a x;subst D q F;obtain⟨O,N,Y,M,L,J⟩:=n it (by simp);have m:i<cs.length:=x;refine(W X.A (I.ok.hd C)).item i s _ _ m a.1 λv G R U l p=>?_
  obtain⟨c,u,B,rfl⟩:=U;have I1:Inv X f σ H { s with heap:=G,toks:=R }:=I.turned (λb o j e=>p b o (by simpa using j) e) O N M L J;obtain⟨o,e,Z,d⟩:=id l;refine⟨_,rfl,CT e Z d y ⟨.str ⟨#[c]⟩,H,I1,⟨u,rfl⟩,⟨rfl,c,by simpa using B,rfl⟩,⟨l,by omega⟩,λb j=>(n b j).1⟩⟩
 done:=by
  intro X D q F C i f s σ H E I n a x;subst D q F;obtain⟨O,N,Y,M,L,J⟩:=n it (by simp);have m:cs.length<=i:=x;have e:i=cs.length:=by have:=a.2;omega
  subst e;exact(W X.A (I.ok.hd C)).done s _ _ a.1 λG R p=>⟨rfl,I.turned (λb o j e=>p b o (by simpa using j) e) O N M L J⟩
 self:=λA i s Q E a h=>g A i s Q E a.1 h
section
variable{K:Rf}{cm cm':List Q8}{m m':Mem}{H H':Hp}{xr:XR}{X:Cx}
variable(K) in
inductive Src (cm:List Q8) (m:Mem) (H:Hp):It->List T->Prop where
 |tup {a:Q8}{vs:List V}{ts:List T}:lA K H a vs->c6 K cm m H ts vs->Src cm m H (Qb K a) ts
 |lst {a:Q8}{vs:List V}{ts:List T}:H a=Zz (.lst vs)->ba cm m a->c6 K cm m H ts vs->Src cm m H (NK K a) ts
 |zv {a:Q8}{i:Nat}{ts:List T}:m[i]?=Zz (Zz (true,ts))->cm[i]?=Zz a->Src cm m H (NK K a) ts
 |dG {a:Q8}(ns:List Int):jN K H a ns->Src cm m H (NK K a) (ns.map .int)
 |str (cs:List Nat):Src cm m H (P8 cs) (cs.map λc=>.str [c])
 |EO (lo:Int) (n:Nat):Src cm m H (NC lo n) (rangeT lo n)
theorem Src.ext(x:dQ cm m H cm' m' H')(M:aE K cm m H)(c:aE K cm' m' H')(h:Src K cm m H J ts):Src K cm' m' H' J ts:=by
 cases h with
 |tup b a=>exact .tup (x.Pr M b) (c6.ext x M c a)
 |lst b a h3=>exact .lst (x.keep _ _ b a).1 (x.keep _ _ b a).2 (c6.ext x M c h3)
 |zv b a=>exact .zv (x.lent _ _ b) (x.pre _ _ a)
 |dG ns h=>exact .dG ns (x.dG M h)
 |str cs=>exact .str cs
 |EO lo n=>exact .EO lo n
theorem stay(M:aE K cm m H)(z:H'=H)(r:RT K cm m H t x):dQ cm m H cm m H'/\aE K cm m H'/\RT K cm m H' t x:=by
 subst z;exact⟨.refl,M,r⟩
theorem Src.go(M:aE K cm m H)(h:Src K cm m H J ts){i:Nat}(e:ts[i]?=Zz t):J.go i H/\∀x H',J.P4 i H x H'->dQ cm m H cm m H'/\aE K cm m H'/\RT K cm m H' t x:=by
 cases h with
 |tup h1 h2 =>
  obtain⟨v,e1,e2⟩:=dq h2 e;refine⟨⟨_,v,h1,e1⟩,λx H' ⟨z,q⟩=>stay M z ?_⟩;have:=q _ h1;rw[e1]at this;cases this;exact e2
 |lst h1 h2 h3 =>
  obtain⟨v,e1,e2⟩:=dq h3 e;refine⟨⟨_,v,.of h1,e1⟩,λx H' ⟨z,q⟩=>stay M z ?_⟩;have:=q _ (.of h1);rw[e1]at this;cases this;exact e2
 |zv h1 h2 =>
  obtain⟨b,vs,q1,q2,q3,q4⟩:=M.at' _ _ h1;rw[h2]at q1;cases q1;obtain⟨v,e1,e2⟩:=dq q4 e;refine⟨⟨_,v,.of q2,e1⟩,λx H' ⟨z,q⟩=>stay M z ?_⟩;have:=q _ (.of q2);rw[e1]at this;cases this;exact e2
 |dG ns h =>
  obtain⟨v,e1,e2⟩:=dq (lN ns) e;refine⟨⟨_,v,h.sq,e1⟩,λx H' ⟨z,q⟩=>stay M z ?_⟩;have:=q _ h.sq;rw[e1]at this;cases this;exact e2
 |str cs =>
  rw[Rh]at e;cases q:cs[i]? with
  |none=>rw[q]at e;cases e
  |some c =>
   rw[q]at e;cases e;refine⟨(R0.mp q).1,λx H' ⟨z,c',q',e'⟩=>stay M z ?_⟩;rw[q]at q';cases q';subst e';exact .str [c]
 |EO lo n =>
  unfold rangeT at e;rw[Rh]at e;cases q:(S4 n)[i]? with
  |none=>rw[q]at e;cases e
  |some k =>
   rw[q]at e;cases e;have hi:=(R0.mp q).1;rw[Tf]at hi;rw[List.getElem?_range hi]at q;cases q;exact⟨hi,λx H' ⟨z,e'⟩=>stay M z (by subst e';exact .int _)⟩
theorem Src.stop(M:aE K cm m H)(h:Src K cm m H J ts)(e:ts[i]?=Zy):J.stop i H:=by
 have l:=UW.mp e;cases h with
 |tup a c=>exact⟨_,a,by rw[<-c.length];exact l⟩
 |lst a c h3=>exact⟨_,.of a,by rw[<-h3.length];exact l⟩
 |zv a c =>
  obtain⟨b,vs,d,q2,q3,q4⟩:=M.at' _ _ a;rw[c]at d;cases d;exact⟨_,.of q2,by rw[<-q4.length];exact l⟩
 |dG ns h=>exact⟨_,h.sq,by rw[Q4]at l ⊢;exact l⟩
 |str cs=>rw[Q4]at l;exact l
 |EO lo n =>
  unfold rangeT at l;rw[Q4,Tf]at l;exact l
variable(K) in
inductive tI (call:Nat->List W->Mem->Res W) (gv:List T) (xr:XR) (it:E) (σ:L2.St) (H:Hp) (R:It->Hp->Prop):Prop where
 |mk (env cm m) (_:bq K cm m H env σ) (_:aE K cm m H) (_:aX K (ev call gv it env m) xr cm m H λx cm1 m1 H1=>∃ts m2,bp x m1=.ok ts m2/\∀J,Src K cm1 m2 H1 J ts->R J H1)
theorem PI.mono(h:PI X tg iter t)(f:∀σ H R,t' σ H R->t σ H R):PI X tg iter t':=λa s σ H R I q=>h a s σ H R I (f σ H R q)
theorem Nu{tg iter:Rq}{call:Nat->List W->Mem->Res W}{gv:List T}{it:E}(h:PE X iter (tE X.K call gv xr it)):PI X tg iter (tI X.K call gv xr it):=by
 rintro pins s σ H R I ⟨env,cm,m,hE,hM,ho⟩;refine bY (h pins s σ H (λv H1=>∃cm1 m1 w,aE X.K cm1 m1 H1/\RW X.K cm1 m1 H1 w v/\∃ts m2,bp w m1=.ok ts m2/\∀J,Src X.K cm1 m2 H1 J ts->R J H1) I
  ⟨env,cm,m,hE,hM,ho.mono λw cm1 m1 H1 x1 M1 o1 v rv=>⟨cm1,m1,w,M1,rv,o1⟩⟩) λv s1 ⟨x,H1,I1,r1,cm1,m1,w,M1,rw1,ts0,m2,g,o1⟩=>?_
 -- an iterator over a list that stands at a
 have d:∀(a:Q8) (vs:List V),x=.ref a->sU X.K H1 a vs->R (NK X.K a) H1->RB (RC X.prog X.w) X.A (pyIter v) (PIE X pins σ tg R) X.xe s1:=λa vs e hq q=>by
  subst e;cases r1;obtain⟨its,rv,p,hz⟩:=I1.list hq;refine Vs p.isList ?_;refine⟨s1.heap.objs.size,[s1.heap.objs.size],_,_,H1,rfl,I1.kept (t':=s1.toks) λb o e=>Q6 _ e,D8 a _,⟨_,RL _ rfl,rfl,rfl⟩,λb hb=>?_,q⟩;have e:b=s1.heap.objs.size:=by simpa using hb
  subst e;exact I1.HK (R1 _) (I1.hok.fresh (R1 _))
 cases w with
 |x _ _ _=>cases g
 |c i =>
  unfold bp at g;dsimp only at g;split at g
  ·rename_i fl ts e
   cases g;obtain⟨a,vs,q1,q2,_⟩:=M1.at' i _ e;obtain⟨b,h1,h2⟩:=rw1;rw[q1]at h1;cases h1;exact d a vs h2 (.of q2) (o1 _ (.zv (RS (R0.mp e).1) q1))
  ·cases g
 |t t =>
  unfold bp at g;cases t with
  |tup ts =>
   cases g;obtain⟨a,vs,e,h1,h2⟩:=RT.jQ rw1;subst e;cases r1;obtain⟨its,rv,p,hz⟩:=I1.tuple h1;refine wpAny_pyIter_tuple (p) ?_;refine⟨s1.heap.objs.size,[s1.heap.objs.size],_,_,H1,rfl,I1.kept (t':=s1.toks) λb o e=>Q6 _ e,zZ a _,⟨_,RL _ rfl,rfl,rfl⟩,λb hb=>?_,o1 _ (.tup h1 h2)⟩;have e:b=s1.heap.objs.size:=by simpa using hb
   subst e;exact I1.HK (R1 _) (I1.hok.fresh (R1 _))
  |lst ts =>
   cases g;obtain⟨a,vs,e,h1,h2,h3⟩:=RT.Ls rw1;exact d a vs e (.of h1) (o1 _ (.lst h1 h2 h3))
  |dG ns =>
   cases g;obtain⟨a,e,h1⟩:=RT.EB rw1;exact d a _ e h1.sq (o1 _ (.dG ns h1))
  |str cs =>
   unfold n8 at g;dsimp only at g;split at g
   ·rename_i ts e
    split at e<;>cases e;cases g;cases RT.dA rw1;obtain⟨t,rfl⟩:=r1;have q:=o1 _ (.str cs);have I2:∀o:Obj,Inv X pins σ H1 { s1 with heap:=s1.heap.push o }:=λo=>I1.kept (t':=s1.toks) λb o e=>Q6 _ e
    have fpk:∀b∈[s1.heap.objs.size],de X pins H1 b:=λb hb=>by
     have e:b=s1.heap.objs.size:=by simpa using hb
     subst e;exact I1.HK (R1 _) (I1.hok.fresh (R1 _))
    cases ha:(⟨cs.toArray⟩:Str).cps.all (·<128)
    ·refine wpAny_pyIter_wide ha ?_
     exact⟨s1.heap.objs.size,[s1.heap.objs.size],_,_,H1,rfl,I2 _,yM (by decide) (λA i s Q E st h=>wpAny_pyIter_striter_wide st h) (λA' hA=>by simpa using Walks.strWide hA _ ⟨cs.toArray⟩ t),⟨⟨_,RL _ rfl,rfl,rfl⟩,Ur _⟩,fpk,q⟩
    ·refine wpAny_pyIter_ascii ha ?_
     exact⟨s1.heap.objs.size,[s1.heap.objs.size],_,_,H1,rfl,I2 _,yM (by decide) (λA i s Q E st h=>wpAny_pyIter_striter_ascii st h) (λA' hA=>by simpa using Walks.strAscii hA _ ⟨cs.toArray⟩ t),⟨⟨_,RL _ rfl,rfl,rfl⟩,Ur _⟩,fpk,q⟩
   ·cases g
  |_=>cases g
end
theorem s0(hg:gens[d]?=Zz ⟨target,iter,ifs,0⟩)(hn:gens[d+1]?=Zy):
  WU (.ListComp elt gens scope pos) d it acc env=(do
   Ux iter.pos
   match <-pyNext it with
   |none=>pure (.done .next)
   |some v =>
    U6 target it v
    assign target env v
    let mut ok:=true
    for c in ifs do
     if ok then ok <-isTrue c env (eval c env)
    if ok then
     (do let _ <-call (.builtin "list.append") [acc,<-eval elt env])
    again (.compLoop (.ListComp elt gens scope pos) d it acc env)):=by
 unfold WU;simp only[hg,hn];rfl
theorem tq(hg:gens[d]?=Zz ⟨target,iter,ifs,0⟩)(hn:gens[d+1]?=Zz ⟨target',iter',ifs',0⟩):
  WU (.ListComp elt gens scope pos) d it acc env=(do
   Ux iter.pos
   match <-pyNext it with
   |none=>pure (.done .next)
   |some v =>
    U6 target it v
    assign target env v
    let mut ok:=true
    for c in ifs do
     if ok then ok <-isTrue c env (eval c env)
    if ok then
     let x <-eval iter' env
     Ux iter'.pos
     let x <-Sm iter' env x
     let _ <-runOwn (.compStart (.ListComp elt gens scope pos) (d+1) (<-Vq [x] (pyIter x)) acc env) env
    again (.compLoop (.ListComp elt gens scope pos) d it acc env)):=by
 unfold WU;simp only[hg,hn];rfl
section
variable{K:Rf}{cm cm':List Q8}{m m':Mem}{H H':Hp}{xr:XR}{Y:Cx}
def AccAt(h:Rm)(D:Q8)(vs:List V):Prop:=vs.length<=RP/\∃(its:List Q2) (n:Nat),Vals vs its/\h.get? D=Zz { cls:=.type "list",data:=.seq its.toArray n }
structure QA (Y:Cx) (pins:List (Q8×Obj)) (H:Hp) (D:Q8):Prop where
 free:H D=Zy
 loc:D≠Y.env.locals
 Mn:D∉Y.fs
 own:D∈Y.ex∨Y.s₀.heap.objs.size<=D
 cell:∀x c,Y.env.cells.lookup x=Zz c->c≠D
 pin:∀p∈Y.pn++pins,p.1≠D
theorem Lf{e:Rq}{call:Nat->List W->Mem->Res W}{gv:List T}{a:E}(h:PE Y e (tE Y.K call gv xr a)){pins:List (Q8×Obj)}{s:Q7}{σ:L2.St}{env:Env}{w:W}(I:Inv Y pins σ H s)(hE:bq Y.K cm m H env σ)(M:aE Y.K cm m H)(ok:ev call gv a env m=.ok w m'):RB (RC Y.prog Y.w) Y.A (eval e Y.env) (EP Y pins σ λv H'=>∃cm',dQ cm m H cm' m' H'/\aE Y.K cm' m' H'/\RW Y.K cm' m' H' w v) Y.xe s:=by
 refine h pins s σ H _ I ⟨env,cm,m,hE,M,?_⟩;rw[ok];exact λcm' H' x M' v r=>⟨cm',x,M',r⟩
theorem Ln{e:Rq}{call:Nat->List W->Mem->Res W}{gv:List T}{a:E}(h:PT Y e (tT Y.K call gv xr a)){pins:List (Q8×Obj)}{s:Q7}{σ:L2.St}{env:Env}{k:Bool}(I:Inv Y pins σ H s)(hE:bq Y.K cm m H env σ)(M:aE Y.K cm m H)(ok:(ev call gv a env m).bind cK=.ok k m'):RB (RC Y.prog Y.w) Y.A (isTrue e Y.env (eval e Y.env)) (TP Y pins σ λb H'=>b=k/\∃cm',dQ cm m H cm' m' H'/\aE Y.K cm' m' H') Y.xe s:=by
 refine h pins s σ H _ I ⟨env,cm,m,hE,M,?_⟩;rw[ok];exact λcm' H' x M'=>⟨rfl,cm',x,M'⟩
def Na(Y:Cx)(call:Nat->List W->Mem->Res W)(gv:List T)(xr:XR):Es->List Rq->Prop
 |.nil,[]=>True
 |.cons a es,e::r=>PT Y e (tT Y.K call gv xr a)/\Na Y call gv xr es r
 |_,_=>False
theorem pq{E:Q2->Q7->Prop}(h:Q false s):∀ifs:List Rq,
  RB M A (forIn ifs false λc r=>if r=true then do let ok <-isTrue c env (eval c env);pure (Sg ok)else pure (Sg r)) Q E s
 |[]=>Q5 h
 |_::r=>by
  simp only[VM,RV,if_false];exact Q0 (Q5 (pq h r))
theorem uA{call:Nat->List W->Mem->Res W}{gv:List T}:∀{cs:Es}{ifs:List Rq}{cm:List Q8}{m m':Mem}{H:Hp}{s:Q7}{k:Bool},Na Y call gv xr cs ifs->Inv Y pins σ H s->bq Y.K cm m H env σ->aE Y.K cm m H ->
  tests call gv cs env m=.ok k m' ->
  RB (RC Y.prog Y.w) Y.A (forIn ifs true λc r=>if r=true then do let ok <-isTrue c Y.env (eval c Y.env);pure (Sg ok)else pure (Sg r))
   (λb s'=>b=k/\∃H' cm',Inv Y pins σ H' s'/\dQ cm m H cm' m' H'/\aE Y.K cm' m' H') Y.xe s
 |.nil,[],cm,m,m',H,s,k,_,I,hE,M,ok=>by
  unfold tests at ok;cases ok;exact Q5 ⟨rfl,H,cm,I,.refl,M⟩
 |.cons a es,e::r,cm,m,m',H,s,k,hp,I,hE,M,ok=>by
  unfold tests at ok;obtain⟨h1,h2⟩:=hp;simp only[VM,if_true];cases e1:ev call gv a env m with
  |ok w m1 =>
   rw[e1]at ok;change (cK w m1).bind _=_ at ok;cases e2:cK w m1 with
   |ok b m2 =>
    rw[e2]at ok;change (if b=true then _ else _)=_ at ok;refine Q0 (Q0 (bY (Ln h1 I hE M (m':=m2) (k:=b) (by rw[e1];exact e2)) λc s1 ⟨H1,I1,hb,cm1,x1,M1⟩=>Q5 ?_));subst hb;cases c with
    |true =>
     rw[Xf rfl]at ok;exact bY (uA h2 I1 (hE.ext x1 M M1) M1 ok) λb' s2 ⟨hb',H2,cm2,I2,x2,M2⟩=>⟨hb',H2,cm2,I2,x1.trans x2,M2⟩
    |false =>
     rw[Xg RG]at ok;cases ok;exact pq ⟨rfl,H1,cm1,I1,x1,M1⟩ r
   |exc _ _=>rw[e2]at ok;cases ok
   |stuck=>rw[e2]at ok;cases ok
  |exc _ _=>rw[e1]at ok;cases ok
  |stuck=>rw[e1]at ok;cases ok
 |.nil,_::_,_,_,_,_,_,_,hp,_,_,_,_=>hp.elim
 |.cons _ _,[],_,_,_,_,_,_,hp,_,_,_,_=>hp.elim
noncomputable def ll:Tg->List Nat
 |.nm i=>[i]
 |.tp is=>is
def Agree(S:List Nat)(σ σ':L2.St):Prop:=∀i,i∉S->σ'[i]?=σ[i]?
noncomputable def cy:List Nat->List V->L2.St->L2.St
 |i::is,v::vs,σ=>cy is vs (σ.set i (Zz v))
 |_,_,σ=>σ
variable(K) in
noncomputable def gT:Tg->TG
 |.nm i=>HG i
 |.tp is=>λv σ H Q=>∃a xs,v=.ref a/\lA K H a xs/\xs.length=is.length/\Q (cy is xs σ) H
theorem nM:∀(is:List Nat) (vs:List V) (σ:L2.St),Agree is σ (cy is vs σ)
 |[],_,_=>λ_ _=>by unfold cy;rfl
 |_::_,[],_=>λ_ _=>by unfold cy;rfl
 |i::is,v::vs,σ=>λj hj=>by
  unfold cy;rw[R6]at hj;rw[nM is vs _ j λz=>hj (.inr z),RK λz=>hj (.inl z.symm)]
theorem bq.set(h:bq K cm m H env σ)(r:RW K cm m H w v)(i:Nat)(hi:i<σ.length):bq K cm m H (env.set i (Zz w)) (σ.set i (Zz v)):=λj u e=>by
 by_cases hj:j=i
 ·subst hj
  have hl:j<env.length:=by
   have:=(R0.mp e).1
   rwa [S8]at this
  rw[RS hl]at e;cases e;exact⟨v,RS hi,r⟩
 ·rw[RK (SR hj)]at e
  obtain⟨v',h1,h2⟩:=h j u e;exact⟨v',by rw[RK (SR hj)];exact h1,h2⟩
theorem bq.cy:∀{is:List Nat}{ts:List T}{vs:List V}{env:Env}{σ:L2.St},bq K cm m H env σ->c6 K cm m H ts vs->(∀i∈is,i<σ.length) ->
  bq K cm m H ((is.zip ts).foldl (λenv p=>env.set p.1 (Zz (.t p.2))) env) (Mi.cy is vs σ)
 |[],_,_,_,_,h,_,_=>by unfold Mi.cy;exact h
 |_::_,[],_,_,_,h,.nil,_=>by unfold Mi.cy;exact h
 |i::is,t::ts,v::vs,env,σ,h,.cons r rs,hi=>by
  unfold Mi.cy;rw[TW,U7];refine bq.cy (h.set (w:=.t t) r i (hi i RU)) rs λj hj=>?_
  rw[S8];exact hi j (R5 _ hj)
theorem Hw(hE:bq K cm m H env σ)(hi:∀i∈ll tg,i<σ.length)(r:RT K cm m H t v)(e:bK tg t env=Zz env')(q:∀σ',bq K cm m H env' σ'->Agree (ll tg) σ σ'->Q σ' H):gT K tg v σ H Q:=by
 cases tg with
 |nm i =>
  cases e;refine q _ (hE.set (w:=.t t) r i (hi i (by simp[ll]))) λj hj=>?_
  rw[RK];intro z;exact hj (by simp[ll,z])
 |tp is =>
  unfold bK at e;dsimp only at e;split at e
  ·split at e<;>cases e
   rename_i ts hl;obtain⟨a,vs,rfl,h1,h2⟩:=RT.jQ r;exact⟨a,vs,rfl,h1,by rw[<-h2.length];exact hl,q _ (bq.cy hE h2 hi) (nM is vs σ)⟩
  ·cases e
end
noncomputable def dR:E->List Nat
 |.more _ tg _ inner=>ll tg++dR inner
 |_=>[]
section
variable{xr:XR}{Y:Cx}{call:Nat->List W->Mem->Res W}{gv:List T}
inductive NN (xr:XR) (Y:Cx) (call:Nat->List W->Mem->Res W) (gv:List T) (elt:Rq) (gens:List W2):Nat->E->Prop
 |emit {d:Nat}{a:E}:gens[d+1]?=Zy->PE Y elt (tE Y.K call gv xr a)->NN xr Y call gv elt gens d (.emit a)
 |more {d:Nat}{it inner:E}{tg:Tg}{cs:Es}{target iter:Rq}{ifs:List Rq}:gens[d+1]?=Zz ⟨target,iter,ifs,0⟩->PI Y target iter (tI Y.K call gv xr it)->(∀x,Sm iter Y.env x=pure x)->PG Y target (gT Y.K tg)->Na Y call gv xr cs ifs ->
  (∀i∈ll tg,i∉dR inner)->(∀i∈ll tg++dR inner,i<Y.N.length)->NN xr Y call gv elt gens (d+1) inner->NN xr Y call gv elt gens d (.more it tg cs inner)
theorem uD{α:Type}{M:X8}{t:Sem α}{Q:α->Q7->Prop}{E:Q2->Q7->Prop}(a:∀e s,¬Y.xe e s)(h:RB M A t Q Y.xe s):RB M A t Q E s:=SQ h (λ_ _ q=>q) λ_ _ z=>(a _ _ z).elim
noncomputable abbrev turnF(call:Nat->List W->Mem->Res W)(gv:List T)(cs:Es)(inner:E):Env->Mem->Res (List T):=λenv m=>(tests call gv cs env m).bind λk m=>if k then(ev call gv inner env m).bind nQ else .ok [] m
inductive zb (Y:Cx) (Acc:Rm->List V->Prop) (D:Q8) (S:List Nat) (pins:List (Q8×Obj)) (σ:L2.St) (cm:List Q8) (m:Mem) (H:Hp) (vs:List V) (out:List T) (m':Mem) (s':Q7)  : Prop where
 |mk (σ' H' cm' vs') (_:Inv Y pins σ' H' s') (_:dQ cm m H cm' m' H') (_:aE Y.K cm' m' H') (_:c6 Y.K cm' m' H' out vs') (_:Acc s'.heap (vs++vs')) (_:Agree S σ σ') (_:H' D=Zy)
noncomputable abbrev Ps(Y:Cx)(D:Q8):=zb Y (λh vs=>AccAt h D vs) D
theorem AccAt.keep(a:AccAt h D vs)(k:∀o,h.get? D=Zz o->h'.get? D=Zz o):AccAt h' D vs:=by
 obtain⟨z,b,n,r,e⟩:=a;exact⟨z,b,n,r,k _ e⟩
theorem bq.agree{K:Rf}{S:List Nat}(h:bq K cm m H env σ)(a:Agree S σ σ')(n:∀i∈S,∀w,env[i]?≠Zz (Zz w)):bq K cm m H env σ':=λi w e=>by
 obtain⟨v,h1,h2⟩:=h i w e;refine⟨v,?_,h2⟩;rw[a i λz=>n i z w e];exact h1
theorem Agree.trans{S:List Nat}(h:Agree S a b)(g:Agree S b c):Agree S a c:=λi d=>(g i d).trans (h i d)
theorem Agree.mono{S c:List Nat}(h:Agree S a b)(g:∀i∈S,i∈c):Agree c a b:=λi d=>h i λz=>d (g i z)
theorem Agree.refl{S:List Nat}:Agree S a a:=λ_ _=>rfl
theorem zo(e:bK tg t env=Zz env')(hi:i∉ll tg):env'[i]?=env[i]?:=by
 cases tg with
 |nm j =>
  cases e;rw[RK];intro z;exact hi (by simp[ll,z])
 |tp is =>
  unfold bK at e;dsimp only at e;split at e
  ·split at e<;>cases e
   rename_i ts hl;have:∀(is:List Nat) (ts:List T) (env:Env),i∉is->((is.zip ts).foldl (λenv p=>env.set p.1 (Zz (.t p.2))) env)[i]?=env[i]?:=by
    intro is
    induction is with
    |nil=>intro ts env _;rfl
    |cons j is ih =>
     intro ts env h;cases ts with
     |nil=>rfl
     |cons t ts =>
      rw[R6]at h;rw[TW,U7,ih ts _ λz=>h (.inr z),RK λz=>h (.inl z.symm)]
   exact this is ts env hi
  ·cases e
theorem aY{α β:Type}{r:Res α}{f:α->Mem->Res β}{y:β}(h:r.bind f=.ok y m'):∃x m,r=.ok x m/\f x m=.ok y m':=by
 cases r with
 |ok x m=>exact⟨x,m,rfl,h⟩
 |exc _ _=>cases h
 |stuck=>cases h
theorem uJ(h:nQ w m=.ok ts m'):w=.t (.lst ts)/\m'=m:=by
 unfold nQ at h;split at h<;>cases h;exact⟨rfl,rfl⟩
theorem AZ{K:Rf}(M:aE K cm m H)(r:RW K cm m H w v)(e:jS w m=.ok t m'):dQ cm m H cm m' H/\aE K cm m' H/\RT K cm m' H t v:=by
 cases w with
 |t x=>cases e;exact⟨.refl,M,r⟩
 |x _ _ _=>cases e
 |c i =>
  unfold jS at e;dsimp only at e;split at e
  ·rename_i ts h
   cases e;obtain⟨a,n,k,q,p,j,g,o,f⟩:=DK M h;obtain⟨b,d,l⟩:=r;rw[k]at d;cases d;subst l;exact⟨j,g,f⟩
  ·cases e
theorem CY(f:de Y pins H b)(n:b∉fp):de Y (pins++jc fp h) H b:=
 ⟨f.1,f.2.1,f.2.2.1,f.2.2.2.1,f.2.2.2.2.1,λp a z=>by
  rw[<-S3]at a;rcases S1.mp a with a|a
  ·exact f.2.2.2.2.2 p a z
  ·exact n (by rw[<-z];exact(uL a).1)⟩
structure IX (D:Q8) (Acc:Rm->List V->Prop):Prop where
 obj:∀{h vs},Acc h vs->∃o,h.get? D=Zz o/\∀v,o.data≠.cell v
 keep:∀{h h' vs},Acc h vs->(∀o,h.get? D=Zz o->h'.get? D=Zz o)->Acc h' vs
theorem mw(D:Q8):IX D (λh b=>AccAt h D b):=⟨λ⟨_,_,_,_,e⟩=>⟨_,e,λv z=>by cases z⟩,λa k=>a.keep k⟩
theorem zt{c:Rm->List V->Prop}(g:IX D c)(I:Inv Y pins σ H s)(f:de Y pins H D)(a:c s.heap vs):Inv Y (pins++jc [D] s.heap) σ H s:=by
 refine I.pinned (λb d=>?_) λb d=>?_
 ·have e:b=D:=by simpa using d
  rw[e];exact f
 ·have e:b=D:=by simpa using d
  obtain⟨o,q,n⟩:=g.obj a;rw[e];exact⟨_,q,n⟩
theorem qC{b:Rm->List V->Prop}(c:IX D b)(a:b h vs)(I:Inv Y pins σ H s)(d:∀o,h.get? D=Zz o->(D,o)∈pins):b s.heap vs/\H D=Zy:=by
 obtain⟨o,q,_⟩:=c.obj a;obtain⟨g,f,_⟩:=I.pin _ (RI _ (d _ q));refine⟨c.keep a λi e=>?_,f⟩;rw[q]at e;cases e;exact g
theorem B7(I:Inv Y pins σ H s)(f:de Y pins H D)(a:AccAt s.heap D vs):Inv Y (pins++jc [D] s.heap) σ H s:=zt (mw D) I f a
theorem FQ{D:Q8}(a:AccAt h D vs)(I:Inv Y pins σ H s)(b:∀o,h.get? D=Zz o->(D,o)∈pins):AccAt s.heap D vs/\H D=Zy:=qC (mw D) a I b
noncomputable abbrev E4(target iter:Rq)(ifs:List Rq)(env:T8)(it:Q2)(c:Code)(br:Sem PySem.Fin):Sem PySem.Fin:=
 Ux iter.pos >>= λ_=>pyNext it >>= λr=>match r with
  |none=>pure (.done .next)
  |some v=>U6 target it v >>= λ_=>assign target env v >>= λ_ =>
   (forIn ifs true λc r=>if r=true then do let ok <-isTrue c env (eval c env);pure (Sg ok)else pure (Sg r)) >>= λok=>if ok=true then br else again c
inductive LA (Acc:Rm->List V->Prop) (fp:List Q8) (D:Q8) (cm:List Q8) (m:Mem) (H:Hp) (tg:Tg) (inner:E) (σ:L2.St) (tn:Nat->Rm->Prop) (pins:List (Q8×Obj)) (vs:List V) (cs:Es) (ts:List T) (env:Env) (m':Mem) (out:List T) (n:Nat) (s1:Q7):Prop where
 |mk (i σ1 H1 cm1 m1 vs1 done rest) (_:Inv Y pins σ1 H1 s1) (_:tn i s1.heap) (_:∀b∈fp,H1 b=Zy) (_:H1 D=Zy) (_:dQ cm m H cm1 m1 H1) (_:aE Y.K cm1 m1 H1) (_:Agree (ll tg++dR inner) σ σ1) (_:Acc s1.heap (vs++vs1)) (_:c6 Y.K cm1 m1 H1 done vs1) (_:cb (turnF call gv cs inner) tg (ts.drop i) env m1=.ok rest m') (_:out=done++rest) (_:n=ts.length+1-i) (_:i<=ts.length)
theorem yR(hc:Y.calm=true)(hxe:∀e s,¬Y.xe e s){ce:Rq}{D:Q8}{Acc:Rm->List V->Prop}(hA:IX D Acc){Pt:T->Prop}(hu:Y.A.under (.compLoop ce d (.ref it) (.ref D) Y.env)=Y.A)(hd:(RC Y.prog Y.w).den (.compLoop ce d (.ref it) (.ref D) Y.env)=(WU ce d (.ref it) (.ref D) Y.env).onRaise (λx=>do WB x Y.env;theTreesLotGoes x))(code:WU ce d (.ref it) (.ref D) Y.env=E4 target iter ifs Y.env (.ref it) (.compLoop ce d (.ref it) (.ref D) Y.env) br)(hg:PG Y target (gT Y.K tg))(ht:Na Y call gv xr cs ifs)(hdis:∀i∈ll tg,i∉dR inner)(hlt:∀i∈ll tg++dR inner,i<Y.N.length)(hbr:∀{pins:List (Q8×Obj)}{s:Q7}{σ:L2.St}{H:Hp}{cm:List Q8}{m m':Mem}{env:Env}{out:List T}{vs:List V},Inv Y pins σ H s->de Y pins H D->Acc s.heap vs->bq Y.K cm m H env σ->(∀i∈dR inner,∀w,env[i]?≠Zz (Zz w))->aE Y.K cm m H ->
   (ev call gv inner env m).bind nQ=.ok out m'->vs.length+out.length<=L->(∀t∈out,Pt t) ->
   RB (RC Y.prog Y.w) Y.A br (λfin s'=>fin=.again (.compLoop ce d (.ref it) (.ref D) Y.env)/\zb Y Acc D (dR inner) pins σ cm m H vs out m' s') Y.xe s)(I:Inv Y pins σ H s)(hD:de Y pins H D)(ha:Acc s.heap vs)(hT:Turn Y.prog Y.w Y.K target J fp it tn)(h0:tn 0 s.heap)(hf:∀b∈fp,de Y pins H b)(hDf:D∉fp)(hE:bq Y.K cm m H env σ)(hn:∀i∈ll tg++dR inner,∀w,env[i]?≠Zz (Zz w))(M:aE Y.K cm m H)(hs:Src Y.K cm m H J ts)(ok:cb (turnF call gv cs inner) tg ts env m=.ok out m')(hl:vs.length+out.length<=L)(hpt:∀t∈out,Pt t):
  Tc (RC Y.prog Y.w) Y.A (.compLoop ce d (.ref it) (.ref D) Y.env) (λr s'=>r=.ok .next/\zb Y Acc D (ll tg++dR inner) pins σ cm m H vs out m' s') s:=by
 have statD:∀{H1:Hp},H1 D=Zy->de Y pins H1 D:=λh=>⟨h,hD.2⟩
 have stat:∀{H1:Hp},(∀b∈fp,H1 b=Zy)->∀b∈fp,de Y pins H1 b:=λh b hb=>⟨h b hb,(hf b hb).2⟩
 refine codeAny_loop rfl (LA (Y:=Y) (call:=call) (gv:=gv) Acc fp D cm m H tg inner σ tn pins vs cs ts env m' out) ?_ (ts.length+1)
  ⟨0,σ,H,cm,m,[],[],out,I,h0,λb hb=>(hf b hb).1,hD.1,.refl,M,.refl,by rw[RY];exact ha,.nil,by rw[V0];exact ok,rfl,rfl,Ur _⟩
 rintro n s1 ⟨i,σ1,H1,cm1,m1,vs1,done,rest,I1,st1,fr1,d1,x1,M1,ag1,a1,r1,ok1,eo,rfl,hi⟩;rw[hu,hd];refine wpAny_noted ?_;rw[code];refine Q0 (Sk (Q0 ?_));have hE1:=(hE.ext x1 M M1).agree ag1 hn;have s1':=hs.ext x1 M M1;have I1D:=zt hA I1 (statD d1) a1;have fpD:∀{H1:Hp},(∀b∈fp,H1 b=Zy)->∀b∈fp,de Y (pins++jc [D] s1.heap) H1 b:=λh b hb=>CY (stat h b hb) λz=>hDf (by
  have e:b=D:=by simpa using z
  rw[<-e];exact hb)
 have inD:∀o,s1.heap.get? D=Zz o->(D,o)∈pins++jc [D] s1.heap:=λo e=>RI _ (bW (by simp) e)
 cases et:ts[i]? with
 |none =>
  refine uD hxe (bY (hT.done Y rfl rfl rfl hc i _ s1 σ1 H1 Y.xe I1D (fpD fr1) st1 (Src.stop M1 s1' et)) λr s2 ⟨hr,I2⟩=>?_);subst hr;have hd:=List.drop_eq_nil_of_le (UW.mp et);rw[hd]at ok1;unfold cb at ok1;cases ok1;rw[RY]at eo;subst eo;exact Q5 ⟨rfl,σ1,H1,cm1,vs1,I2.cR,x1,M1,r1,(qC hA a1 I2 inD).1,ag1,(qC hA a1 I2 inD).2⟩
 |some t =>
  obtain⟨go,yl⟩:=Src.go M1 s1' et;have hit:=(R0.mp et).1;have hd:ts.drop i=t::ts.drop (i+1):=by
   rw[Su hit]
   congr 1
   exact Ri ((Ra hit).symm.trans et)
  rw[hd]at ok1;unfold cb at ok1;split at ok1
  ·cases ok1
  ·rename_i env' eb
   obtain⟨xs,m2,ok2,ok3⟩:=aY ok1;obtain⟨ys,m3,ok4,ok5⟩:=aY ok3;cases ok5;obtain⟨k,m4,okt,okb⟩:=aY ok2;refine uD hxe (bY (hT.item Y rfl rfl rfl hc i _ s1 σ1 H1 Y.xe I1D (fpD fr1) st1 go) λr s2 ⟨u,hr,h2⟩=>?_);subst hr;refine Q0 (uD hxe (bY h2 λ_ s3 ⟨x,H3,I3,rx,y3,st3,fr3⟩=>?_));obtain⟨xy,My,rt⟩:=yl x H3 y3;have hE1:=hE1.ext xy M1 My;have x1:=x1.trans xy;have r1:=c6.ext xy M1 My r1;have M1:=My
   -- pinned: the list that is filled,and the iterator
   have I3':=I3.pinned (fpD fr3) (hT.obj _ _ st3);refine Q0 (uD hxe (bY (hg _ s3 σ1 H3 x u (λσ' H'=>H'=H3/\bq Y.K cm1 m1 H3 env' σ'/\Agree (ll tg) σ1 σ') I3' rx (Hw hE1 (λj hj=>by rw[I3.len];exact hlt j (Rt _ hj)) rt eb λσ' h1 h2=>⟨rfl,h1,h2⟩)) λ_ s4 ⟨σ4,H4,I4,e4,hE4,ag4⟩=>?_));subst e4;refine Q0 (uD hxe (bY (uA ht I4 hE4 M1 okt) λb s5 ⟨hb,H5,cm5,I5,x5,M5⟩=>?_));subst hb;have a5:=qC hA a1 I5 λo e=>Rt _ (inD o e)
   have st5:=hT.keep _ _ _ st3 λb hb o e=>(I5.pin (b,o) (RI _ (RI _ (bW hb e)))).1
   have f5:∀b∈fp,H5 b=Zy:=λb hb=>by
    obtain⟨o,e,dd⟩:=hT.obj _ _ st3 b hb;exact(I5.pin (b,o) (RI _ (RI _ (bW hb e)))).2.1
   have ag45:=ag1.trans (ag4.mono λi hi=>Rt _ hi);cases b with
   |false =>
    rw[Xg RG]at okb ⊢;cases okb;rw[T9]at eo;exact Q5 ⟨rfl,_,by omega,i+1,σ4,H5,cm5,m2,vs1,done,ys,I5.cR.cR,st5,f5,a5.2,x1.trans x5,M5,ag45,a5.1,c6.ext x5 M1 M5 r1,ok4,eo,rfl,hit⟩
   |true =>
    rw[Xf rfl]at okb ⊢;have I6:=I5.cR.cR.pinned (stat f5) (hT.obj _ _ st5);have hv:=r1.length;have hz:(vs++vs1).length+xs.length<=L:=by
     rw[R7,<-hv];rw[eo,R7,R7]at hl;omega
    have hn6:∀j∈dR inner,∀w,env'[j]?≠Zz (Zz w):=λj hj w=>by
     rw[zo eb λz=>hdis j z hj];exact hn j (RI _ hj) w
    refine uD hxe (bY (hbr I6 (CY (statD a5.2) hDf) a5.1 (hE4.ext x5 M1 M5) hn6 M5 okb hz λt ht'=>hpt t (by rw[eo];exact RI _ (Rt _ ht'))) λfin s7 ⟨hfin,σ7,H7,cm7,vs7,I7,x7,M7,r7,a7,ag7,d7⟩=>?_);subst hfin;have keep7:=λb hb o e=>(I7.pin (b,o) (RI _ (RI _ (bW hb e)))).1
    refine⟨rfl,_,by omega,i+1,σ7,H7,cm7,m2,vs1++vs7,done++xs,ys,I7.cR,hT.keep _ _ _ st5 keep7,λb hb=>?_,?_,(x1.trans x5).trans x7,M7,ag45.trans (ag7.mono λi hi=>RI _ hi),by rw[<-S3];exact a7,
     bB (c6.ext x7 M5 M7 (c6.ext x5 M1 M5 r1)) r7,ok4,by rw[eo,S3],rfl,hit⟩
    ·obtain⟨o,e,dd⟩:=hT.obj _ _ st5 b hb
     exact(I7.pin (b,o) (RI _ (RI _ (bW hb e)))).2.1
    ·exact d7
theorem tL(hg:gens[d]?=Zz ⟨target,iter,ifs,0⟩)(h0:Tc (RC prog w) A (.compLoop (.ListComp elt gens scope pos) d it acc env) R s)(h:RB (RC prog w) A (pyIter it) (λit' s'=>Tc (RC prog w) A (.compLoop (.ListComp elt gens scope pos) d it' acc env) R s') (notedBy (RC prog w) A env λx s'=>R (.error x) s') s):
  Tc (RC prog w) A (.compStart (.ListComp elt gens scope pos) d it acc env) R s:=by
 refine Uh ?_;refine wpAny_notedAt ?_;unfold Wz;have e:(XQ (.ListComp elt gens scope pos))[d]?=Zz ⟨target,iter,ifs,0⟩:=hg;rw[e];refine Q0 (Tt (wpAny_ite ?_));split
 ·first
   |exact Q0 (Q5 (Q5 (RX rfl h0)))
   |exact Q5 (RX rfl h0)
 ·first
   |exact Q0 (Uk (Q0 (Sk (Q0 (SQ h (λit' s' h'=>Q5 (RX rfl h')) λ_ _ x=>x)))))
   |(refine Q0 (Uk ?_);show RB _ _ (Ux iter.pos >>= _) _ _ s;exact Q0 (Sk (Q0 (SQ h (λit' s' h'=>Q5 (RX rfl h')) λ_ _ x=>x))))
theorem Ae{E:Q2->Q7->Prop}(I:Inv Y d σ H s)(f:de Y d H D)(a:AccAt s.heap D vs)(r:RelV v u)(hz:vs.length<RP)(q:∀h,Inv Y d σ H h->AccAt h.heap D (vs++[v])->Q .none h):RB (RC Y.prog Y.w) Y.A (U3 (.builtin "list.append") [.ref D,u]) Q E s:=by
 obtain⟨z,c,n,rv,e⟩:=a;have hl:=rv.length;refine Sx F.slot_list_append ⟨_,e,rfl⟩ F.entry_list_append (F.args_list_append_2 _ _) (PySem.list_append D c.toArray n u (by rw[Q9];omega)) ⟨e,?_⟩;have e2:=PySem.IsL.update e (·.push u);have hf:c.toArray.push u=(c++[u]).toArray:=by simp
 rw[hf]at e2;obtain⟨f0,f1,f2,f3,f4,f5⟩:=f;refine q _ (I.turned (t':=s.toks) (λb o hb eb=>(Rs s.heap (U2 (·.push u)) (SR hb)).trans eb) f0 f1 f3 f4 f5) ⟨?_,c++[u],_,rv.append (.cons r .nil),e2⟩;rw[R7,UD];omega
theorem oz{K:Rf}(M:aE K cm m H)(e:bp w m=.ok ts m1):dQ cm m H cm m1 H/\aE K cm m1 H:=by
 cases w with
 |t t =>
  unfold bp at e;dsimp only at e;split at e<;>cases e;exact⟨.refl,M⟩
 |x _ _ _=>cases e
 |c i =>
  unfold bp at e;dsimp only at e;split at e
  ·cases e
   exact DS M (by assumption)
  ·cases e
theorem JA(hc:Y.calm=true)(hxe:∀e s,¬Y.xe e s){elt:Rq}{inner:E}(hin:NN xr Y call gv elt gens d inner):∀{target iter:Rq}{ifs:List Rq}{tg:Tg}{cs:Es},gens[d]?=Zz ⟨target,iter,ifs,0⟩ ->
  PG Y target (gT Y.K tg)->Na Y call gv xr cs ifs->(∀i∈ll tg,i∉dR inner)->(∀i∈ll tg++dR inner,i<Y.N.length) ->
  ∀{c:List (Q8×Obj)}{s:Q7}{σ:L2.St}{H:Hp}{cm:List Q8}{m m':Mem}{env:Env}{ts f:List T}{J:It}{it:Q8}{fp:List Q8}{tn:Nat->Rm->Prop}{vs:List V},Inv Y c σ H s->de Y c H D->AccAt s.heap D vs ->
   Turn Y.prog Y.w Y.K target J fp it tn->tn 0 s.heap->(∀b∈fp,de Y c H b)->D∉fp->bq Y.K cm m H env σ->(∀i∈ll tg++dR inner,∀w,env[i]?≠Zz (Zz w))->aE Y.K cm m H->Src Y.K cm m H J ts ->
   cb (turnF call gv cs inner) tg ts env m=.ok f m'->vs.length+f.length<=lim ->
   Tc (RC Y.prog Y.w) Y.A (.compLoop (.ListComp elt gens scope pos) d (.ref it) (.ref D) Y.env) (λr s'=>r=.ok .next/\Ps Y D (ll tg++dR inner) c σ cm m H vs f m' s') s:=by
 induction hin with
 |@emit d a l pe =>
  intro target iter ifs tg cs hg pg pt q hlt c s σ H cm m m' env ts f J it fp tn vs I hD ha hT h0 hf hDf hE hn M hs ok hl;refine yR hc hxe (mw D) rfl rfl (s0 hg l) pg pt q hlt ?_ I hD ha hT h0 hf hDf hE hn M hs ok hl (λ_ _=>trivial);intro c s σ H cm m m' env f vs I hD ha hE hn M ok hl _;obtain⟨w,m1,j,ok2⟩:=aY ok;obtain⟨rfl,rfl⟩:=uJ ok2;unfold ev at j;obtain⟨w1,m2,ok3,ok4⟩:=aY j;obtain⟨t,m3,h,ok6⟩:=aY ok4;cases ok6;have hz:=bj;refine Q0 (Q0 (bY (Lf pe (B7 I hD ha) hE M ok3) λu s1 ⟨v,H1,I1,rv,g,x1,M1,r1⟩=>?_));obtain⟨a1,d1⟩:=FQ ha I1 λo e=>RI _ (bW (by simp) e)
  obtain⟨x2,M2,r2⟩:=AZ M1 r1 h;have I1':=I1.cR;refine Q0 (Ae I1' ⟨d1,hD.2⟩ a1 rv (by simp at hl;omega) λs2 I2 a2=>Q5 (Q5 ⟨rfl,σ,H1,g,[v],I2,x1.trans x2,M2,.cons r2 .nil,a2,.refl,d1⟩))
 |@more d it' inner' tg' cs' target' iter' ifs' l pi hfs pg' pt' hdis' hlt' hin' ih =>
  intro target iter ifs tg cs hg pg pt q hlt c s σ H cm m m' env ts f J it fp tn vs I hD ha hT h0 hf hDf hE hn M hs ok hl;refine yR hc hxe (mw D) rfl rfl (tq hg l) pg pt q hlt ?_ I hD ha hT h0 hf hDf hE hn M hs ok hl (λ_ _=>trivial);intro c s σ H cm m m' env f vs I hD ha hE hn M ok hl _;obtain⟨w,m1,j,ok2⟩:=aY ok;obtain⟨rfl,rfl⟩:=uJ ok2;unfold ev at j;obtain⟨w1,m2,ok3,ok4⟩:=aY j;obtain⟨ts',m3,h,ok6⟩:=aY ok4;obtain⟨out',m4,ok7,ok8⟩:=aY ok6;cases ok8;have hz:=bj;refine Q0 (bY (pi _ s σ H (λJ H1=>∃g,dQ cm m H g m2 H1/\aE Y.K g m2 H1/\Src Y.K g m3 H1 J ts') (B7 I hD ha) ⟨env,cm,m,hE,M,by
   rw[ok3];exact λg H1 x M1=>⟨ts',m3,h,λJ hs=>⟨g,x,M1,hs⟩⟩⟩) λxv s1 h1=>?_)
  refine Q0 (Sk (Q0 (X4 (hfs xv) (Q0 (SF (bY h1 λitv s2 h2=>?_))))));obtain⟨it2,fp2,tn2,J2,H2,rfl,I2,T2,st2,f2,cm2,x2,M2,hs2⟩:=h2;obtain⟨a2,d2⟩:=FQ ha I2 λo e=>RI _ (bW (by simp) e)
  have hDf2:D∉fp2:=λz=>by
   obtain⟨_,its,n,_,e⟩:=id ha;exact(f2 D z).2.2.2.2.2 (D,_) (RI _ (RI _ (bW (by simp) e))) rfl
  have f2':∀b∈fp2,de Y c H2 b:=λb hb=>⟨(f2 b hb).1,(f2 b hb).2.1,(f2 b hb).2.2.1,(f2 b hb).2.2.2.1,(f2 b hb).2.2.2.2.1,λp hp=>(f2 b hb).2.2.2.2.2 p (by rw[<-S3];exact Rt _ hp)⟩
  have hb3:=oz M2 h;have E2:=(hE.ext x2 M M2).ext hb3.1 M2 hb3.2;have go:=ih l pg' pt' hdis' hlt' I2.cR ⟨d2,hD.2⟩ a2 T2 st2 f2' hDf2 E2 hn hb3.2 hs2 ok7 hl;have self:=tL l go (T2.self Y.A 0 s2 _ _ st2 go);refine Q0 (wpAny_runOwn (Td self λr s3 ⟨hr,σ3,H3,cm3,vs3,I3,x3,M3,r3,a3,ag3,d3⟩=>?_));subst hr;obtain⟨x4,M4,sm⟩:=kz M2 h x3 M3;exact Q5 ⟨rfl,σ3,H3,cm3,vs3,I3,x2.trans x4,M4,aO (λ_ _ z=>sm _ _ z) r3,a3,ag3,d3⟩
end
theorem Bl(h:∀x,(x,Ru)∈scope.names->∃c,env.cells.lookup x=Zz c):
  ∃cl,closureFor scope env=pure cl/\(∀x c,cl.lookup x=Zz c->env.cells.lookup x=Zz c)/\∀x,(x,Ru)∈scope.names->∃c,cl.lookup x=Zz c:=by
 have go:∀(ns:List (Str×UK)) (acc:List (Str×Q8)),(∀x,(x,Ru)∈ns->∃c,env.cells.lookup x=Zz c)->(∀x c,acc.lookup x=Zz c->env.cells.lookup x=Zz c) ->
   ∃cl,(forIn ns acc λ(x:Str×UK) cs=>(match x with|(name,kind)=>if(kind==Ru)=true then do let a <-cellOf env name;pure (Sg ((name,a)::cs))else pure (Sg cs):Sem (ForInStep (List (Str×Q8)))))=pure cl /\
    (∀x c,cl.lookup x=Zz c->env.cells.lookup x=Zz c)/\(∀x,(x,Ru)∈ns->∃c,cl.lookup x=Zz c)/\∀x c,acc.lookup x=Zz c->∃c,cl.lookup x=Zz c:=by
  intro ns
  induction ns with
  |nil=>intro acc _ h2;exact⟨acc,rfl,h2,λx hx=>Xk hx (by simp),λx c e=>⟨c,e⟩⟩
  |cons p ns ih =>
   intro acc h1 h2;obtain⟨n,k⟩:=p;have h1':=λx hx=>h1 x (R5 _ hx)
   by_cases hk:k=.free
   ·subst hk
    obtain⟨c,hc⟩:=h1 n RU;have h2':∀x d,((n,c)::acc).lookup x=Zz d->env.cells.lookup x=Zz d:=λx d e=>by
     rw[SC]at e;cases hx:x==n with
     |true=>rw[hx]at e;cases e;rw[eq_of_beq hx];exact hc
     |false=>rw[hx]at e;exact h2 x d e
    obtain⟨cl,e1,e2,e3,e4⟩:=ih ((n,c)::acc) h1' h2';refine⟨cl,?_,e2,λx hx=>?_,λx d e=>?_⟩
    ·rw[VM]
     simp only[beq_self_eq_true,if_true,cellOf,hc,pure_bind];exact e1
    ·rcases R6.mp hx with z|z
     ·cases z
      exact e4 n c (by rw[SC,beq_self_eq_true])
     ·exact e3 x z
    ·by_cases hx:x=n
     ·subst hx;exact e4 x c (by rw[SC,beq_self_eq_true])
     ·exact e4 x d (by rw[SC,Xj.mpr hx];exact e)
   ·obtain⟨cl,e1,e2,e3,e4⟩:=ih acc h1' h2
    have hb:=Xj.mpr hk;refine⟨cl,?_,e2,λx hx=>?_,e4⟩
    ·rw[VM]
     simp only[hb,RV,if_false,pure_bind];exact e1
    ·rcases R6.mp hx with z|z
     ·cases z;exact Xk rfl hk
     ·exact e3 x z
 obtain⟨cl,e1,e2,e3,_⟩:=go scope.names [] h (λx c e=>by simp at e);refine⟨cl,?_,e2,e3⟩;unfold closureFor;have:(forIn scope.names ([]:List (Str×Q8)) λ(x:Str×UK) cs=>(match x with|(name,kind)=>if(kind==Ru)=true then do let a <-cellOf env name;pure (Sg ((name,a)::cs))else pure (Sg cs):Sem (ForInStep (List (Str×Q8))))) >>= (λcs=>pure cs)=(pure cl:Sem (List (Str×Q8))):=by rw[e1];rfl
 exact this
section
variable{xr:XR}{X:Cx}{call:Nat->List W->Mem->Res W}{gv:List T}
noncomputable abbrev dJ(X:Cx)(N':List Str)(scope:VF)(cl:List (Str×Q8))(C:Q8)(s2:Q7)(H2:Hp)(fp:List Q8):Cx:=
 { X with N:=N',s₀:=s2,H₀:=H2,env:=compEnvC scope cl C X.env,outer:=X.stack,stack:=X.stack,ex:=fp,fn:=λx=>scope.names.lookup x==Zz .cell,pn:=[],xe:=λ_ _=>False }
structure we (X:Cx) (N':List Str) (scope:VF):Prop where
 kind:scope.kind=.function
 look:∀p∈scope.names,scope.names.lookup p.1=Zz p.2
 free:∀x,(x,Ru)∈scope.names->X.env.kindOf x=Zz .cell∨X.env.kindOf x=Zz .free
theorem me(look:∀p∈scope.names,scope.names.lookup p.1=Zz p.2)(h:(relabel scope env).names.lookup x=Zz k):
  ∃k',scope.names.lookup x=Zz k'/\(k=k'∨(k'=.free/\k=.cell)):=by
 have go:∀(ns:List (Str×UK)),(ns.map λ(n,k)=>if(k==Ru&&env.scope.kind==.function&&env.kindOf n==Zz .cell)then(n,W3)else(n,k)).lookup x=Zz k->∃k',ns.lookup x=Zz k'/\(k=k'∨(k'=.free/\k=.cell)):=by
  intro ns
  induction ns with
  |nil=>intro h;simp at h
  |cons p r ih =>
   obtain⟨n,q⟩:=p;intro h;rw[R8]at h;by_cases hc:(q==Ru&&env.scope.kind==.function&&env.kindOf n==Zz .cell)=true
   ·simp only[hc,if_true]at h
    rw[SC]at h ⊢;cases hx:x==n with
    |true =>
     rw[hx]at h;cases h;rw[Q3,Q3]at hc;exact⟨q,rfl,.inr ⟨eq_of_beq hc.1.1,rfl⟩⟩
    |false=>rw[hx]at h;exact ih h
   ·simp only[hc,RV,if_false]at h
    rw[SC]at h ⊢;cases hx:x==n with
    |true=>rw[hx]at h;cases h;exact⟨_,rfl,.inl rfl⟩
    |false=>rw[hx]at h;exact ih h
 exact go scope.names h
theorem pC{ns:List (Str×UK)}(h:ns.lookup x=Zz k):(x,k)∈ns:=TC h
structure CA (h:Rm) (lo:Nat) (cs:List (Str×Q8)):Prop where
 lt:∀x c,cs.lookup x=Zz c->c<h.objs.size
 inj:∀x y c,cs.lookup x=Zz c->cs.lookup y=Zz c->x=y
 new:∀x c,cs.lookup x=Zz c->lo<=c->h.IsCell c Zy
theorem iw{α:Type}{a c:α}{l:List (Str×α)}(h:WV x ((y,a)::l)=Zz c):(x=y/\c=a)∨l.lookup x=Zz c:=by
 rw[SC]at h;cases e:x==y with
 |true=>rw[e]at h;cases h;exact .inl ⟨eq_of_beq e,rfl⟩
 |false=>rw[e]at h;exact .inr h
theorem vN:∀(names:List (Str×UK)) (h:Rm) (lo:Nat) (acc:List (Str×Q8)),CA h lo acc->lo<=h.objs.size->CA (pushCells h names) lo (US h.objs.size names acc)
 |[],_,_,_,x,_=>x
 |(name,kind)::r,h,lo,acc,x,hlo=>by
  unfold pushCells US;split
  ·have:=vN r (h.push { cls:=.type "cell",data:=.cell Zy }) lo ((name,h.objs.size)::acc)
    ⟨λn c hm=>by
      rw[SL];rcases iw hm with⟨_,rfl⟩|hm
      ·exact TM _
      ·exact Sn (x.lt n c hm),
     λn n' c h1 h2=>by
      rcases iw h1 with⟨e1,z1⟩|h1<;>rcases iw h2 with⟨e2,z2⟩|h2
      ·rw[e1,e2]
      ·exact Xk (x.lt _ _ h2) (by rw[z1];exact SD _)
      ·exact Xk (x.lt _ _ h1) (by rw[z2];exact SD _)
      ·exact x.inj n n' c h1 h2,
     λn c hm hc=>by
      rcases iw hm with⟨_,rfl⟩|hm
      ·exact⟨_,RL _ rfl,rfl⟩
      ·exact(x.new n c hm hc).keeps λb o e=>Q6 _ e⟩ (by rw[SL];omega)
   rwa [SL]at this
  ·exact vN r h lo acc x hlo
theorem mB{c:Q8}:∀(names:List (Str×UK)) (n:Nat) (acc:List (Str×Q8)),(US n names acc).lookup x=Zz c->(n<=c/\(x,W3)∈names)∨acc.lookup x=Zz c
 |[],_,_,h=>.inr h
 |(y,k)::r,n,acc,h=>by
  unfold US at h;split at h
  ·rename_i hk
   have hk:=eq_of_beq hk;rcases mB r (n+1) _ h with⟨h1,h2⟩|h1
   ·exact .inl ⟨by omega,R5 _ h2⟩
   ·rcases iw h1 with⟨rfl,rfl⟩|h1
    ·exact .inl ⟨R1 _,by rw[hk];exact RU⟩
    ·exact .inr h1
  ·rcases mB r n _ h with⟨h1,h2⟩|h1
   ·exact .inl ⟨h1,R5 _ h2⟩
   ·exact .inr h1
theorem oS:∀(names:List (Str×UK)) (n:Nat) (acc:List (Str×Q8)),names.lookup x=Zz .cell->(US n names acc).lookup x=Zz c->n<=c
 |[],_,_,h,_=>by cases h
 |(y,k)::r,n,acc,h,e=>by
  unfold US at e;rw[SC]at h;cases q:x==y with
  |true =>
   rw[q]at h;cases h;have e:=e;rcases mB r (n+1) _ e with⟨h1,_⟩|h1
   ·omega
   ·rw[SC,q]at h1
    cases h1;exact R1 _
  |false =>
   rw[q]at h;split at e
   ·have:=oS r (n+1) _ h e
    omega
   ·exact oS r n _ h e
structure ON (X:Cx) (scope:VF) (cl:List (Str×Q8)) (C:Q8) (h:Rm):Prop where
 one:∀x c,cl.lookup x=Zz c->(C<c/\(x,W3)∈scope.names/\h.IsCell c Zy)∨X.env.cells.lookup x=Zz c
 own:∀x c,scope.names.lookup x=Zz .cell->cl.lookup x=Zz c->C<c
 inj:∀x y c,cl.lookup x=Zz c->cl.lookup y=Zz c->x=y
 has:∀x,(x,Ru)∈scope.names∨scope.names.lookup x=Zz .cell->∃c,cl.lookup x=Zz c
theorem ON.ne(k:ON X scope cl C h)(hb:b<C)(hx:∀x c,X.env.cells.lookup x=Zz c->c≠b):∀x c,cl.lookup x=Zz c->c≠b:=λx c e=>by
 rcases k.one x c e with⟨h1,_⟩|h1
 ·exact Uy (VZ hb h1)
 ·exact hx x c h1
theorem zT{E:Q2->Q7->Prop}(hcl1:∀x c,cl0.lookup x=Zz c->X.env.cells.lookup x=Zz c)(hcl2:∀x,(x,Ru)∈scope.names->∃c,cl0.lookup x=Zz c)(hlt:∀x c,X.env.cells.lookup x=Zz c->c<s.heap.objs.size)(hinj:∀x y c,X.env.cells.lookup x=Zz c->X.env.cells.lookup y=Zz c->x=y)(h:∀h1 cl,(∃m,h1.Ns s.heap.objs.size m)->(∀b o,s.heap.get? b=Zz o->h1.get? b=Zz o)->ON X scope cl s.heap.objs.size h1->Q (newEnv scope s.heap.objs.size X.env.globals cl X.env.qual Zy .none (Zz X.env) Uj) { s with heap:=h1 }):
  RB M A (newFunctionEnv scope X.env.globals cl0 [] X.env.qual Zy .none (Zz X.env)) Q E s:=by
 simp only[newFunctionEnv,Option.isSome_some,if_true];refine Q0 (wpAny_alloc ?_);refine Q0 (wpAny_layCells _ (λname kind cells=>by cases hkc:kind==W3<;>simp[hkc]) _ _ _ _ ?_);have hz:(s.heap.push { cls:=.type "dict",data:=.dict #[] }).objs.size=s.heap.objs.size+1:=SL ..;have ok:=vN scope.names (s.heap.push { cls:=.type "dict",data:=.dict #[] }) (s.heap.objs.size+1) cl0
  ⟨λx c e=>by rw[hz];exact Sn (hlt x c (hcl1 x c e)),λx y c e1 e2=>hinj x y c (hcl1 x c e1) (hcl1 y c e2),λx c e z=>Xk (hlt x c (hcl1 x c e)) (XD.mpr (Nat.le_of_succ_le z))⟩ (by rw[hz];exact R1 _)
 rw[List.forIn_nil];refine Q0 (Q5 (Q5 ?_));refine h _ _ ⟨_,(Heap.Ns.new s.heap (.type "dict")).keeps (pushCells_keeps _ _)⟩ (λb o e=>pushCells_keeps _ _ b o (Q6 _ e)) ⟨λx c e=>?_,λx c hx e=>?_,ok.inj,λx hx=>?_⟩
 ·rcases mB _ _ _ e with⟨h1,h2⟩|h1
  ·rw[show({ s with heap:=s.heap.push { cls:=.type "dict",data:=.dict #[] } }:Q7).heap.objs.size=s.heap.objs.size+1 from hz]at h1
   exact .inl ⟨h1,h2,ok.new x c e h1⟩
  ·exact .inr (hcl1 x c h1)
 ·have:=oS _ _ _ hx e
  rw[show({ s with heap:=s.heap.push { cls:=.type "dict",data:=.dict #[] } }:Q7).heap.objs.size=s.heap.objs.size+1 from hz]at this;exact this
 ·refine UX.mp (Vh _ _ _ ?_)
  rcases hx with hx|hx
  ·obtain⟨c,e⟩:=hcl2 x hx
   exact .inr (by rw[e];rfl)
  ·exact .inl hx
theorem AW(I:Inv X pins σ H s)(S:we X N' scope)(hf:∀b∈fp,de X pins H b)(hlt:∀b∈fp,b<s.heap.objs.size)(hC:s.heap.objs.size<=C)(hns:∃m,h1.Ns C m)(hk:∀b o,s.heap.get? b=Zz o->h1.get? b=Zz o)(kc:ON X scope cl C h1)(hl:σ'.length=N'.length)(hσ:∀(i:Nat) (x:Str) (v:V),N'[i]?=Zz x->σ'[i]?=Zz (Zz v)->∃j:Nat,X.N[j]?=Zz x/\σ[j]?=Zz (Zz v)/\(x,Ru)∈scope.names):
  Inv (dJ X N' scope cl C s H fp) [] σ' H { s with heap:=h1,toks:=t }:=by
 have hfree:∀x k,(relabel scope X.env).names.lookup x=Zz k->(k=.cell∨k=.free)->(x,Ru)∈scope.names∨scope.names.lookup x=Zz .cell:=λx k h hk'=>by
  obtain⟨k',h1,h2⟩:=me S.look h;rcases h2 with rfl|⟨rfl,_⟩
  ·rcases hk' with rfl|rfl
   ·exact .inr h1
   ·exact .inl (pC h1)
  ·exact .inl (pC h1)
 obtain⟨mm,hns⟩:=hns;refine⟨⟨I.ok.mod,S.kind,I.ok.glob,I.ok.blt,hC,kc.inj,λx hx=>?_,λx c h e=>?_,I.ok.hd,I.ok.frames,.inl rfl,λb hb=>⟨Rc (RQ (hlt b hb) hC),kc.ne (RQ (hlt b hb) hC) (hf b hb).2.2.2.2.1⟩,I.bs,Re I.ok.Gy I.sz,λb o e hb=>?_,λb hb z=>?_,I.stack,I.qg⟩,
  rfl,I.bare,Un.kept hk,⟨mm,hns,λi x v e1 e2 e3=>?_⟩,λx c e=>?_,I.hok.fresh hC,λx c e=>?_,λp hp=>Xk (hp) (by simp),I.hok.kept hk,hl⟩
 ·rcases hx with hx|hx
  ·exact kc.has x (hfree x _ hx (.inl rfl))
  ·exact kc.has x (hfree x _ hx (.inr rfl))
 ·have h:=h
  exact Re hC (Uw (kc.own x c (eq_of_beq h) e))
 ·rcases(hf b hb).2.2.2.1 with z|z
  ·exact I.ok.BO b o e z
  ·exact Xk (RQ (RH e) (Re I.ok.Gy z)) (SD _)
 ·rcases R6.mp (I.sF b z)with q|q
  ·exact(hf b hb).2.1 q
  ·exact(hf b hb).2.2.1 q
 ·obtain⟨j,h1',h2',h3'⟩:=hσ i x v e1 e2
  obtain⟨m0,hn0,hl0⟩:=I.loc;have kx:=S.free x h3';obtain⟨u,ru,lu⟩:=hl0 j x v h1' h2' (kx.elim (λz=>.inr (.inl z)) λz=>.inr (.inr z));refine⟨u,ru,.inr ?_⟩;obtain⟨c,ec,ic⟩:∃c,X.env.cells.lookup x=Zz c/\s.heap.IsCell c (Zz u):=by
   rcases lu with⟨q,_⟩|⟨_,c,q1,q2⟩
   ·rcases kx with z|z
    ·rw[z]at q;cases q
    ·rw[z]at q;cases q
   ·exact⟨c,q1,q2⟩
  obtain⟨c',ec'⟩:=kc.has x (.inl h3');have:c'=c:=by
   rcases kc.one x c' ec' with⟨_,q,_⟩|this
   ·have q1:=S.look _ q
    rw[S.look _ h3']at q1;cases q1
   ·rw[ec]at this;exact(Ri this).symm
  subst this;obtain⟨o,ho,hd⟩:=ic;refine⟨?_,c',ec',o,hk _ _ ho,hd⟩;rcases e3 with e3|e3|e3
  ·obtain⟨k',q1,q2⟩:=me S.look e3
   rw[S.look _ h3']at q1;cases q1;rcases q2 with q2|⟨_,q2⟩<;>cases q2
  ·exact .inl e3
  ·exact .inr e3
 ·rcases kc.one x c e with⟨_,_,q⟩|q
  ·exact⟨_,q⟩
  ·obtain⟨v,o,ho,hd⟩:=I.cell x c q
   exact⟨v,o,hk _ _ ho,hd⟩
 ·rcases kc.one x c e with⟨q,_⟩|q
  ·exact I.hok.fresh (Re hC (Uw q))
  ·exact I.eG x c q
theorem Bi(I:Inv X pins σ H s)(hf:∀b∈fp,de X pins H b)(J:Inv (dJ X N' scope cl C s H fp) [] σ' H' s'):
  Inv X pins σ H' s':=
 I.call' J.os J.base J.hok J.bare λb hb=>⟨(hf b hb).2.2.2.1,(hf b hb).2.1,(hf b hb).2.2.2.2.1,(hf b hb).2.2.2.2.2⟩
theorem Inv.adopt(I:Inv X pins σ H s)(f:de X pins H D)(a:cL X.prog X.w (upd H D ho) s.heap D ho):Inv X pins σ (upd H D ho) s:=by
 obtain⟨f0,f1,f2,f3,f4,f5⟩:=f;have hne:∀b u,H b=Zz u->b≠D:=λb u e z=>by subst z;rw[f0]at e;cases e
 refine I.call' (ch:=[D]) rfl ⟨λb o e _ _ _=>e,λb o e _ _ _=>⟨o.slots,e⟩,λb o e n hx=>by rw[aI (by simpa using hx)];exact n,λb o e _=>⟨o,e⟩,λb xs e=>by rw[aI (hne b _ e)];exact e,λb o u e=>by rw[aI (hne b _ e)];exact e,
  λb ps e=>⟨#[],by rw[aI (hne b _ e),e];simp⟩⟩ (λb u e=>?_) I.bare λb hb=>?_
 ·by_cases hb:b=D
  ·subst hb
   rw[bx]at e;cases e;exact a
  ·rw[aI hb]at e
   exact(I.hok b u e).stay (λ_ _ _ q=>q) (λc q=>by rw[aI (hne c _ q)];exact q) λc xs q=>by rw[aI (hne c _ q)];exact q
 ·have e:b=D:=by simpa using hb
  subst e;exact⟨f3,f1,f4,f5⟩
def AT(X:Cx)(xr:XR)(call:Nat->List W->Mem->Res W)(gv:List T)(N':List Str)(scope:VF)(elt target:Rq)(ifs:List Rq)(gens:List W2)(tg:Tg)(cs:Es)(inner:E):Prop:=
 ∀(cl:List (Str×Q8)) (C:Q8) (s2:Q7) (H2:Hp) (fp:List Q8),PG (dJ X N' scope cl C s2 H2 fp) target (gT X.K tg)/\Na (dJ X N' scope cl C s2 H2 fp) call gv xr cs ifs/\NN xr (dJ X N' scope cl C s2 H2 fp) call gv elt gens 0 inner
noncomputable def Kd(own:Nat)(keep:List Nat)(env:Env):Env:=R4 own Zy++keep.map λi=>(env[i]?).join
noncomputable def stC(own:Nat)(keep:List Nat)(σ:L2.St):L2.St:=R4 own Zy++keep.map λi=>(σ[i]?).join
theorem MD{K:Rf}(h:bq K cm m H env σ):bq K cm m H (Kd own keep env) (stC own keep σ):=λi w e=>by
 unfold Kd at e;unfold stC;by_cases hi:i<own
 ·rw[RR (by simpa using hi),SA]at e
  split at e<;>cases e
 ·rw[RZ (by simpa using hi),S7,Rh]at e
  rw[RZ (by simpa using hi),S7,Rh];cases q:keep[i-own]? with
  |none=>rw[q]at e;cases e
  |some j =>
   rw[q]at e;have a:(env[j]?).join=Zz w:=Ri e;cases r:env[j]? with
   |none=>rw[r]at a;cases a
   |some o =>
    rw[r]at a;have d:=a;subst d;obtain⟨v,c,b⟩:=h j w r;exact⟨v,by simp[c],b⟩
theorem yg{α:Type}{r:Res α}{x:α}(h:r.only=.ok x m):r=.ok x m:=by
 cases r with
 |ok _ _=>exact h
 |exc _ _=>cases h
 |stuck=>cases h
theorem sL{α β:Type}{r:Res α}{f:α->Mem->Res β}(b:∀x m e m',f x m≠.exc e m')(e:Exc)(m':Mem):r.only.bind f≠.exc e m':=by
 cases r with
 |ok x m=>exact b x m e m'
 |exc _ _=>intro h;cases h
 |stuck=>intro h;cases h
theorem r8(e:Exc)(m':Mem):ev call gv (.comp own keep it tg cs inner) env m≠.exc e m':=by
 unfold ev;refine sL (λx c e m'=>?_) e m';cases h:bp x c with
 |ok ts m1 =>
  refine sL (λb m2 e m'=>?_) e m';split<;>(intro h;cases h)
 |exc _ _ =>
  unfold bp at h;split at h<;>first
   |(cases h;done)
   |(split at h<;>cases h)
 |stuck=>intro h;cases h
theorem uS(h:ev call gv (.comp own keep it tg cs inner) env m=.ok w m'):∃a,w=.t (.lst a):=by
 unfold ev at h;obtain⟨_,_,_,h⟩:=aY h;obtain⟨_,_,_,h⟩:=aY h;obtain⟨a,_,_,h⟩:=aY h;split at h<;>cases h;exact⟨_,rfl⟩
theorem rC(hg:(XQ node)[d]?=Zz ⟨target,iter,ifs,0⟩)(hd:(RC prog w).den (.compStart node d it acc env)=(Wz node d it acc env).onRaise (λx=>do WB x env;Ux theWindowsPlace))(hA:A.under (.compStart node d it acc env)=A)(h0:Tc (RC prog w) A (.compLoop node d it acc env) R s)(h:RB (RC prog w) A (pyIter it) (λit' s'=>Tc (RC prog w) A (.compLoop node d it' acc env) R s') (notedBy (RC prog w) A env λx s'=>R (.error x) s') s):
  Tc (RC prog w) A (.compStart node d it acc env) R s:=by
 refine Uh ?_;rw[hd,hA];refine wpAny_notedAt ?_;unfold Wz;rw[hg];refine Q0 (Tt (wpAny_ite ?_));split
 ·first
   |exact Q0 (Q5 (Q5 (RX rfl h0)))
   |exact Q5 (RX rfl h0)
 ·first
   |exact Q0 (Uk (Q0 (Sk (Q0 (SQ h (λit' s' h'=>Q5 (RX rfl h')) λ_ _ x=>x)))))
   |(refine Q0 (Uk ?_);show RB _ _ (Ux iter.pos >>= _) _ _ s;exact Q0 (Sk (Q0 (SQ h (λit' s' h'=>Q5 (RX rfl h')) λ_ _ x=>x))))
theorem Bs{Acc:Q8->Rm->List V->Prop}(hc:X.calm=true)(S:we X N' scope)(hown:N'.length=own+keep.length)(hkeep:∀(i:Nat) x,N'[own+i]?=Zz x->∃j,keep[i]?=Zz j/\X.N[j]?=Zz x/\(x,Ru)∈scope.names)(hlocal:∀x∈scope.names,x.2=NameKind.local->scope.names.lookup x.1=Zz .local)(pi:PI X target iter (tI X.K call gv xr it))(hfs:∀x,Sm iter X.env x=pure x)(hcl:XQ node=⟨target,iter,ifs,0⟩::gs)(hal:oN.isFreed=false)(hd:∀it acc env,(RC X.prog X.w).den (.compStart node 0 it acc env)=(Wz node 0 it acc env).onRaise (λx=>do WB x env;Ux theWindowsPlace))(hA:∀it acc env,X.A.under (.compStart node 0 it acc env)=X.A)(hnw:∀{A:SH}{E:Q2->Q7->Prop}{s:Q7}{Q:Q2->Q7->Prop},Q (.ref s.heap.objs.size) { s with heap:=s.heap.push oN }->RB (RC X.prog X.w) A nw Q E s)(h0:∀{h:Rm}{D:Q8},h.get? D=Zz oN->Acc D h [])(hdis:∀i∈ll tg,i∉dR inner)(hsl:∀i∈ll tg++dR inner,i<own)(I:Inv X pins σ H s)(hE:bq X.K cm m H env σ)(M:aE X.K cm m H)(loop:∀(cl:List (Str×Q8)) (C:Q8) (s2:Q7) (H2:Hp) (fp:List Q8) {D:Q8}{pins:List (Q8×Obj)}{s:Q7}{σ:L2.St}{H:Hp}{cm:List Q8}{m m':Mem}{env:Env}{ts:List T}{J:It}{it:Q8}{fp':List Q8}{tn:Nat->Rm->Prop},Inv (dJ X N' scope cl C s2 H2 fp) pins σ H s->de (dJ X N' scope cl C s2 H2 fp) pins H D->Acc D s.heap [] ->
   Turn X.prog X.w X.K target J fp' it tn->tn 0 s.heap->(∀b∈fp',de (dJ X N' scope cl C s2 H2 fp) pins H b)->D∉fp'->bq X.K cm m H env σ->(∀i∈ll tg++dR inner,∀w,env[i]?≠Zz (Zz w))->aE X.K cm m H->Src X.K cm m H J ts->cb (turnF call gv cs inner) tg ts env m=.ok out m'->out.length<=lim ->
   Tc (RC X.prog X.w) X.A (.compLoop node 0 (.ref it) (.ref D) (compEnvC scope cl C X.env)) (λr s'=>r=.ok .next/\zb (dJ X N' scope cl C s2 H2 fp) (Acc D) D (ll tg++dR inner) pins σ cm m H [] out m' s') s)(ok:ev call gv (.comp own keep it tg cs inner) env m=.ok (.t (.lst out)) m')(fin:∀(D C:Q8) (s3:Q7) (H3:Hp) (cm3:List Q8) (vs:List V),Inv X pins σ H3 s3->Acc D s3.heap vs->de X pins H3 D->X.s₀.heap.objs.size<=D->X.K.lookup D=Zy->dQ cm m H cm3 m' H3->aE X.K cm3 m' H3->c6 X.K cm3 m' H3 out vs->(∃mm,s3.heap.Ns C mm)->de X pins H3 C->D≠C ->
   Xc (RC X.prog X.w) X.A X.xe use Q (.ref D) C (.ok .next) s3):
  RB (RC X.prog X.w) X.A (comprehension node scope X.env pos' nw false (eval iter X.env) use) Q X.xe s:=by
 obtain⟨cl0,hclos,hcl1,hcl2⟩:=Bl λx hx=>I.ok.has x (S.free x hx)
 unfold ev at ok;obtain⟨w1,m1,ok0,ok2⟩:=aY ok;have ok1:=yg ok0;obtain⟨ts,m2,ok3,ok4⟩:=aY ok2;obtain⟨out',m3,ok5,ok6⟩:=aY ok4;split at ok6<;>cases ok6;rename_i hlen;have ok5':=yg ok5;have hz:=bj;refine wpAny_comprehension_free hcl hfs hclos S.kind hlocal (bY (pi pins s σ H (λJ H1=>∃cm1,dQ cm m H cm1 m1 H1/\aE X.K cm1 m1 H1/\Src X.K cm1 m2 H1 J ts) I ⟨env,cm,m,hE,M,by
   rw[ok1];exact λcm1 H1 x M1=>⟨ts,m2,ok3,λJ hs=>⟨cm1,x,M1,hs⟩⟩⟩) λxv s1 h1=>bY h1 λitv s2 h2=>?_)
 obtain⟨it2,fp,tn,J,H2,rfl,I2,T2,st2,f2,cm2,x2,M2,hs2⟩:=h2;refine hnw (zT hcl1 hcl2 (λx c e=>?_) I2.ok.inj λh₁ cl hns₁ hsb₁ kc=>?_)
 ·obtain⟨v,q⟩:=I2.cell x c e
  exact RQ q.lt (by show _<=(Heap.push _ _).objs.size;rw[SL];exact TK _)
 dsimp only at hns₁ hsb₁ kc ⊢;generalize hH2:s2.heap.push oN=P2 at hns₁ hsb₁ kc ⊢;have hCs:P2.objs.size=s2.heap.objs.size+1:=by rw[<-hH2,SL]
 have hDC:s2.heap.objs.size≠P2.objs.size:=by omega
 have below:∀b,b<s2.heap.objs.size->b≠P2.objs.size:=λb hb=>by omega
 have old:=λb o e=>hsb₁ b o (hH2▸Q6 _ e)
 have hacc:=hsb₁ _ _ (hH2▸RL _ hal);have flt:∀b∈fp,b<s2.heap.objs.size:=λb hb=>by
  obtain⟨o,e,_⟩:=T2.obj _ _ st2 b hb;exact RH e
 have hb3:=oz M2 ok3;have E2:=(hE.ext x2 M M2).ext hb3.1 M2 hb3.2;have hσl:(stC own keep σ).length=N'.length:=by unfold stC;simp[hown]
 have J0:Inv (dJ X N' scope cl P2.objs.size s2 H2 fp) [] (stC own keep σ) H2 { s2 with heap:=h₁ }:=
  AW I2 S f2 flt (by omega) hns₁ old kc hσl λi x v e1 e2=>by
   unfold stC at e2;by_cases hi:i<own
   ·rw[RR (by simpa using hi),SA]at e2
    split at e2<;>cases e2
   ·rw[RZ (by simpa using hi),S7,Rh]at e2
    have ei:N'[own+(i-own)]?=Zz x:=by rw[show own+(i-own)=i by omega];exact e1
    obtain⟨j,q1,q2,q3⟩:=hkeep (i-own) x ei;rw[q1]at e2;have e3:(σ[j]?).join=Zz v:=Ri e2;refine⟨j,q2,?_,q3⟩;cases r:σ[j]? with
    |none=>rw[r]at e3;cases e3
    |some o=>rw[r]at e3;exact congrArg Zz e3
 have fD:de (dJ X N' scope cl P2.objs.size s2 H2 fp) [] H2 s2.heap.objs.size:=by
  refine⟨I2.hok.fresh (R1 _),hDC,λz=>?_,.inr (R1 _),λx c e z=>?_,λp hp=>Xk (hp) (by simp)⟩
  ·have:=I2.sF _ z
   rcases R6.mp this with q|q
   ·exact Xk I2.lt (by rw[<-q];exact SD _)
   ·exact I2.Mn (R1 _) q
  ·rcases kc.one x c e with⟨q,_⟩|q
   ·exact Xk q (by rw[z,hCs];exact XD.mpr (TK _))
   ·obtain⟨v,q⟩:=I2.cell x c q
    exact Xk q.lt (by rw[z];exact SD _)
 have fF:∀b∈fp,de (dJ X N' scope cl P2.objs.size s2 H2 fp) [] H2 b:=λb hb=>by
  refine⟨(f2 b hb).1,below b (flt b hb),λz=>?_,.inl hb,kc.ne (RQ (flt b hb) (by rw[hCs];exact TK _)) (f2 b hb).2.2.2.2.1,λp hp=>Xk (hp) (by simp)⟩;rcases R6.mp (I2.sF b z)with q|q
  ·exact(f2 b hb).2.1 q
  ·exact(f2 b hb).2.2.1 q
 have st2':=T2.keep _ _ _ st2 λb _ o e=>old b o e
 have hDf:s2.heap.objs.size∉fp:=λz=>Xk (flt _ z) (SD _)
 have hnone:∀i∈ll tg++dR inner,∀w,(Kd own keep env)[i]?≠Zz (Zz w):=λi hi w e=>by
  unfold Kd at e;rw[RR (by simpa using hsl i hi),SA]at e;split at e<;>cases e
 have go:=loop cl P2.objs.size s2 H2 fp J0 fD (h0 hacc) T2 st2' fF hDf (MD E2) hnone hb3.2 hs2 ok5' hlen;have fine:∀r s3,(r=.ok .next/\zb (dJ X N' scope cl P2.objs.size s2 H2 fp) (Acc s2.heap.objs.size) s2.heap.objs.size (ll tg++dR inner) [] (stC own keep σ) cm2 m2 H2 [] out m3 s3)->Xc (RC X.prog X.w) X.A X.xe use Q (.ref s2.heap.objs.size) P2.objs.size r s3:=λr s3 ⟨hr,σ3,H3,cm3,vs3,J3,x3,M3,r3,a3,ag3,d3⟩=>by
  subst hr;rw[T9]at a3;obtain⟨x4,M4,sm⟩:=kz M2 ok3 x3 M3;have I3:=Bi I2 f2 J3;have fX:∀b,s2.heap.objs.size<=b->∀H',H' b=Zy->de X pins H' b:=λb hb H' hn=>I2.HK hb hn
  obtain⟨mm,hmm,_⟩:=J3.loc;refine fin s2.heap.objs.size P2.objs.size s3 H3 cm3 vs3 I3 a3 (fX _ (R1 _) _ d3) I2.sz ?_ (x2.trans x4) M4 (aO (λ_ _ z=>sm _ _ z) r3) ⟨mm,hmm⟩ (fX _ (by omega) _ J3.free) hDC;cases q:X.K.lookup s2.heap.objs.size with
  |none=>rfl
  |some o=>exact Xk (RH (I2.li _ _ q)) (SD _)
 exact Td (rC (by rw[hcl];rfl) (hd _ _ _) (hA _ _ _) go (T2.self X.A 0 { s2 with heap:=h₁ } _ _ st2' go)) fine
theorem uw
  (hc:X.calm=true) (S:we X N' scope) (hown:N'.length=own+keep.length) (hkeep:∀(i:Nat) x,N'[own+i]?=Zz x->∃j,keep[i]?=Zz j/\X.N[j]?=Zz x/\(x,Ru)∈scope.names)
  (hlocal:∀x∈scope.names,x.2=NameKind.local->scope.names.lookup x.1=Zz .local)
  (pi:PI X target iter (tI X.K call gv xr it)) (hfs:∀x,Sm iter X.env x=pure x) (hY:AT X xr call gv N' scope elt target ifs (⟨target,iter,ifs,0⟩::gs) tg cs inner)
  (hdis:∀i∈ll tg,i∉dR inner) (hsl:∀i∈ll tg++dR inner,i<own)
  (I:Inv X b σ H s) (hE:bq X.K cm m H env σ) (M:aE X.K cm m H)
  (ok:ev call gv (.comp own keep it tg cs inner) env m=.ok (.t (.lst out)) m')
  (fin:∀(D C:Q8) (s3:Q7) (H3:Hp) (c:List Q8) (vs:List V),Inv X b σ (upd H3 D (.lst vs)) s3->H3 D=Zy->X.K.lookup D=Zy->dQ cm m H c m' H3->aE X.K c m' H3->c6 X.K c m' H3 out vs->(∃mm,s3.heap.Ns C mm)->de X b (upd H3 D (.lst vs)) C ->
   Xc (RC X.prog X.w) X.A X.xe use Q (.ref D) C (.ok .next) s3):
  RB (RC X.prog X.w) X.A (comprehension (.ListComp elt (⟨target,iter,ifs,0⟩::gs) scope pos) scope X.env pos' (newList []) false (eval iter X.env) use) Q X.xe s:=
 Bs hc S hown hkeep hlocal pi hfs rfl rfl (λ_ _ _=>rfl) (λ_ _ _=>rfl) (λh=>SS h) (λh=>⟨Ur _,[],0,.nil,h⟩) hdis hsl I hE M
  (λcl C s2 H2 fp D b s σ H cm m m' env ts J it fp' tn J0 fD h0 hT ht hf hDf hE hn M hs ok hl=>let⟨pg,pt,hin⟩:=hY cl C s2 H2 fp
   JA (Y:=dJ X N' scope cl C s2 H2 fp) hc (λ_ _ z=>z) hin rfl pg pt hdis (λi hi=>by
    rw[hown];have:=hsl i hi;omega) J0 fD h0 hT ht hf hDf hE hn M hs ok (by rw[S2,WJ];exact hl)) ok
  λD C s3 H3 c vs I3 a3 f3 _ k3 x3 M3 r3 n3 c3 ne=>fin D C s3 H3 c vs (Inv.adopt I3 f3 a3) f3.1 k3 x3 M3 r3 n3 ⟨by rw[aI (SR ne)];exact c3.1,c3.2⟩
structure CI (X:Cx) (xr:XR) (call:Nat->List W->Mem->Res W) (gv:List T) (N':List Str) (scope:VF) (own:Nat) (keep:List Nat) (elt target iter:Rq) (ifs:List Rq) (gs:List W2) (it:E) (tg:Tg) (cs:Es) (inner:E):Prop where
 sc:we X N' scope
 hown:N'.length=own+keep.length
 hkeep:∀(i:Nat) x,N'[own+i]?=Zz x->∃j,keep[i]?=Zz j/\X.N[j]?=Zz x/\(x,Ru)∈scope.names
 pi:PI X target iter (tI X.K call gv xr it)
 fs:∀x,Sm iter X.env x=pure x
 ins:AT X xr call gv N' scope elt target ifs (⟨target,iter,ifs,0⟩::gs) tg cs inner
 dis:∀i∈ll tg,i∉dR inner
 OQ:∀i∈ll tg++dR inner,i<own
variable{elt target iter:Rq}{ifs:List Rq}{gs:List W2}{scope:VF}{pos:Pos}{N':List Str}{own:Nat}{keep:List Nat}{it:E}{tg:Tg}{cs:Es}{inner:E}
theorem cM(hc:X.calm=true)(k:CI X M6 call gv N' scope own keep elt target iter ifs gs it tg cs inner):
  PE X (.ListComp elt (⟨target,iter,ifs,0⟩::gs) scope pos) (tE X.K call gv xr (.comp own keep it tg cs inner)):=by
 rintro pins s σ H Q I ⟨env,cm,m,hE,M,c⟩;cases h:ev call gv (.comp own keep it tg cs inner) env m with
 |stuck=>rw[h]at c;exact c.elim
 |exc e m'=>exact Xk h (r8 e m')
 |ok w m' =>
  obtain⟨out,rfl⟩:=uS h;rw[h]at c;rw[eval_ListComp];refine uw hc k.sc k.hown k.hkeep (λx hx e=>by rw[k.sc.look x hx,e]) k.pi k.fs k.ins k.dis k.OQ I hE M h ?_;rintro D C s3 H3 cm3 vs I3 hD _ x3 M3 r3 ⟨mm,hm⟩ a;refine⟨mm,hm,λh' hs'=>?_⟩;have I4:=I3.turned (t':=s3.toks) (λb o hb e=>(hs'.2 b hb).trans e) a.1 a.2.1 a.2.2.2.1 a.2.2.2.2.1 a.2.2.2.2.2;exact⟨.ref D,_,I4,rfl,aX.to c (x3.trans (.new hD)) (M3.new hD) _ (RT.zK M3 r3 hD)⟩
theorem EY(L:X.calm=true)(k:CI X M6 call gv N' scope own keep elt target iter ifs gs it tg cs inner)(P:X.N.Nodup)(hi:X.N[i]?=Zz x)(j:X.env.scope.names.lookup x=Zz .local)(l:V4 (.ListComp elt (⟨target,iter,ifs,0⟩::gs) scope pos) (Zz (.Name x px)) spos.line X.env=pure true)(I:Inv X pins σ H s)(R:bq X.K cm m H env σ)(M:aE X.K cm m H)(ok:ev call gv (.comp own keep it tg cs inner) env m=.ok (.t (.lst out)) m')(q:∀(p:Q8) (f:Hp) (c:List Q8) (g:List V),f p=Zy->X.K.lookup p=Zy->dQ cm m H c m' f->aE X.K c m' f->c6 X.K c m' f out g->D.nx (σ.set i (Zz (.ref p))) (upd f p (.lst g))):
  RB (RC X.prog X.w) X.A (exec (.Assign [.Name x px] (.ListComp elt (⟨target,iter,ifs,0⟩::gs) scope pos) spos) X.env) (SP X pins D) X.xe s:=by
 rw[exec_Assign_Name_used _ _ _ _ l];refine Q0 (Sk (Q0 ?_));refine Q0 (bY (uw L k.sc k.hown k.hkeep (λx j e=>by rw[k.sc.look x j,e]) k.pi k.fs k.ins k.dis k.OQ I R M ok ?_) λ_ s' h=>Q5 (Q5 h));rintro p C Z f c g Y S Q B T F ⟨G,J⟩ d;refine wpAny_assign_Name (ve Y P hi (.inl j) (v:=.ref p) rfl (λE W ⟨a,n,y⟩=>?_) (.inr j));have u:C≠a:=by
  rcases y with rfl|y
  ·exact d.2.1
  ·exact λz=>d.2.2.2.2.1 x a y z.symm
 refine⟨G,J.sameBut n u,λh' r=>?_⟩;have U:=W.turned (t':=E.toks) (λb o O e=>(r.2 b O).trans e) d.1 d.2.1 d.2.2.2.1 d.2.2.2.2.1 d.2.2.2.2.2;exact⟨_,_,U,q p f c g S Q B T F⟩
end
section
variable{K:Rf}{cm:List Q8}{m:Mem}{H:Hp}{xr:XR}{X:Cx}{call:Nat->List W->Mem->Res W}{gv:List T}
theorem c6.jq(h:c6 K cm m H ts vs):(!ts.isEmpty)=!vs.isEmpty:=by cases h<;>rfl
theorem Le(M:aE K cm m H)(r:RW K cm m H w v)(e:view w m=Zz t)(f:MV t=true):Lo K v H (vS t):=by
 have hz:=bj;cases t with
 |lst ts =>
  obtain⟨a,j,rfl,g,h2⟩:=be M r e;exact .inl ⟨j,.of g,h2.jq⟩
 |non=>cases(ao r e (λ_ z=>by cases z)).Iu;exact rfl
 |bl b=>cases(ao r e (λ_ z=>by cases z)).Ey;exact rfl
 |int i=>cases(ao r e (λ_ z=>by cases z)).b7;exact rfl
 |str cs =>
  cases(ao r e (λ_ z=>by cases z)).dA;have hl:=Xl f;refine⟨by rw[gm];omega,?_⟩;rw[gm];cases cs with
  |nil=>rfl
  |cons c cs =>
   show true=_
   symm
   simp;omega
 |tup ts =>
  obtain⟨a,j,rfl,g,h2⟩:=(ao r e (λ_ z=>by cases z)).jQ;exact .inr (.inl ⟨j,g,h2.jq⟩)
 |dct ks ts =>
  have h:=ao r e (λ_ z=>by cases z);cases h with
  |@dct a ks ts j g h2 h3 h4 h5 =>
   refine .inr (.inr ⟨_,g,?_⟩);cases ks with
   |nil=>rfl
   |cons k ks =>
    cases j with
    |nil=>simp at h3
    |cons v j=>rfl
 |dG ns =>
  obtain⟨a,rfl,g⟩:=(ao r e (λ_ z=>by cases z)).EB;exact .inl ⟨_,g.sq,by cases ns<;>rfl⟩
theorem DT(h:aX K (cK w m) xr cm m H k):∃t,view w m=Zz t/\MV t=true/\aX K (.ok (vS t) m) xr cm m H k:=by
 unfold cK at h;split at h
 ·split at h
  ·exact⟨_,‹_›,‹_›,h⟩
  ·exact h.elim
 ·exact h.elim
theorem sC(h:aX K (jE w m) xr cm m H k):∃b,w=.t (.bl b)/\aX K (.ok b m) xr cm m H k:=by
 unfold jE at h;split at h
 ·exact⟨_,rfl,h⟩
 ·exact h.elim
theorem Oe(h:PE X e (tE X.K call gv xr a))(he:∀b,isTrue e X.env b=(do let v <-b;Ux e.pos;Vq [v] (truthy v))):PT X e (tT X.K call gv xr a):=by
 refine PT.mono (Hi h he) λσ H Q ⟨env,cm,m,hE,M,ho⟩=>⟨env,cm,m,hE,M,ho.bind.mono λw cm1 m1 H1 x1 M1 o1 v rv=>?_⟩
 obtain⟨t,e1,f1,o2⟩:=DT o1;exact⟨vS t,Le M1 rv e1 f1,aX.now o2 M1⟩
theorem IA{d:List Rq}(r:PE X a (tE X.K call gv xr ea))(q:PE X (.BoolOp .And (b::d) pos) (tE X.K call gv xr eb)):PE X (.BoolOp .And (a::b::d) pos) (tE X.K call gv xr (.and ea eb)):=by
 refine PE.mono (Lq r q) ?_;rintro σ H Q ⟨e,s,m,j,M,i⟩;unfold ev at i;refine⟨e,s,m,j,M,i.bind.mono λw g p t k f o v l=>?_⟩;obtain⟨c,rfl,n⟩:=sC o.bind;cases RT.Ey l;have h:=aX.now n f;refine⟨c,rfl,?_⟩;cases c with
 |true=>exact Ai ⟨e,g,p,j.ext k M f,f,h⟩
 |false=>exact BD (aX.now h f _ (.bl false))
theorem GX{d:List Rq}(r:PE X a (tE X.K call gv xr ea))(q:PE X (.BoolOp .Or (b::d) pos) (tE X.K call gv xr eb)):PE X (.BoolOp .Or (a::b::d) pos) (tE X.K call gv xr (.or ea eb)):=by
 refine PE.mono (Oc r q) ?_;rintro σ H Q ⟨e,s,m,j,M,i⟩;unfold ev at i;refine⟨e,s,m,j,M,i.bind.mono λw g p t k f o v l=>?_⟩;obtain⟨c,rfl,n⟩:=sC o.bind;cases RT.Ey l;have h:=aX.now n f;refine⟨c,rfl,?_⟩;cases c with
 |true=>exact Ai (aX.now h f _ (.bl true))
 |false=>exact BD ⟨e,g,p,j.ext k M f,f,h⟩
theorem Kc(i:PE X a (tE X.K call gv xr ea)):PE X (.UnaryOp .Not a pos) (tE X.K call gv xr (.not ea)):=by
 refine PE.mono (Mf i) ?_;rintro σ H Q ⟨b,l,m,j,M,d⟩;unfold ev at d;refine⟨b,l,m,j,M,d.bind.mono λw k o p n e h v f=>?_⟩;obtain⟨c,rfl,g⟩:=sC h.bind;cases RT.Ey f;exact⟨c,rfl,aX.now (aX.now g e) e _ (.bl _)⟩
theorem ww{Q:Bool->Hp->Prop}(hE:bq K cm m H env σ)(M:aE K cm m H)(ho:aX K (((ev call gv a env m).bind λx m=>(jE x m).bind f).bind cK) xr cm m H λk _ _ H'=>Q k H'):
  tT K call gv xr a σ H λc H1=>∃cm1 m1,dQ cm m H cm1 m1 H1/\aE K cm1 m1 H1/\aX K ((f c m1).bind cK) xr cm1 m1 H1 λk _ _ H'=>Q k H':=by
 refine⟨env,cm,m,hE,M,?_⟩;cases h:ev call gv a env m with
 |stuck=>rw[h]at ho;exact ho.elim
 |exc e m'=>rw[h]at ho;exact ho
 |ok w m1 =>
  rw[h]at ho;have ho':=ho;cases w with
  |x _ _ _=>exact ho'.elim
  |c i=>exact ho'.elim
  |t x =>
   cases x with
   |bl b=>exact λcm1 H1 x1 M1=>⟨cm1,m1,x1,M1,aX.shift ho' x1⟩
   |_=>exact ho'.elim
theorem JH{d:List Rq}(w:PT X a (tT X.K call gv xr ea))(v:PW X (.BoolOp .And (b::d) pos) (tT X.K call gv xr eb)):PW X (.BoolOp .And (a::b::d) pos) (tT X.K call gv xr (.and ea eb)):=by
 rintro e f s σ H Q I ⟨j,A,m,q,M,p⟩;unfold ev at p;obtain⟨g,l,u,i,y,h⟩:=ww q M p;refine L7 w v e f s σ H Q I ⟨g,l,u,i,y,h.mono λc x z B _ _ ⟨k,t,r,n,o⟩=>?_⟩;cases c with
 |true=>exact Ai ⟨j,k,t,q.ext r M n,n,o⟩
 |false=>exact BD (aX.now (o) n)
theorem MK{d:List Rq}(w:PT X a (tT X.K call gv xr ea))(v:PW X (.BoolOp .Or (b::d) pos) (tT X.K call gv xr eb)):PW X (.BoolOp .Or (a::b::d) pos) (tT X.K call gv xr (.or ea eb)):=by
 rintro e f s σ H Q I ⟨j,A,m,q,M,p⟩;unfold ev at p;obtain⟨g,l,u,i,y,h⟩:=ww q M p;refine Oh w v e f s σ H Q I ⟨g,l,u,i,y,h.mono λc x z B _ _ ⟨k,t,r,n,o⟩=>?_⟩;cases c with
 |true=>exact Ai (aX.now (o) n)
 |false=>exact BD ⟨j,k,t,q.ext r M n,n,o⟩
theorem Jo(j:PT X a (tT X.K call gv xr ea)):PT X (.UnaryOp .Not a pos) (tT X.K call gv xr (.not ea)):=by
 refine PT.mono (LD j) ?_;rintro σ H Q ⟨l,u,m,k,M,g⟩;unfold ev at g;obtain⟨b,f,i,e,q,d⟩:=ww k M g;exact⟨b,f,i,e,q,d.mono λc o t v _ _ ⟨n,s,r,p,h⟩=>aX.now (h) p⟩
end
end Mi
namespace Mi
open PySem PySem.Spec PyProof.Rows L2
open Builtin
theorem oB:fillsNumberSlot (.type "tuple") "mul" = pure false:=
 PySem.fillsNumberSlot_seq F.slot_tuple_mul.lookup (by decide +kernel) F.slot_tuple_rmul.lookup (by decide +kernel)
theorem wa:seqRepeat? (.type "tuple")=pure (Zz (.builtin "tuple.__mul__")):=by
 unfold seqRepeat?;rw[PySem.seqSlot_of (name:="__mul__") F.slot_tuple_mul.lookup (by decide +kernel),PySem.seqSlot_of (name:="__rmul__") F.slot_tuple_rmul.lookup (by decide +kernel)];rfl
theorem zW(a:Int)(t:Tok)(l:Q8)(items:Array Q2)(n:Nat)(dd:Option Q8)(sl:Array (Option Q2)):
  Meets (Builtin.«int.__rmul__» ⟨[.int a t,.ref l],[]⟩) (λ_ R s=>s.heap.get? l=Zz { cls:=.type "tuple",dict:=dd,data:=.seq items n,slots:=sl }/\R (.ok (.ret Value.notImplemented)) s):=
 .of_wp λprog w A R s h=>by obtain⟨hp,g,d,tk,os⟩:=s;obtain⟨hl,h⟩:=h;wp_walk;exact⟨_,rfl,h⟩
theorem Nv(l:Q8)(items:Array Q2)(n:Nat)(dd:Option Q8)(sl:Array (Option Q2))(k:Int)(u:Tok)(h1:(decide (k < -(2^63)) || decide (k ≥ 2^63))=false)(hc:(items.isEmpty || k==1)=true):
  Meets (Builtin.«tuple.__mul__» ⟨[.ref l,.int k u],[]⟩) (λ_ R s=>s.heap.get? l=Zz { cls:=.type "tuple",dict:=dd,data:=.seq items n,slots:=sl }/\R (.ok (.ret (SV l))) s):=
 .of_wp λprog w A R s h=>by obtain⟨hp,g,d,tk,os⟩:=s;obtain⟨hl,h⟩:=h;have f1:=WC;have f2:=Uc;wp_walk;refine VN (Xh (SU.mp h1)) ?_;wp_walk using VO hl;exact⟨_,rfl,h⟩
theorem Ol(l:Q8)(items:Array Q2)(n:Nat)(dd:Option Q8)(sl:Array (Option Q2))(k:Int)(u:Tok)(h1:(decide (k < -(2^63)) || decide (k ≥ 2^63))=false)(hc:¬(items.isEmpty || k==1)=true)(hc1:(decide (k<=0) || items.isEmpty)=true):
  Meets (Builtin.«tuple.__mul__» ⟨[.ref l,.int k u],[]⟩) (λ_ R s=>s.heap.get? l=Zz { cls:=.type "tuple",dict:=dd,data:=.seq items n,slots:=sl }/\R (.ok (.ret (SV s.heap.objs.size))) { s with heap:=s.heap.push { cls:=Va "tuple",data:=Data.seq #[] },toks:=s.toks }):=
 .of_wp λprog w A R s h=>by obtain⟨hp,g,d,tk,os⟩:=s;obtain⟨hl,h⟩:=h;have f1:=WC;have f2:=Uc;wp_walk;refine VN (Xh (SU.mp h1)) ?_;wp_walk using VO hl;exact⟨_,rfl,h⟩
theorem Nl(l:Q8)(items:Array Q2)(n:Nat)(dd:Option Q8)(sl:Array (Option Q2))(k:Int)(u:Tok)(h1:(decide (k < -(2^63)) || decide (k ≥ 2^63))=false)(hc:¬(items.isEmpty || k==1)=true)(hc1:¬(decide (k<=0) || items.isEmpty)=true)(hc2:¬(items.size:Int)*k>(2^63-1) / 8)(hc3:¬Tuple.tupleTooMany ((items.size:Int)*k)=true)(hz:(Vi (λx1 x2=>x1++x2) #[] (R4 k.toNat items)).size<=RP):
  Meets (Builtin.«tuple.__mul__» ⟨[.ref l,.int k u],[]⟩) (λ_ R s=>s.heap.get? l=Zz { cls:=.type "tuple",dict:=dd,data:=.seq items n,slots:=sl }/\R (.ok (.ret (SV s.heap.objs.size))) { s with heap:=s.heap.push { cls:=Va "tuple",data:=Data.seq (Vi (λx1 x2=>x1++x2) #[] (R4 k.toNat items)) },toks:=s.toks }):=
 .of_wp λprog w A R s h=>by obtain⟨hp,g,d,tk,os⟩:=s;obtain⟨hl,h⟩:=h;have f1:=WC;have f2:=Uc;wp_walk;refine VN (Xh (SU.mp h1)) ?_;wp_walk using VO hl;refine VN (Xh hc2) ?_;wp_walk using VO hl;exact⟨_,rfl,h⟩
section
variable{X:Cx}
theorem zS(h:n<=RP):¬Tuple.tupleTooMany (n:Int)=true:=by
 unfold Tuple.tupleTooMany;intro hc;have:=Xl hc;have e:=SW;omega
theorem IL:dU X (SK .Mult) (λx y H Q=>∃l k xs,x=.ref l/\y=.int k/\lA X.K H l xs/\(-(2^63)<=k/\k<2^63)/\xs.length*k.toNat<=RP/\((xs=[]∨k=1)->Q (.ref l) H) /\
  (¬(xs=[]∨k=1)->∀p,H p=Zy->Q (.ref p) (upd H p (.tup (R4 k.toNat xs).flatten)))):=by
 intro pins s σ H x y v u Q I rx ry h;obtain⟨l,k,xs,rfl,rfl,hH,⟨h1,h2⟩,hz,q1,q2⟩:=h;cases rx;obtain⟨t,rfl⟩:=ry;obtain⟨its,r,⟨⟨cls,dd,data,sl⟩,ho,hc,n,hd⟩,hz2⟩:=I.tuple hH;simp only at hc hd;subst hc hd;have hl:=r.length;have g1:(decide (k < -(2^63)) || decide (k ≥ 2^63))=false:=by
  rw[Xh (by omega),Xh (by omega)];rfl
 have road:∀{Q':Q2->Q7->Prop},RB (RC X.prog X.w) X.A (call (.builtin "tuple.__mul__") [.ref l,.int k t]) Q' X.xe s->RB (RC X.prog X.w) X.A (SK .Mult (.ref l) (.int k t)) Q' X.xe s:=λhq =>
  wpAny_binaryOp_repeat_ref (by decide) ⟨_,ho,rfl⟩ (λs'=>WH s' k t) oB F.fills_int_mul VL wa F.slot_int_index.lookup
   (Sx VL (WH s k t) F.entry_int_rmul (F.args_int_rmul_2 _ _) (zW k t l its.toArray n dd sl) ⟨ho,rfl,⟨_,ho,rfl⟩,hq⟩)
 refine road ?_;by_cases hc:xs=[]∨k=1
 ·have g2:(its.toArray.isEmpty || k==1)=true:=by
   rcases hc with rfl|rfl
   ·cases r;rfl
   ·simp
  exact Sx WD ⟨_,ho,rfl⟩ Vv (Vm _ _) (Nv l its.toArray n dd sl k t g1 g2) ⟨ho,.ref l,H,I,rfl,q1 hc⟩
 ·have hne:=λe=>hc (.inl (r.jq.mp e))
  have g2:¬(its.toArray.isEmpty || k==1)=true:=by
   intro hh;rw[Sf]at hh;rcases hh with hh|hh
   ·exact hne (by simpa using hh)
   ·exact hc (.inr (eq_of_beq hh))
  have fin:∀arr:Array Q2,arr=(R4 k.toNat its).flatten.toArray->EP X pins σ Q (.ref s.heap.objs.size) { s with heap:=s.heap.push { cls:=.type "tuple",data:=.seq arr } }:=λarr e=>by
   subst e;refine⟨.ref s.heap.objs.size,_,I.laid (t':=s.toks) (λb ob q=>Q6 _ q) (R1 _) ?_,rfl,q2 hc _ (I.hok.fresh (R1 _))⟩;exact⟨by rw[len_rep,VY];exact hz,_,r.rep k.toNat,sf.new _ _⟩
  by_cases h0:k<=0
  ·have g3:(decide (k<=0) || its.toArray.isEmpty)=true:=by rw[Xi h0];rfl
   refine Sx WD ⟨_,ho,rfl⟩ Vv (Vm _ _) (Ol l its.toArray n dd sl k t g1 g2 g3) ⟨ho,fin #[] ?_⟩;have:k.toNat=0:=by omega
   rw[this];rfl
  ·have g3:¬(decide (k<=0) || its.toArray.isEmpty)=true:=by
    intro hh;rw[Sf]at hh;rcases hh with hh|hh
    ·exact h0 (Xl hh)
    ·exact hne (by simpa using hh)
   have hk:(k.toNat:Int)=k:=by omega
   have hs:(its.toArray.size:Int)*k=((xs.length*k.toNat:Nat):Int):=by
    rw[Q9,<-hl,Int.natCast_mul,hk]
   have hsl:=SW;have hf:Vi (λx1 x2=>x1++x2) #[] (R4 k.toNat its.toArray)=(R4 k.toNat its).flatten.toArray:=by
    have:=foldl_rep its k.toNat [];rw[T9]at this;exact this
   refine Sx WD ⟨_,ho,rfl⟩ Vv (Vm _ _) (Nl l its.toArray n dd sl k t g1 g2 g3 (by rw[hs];omega) (by rw[hs];exact zS hz) ?_) ⟨ho,fin _ hf⟩;rw[hf,Q9,len_rep,<-hl,VY];exact hz
end
end Mi
namespace Mi
open PySem PySem.Spec PyProof.Rows L2
section
variable{K:Rf}{cm:List Q8}{m:Mem}{H:Hp}{xr:XR}{X:Cx}{call:Nat->List W->Mem->Res W}{gv:List T}
theorem Jv(hN:X.N[i]?=Zz x)(hv:Nc X.env.scope x)(hd:(x==("__debug__" : Str))=false)(hcd:(x==("__classdict__" : Str))=false):PE X (.Name x pos) (tE X.K call gv xr (.var i)):=by
 refine PE.mono (A0 hN hv hd hcd) ?_;rintro σ H Q ⟨env,cm,m,hE,M,ho⟩;unfold ev at ho;split at ho
 ·rename_i w e
  obtain⟨v,h1,h2⟩:=hE i w e;exact⟨v,h1,aX.now ho M v h2⟩
 ·exact ho.elim
inductive bP (K:Rf) (mg:Str->Option Q2) (x:Str) (t:T)  : Prop where
 |mk (u v) (_:mg x=Zz u) (_:RelV v u) (_:∀cm m H,RT K cm m H t v)
theorem cI(hg:Gl X x)(hk:gv[k]?=Zz t)(ok:bP X.K X.mg x t)(hd:(x==("__debug__" : Str))=false):PE X (.Name x pos) (tE X.K call gv xr (.gl k)):=by
 obtain⟨u,v,h1,h2,h3⟩:=ok;refine PE.mono (c5 hg h1 h2 hd) ?_;rintro σ H Q ⟨env,cm,m,hE,M,ho⟩;unfold ev at ho;rw[hk]at ho;exact aX.now ho M v (h3 cm m H)
theorem J8{j pos}:PE X (.Constant (.int i) j pos) (tE X.K call gv xr (.con (.int i))):=PE.mono GP λσ H Q ⟨env,cm,m,hE,M,ho⟩=>by
 unfold ev at ho;exact aX.now ho M _ (.int i)
theorem K1{j pos}:PE X (.Constant (.bool b) j pos) (tE X.K call gv xr (.con (.bl b))):=PE.mono NF λσ H Q ⟨env,cm,m,hE,M,ho⟩=>by
 unfold ev at ho;exact aX.now ho M _ (.bl b)
theorem Ie{j pos}:PE X (.Constant .none j pos) (tE X.K call gv xr (.con .non)):=PE.mono Md λσ H Q ⟨env,cm,m,hE,M,ho⟩=>by
 unfold ev at ho;exact aX.now ho M _ .non
theorem n9{x:Str}(h:x.cps.toList=cs):x=⟨cs.toArray⟩:=by
 subst h;cases x;simp
theorem JO{x:Str}{j pos}(h:x.cps.toList=cs):PE X (.Constant (.str x) j pos) (tE X.K call gv xr (.con (.str cs))):=PE.mono MX λσ H Q ⟨env,cm,m,hE,M,ho⟩=>by
 unfold ev at ho;have:=aX.now ho M _ (.str cs);rw[n9 h];exact this
theorem yT(cs:List Nat):∀(n:Nat) (acc:Array Nat),(R4 n cs.toArray).foldl (·++·) acc=acc++(R4 n cs).flatten.toArray
 |0,acc=>by simp
 |n+1,acc=>by
  rw[SN,U7,yT cs n,SN,Sb];apply Array.toList_inj.mp;simp
theorem F3(h:0<=k):Txt.mul ⟨cs.toArray⟩ k=⟨(sH cs k.toNat).toArray⟩:=by
 unfold Txt.mul sH;by_cases h1:k<1
 ·have:k=0:=by omega
  subst this;rw[Xf h1];rfl
 ·rw[Xg h1]
  by_cases h2:(k==1 || (⟨cs.toArray⟩:Str).length==0)=true
  ·rw[Xf h2]
   rcases Sf _ _▸h2 with h3|h3
   ·have:k=1:=eq_of_beq h3
    subst this;simp
   ·have hl:cs.toArray.size=0:=eq_of_beq h3
    have:cs=[]:=by simpa using hl
    subst this;simp
  ·rw[Xg h2,yT]
   simp
theorem mul_fits{cs:List Nat}(h:0<=k/\k<=64)(hl:cs.length<=1000):MulOk ⟨cs.toArray⟩ k:=by
 have e:(⟨cs.toArray⟩:Str).length=cs.length:=by show cs.toArray.size=_;simp
 have hk:k.toNat<=64:=by omega
 have hm:=Nat.mul_le_mul hl hk;refine⟨?_,λh1 _=>?_,λh1 _=>?_⟩
 ·have a:¬k < -(2^63:Int):=by omega
  have b:¬k ≥ (2^63:Int):=by omega
  simp only[a,b,decide_false,Bool.or_self]
 ·rw[e]
  have:(1000:Int)<=(2^63-1) / k:=(Int.le_ediv_iff_mul_le (by omega)).mpr (by omega);omega
 ·rw[e]
  unfold Builtin.Str.tooLong;have:=bj;unfold lim at this;exact Xh (by omega)
theorem By:dU X (SK .Mult) (r2 X.K xr (zh .Mult)):=by
 rintro pins s σ H x y v u Q I rx ry ⟨cm,m,a,b,M,ra,rb,ho⟩;obtain⟨t,e,ho⟩:=cz ho;obtain⟨ta,tb,ea,eb,e⟩:=j4 e;change MR ta tb=Zz t at e;unfold MR at e;split at e
 rotate_left
 ·cases e
 rename_i k;split at e
 ·split at e<;>cases e
  cases(ao ra ea (λ_ z=>by cases z)).b7;cases(ao rb eb (λ_ z=>by cases z)).b7;exact JE pins s σ H _ _ v u Q I rx ry ⟨_,_,rfl,rfl,‹_›,ans ho M (.int _)⟩
 ·split at e<;>cases e
  rename_i ts hc;obtain⟨p,vs,rfl,h1,r1⟩:=(ao ra ea (λ_ z=>by cases z)).jQ;cases(ao rb eb (λ_ z=>by cases z)).b7;have l1:=r1.length;have hz:=bj;have hl:(lim:Int)<2^63:=by unfold lim;decide
  refine IL pins s σ H _ _ v u Q I rx ry ⟨p,_,vs,rfl,rfl,h1,by omega,by rw[<-l1];omega,λhq=>?_,λ_ l hl=>lW ho M (lY r1 _) hl⟩;have e:sH ts k.toNat=ts:=by
   rcases hq with rfl|rfl
   ·cases r1;simp[sH]
   ·simp[sH]
  rw[e]at ho;exact ans ho M (.AF h1 r1)
 ·split at e<;>cases e
  rename_i hc;obtain⟨p,vs,rfl,h1,r1⟩:=be M ra ea;cases(ao rb eb (λ_ z=>by cases z)).b7;have l1:=r1.length;have hz:=bj;have hl:(lim:Int)<2^63:=by unfold lim;decide
  exact Lr pins s σ H _ _ v u Q I rx ry ⟨p,_,vs,rfl,rfl,h1,by omega,by omega,by rw[<-l1];omega,λl hl=>ig ho M (lY r1 _) hl⟩
 ·split at e<;>cases e
  rename_i cs hc;cases(ao ra ea (λ_ z=>by cases z)).dA;cases(ao rb eb (λ_ z=>by cases z)).b7;obtain⟨tx,rfl⟩:=rx;obtain⟨ty,rfl⟩:=ry;refine SB.mul (mul_fits hc.1 hc.2) λt' k'=>⟨.str ⟨(sH cs k.toNat).toArray⟩,H,I.tok _,⟨t',?_⟩,ans ho M (.str _)⟩
  rw[F3 hc.1.1]
 all_goals cases e
theorem NB(h:∀x y,iq op x y=Zy):dU X (SK op) (r2 X.K xr (zh op)):=by
 rintro pins s σ H x y v u Q I rx ry ⟨cm,m,a,b,M,ra,rb,ho⟩;obtain⟨t,e,ho⟩:=cz ho;obtain⟨ta,tb,ea,eb,e⟩:=j4 e;rw[h]at e;cases e
theorem Lb(op:W6):dU X (SK op) (r2 X.K xr (zh op)):=by
 cases op<;>first|exact Az|exact An|exact By|exact yb|exact AY|exact Aj|exact NB λx y=>by cases x<;>cases y<;>rfl
variable{a b c:Rq}{ea eb ec:E}{pos:Pos}
theorem JP(ha:PE X a (tE X.K call gv xr ea))(hb:PE X b (tE X.K call gv xr eb)):PE X (.BinOp a op b pos) (tE X.K call gv xr (.bin op ea eb)):=
 PE.mono (KC (Lb op) ha hb) (yV λenv m=>by rw[ev];rfl)
theorem Jz(ha:PE X a (tE X.K call gv xr ea))(hb:PE X b (tE X.K call gv xr eb))(hm:Tj op b=false)(hu:X.A.units+64<cLine):PE X (.Compare a [op] [b] pos) (tE X.K call gv xr (.cmp op ea eb)):=
 PE.mono (JU (o5 hu op) ha hb hm) (yV λenv m=>by rw[ev];rfl)
theorem BS(h:iO op x y m=.ok w m'):∃k,w=.t (.bl k)/\m'=m:=by
 unfold iO at h;cases q:((view x m).bind λx=>(view y m).bind λy=>bn op x y)with
 |none=>rw[q]at h;cases h
 |some k=>rw[q]at h;cases h;exact⟨k,rfl,rfl⟩
theorem wU{f:Env->Mem->Res W}{a:E}(h:PT X e (FN te))(hk:∀env m w m',ev call gv a env m=.ok w m'->∃k,w=.t (.bl k))(he:∀σ H Q,tE X.K call gv xr a σ H Q->te σ H Q):PT X e (tT X.K call gv xr a):=by
 refine PT.mono h λσ H Q ⟨env,cm,m,hE,M,ho⟩=>he σ H _ ⟨env,cm,m,hE,M,?_⟩
 cases q:ev call gv a env m with
 |stuck=>rw[q]at ho;exact ho.elim
 |exc e m'=>rw[q]at ho;exact ho
 |ok w m' =>
  obtain⟨k,rfl⟩:=hk env m w m' q;rw[q]at ho;intro cm1 H1 x1 M1 v rv;cases RT.Ey rv;exact⟨k,rfl,(ho) cm1 H1 x1 M1⟩
theorem IK{op:X1}(ha:PE X a (tE X.K call gv xr ea))(hb:PE X b (tE X.K call gv xr eb))(hm:Tj op b=false)(hu:X.A.units+64<cLine):PT X (.Compare a [op] [b] pos) (tT X.K call gv xr (.cmp op ea eb)):=by
 refine wU (f:=λ_ _=>.stuck) (IR (o5 hu op) ha hb hm) (λenv m w m' h=>?_) (yV λenv m=>by rw[ev];rfl);rw[ev]at h;obtain⟨x,m1,_,h⟩:=aY h;obtain⟨y,m2,_,h⟩:=aY h;obtain⟨k,hk,_⟩:=BS h;exact⟨k,hk⟩
theorem HI(σ:L2.St)(H:Hp)(Q:VK)(q:tE X.K call gv xr (.vO op op' ea eb ec) σ H Q):
  Au (r2 X.K xr (iO op)) (r2 X.K xr (iO op')) (tE X.K call gv xr ea) (tE X.K call gv xr eb) (tE X.K call gv xr ec) σ H Q:=by
 obtain⟨env,cm,m,hE,hM,ho⟩:=q;rw[ev]at ho;refine⟨env,cm,m,hE,hM,ho.bind.mono λw cm1 m1 H1 x1 M1 o1 v rv=>?_⟩;refine⟨env,cm1,m1,hE.ext x1 hM M1,M1,o1.bind.mono λw2 cm2 m2 H2 x2 M2 o2 v2 rv2=>?_⟩;refine⟨cm2,m2,w,w2,M2,rv.ext x2 M1 M2,rv2,?_⟩;split at o2
 ·rename_i e
  have e1:iO op w w2 m2=.ok (.t (.bl true)) m2:=by unfold iO;rw[e];rfl
  rw[e1];intro cm3 H3 x3 M3 v3 rv3;cases RT.Ey rv3;refine⟨true,rfl,Ai ?_⟩;refine⟨env,cm3,m2,(hE.ext (x1.trans (x2.trans x3)) hM M3),M3,(aX.shift o2 x3).bind.mono λw4 cm4 m4 H4 x4 M4 o4 v4 rv4=>?_⟩;exact⟨cm4,m4,w2,w4,M4,(rv2.ext x3 M2 M3).ext x4 M3 M4,rv4,o4⟩
 ·rename_i e
  have e1:iO op w w2 m2=.ok (.t (.bl false)) m2:=by unfold iO;rw[e];rfl
  rw[e1];intro cm3 H3 x3 M3 v3 rv3;cases RT.Ey rv3;exact⟨false,rfl,BD (aX.to o2 x3 M3 _ (.bl false))⟩
 ·exact o2.elim
theorem Ka(ha:PE X a (tE X.K call gv xr ea))(hb:PE X b (tE X.K call gv xr eb))(hc:PE X c (tE X.K call gv xr ec))(hm:Wy [op,op'] [b,c]=false)(hu:X.A.units+64<cLine):
 PE X (.Compare a [op,op'] [b,c] pos) (tE X.K call gv xr (.vO op op' ea eb ec)):=PE.mono (GM (o5 hu op) (o5 hu op') ha hb hc hm) HI
theorem Kf{op op':X1}(ha:PE X a (tE X.K call gv xr ea))(hb:PE X b (tE X.K call gv xr eb))(hc:PE X c (tE X.K call gv xr ec))(hm:Wy [op,op'] [b,c]=false)(hu:X.A.units+64<cLine):
  PT X (.Compare a [op,op'] [b,c] pos) (tT X.K call gv xr (.vO op op' ea eb ec)):=by
 refine wU (f:=λ_ _=>.stuck) (E3 (o5 hu op) (o5 hu op') ha hb hc hm) (λenv m w m' h=>?_) HI;rw[ev]at h;obtain⟨x,m1,_,h⟩:=aY h;obtain⟨y,m2,_,h⟩:=aY h;split at h
 ·obtain⟨z,m3,_,h⟩:=aY h
  obtain⟨k,hk,_⟩:=BS h;exact⟨k,hk⟩
 ·cases h;exact⟨_,rfl⟩
 ·cases h
theorem K6(ha:PE X a (tE X.K call gv xr ea))(hb:PE X b (tE X.K call gv xr eb))(hs:CW b):PE X (.Subscript a b pos) (tE X.K call gv xr (.ix ea eb)):=
 PE.mono (Ob OG ha hb hs) (yV λenv m=>by rw[ev];rfl)
end
section
variable{K:Rf}{cm:List Q8}{m:Mem}{H:Hp}{xr:XR}{X:Cx}{call:Nat->List W->Mem->Res W}{gv:List T}
variable{a b c e:Rq}{es:List Rq}{ea eb ec:E}{eas:Es}{pos p:Pos}
noncomputable def notStar:Rq->Bool
 |.Starred _ _=>false
 |_=>true
theorem bH{env:T8}(h:notStar e=true):S9 (e::es) env=(false,eval e env)::S9 es env:=by
 cases e<;>first|rfl|cases h
theorem vP:∀{a:List Rq},a.all notStar=true->(backTo pos (S9 a env)).all (λx=>!x.1)=true
 |[],_=>rfl
 |e::a,h=>by
  rw[Ro,Q3]at h;rw[bH h.1];show(!false&&(backTo pos (S9 a env)).all (λx=>!x.1))=true;rw[vP h.2];rfl
theorem ef{env:T8}{a:List Rq}(h:a.all notStar=true):(backTo pos (S9 a env)).any (·.1)=false:=by
 have c:=vP (pos:=pos) (env:=env) h;rw[List.any_eq_false];intro x b;have:=RF.mp c x b;simpa using this
theorem CO:PA X [] (tA X.K call gv xr .nil):=PA.mono BK λσ H Q ⟨b,d,m,c,M,a⟩=>by
 rw[evs]at a;exact aX.now a M [] .nil
theorem xB(s:PE X e (tE X.K call gv xr ea))(r:PA X es (tA X.K call gv xr eas))(q:notStar e=true):PA X (e::es) (tA X.K call gv xr (.cons ea eas)):=by
 refine PA.mono (ny s r (bH q)) ?_;rintro σ H Q ⟨a,u,m,g,M,f⟩;rw[evs]at f;refine⟨a,u,m,g,M,f.bind.mono λw c p A j d o v l=>?_⟩;exact⟨a,c,p,g.ext j M d,d,o.bind.mono λx t y z i h n k b=>aX.now n h (v::k) (.cons (l.ext i d h) b)⟩
theorem uK:jS w m≠.exc x m':=by
 intro h;unfold jS at h;split at h<;>first|cases h|(split at h<;>cases h)
theorem lS:∀{ws:List W}{m m':Mem}{x:Exc},bX ws m≠.exc x m'
 |[],_,_,_=>λh=>by cases h
 |w::ws,m,m',x=>λh=>by
  rw[bX]at h;cases q:jS w m with
  |stuck=>rw[q]at h;cases h
  |exc y c=>exact uK q
  |ok t c =>
   rw[q]at h;have b:((bX ws c).bind λe m=>Res.ok (t::e) m)=.exc x m':=h;cases q2:bX ws c with
   |stuck=>rw[q2]at b;cases b
   |exc y m2=>exact lS q2
   |ok e m2=>rw[q2]at b;cases b
theorem gX:∀{ws:List W}{a:List V}{ts:List T}{m m':Mem},aE K cm m H->zX K cm m H ws a->bX ws m=.ok ts m'->dQ cm m H cm m' H/\aE K cm m' H/\c6 K cm m' H ts a
 |[],_,_,_,_,M,.nil,e=>by cases e;exact⟨.refl,M,.nil⟩
 |w::ws,v::a,ts,m,m',M,.cons r g,e=>by
  rw[bX]at e;obtain⟨t,o,k,e⟩:=aY e;obtain⟨l,n,j,e⟩:=aY e;cases e;obtain⟨d,b,i⟩:=AZ M r k;obtain⟨c,f,h⟩:=gX b (zX.ext d M b g) j;exact⟨d.trans c,f,.cons (RT.ext c b f i) h⟩
theorem iB{α:Type}{ws:List W}{f:List T->Mem->Res α}{k:α->List Q8->Mem->Hp->Prop}(h:aX K ((bX ws m).bind f) xr cm m H k):∃ts m',bX ws m=.ok ts m'/\aX K (f ts m') xr cm m H k:=by
 cases q:bX ws m with
 |stuck=>rw[q]at h;exact h.elim
 |exc x m'=>exact Xk q lS
 |ok ts m'=>rw[q]at h;exact⟨ts,m',rfl,h⟩
theorem ij{α:Type}{c:Prop}[Decidable c]{r:Res α}{k:α->List Q8->Mem->Hp->Prop}(h:aX K (if c then r else .stuck) xr cm m H k):c/\aX K r xr cm m H k:=by
 by_cases hc:c
 ·rw[Xf hc]at h;exact⟨hc,h⟩
 ·rw[Xg hc]at h;exact h.elim
theorem IP{c}(h:PA X es (tA X.K call gv xr eas)):PE X (.Tuple es c pos) (tE X.K call gv xr (.tup eas)):=by
 refine PE.mono (LR h) ?_;rintro σ H Q ⟨b,q,m,l,M,e⟩;rw[ev]at e;refine⟨b,q,m,l,M,e.bind.mono λt o x B c s j u a=>?_⟩;obtain⟨v,w,n,i⟩:=iB j;obtain⟨A,g⟩:=ij i;obtain⟨f,r,d⟩:=gX s a n;have y:=d.length;have z:=bj;exact⟨by omega,λp k=>lW (aX.shift g f) r d k⟩
theorem Kh(h:PA X es (tA X.K call gv xr eas)):PE X (.List es pos) (tE X.K call gv xr (.lst eas)):=by
 refine PE.mono (LQ h) ?_;rintro σ H Q ⟨b,o,m,k,M,d⟩;rw[ev]at d;refine⟨b,o,m,k,M,d.bind.mono λt n x B s r i u a=>?_⟩;obtain⟨v,w,l,g⟩:=iB i;obtain⟨A,f⟩:=ij g;obtain⟨e,q,c⟩:=gX r a l;have y:=c.length;have z:=bj;exact⟨by omega,λp j=>ig (aX.shift f e) q c j⟩
def Oy(K:Rf)(t:TA):TE:=λσ H Q=>t σ H λxs H1=>xs.length<=RP/\∀p,H1 p=Zy->K.lookup p=Zy->Q (.ref p) (upd H1 p (.lst xs))
theorem Inv.Kk(I:Inv X pins σ H s):X.K.lookup s.heap.objs.size=Zy:=by
 cases q:X.K.lookup s.heap.objs.size with
 |none=>rfl
 |some o=>exact Xk (RH (I.li _ _ q)) (SD _)
theorem JD{t:TA}(h:PA X es t):PE X (.List es pos) (Oy X.K t):=by
 intro a s σ H Q I i;refine wpAny_List_spliced (bY (h pos a s σ H _ I i) λg c ⟨f,k,d,r,z,q⟩=>⟨by rw[<-r.length];exact z,?_⟩);have j:=d.hok.fresh (R1 _);refine⟨.ref c.heap.objs.size,upd k c.heap.objs.size (.lst f),d.laid (t':=c.toks) (λb u e=>Q6 _ e) (R1 _) ?_,rfl,q _ j (Mi.Inv.Kk d)⟩;exact⟨z,g,0,r,RL _ rfl⟩
theorem Ke(h:PA X es (tA X.K call gv xr eas)):PE X (.List es pos) (tE X.K call gv xr (.zv eas)):=by
 refine PE.mono (JD h) ?_;rintro σ H Q ⟨b,s,m,o,M,d⟩;rw[ev]at d;refine⟨b,s,m,o,M,d.bind.mono λx r B F w v k y a=>?_⟩;obtain⟨z,A,q,j⟩:=iB k;obtain⟨E,i⟩:=ij j;obtain⟨f,u,c⟩:=gX v a q;have C:=c.length;have D:=bj;refine⟨by omega,λp l n=>?_⟩;obtain⟨e,t,g⟩:=jH u c l n;exact aX.to i (f.trans e) t _ g
theorem ka{α:Type}(xs:List α)(lo hi:Option Int):cut xs lo hi=(xs.drop (HT.cq xs.length 0 lo)).take (HT.cq xs.length xs.length hi-HT.cq xs.length 0 lo):=by
 have e:∀n d o,ug n d o=HT.cq n d o:=λn d o=>by cases o<;>rfl
 unfold cut;rw[e,e]
theorem lJ{α β:Type}{F:α->β->Prop}{xs:List α}{ys:List β}(h:Sl F xs ys)(lo hi:Option Int):Sl F (cut xs lo hi) (cut ys lo hi):=by
 rw[ka,ka,<-h.length];exact gW _ (gI _ h)
theorem xh(xs:List V)(lo hi:Option Int):A6 xs lo hi=cut xs lo hi:=(ka xs lo hi).symm
theorem EU(x y:Nat):sliceRange (x:Int) (y:Int) 1=(S4 (y-x)).map λk=>x+k:=by
 unfold sliceRange;simp only[show((1:Int)>0)=True from by simp,if_true];by_cases h:(x:Int)<y
 ·have a:(((y:Int)-x+1-1) / 1).toNat=y-x:=by first|omega|(simp;done)|(simp;omega)
  rw[Xf h,a];refine List.map_congr_left λk _=>?_
  omega
 ·have a:y-x=0:=by omega
  rw[Xg h,a];rfl
theorem mz(n d:Nat)(v:Int):max 0 (min (if v<0 then v+n else v) (n:Int))=((HT.cq n d (Zz v):Nat):Int):=by
 show max 0 (min (if v<0 then v+n else v) (n:Int))=(((if v<0 then(v+(n:Int)).toNat else min v.toNat n):Nat):Int)
 split<;>omega
theorem BA(lo hi:Option Int)(n:Nat):(Builtin.Str.strSliceIndices lo hi 1 n)=(S4 (HT.cq n n hi-HT.cq n 0 lo)).map λk=>HT.cq n 0 lo+k:=by
 rw[<-EU];unfold Builtin.Str.strSliceIndices;cases lo with
 |none =>
  cases hi with
  |none=>rfl
  |some j =>
   rw[<-mz];rfl
 |some i =>
  cases hi with
  |none =>
   rw[<-mz];rfl
  |some j =>
   rw[<-mz,<-mz];rfl
noncomputable def Qc(w:W)(lo hi:Option Int)(m:Mem):Res W:=cW ((view w m).bind λx=>EL x lo hi) m
inductive Qq (K:Rf) (xr:XR) (x:V) (lo:Option Int) (hi:Option Int) (H:Hp) (Q:VK):Prop where
 |mk (cm m w) (_:aE K cm m H) (_:RW K cm m H w x) (_:aX K (Qc w lo hi m) xr cm m H λw cm' m' H'=>∀v,RW K cm' m' H' w v->Q v H')
theorem D3{prog:Rk}{w:Rz}{E:Q2->Q7->Prop}{s:Q7}{lo hi:Option Int}(hs:s.heap.IsSliceOf sl vl vu .none)(pl:V5 vl lo)(pu:V5 vu hi)(hz:cs.length<=lim)(h:∀t' k,Q (.str ⟨(cut cs lo hi).toArray⟩ t') { s with toks:=k }):RB (RC prog w) A (VC (.str ⟨cs.toArray⟩ t) (.ref sl)) Q E s:=by
 have hl:=bj;obtain⟨l,e1,e2⟩:∃l:Option (Int×Tok),vl=partValue l/\l.map (·.1)=lo:=by
  cases pl with
  |none=>exact⟨Zy,rfl,rfl⟩
  |int i t=>exact⟨Zz (i,t),rfl,rfl⟩
 obtain⟨u,f1,f2⟩:∃l:Option (Int×Tok),vu=partValue l/\l.map (·.1)=hi:=by
  cases pu with
  |none=>exact⟨Zy,rfl,rfl⟩
  |int i t=>exact⟨Zz (i,t),rfl,rfl⟩
 subst e1 f1;refine wpAny_getItem_str_slice (st:=Zy) hs (by rfl) ?_;have pk:WW ⟨cs.toArray⟩ l u Zy=(S4 (HT.cq cs.length cs.length hi-HT.cq cs.length 0 lo)).map λk=>HT.cq cs.length 0 lo+k:=by
  unfold WW;rw[e2,f2,gm];exact BA lo hi cs.length
 have hn:HT.cq cs.length cs.length hi<=cs.length:=HT.HH _ _ (R1 _) hi;have fm:((WW ⟨cs.toArray⟩ l u Zy).filterMap ((⟨cs.toArray⟩:Str).cps[·]?))=cut cs lo hi:=by
  rw[pk,ka];by_cases hle:HT.cq cs.length 0 lo<=HT.cq cs.length cs.length hi
  ·have:=StrLaws.picks cs (HT.cq cs.length cs.length hi-HT.cq cs.length 0 lo) (HT.cq cs.length 0 lo) (by omega)
   rw[<-this];simp
  ·have:HT.cq cs.length cs.length hi-HT.cq cs.length 0 lo=0:=by omega
   rw[this];simp
 unfold sliceMade;split
 ·rename_i hw
  rw[Q3]at hw;have q:(WW ⟨cs.toArray⟩ l u Zy).length=cs.length:=by rw[eq_of_beq hw.2,gm]
  rw[pk,Q4,Tf]at q;have e:cut cs lo hi=cs:=by
   rw[ka];have:HT.cq cs.length 0 lo=0∨cs.length=0:=by omega
   rcases this with c|c
   ·rw[c]at q ⊢
    rw[V0,q];exact WE
   ·rw[List.length_eq_zero_iff]at c
    subst c;simp
  have:=h t s.toks;rw[e]at this;exact this
 ·rw[fm]
  have hc:(cut cs lo hi).length<=cs.length:=by
   rw[ka,Rn,Sh];omega
  exact⟨by show(cut cs lo hi).toArray.size<=_;rw[Q9];omega,h _ _⟩
theorem En{E:Q2->Q7->Prop}{t c:Q8}{a:Array Q2}{i g:Q2}{lo hi:Option Int}{Q:Q2->Q7->Prop}(b:X7 s.heap t a)(k:s.heap.IsSliceOf c i g .none)(m:V5 i lo)(l:V5 g hi)(j:HT.cq a.size 0 lo=0/\HT.cq a.size a.size hi=a.size)(h:Q (.ref t) s):RB (RC prog w) A (VC (.ref t) (.ref c)) Q E s:=by
 obtain⟨n,d,e,o⟩:=id k;have f:s.TypeIs (.ref c) "slice":=⟨n,d,e⟩
 unfold VC
 try with_reducible refine SF ?_
 first|refine Q0 (Q5 ?_)|skip
 refine Q0 (wpAny_sequenceKey b.typeIs (by decide) ?_);refine Q0 (Si b.typeIs Ss
  (Sj Ss b.typeIs entry_tuple_getitem ?_ (args_tuple_getitem _ _)))
 show RB _ _ (Builtin.Tuple.tupleItemsOf (.ref t) >>= _) _ _ s;refine Q0 (tupleItemsOf_ b ?_);refine Q0 (VX f ?_);rw[Xf (by decide)];refine Q0 (HT.iz k m l ?_);show RB _ _ (if(((HT.cq a.size 0 lo:Nat):Int)==0&&(1:Int)==1&&(HT.cq a.size a.size hi-HT.cq a.size 0 lo)==a.size)=true then _ else _) _ _ s;rw[Xf (by rw[j.1,j.2];simp)];refine Q0 ?_;unfold Builtin.Tuple.tupleIsExact;refine Q0 (VX b.typeIs (Q5 ?_));rw[Xf (by decide)];exact Q0 (Uk (Q5 ⟨_,rfl,Q5 h⟩))
theorem Gr{b:List (Q8×Obj)}{s:Q7}{σ:L2.St}{H:Hp}{x:V}{lo hi:Option Int}{Q:VK}{a:Q8}{xs:List V}(I:Inv X b σ H s)(g:RelV x v)(l:s.heap.IsSliceOf sl vl vu .none)(i:V5 vl lo)(h:V5 vu hi)(e:x=.ref a)(j:lA X.K H a xs)(k:HT.cq xs.length 0 lo=0/\HT.cq xs.length xs.length hi=xs.length)(q:Q (.ref a) H):∃T id,WG (.type T) "__getitem__" = pure (Zz (.builtin id))/\s.TypeIs v T/\RB (RC X.prog X.w) X.A (VC v (.ref sl)) (EP X b σ Q) X.xe s:=by
 subst e;cases g;obtain⟨d,r,f,m⟩:=I.tuple j;have c:d.toArray.size=xs.length:=by rw[Q9];exact r.length.symm
 exact⟨"tuple",_,PyProof.Rows.slot_tuple_getitem.lookup,f.typeIs,En f l i h (by rw[c];exact k) ⟨.ref a,H,I,rfl,q⟩⟩
theorem MH:OT X (Qq X.K xr):=by
 rintro f s σ H x v vl vu lo c sl Q I rx hs pl pu ⟨cm,m,w,M,rw',ho⟩;obtain⟨t,e,ho⟩:=cz ho;cases q:view w m with
 |none=>rw[q]at e;cases e
 |some tw =>
  rw[q]at e;have e:EL tw lo c=Zz t:=e;cases tw with
  |tup ts =>
   cases e;obtain⟨a,vs,rfl,h1,r1⟩:=(ao rw' q (λ_ z=>by cases z)).jQ;have l1:=r1.length;have e:∀n d o,ug n d o=HT.cq n d o:=λn d o=>by cases o<;>rfl
   by_cases hc:HT.cq vs.length 0 lo=0/\HT.cq vs.length vs.length c=vs.length
   ·refine Gr I rx hs pl pu rfl h1 hc ?_
    have ec:cut ts lo c=ts:=by
     unfold cut;rw[e,e,l1,hc.1,hc.2,V0,Nat.sub_zero,<-l1,WE]
    rw[ec]at ho;exact ans ho M (.AF h1 r1)
   ·refine Lz f s σ H _ v vl vu lo c sl Q I rx hs pl pu ⟨a,vs,rfl,h1,hc,λp hp=>?_⟩
    rw[xh];exact lW ho M (lJ r1 lo c) hp
  |lst ts =>
   cases e;obtain⟨a,vs,rfl,h1,r1⟩:=be M rw' q;exact BY f s σ H _ v vl vu lo c sl Q I rx hs pl pu ⟨a,vs,rfl,.of h1,λp hp=>by rw[xh];exact ig ho M (lJ r1 lo c) hp⟩
  |dG ns =>
   cases e;obtain⟨a,rfl,h1⟩:=(ao rw' q (λ_ z=>by cases z)).EB;refine BY f s σ H _ v vl vu lo c sl Q I rx hs pl pu ⟨a,_,rfl,h1.sq,λp hp=>?_⟩;rw[xh];refine ig ho M ?_ hp;have:=lJ (lN (K:=X.K) (cm:=cm) (m:=m) (H:=H) ns) lo c;have e:cut (ns.map T.int) lo c=(cut ns lo c).map T.int:=by
    rw[ka,ka,Q4,List.map_take,List.map_drop]
   rw[e]at this;exact this
  |str cs =>
   unfold EL at e;dsimp only at e;split at e<;>cases e;rename_i hc;cases(ao rw' q (λ_ z=>by cases z)).dA;obtain⟨t,rfl⟩:=rx;exact⟨"str",_,slot_str_getitem.lookup,V6 s _ t,D3 hs pl pu hc λt' k=>⟨.str ⟨(cut cs lo c).toArray⟩,H,I.tok _,⟨t',rfl⟩,ans ho M (.str _)⟩⟩
  |_=>cases e
noncomputable def OP(call:Nat->List W->Mem->Res W)(gv:List T)(lo:E)(env:Env)(m:Mem):Res (Option Int):=if aA lo then Res.ok Zy m else(ev call gv lo env m).bind yy
inductive tP (K:Rf) (call:Nat->List W->Mem->Res W) (gv:List T) (xr:XR) (lo:E) (σ:L2.St) (H:Hp) (Q:Option Int->Hp->Prop):Prop where
 |mk (env cm m) (_:bq K cm m H env σ) (_:aE K cm m H) (_:aX K (OP call gv lo env m) xr cm m H λo cm' m' H'=>Q o H')
theorem FD:PO X Zy (tP X.K call gv xr .hole):=λa s σ H Q I ⟨c,e,m,d,M,b⟩=>Jd a s σ H Q I (aX.now b M)
theorem FI{lo:Rq}(h:PE X lo (tE X.K call gv xr ea))(hn:OP call gv ea=λenv m=>(ev call gv ea env m).bind yy):PO X (Zz lo) (tP X.K call gv xr ea):=λpins s σ H Q I ⟨env,cm,m,hE,M,ho⟩=>by
 rw[hn]at ho;refine JV h pins s σ H Q I ⟨env,cm,m,hE,M,(aX.bind ho).mono λw cm1 m1 H1 x1 M1 o1 v rv=>?_⟩;unfold yy at o1;split at o1
 ·cases RT.b7 rv
  exact⟨_,rfl,aX.now o1 M1⟩
 ·exact o1.elim
theorem HY{lo hi:Option Rq}(C:PE X e (tE X.K call gv xr ea))(B:PO X lo (tP X.K call gv xr eb))(A:PO X hi (tP X.K call gv xr ec)):PE X (.Subscript e (.Slice lo hi Zy p2) pos) (tE X.K call gv xr (.EK ea eb ec)):=by
 refine PE.mono (Hj (MH (xr:=xr)) C B A) ?_;rintro σ H Q ⟨a,D,m,d,M,n⟩;have e:ev call gv (.EK ea eb ec) a m=(ev call gv ea a m).bind λx m=>(OP call gv eb a m).bind λl m=>(OP call gv ec a m).bind λh m=>Qc x l h m:=by
  rw[ev];rfl
 rw[e]at n;refine⟨a,D,m,d,M,n.bind.mono λw i z G k b t v q=>?_⟩;refine⟨a,i,z,d.ext k M b,b,t.bind.mono λl g y F j c s=>?_⟩;refine⟨a,g,y,(d.ext k M b).ext j b c,c,s.bind.mono λh f u E p o r=>?_⟩;exact⟨f,u,w,o,(q.ext j b c).ext p c o,r⟩
noncomputable def nU(b:B)(ws:List W)(m:Mem):Res W:=cW ((views ws m).bind λts=>b8 b ts) m
theorem Gz{b:B}(σ:L2.St)(H:Hp)(Q:VK)(q:tE X.K call gv xr (.blt b eas) σ H Q):O4 (rN X.K xr (nU b)) (tA X.K call gv xr eas) σ H Q:=by
 obtain⟨c,j,m,i,M,e⟩:=q;rw[ev]at e;exact⟨c,j,m,i,M,e.bind.mono λf d h o l k g n a=>⟨d,h,f,k,a,g⟩⟩
theorem qr{b:B}{id:String}(j:db X (.builtin id) (rN X.K xr (nU b)))(d:Sy x=Zz (.builtin id))(h:Gl X x)(g:X.mg x=Zy)(k:PA X (e::es) (tA X.K call gv xr eas))(f:x≠"__name__")(c:(x==("__debug__" : Str))=false)(i:notStar e=true)(a:es.all notStar=true):PE X (.Call (.Name x p) (e::es) [] pos) (tE X.K call gv xr (.blt b eas)):=
 PE.mono (rK j h g d k f c (bH i) (ef a)) Gz
theorem qy{b:B}{id:String}(j:db X (.type id) (rN X.K xr (nU b)))(d:Sy x=Zz (.type id))(h:Gl X x)(g:X.mg x=Zy)(k:PA X (e::es) (tA X.K call gv xr eas))(f:x≠"__name__")(c:(x==("__debug__" : Str))=false)(i:notStar e=true)(a:es.all notStar=true):PE X (.Call (.Name x p) (e::es) [] pos) (tE X.K call gv xr (.blt b eas)):=
 PE.mono (uW j h g d k f c (bH i) (ef a)) Gz
theorem lL{t:T}{ts:List T}(q:views ws m=Zz (t::ts)):∃w us,ws=w::us/\view w m=Zz t/\views us m=Zz ts:=by
 cases ws with
 |nil=>cases q
 |cons w us =>
  unfold views at q;cases q1:view w m with
  |none=>rw[q1]at q;cases q
  |some u =>
   rw[q1]at q;cases q2:views us m with
   |none=>rw[q2]at q;cases q
   |some v=>rw[q2]at q;cases q;exact⟨w,us,rfl,q1,q2⟩
theorem uq(q:views ws m=Zz []):ws=[]:=by
 cases ws with
 |nil=>rfl
 |cons w us =>
  unfold views at q;cases q1:view w m with
  |none=>rw[q1]at q;cases q
  |some u =>
   rw[q1]at q;cases q2:views us m with
   |none=>rw[q2]at q;cases q
   |some v=>rw[q2]at q;cases q
theorem wB{b:B}(r:zX K cm m H ws vs)(h1:∀ts t,b8 b ts=Zz t->ts.length=1)(h:aX K (nU b ws m) xr cm m H k):
  ∃w v t r,ws=[w]/\vs=[v]/\RW K cm m H w v/\view w m=Zz t/\b8 b [t]=Zz r/\aX K (.ok (.t r) m) xr cm m H k:=by
 obtain⟨t,e,ho⟩:=cz h;cases q:views ws m with
 |none=>rw[q]at e;cases e
 |some ts =>
  rw[q]at e;have e:=e;have hl:=h1 ts t e;obtain⟨t1,rfl⟩:=List.length_eq_one_iff.mp hl;obtain⟨w,us,rfl,q1,q2⟩:=lL q;obtain rfl:=uq q2;cases r with
  |cons rv r =>
   cases r with
   |nil=>exact⟨w,_,t1,t,rfl,rfl,rv,q1,e,ho⟩
theorem C3{f:T->Option T}:∀{ts:List T}{t:T},hU f ts=Zz t->∃x,ts=[x]/\f x=Zz t
 |[],_,h=>by cases h
 |[x],_,h=>⟨x,rfl,h⟩
 |_::_::_,_,h=>by cases h
theorem um(h:F2 f ts=Zz t):∃i j,ts=[.int i,.int j]/\f i j=Zz t:=by
 unfold F2 at h;split at h
 ·exact⟨_,_,rfl,h⟩
 ·cases h
theorem fE{b:B}(hb:b≠.min2/\b≠.jM):∀ts t,b8 b ts=Zz t->ts.length=1:=by
 intro ts t h;have h1:∀f:T->Option T,hU f ts=Zz t->ts.length=1:=λf h=>by
  obtain⟨x,rfl,_⟩:=C3 h;rfl
 cases b<;>first|exact h1 _ h|exact Xk hb (by decide)|cases h
theorem DV:db X (.builtin "len") (rN X.K xr (nU .len)):=by
 rintro b s σ H xs g Q I r ⟨cm,m,ws,M,j,d⟩;obtain⟨w,v,t,rr,rfl,rfl,h,e,c,d⟩:=wB j (fE (by decide)) d;have hz:=bj;cases t with
 |str l =>
  change (if l.length<=lim then Zz (T.int l.length)else Zy)=Zz rr at c;split at c<;>cases c;cases(ao h e (λ_ z=>by cases z)).dA;exact nk b s σ H _ g Q I r ⟨_,_,rfl,⟨by rw[gm];omega,rfl⟩,by rw[gm];exact ans d M (.int _)⟩
 |tup ts =>
  cases c;obtain⟨a,i,rfl,f,k⟩:=(ao h e (λ_ z=>by cases z)).jQ;exact nk b s σ H _ g Q I r ⟨_,_,rfl,.inr ⟨i,f,k.length⟩,ans d M (.int _)⟩
 |lst ts =>
  cases c;obtain⟨a,i,rfl,f,k⟩:=be M h e;exact nk b s σ H _ g Q I r ⟨_,_,rfl,.inl ⟨i,.of f,k.length⟩,ans d M (.int _)⟩
 |dG ns =>
  cases c;obtain⟨a,rfl,f⟩:=(ao h e (λ_ z=>by cases z)).EB;exact nk b s σ H _ g Q I r ⟨_,_,rfl,.inl ⟨_,f.sq,by simp⟩,ans d M (.int _)⟩
 |_=>cases c
theorem Dy:db X (.type "int") (rN X.K xr (nU .int)):=by
 rintro d s σ H xs us Q I r ⟨cm,m,ws,M,rws,g⟩;obtain⟨w,v,t,rr,rfl,rfl,rv,e,f,g⟩:=wB rws (fE (by decide)) g;cases t with
 |int i =>
  cases f;cases(ao rv e (λ_ z=>by cases z)).b7;exact uI d s σ H _ us Q I r (.inl ⟨_,rfl,ans g M (.int _)⟩)
 |bl b =>
  cases f;cases(ao rv e (λ_ z=>by cases z)).Ey;exact uI d s σ H _ us Q I r (.inr ⟨_,rfl,ans g M (.int _)⟩)
 |str a =>
  have f:(if a≠[]/\a.length<=600/\a.all (λc=>decide (48<=c)&&decide (c<=57))=true then Zz (T.int (aN a))else Zy)=Zz rr:=f;split at f<;>cases f;rename_i hc;cases(ao rv e (λ_ z=>by cases z)).dA;obtain⟨u,rfl,tt,rfl⟩:=vals1 r;have hd:NumText.AllDigits (⟨a.toArray⟩:Str).cps.toList:=λc hcm=>by
   have:=RF.mp hc.2.2 c (by simpa using hcm);rw[Q3]at this;exact⟨Xl this.1,Xl this.2⟩
  have ht:=PySem.intText_digits hd (by simpa using hc.1) (by show a.toArray.size<=_;rw[Q9];omega);refine W.KIN.call_text ht (by show a.toArray.size<=_;rw[Q9];omega) ⟨.int (aN a),H,I.tok _,⟨s.toks,?_⟩,ans g M (.int _)⟩;rw[show(⟨a.toArray⟩:Str).cps.toList=a from by simp];rfl
 |_=>cases f
theorem C2:db X (.type "str") (rN X.K xr (nU .str)):=by
 rintro pins s σ H xs f Q I r ⟨cm,m,ws,M,c,d⟩;obtain⟨w,v,t,rr,rfl,rfl,g,e,b,d⟩:=wB c (fE (by decide)) d;cases t with
 |int i =>
  have b:(if i.natAbs<2^250 then Zz (T.str (ft i))else Zy)=Zz rr:=b;split at b<;>cases b;rename_i hc;cases(ao g e (λ_ z=>by cases z)).b7;refine wA pins s σ H _ f Q I r ⟨i,rfl,?_,?_⟩
  ·by_cases h0:i.natAbs=0
   ·rw[h0];decide
   ·exact RQ ((Nat.log2_lt h0).mpr hc) (by decide)
  ·have:=ans d M (.str _)
   have e2:(⟨(ft i).toArray⟩:Str)=Wq (toString i):=(n9 rfl).symm;rw[e2]at this;exact this
 |_=>cases b
theorem HM(cs:List Nat):c6 K cm m H (cs.map λc=>T.str [c]) (cs.map λc=>V.str ⟨#[c]⟩):=by
 induction cs with
 |nil=>exact .nil
 |cons c cs d=>exact .cons (.str [c]) d
theorem sK{x:Str}:∀(cs:List Nat) (k:Nat) (a:List Q2),a.length=cs.length->(∀(j:Nat) (v:Q2),a[j]?=Zz v->∃c u,cs[j]?=Zz c/\v=UQ ⟨#[c]⟩ u)->Vals (cs.map λc=>V.str ⟨#[c]⟩) a
 |[],_,[],_,_=>.nil
 |[],_,_::_,h,_=>by simp at h
 |_::_,_,[],h,_=>by simp at h
 |c::cs,k,v::a,d,h=>by
  obtain⟨g,u,f,e⟩:=h 0 v rfl;cases f;exact .cons ⟨u,e⟩ (sK (x:=x) cs k a (by simpa using d) λj w b=>h (j+1) w (by simpa using b))
theorem xR(f:X.calm=true):db X (.type "tuple") (rN X.K xr (nU .tuple)):=by
 rintro d s σ H xs us Q I r ⟨cm,m,ws,M,y,o⟩;obtain⟨w,v,t,rr,rfl,rfl,B,e,k,o⟩:=wB y (fE (by decide)) o;cases t with
 |tup ts =>
  cases k;obtain⟨a,p,rfl,i,C⟩:=(ao B e (λ_ z=>by cases z)).jQ;exact lD d s σ H _ us Q I r ⟨a,p,rfl,.inr ⟨i,ans o M (.AF i C)⟩⟩
 |lst ts =>
  cases k;obtain⟨a,p,rfl,i,C⟩:=be M B e;exact lD d s σ H _ us Q I r ⟨a,p,rfl,.inl ⟨.of i,λl hl=>lW o M C hl⟩⟩
 |str g =>
  change (if g.length<=lim then Zz (T.tup (g.map λc=>T.str [c]))else Zy)=Zz rr at k;split at k<;>cases k;rename_i hc;cases(ao B e (λ_ z=>by cases z)).dA;obtain⟨u,rfl,ru⟩:=vals1 r;obtain⟨tk,rfl⟩:=ru;have hz:=bj;refine call_tuple_str (I.ok.hd f) ⟨g.toArray⟩ tk (λh' n h hk D=>?_) (by show g.toArray.size<=_;rw[Q9];omega);obtain⟨i,h2⟩:=D;have I1:Inv X d σ H { s with heap:=h',toks:=n }:=I.kept hk;have A:=sK (x:=⟨g.toArray⟩) g 0 h.toList (by simpa using i) λj w hw=>by
   obtain⟨c,u,e1,e2⟩:=h2 j w (by simpa using hw);exact⟨c,u,by simpa using e1,e2⟩
  refine⟨.ref h'.objs.size,_,I1.laid (t':=n) (λb ob q=>Q6 _ q) (R1 _) ?_,rfl,lW o M (HM g) (I1.hok.fresh (R1 _))⟩;refine⟨by rw[Q4];omega,h.toList,A,?_⟩;have:=sf.new h' h.toList.toArray;simpa using this
 |_=>cases k
theorem Af:db X (.type "list") (rN X.K xr (nU .list)):=by
 rintro b s σ H xs us Q I r ⟨cm,m,ws,M,f,c⟩;obtain⟨w,v,t,rr,rfl,rfl,rv,e,j,c⟩:=wB f (fE (by decide)) c;cases t with
 |tup ts =>
  cases j;obtain⟨a,d,rfl,i,g⟩:=(ao rv e (λ_ z=>by cases z)).jQ;exact mP b s σ H _ us Q I r ⟨a,d,rfl,.inr i,λl h=>ig c M g h⟩
 |lst ts =>
  cases j;obtain⟨a,d,rfl,i,g⟩:=be M rv e;exact mP b s σ H _ us Q I r ⟨a,d,rfl,.inl (.of i),λl h=>ig c M g h⟩
 |_=>cases j
theorem c6.bools:∀{ts:List T}{b:List V}{a:List Bool},c6 K cm m H ts b->ek ts=Zz a->b=a.map V.bl
 |[],_,_,.nil,e=>by cases e;rfl
 |t::ts,_,a,.cons r d,e=>by
  cases t with
  |bl c =>
   unfold ek at e;cases q:ek ts with
   |none=>rw[q]at e;cases e
   |some f =>
    rw[q]at e;cases e;cases RT.Ey r;rw[c6.bools d q];rfl
  |_=>cases e
theorem lP:∀{a:List Bool}{us:List Q2},Vals (a.map V.bl) us->us=a.map SZ
 |[],_,.nil=>rfl
 |b::a,_,.cons r c=>by
  cases r;rw[lP c];rfl
theorem CC{s:Q7}{h':Rm}(c:∀b x,b∉[s.heap.objs.size]->(s.heap.push o).get? b=Zz x->h'.get? b=Zz x):∀b x,s.heap.get? b=Zz x->h'.get? b=Zz x:=
 λb x e=>c b x (λa=>by rw[Rp.mp a]at e;exact SD _ (RH e)) (Q6 _ e)
theorem F5{α:Type}(f:List α->Bool)(bs:List Bool)(d:Bool):(S4 bs.length).map (λi=>(bs[i]?).getD d)=bs:=by
 apply List.ext_getElem?;intro i;rw[Rh];by_cases h:i<bs.length
 ·rw[List.getElem?_range h];simp[h]
 ·simp[h]
theorem DG(hc:X.calm=true):db X (.builtin "all") (rN X.K xr (nU .all)):=by
 rintro pins s σ H xs us Q I r ⟨cm,m,ws,M,x,n⟩;obtain⟨w,v,t,rr,rfl,rfl,rv,e,f,n⟩:=wB x (fE (by decide)) n;cases t with
 |lst p =>
  have f:(ek p).map (λd=>T.bl (d.all id))=Zz rr:=f;cases q:ek p with
  |none=>rw[q]at f;cases f
  |some d =>
   rw[q]at f;cases f;obtain⟨a,vs,rfl,h1,B⟩:=be M rv e;obtain⟨u,rfl,y⟩:=vals1 r;cases y;obtain⟨D,g,C,hz⟩:=I.list (.of h1);cases c6.bools B q;cases lP g;have j:=C.isList;have h:a<s.heap.objs.size:=by obtain⟨_,e,_⟩:=j;exact RH e
   refine call_all_walk (Vs j ?_);refine⟨s.heap.objs.size,[s.heap.objs.size,a],[s.heap.objs.size],(d.map SZ).toArray.size,_,_,λi=>(d[i]?).getD true,rfl,Walks.list (A:=X.A.in1) (I.ok.hd hc) _ a (Rc h) (d.map SZ).toArray,
    ⟨⟨_,RL _ rfl,rfl,rfl⟩,j.push _⟩,λi v s' Q' E' hP k=>?_,λh' tk hk=>?_⟩
   ·have c:(d.map SZ)[i]?=Zz v:=by simpa using hP
    rw[Rh]at c;cases qq:d[i]? with
    |none=>rw[qq]at c;cases c
    |some b =>
     rw[qq]at c;cases c;dsimp only at k;rw[qq]at k;exact SE k
   ·have e:((S4 (d.map SZ).toArray.size).all λi=>(d[i]?).getD true)=d.all id:=by
     rw[Q9,Q4];have:=congrArg (λl=>l.all id) (F5 (α:=Nat) (λ_=>true) d true);rw[<-this,T4];rfl
    rw[e];exact⟨.bl _,H,I.kept (CC hk),rfl,ans n M (.bl _)⟩
 |tup p =>
  have f:(ek p).map (λd=>T.bl (d.all id))=Zz rr:=f;cases q:ek p with
  |none=>rw[q]at f;cases f
  |some d =>
   rw[q]at f;cases f;obtain⟨a,vs,rfl,h1,B⟩:=RT.jQ (ao rv e (λ_ z=>by cases z));obtain⟨u,rfl,y⟩:=vals1 r;cases y;obtain⟨D,g,C,hz⟩:=I.tuple h1;cases c6.bools B q;cases lP g;have j:=C;have h:a<s.heap.objs.size:=by obtain⟨_,e,_⟩:=j;exact RH e
   refine call_all_walk (wpAny_pyIter_tuple j ?_);refine⟨s.heap.objs.size,[s.heap.objs.size,a],[s.heap.objs.size],(d.map SZ).toArray.size,_,_,λi=>(d[i]?).getD true,rfl,Walks.tuple (A:=X.A.in1) (I.ok.hd hc) _ a (Rc h) (d.map SZ).toArray,
    ⟨⟨_,RL _ rfl,rfl,rfl⟩,(let⟨o,n,r⟩:=j;⟨o,Q6 _ n,r⟩)⟩,λi v s' Q' E' hP k=>?_,λh' tk hk=>?_⟩
   ·have c:(d.map SZ)[i]?=Zz v:=by simpa using hP
    rw[Rh]at c;cases qq:d[i]? with
    |none=>rw[qq]at c;cases c
    |some b =>
     rw[qq]at c;cases c;dsimp only at k;rw[qq]at k;exact SE k
   ·have e:((S4 (d.map SZ).toArray.size).all λi=>(d[i]?).getD true)=d.all id:=by
     rw[Q9,Q4];have:=congrArg (λl=>l.all id) (F5 (α:=Nat) (λ_=>true) d true);rw[<-this,T4];rfl
    rw[e];exact⟨.bl _,H,I.kept (CC hk),rfl,ans n M (.bl _)⟩
 |_=>cases f
end
section
variable{K:Rf}{cm:List Q8}{m:Mem}{H:Hp}{xr:XR}{X:Cx}{call:Nat->List W->Mem->Res W}{gv:List T}
variable{a b c e:Rq}{es:List Rq}{ea eb ec:E}{eas:Es}{pos p p2:Pos}
noncomputable def MZ:Ty->String
 |.int=>"int"
 |.bool=>"bool"
 |.str=>"str"
 |.tuple=>"tuple"
 |.list=>"list"
 |.dict=>"dict"
noncomputable def Qd:T->String
 |.non=>"NoneType"
 |.bl _=>"bool"
 |.int _=>"int"
 |.str _=>"str"
 |.tup _=>"tuple"
 |.lst _=>"list"
 |.dct _ _=>"dict"
 |.dG _=>"list"
theorem JK(t:T)(ty:Ty):kitOne K (.type (Qd t)) (.type (MZ ty))=Zz (cJ t ty):=by cases t<;>cases ty<;>rfl
theorem Ik{E:Q2->Q7->Prop}(I:Inv X pins σ H s)(M:aE X.K cm m H)(rx:RelV v u)(r:RW X.K cm m H w v)(ew:view w m=Zz t)(h:∀tk,Q (.bool (cJ t ty)) { s with toks:=tk }):
  RB (RC X.prog X.w) A (U3 (.builtin "isinstance") [u,.type (MZ ty)]) Q E s:=by
 have k:=JK (K:=X.K) t ty;have onL:∀(a:Q8) (vs:List V),v=.ref a->sU X.K H a vs->Qd t = "list"->RB (RC X.prog X.w) A (U3 (.builtin "isinstance") [u,.type (MZ ty)]) Q E s:=λa vs e hq et=>by
  subst e;cases rx;obtain⟨its,_,pl,_⟩:=I.list hq;obtain⟨o,n,e,c,_⟩:=pl;rw[et]at k;exact UG XM I.li ⟨o,e,c⟩ k (λz=>nomatch z) h
 cases t with
 |non=>cases(ao r ew (λ_ z=>by cases z)).Iu;exact iK I rx .non k h
 |bl y=>cases(ao r ew (λ_ z=>by cases z)).Ey;exact iK I rx (.bl y) k h
 |int i=>cases(ao r ew (λ_ z=>by cases z)).b7;exact iK I rx (.int i) k h
 |str cs=>cases(ao r ew (λ_ z=>by cases z)).dA;exact iK I rx (.str _) k h
 |tup ts =>
  obtain⟨a,vs,rfl,h1,_⟩:=(ao r ew (λ_ z=>by cases z)).jQ;cases rx;obtain⟨its,_,p,_⟩:=I.tuple h1;obtain⟨o,h1,h2,_⟩:=p;exact UG PySem.W.kitx_tuple I.li ⟨o,h1,h2⟩ k (λz=>nomatch z) h
 |lst ts =>
  obtain⟨a,vs,e,h1,_⟩:=be M r ew;exact onL a vs e (.of h1) rfl
 |dG ns =>
  obtain⟨a,e,h1⟩:=(ao r ew (λ_ z=>by cases z)).EB;exact onL a _ e h1.sq rfl
 |dct ks ts =>
  have r':=ao r ew (λ_ z=>by cases z);cases r' with
  |dct q1 q2 q3 q4 q5=>exact iK I rx (.dK q1) k h
noncomputable def PR(ty:Ty)(w:W)(m:Mem):Res W:=cW ((view w m).map λx=>.bl (cJ x ty)) m
theorem Gb{ty:Ty}:db X (.builtin "isinstance") (λxs H Q=>∃x,xs=[x,.ty (MZ ty)]/\r1 X.K xr (PR ty) x H Q):=by
 rintro pins s σ H xs us Q I r ⟨x,e,cm,m,w,M,rw',ho⟩;subst e;obtain⟨u1,u2,rfl,ru1,ru2⟩:=vals2 r;cases(ru2);obtain⟨t,et,ho⟩:=cz ho;cases q:view w m with
 |none=>rw[q]at et;cases et
 |some tw =>
  rw[q]at et;cases et;exact Ik I M ru1 rw' q λtk=>⟨.bl _,H,I.tok _,rfl,ans ho M (.bl _)⟩
theorem II(r:PE X a (tE X.K call gv xr ea))(o:Gl X "isinstance")(n:X.mg "isinstance" = Zy)(c:Gl X x)(b:X.mg x=Zy)(k:Sy x=Zz (.type (MZ ty)))(l:x≠"__name__":=by decide)(q:(x==("__debug__" : Str))=false:=by decide)(f:notStar a=true:=by rfl):
  PE X (.Call (.Name "isinstance" p) [a,.Name x p2] [] pos) (tE X.K call gv xr (.xz ea ty)):=by
 refine PE.mono (rK (Gb (ty:=ty) (xr:=xr)) o n (by decide +kernel) (ny r (ny (B4 (v:=.ty (MZ ty)) c b k rfl l q) BK (bH rfl)) (bH f)) (by decide) (by decide) (bH f) (ef rfl)) ?_;rintro σ H Q ⟨d,t,m,s,M,g⟩;rw[ev]at g;exact⟨d,t,m,s,M,g.bind.mono λw e j z y u i v h=>⟨v,rfl,e,j,w,u,h,i⟩⟩
inductive rM (K:Rf) (xr:XR) (b:Mt) (x:V) (xs:List V) (H:Hp) (Q:VK):Prop where
 |mk (cm m w ws) (_:aE K cm m H) (_:RW K cm m H w x) (_:zX K cm m H ws xs) (_:aX K (Ar b w ws m) xr cm m H λw cm' m' H'=>∀v,RW K cm' m' H' w v->Q v H')
theorem wE(sep:List Nat):∀xs:List (List Nat),Str.join ⟨sep.toArray⟩ (xs.map λc=>(⟨c.toArray⟩:Str))=⟨(aM sep xs).toArray⟩
 |[]=>rfl
 |[x]=>rfl
 |x::y::r=>by
  show(⟨x.toArray⟩:Str)++⟨sep.toArray⟩++Str.join ⟨sep.toArray⟩ ((y::r).map λc=>(⟨c.toArray⟩:Str))=⟨(x++sep++aM sep (y::r)).toArray⟩
  rw[wE sep (y::r),zE,zE]
theorem c6.strs:∀{ts:List T}{b:List V}{a:List (List Nat)},c6 K cm m H ts b->cu ts=Zz a->b=a.map λc=>V.str ⟨c.toArray⟩
 |[],_,_,.nil,e=>by cases e;rfl
 |t::ts,_,a,.cons r f,e=>by
  cases t with
  |str c =>
   unfold cu at e;cases q:cu ts with
   |none=>rw[q]at e;cases e
   |some g =>
    rw[q]at e;cases e;cases RT.dA r;rw[c6.strs f q];rfl
  |_=>cases e
theorem iF:∀{a:List (List Nat)}{us:List Q2},Vals (a.map λc=>V.str ⟨c.toArray⟩) us->XW us (a.map λc=>(⟨c.toArray⟩:Str))
 |[],_,.nil=>.nil
 |b::a,_,.cons ⟨t,e⟩ d=>by
  cases e;exact .cons _ t (iF d)
theorem kC(h:views ws m=Zz [t]):∃w,ws=[w]/\view w m=Zz t:=by
 cases ws with
 |nil=>cases h
 |cons w ws =>
  unfold views at h;cases q1:view w m with
  |none=>rw[q1]at h;cases h
  |some t1 =>
   rw[q1]at h;have h:=h;cases q2:views ws m with
   |none=>rw[q2]at h;cases h
   |some ts =>
    rw[q2]at h;cases h;cases ws with
    |nil=>exact⟨w,rfl,by rw[q1]⟩
    |cons d ws =>
     unfold views at q2;cases q3:view d m with
     |none=>rw[q3]at q2;cases q2
     |some t3 =>
      rw[q3]at q2;cases q4:views ws m with
      |none=>rw[q4]at q2;cases q2
      |some t4=>rw[q4]at q2;cases q2
theorem BM{b:Mt}(h:aX K (cW ((view w m).bind λx=>(views ws m).bind λts=>eT b x ts) m) xr cm m H k):∃x ts t,view w m=Zz x/\views ws m=Zz ts/\eT b x ts=Zz t/\aX K (.ok (.t t) m) xr cm m H k:=by
 obtain⟨t,e,ho⟩:=cz h;cases q1:view w m with
 |none=>rw[q1]at e;cases e
 |some x =>
  cases q2:views ws m with
  |none=>rw[q1,q2]at e;cases e
  |some ts=>rw[q1,q2]at e;exact⟨x,ts,t,rfl,rfl,e,ho⟩
theorem yX{sep:List Nat}{a:List (List Nat)}(e:(a.map Rg).sum+a.length*sep.length<=lim):((a.map λc:List Nat=>(⟨c.toArray⟩:Str)).map (·.length)).sum+(a.map λc:List Nat=>(⟨c.toArray⟩:Str)).length*(⟨sep.toArray⟩:Str).length<=16777216:=by
 rw[SJ,gm,Q4];have d:((λx:Str=>x.length) ∘ λc:List Nat=>(⟨c.toArray⟩:Str))=Rg:=by funext c;exact gm c
 have f:(lim:Nat)<=16777216:=by decide
 rw[d];omega
theorem BU(sep:List Nat)(a:List (List Nat))(t:Tok):UQ (Txt.join ⟨sep.toArray⟩ (a.map λc=>⟨c.toArray⟩)) t=.str ⟨(aM sep a).toArray⟩ t:=by
 unfold Txt.join;rw[StrLaws.glued_eq_join,wE]
theorem LO(h:hU (C1 f) ts=Zz t):∃ys,f ys=Zz t/\(ts=[.lst ys]∨ts=[.tup ys]):=by
 rcases ts with _|⟨x,_|⟨y,r⟩⟩
 ·cases h
 ·cases x<;>first|exact⟨_,h,.inl rfl⟩|exact⟨_,h,.inr rfl⟩|cases h
 ·cases h
theorem HD:KL X "str.join" (rM X.K xr .join):=by
 rintro pins s σ H x xs v us Q I rx rs ⟨cm,m,w,ws,M,rw',rws,ho⟩;obtain⟨tw,ts,t,q1,q2,e0,h⟩:=BM ho;clear ho;cases tw with
 |str b =>
  obtain⟨f,e,hs⟩:=LO (show hU (C1 λxs=>(cu xs).bind λf=>if(f.map Rg).sum+f.length*b.length<=lim then Zz (T.str (aM b f))else Zy) ts=Zz t from e0);clear e0;cases q3:cu f with
  |none=>rw[q3]at e;cases e
  |some c =>
   rw[q3]at e;have e:(if(c.map Rg).sum+c.length*b.length<=lim then Zz (T.str (aM b c))else Zy)=Zz t:=e;split at e<;>cases e;rename_i hc;cases(ao rw' q1 (λ_ z=>by cases z)).dA;obtain⟨tt,rfl⟩:=rx;rcases hs with rfl|rfl<;>obtain⟨w1,rfl,q4⟩:=kC q2<;>obtain _|⟨rv,_|_⟩:=rws<;>obtain⟨u,rfl,ru⟩:=vals1 rs
   ·obtain⟨a,vs,rfl,h1,r1⟩:=be M rv q4
    cases ru;obtain⟨its,d,pl,hz⟩:=I.list (.of h1);cases c6.strs r1 q3;exact join_list pl.isList (iF d) (yX hc) λg k=>⟨.str ⟨(aM b c).toArray⟩,H,I.tok _,⟨g,BU b c g⟩,ans h M (.str _)⟩
   ·obtain⟨a,vs,rfl,h1,r1⟩:=(ao rv q4 (λ_ z=>by cases z)).jQ
    cases ru;obtain⟨its,d,pl,hz⟩:=I.tuple h1;cases c6.strs r1 q3;exact join_tuple pl (iF d) (yX hc) λg k=>⟨.str ⟨(aM b c).toArray⟩,H,I.tok _,⟨g,BU b c g⟩,ans h M (.str _)⟩
 |_=>cases e0
theorem ty_str{b:Mt}(d:b=.join)(r:RW K cm m H w v)(h:o0 b w m=true):MN K "str" v H:=by
 have a:(match view w m with|some (.str _)=>true|_=>false)=true:=by
  subst d;exact h
 split at a
 ·rename_i cs e
  cases(ao r e (λ_ z=>by cases z)).dA;rfl
 ·cases a
theorem Db(a:notStar e=true):((backTo cpos (S9 [e] X.env)).all (λx=>!x.1)&&(XZ cpos (X3 [] X.env)).all (λx=>x.1.isSome)
  && decide ([e].length+([]:List Wd).length+(if([]:List Wd).isEmpty then 0 else 1)<30))=true:=by
 rw[vP (by rw[Ro,a];rfl)];rfl
theorem G9(z:PE X o (tE X.K call gv xr ea))(A:PA X [e] (tA X.K call gv xr eas))(b:Sz o "join" X.env (eval o X.env)=eval o X.env:=by rfl)(a:(apos.endLine==cpos.line)=true:=by rfl)(k:notStar e=true:=by rfl):
  PE X (.Call (.Attribute o "join" apos) [e] [] cpos) (tE X.K call gv xr (.eA .join ea eas)):=by
 refine PE.mono (su U4 PySem.F.slot_str_join PySem.F.type_str_join (HD (xr:=xr)) z A b (Db k) a (bH k) (ef rfl)) ?_;rintro σ H Q ⟨c,B,m,n,M,l⟩;rw[ev]at l;refine⟨c,B,m,n,M,l.bind.mono λw h x E r i f v j=>?_⟩;obtain⟨y,f⟩:=ij f;refine⟨ty_str rfl j y,c,h,x,n.ext r M i,i,f.bind.mono λs g u D q p t C d=>?_⟩;exact⟨g,u,w,s,p,j.ext q i p,d,t⟩
structure At (X:Cx) (call:Nat->List W->Mem->Res W) (gv:List T) (e:Rq) (a:E) (f:L2.St->Option V):Prop where
 pe:PE X e (λσ H Q=>∃v,f σ=Zz v/\Q v H)
 rd:∀env cm m H σ,bq X.K cm m H env σ->(∃w v,ev call gv a env m=.ok w m/\f σ=Zz v/\RW X.K cm m H w v)∨ev call gv a env m=.stuck
theorem sQ{j}:At X call gv (.Constant (.int i) j pos) (.con (.int i)) (λ_=>Zz (.int i)):=
 ⟨PE.mono GP λσ H Q ⟨v,e,q⟩=>by cases e;exact q,λa c m H σ b=>.inl ⟨.t (.int i),_,by rw[ev],rfl,RT.int i⟩⟩
theorem Bp(hg:Gl X "range")(hm:X.mg "range" = Zy)(ha:PA X [a] (tA X.K call gv xr eas))(hs:notStar a=true:=by rfl):PI X tg (.Call (.Name "range" p) [a] [] pos) (tI X.K call gv xr (.blt .dY eas)):=by
 refine PI.mono (EI hg hm ha (bH hs)) ?_;rintro σ H R ⟨d,cm,m,hE,M,f⟩;rw[ev]at f;refine⟨d,cm,m,hE,M,f.bind.mono λws cm1 m1 H1 x1 M1 n vs c=>?_⟩;obtain⟨w,v,t,h,rfl,rfl,g,e,b,l⟩:=wB c (fE (by decide)) n;cases t with
 |int i =>
  change (if i<2^62/\-(2^62)<=i then Zz (T.lst (rangeT 0 i.toNat))else Zy)=Zz h at b;split at b<;>cases b;rename_i hc;cases(ao g e (λ_ z=>by cases z)).b7;obtain⟨ts,m2,k,j⟩:=aX.now l M1;cases k;exact⟨_,rfl,hc.2,hc.1,j _ (.EO 0 _)⟩
 |_=>cases b
end
section
variable(K:Rf) (call:Nat->List W->Mem->Res W) (gv:List T) (xr:XR)
def mv(n:Nat)(D:Ends)(fl:Flow)(cm:List Q8)(m:Mem)(H:Hp):Prop:=match fl with
 |.next env=>∀σ:L2.St,σ.length=n->bq K cm m H env σ->D.nx σ H
 |.ret w=>∀v,RW K cm m H w v->D.rt v H
inductive tS (n:Nat) (s:S) (D:Ends) (σ:L2.St) (H:Hp):Prop where
 |mk (_:σ.length=n) (env cm m) (_:bq K cm m H env σ) (_:aE K cm m H) (_:aX K (ex call gv s env m) xr cm m H λfl cm' m' H'=>mv K n D fl cm' m' H')
end
section
variable{K:Rf}{cm:List Q8}{m:Mem}{H:Hp}{xr:XR}{X:Cx}{call:Nat->List W->Mem->Res W}{gv:List T}
variable{a b c e:Rq}{es:List Rq}{ea eb ec:E}{eas:Es}{pos p p2:Pos}{rest:List Rv}{k:S}{n:Nat}
theorem du.mono(h:du X sts t)(f:∀D σ H,t' D σ H->t D σ H):du X sts t':=λa s σ H D I q=>h a s σ H D I (f D σ H q)
theorem He:du X [] (tS X.K call gv xr n .done):=du.mono B2 λD σ H ⟨b,d,e,m,c,M,a⟩=>by
 rw[ex]at a;exact aX.now a M σ b c
theorem Gv(h:PE X e (tE X.K call gv xr ea)):du X (.Return (Zz e) pos::rest) (tS X.K call gv xr n (.ret ea k)):=du.mono (cE (Mw h) Eo) λD σ H ⟨p,a,i,m,f,M,b⟩=>by
 rw[ex]at b;exact⟨a,i,m,f,M,b.bind.mono λw g o q l j d v c=>aX.now d j v c⟩
theorem Dr(h:PE X e (tE X.K call gv xr ea))(p:du X rest (tS X.K call gv xr n k))(l:V4 e Zy pos.line X.env=pure false:=by rfl):du X (.Expr e pos::rest) (tS X.K call gv xr n (.expr ea k)):=du.mono (cE (HZ h l) p) λD σ H ⟨o,a,q,m,d,M,c⟩=>by
 rw[ex]at c;exact⟨a,q,m,d,M,c.bind.mono λw b j s g f i v r=>⟨o,a,b,j,d.ext g M f,f,i⟩⟩
theorem FX(hN:X.N.Nodup)(hn:X.N.length=n)(hi:X.N[i]?=Zz x)(hx:Loc X.env.scope x)(h:PE X e (tE X.K call gv xr ea))(hk:du X rest (tS X.K call gv xr n k))(hs:V4 e (Zz (.Name x px)) pos.line X.env=pure false:=by rfl)(hf:X.fn x=true∨X.env.scope.names.lookup x=Zz .local:=by first|exact .inl rfl|exact .inr rfl|assumption):du X (.Assign [.Name x px] e pos::rest) (tS X.K call gv xr n (.asg i ea k)):=du.mono (cE (Lw hN hi hx h hs hf) hk) λD σ H ⟨hl,env,cm,m,hE,M,ho⟩=>by
 rw[ex]at ho;have hi':i<σ.length:=by rw[hl,<-hn];exact(R0.mp hi).1
 exact⟨env,cm,m,hE,M,ho.bind.mono λw cm1 m1 H1 x1 M1 o1 v rv=>⟨by rw[S8];exact hl,env.set i (Zz w),cm1,m1,bq.set (hE.ext x1 M M1) rv i hi',M1,o1⟩⟩
theorem Fm(hv:PE X v (tE X.K call gv xr ev'))(ho:PE X o (tE X.K call gv xr eo))(hi:PE X i (tE X.K call gv xr ei))(hk:du X rest (tS X.K call gv xr n k))(ha:∀v,assign (.Subscript o i tp) X.env v=(do
   let ov <-Vq [v] (eval o X.env)
   let iv <-Vq [v,ov] (eval i X.env)
   Ux tp
   Vq [v,ov,iv] (setItem ov iv v)
   release [v,ov,iv] []):=by intro _;rfl)(hs:Vy [.Subscript o i tp] v pos.line X.env=pure false:=by rfl)(hw:Vz [.Subscript o i tp] v X.env=pure Zy:=by rfl)(h1:(RM [.Subscript o i tp] X.env).map (·.2)=[assign (.Subscript o i tp) X.env]:=by rfl):du X (.Assign [.Subscript o i tp] v pos::rest) (tS X.K call gv xr n (.set eo ei ev' k)):=
 du.mono (cE (A8 hv (K5 ho hi set_list ha) hs hw h1) hk) λD σ H ⟨hl,e,cm,m,hE,M,hq⟩=>by
  rw[ex]at hq;refine⟨e,cm,m,hE,M,hq.bind.mono λz cm1 m1 H1 x1 M1 o1 vz rz=>?_⟩;refine⟨e,cm1,m1,hE.ext x1 M M1,M1,o1.bind.mono λx cm2 m2 H2 x2 f o2 vx rx=>?_⟩;refine⟨e,cm2,m2,(hE.ext x1 M M1).ext x2 M1 f,f,o2.bind.mono λy cm3 m3 H3 x3 M3 d vy ry=>?_⟩;unfold setM at d;split at d
  ·rename_i cc kk
   cases q:jS z m3 with
   |stuck=>rw[q]at d;exact d.elim
   |exc e' m'=>exact Xk q uK
   |ok t m4 =>
    rw[q]at d;obtain⟨x4,M4,r4⟩:=AZ M3 ((rz.ext x2 M1 f).ext x3 f M3) q;have rx':=(rx.ext x3 f M3).ext x4 M3 M4;cases RT.b7 ry;obtain⟨a,ha1,rfl⟩:=rx';have d:aX X.K ((match m4[cc]? with
     |some (Zz (false,xs))=>match iW xs.length kk with
      |some j=>Res.ok () (m4.set cc (Zz (false,xs.set j t)))
      |none=>.stuck
     |_=>.stuck).bind λ_ m=>ex call gv k e m) xr cm3 m3 H3 _:=d
    split at d
    ·rename_i xs e1
     split at d
     ·rename_i j e2
      obtain⟨b,vs,q1,q2,q3,q4⟩:=M4.at' cc _ e1;rw[ha1]at q1;cases q1;have l4:=q4.length;obtain⟨x5,M5⟩:=ju M4 e1 ha1 (qL r4 j q4);refine⟨a,vs,kk,j,rfl,rfl,q2,by rw[<-l4];exact e2,?_⟩;have xx:=(x4.trans x5)
      exact⟨hl,e,cm3,_,(((hE.ext x1 M M1).ext x2 M1 f).ext x3 f M3).ext xx M3 M5,M5,aX.shift (d) xx⟩
     ·exact d.elim
    ·exact d.elim
  ·exact d.elim
theorem bind_assoc{α β γ:Type}(r:Res α)(f:α->Mem->Res β)(g:β->Mem->Res γ):(r.bind f).bind g=r.bind λa m=>(f a m).bind g:=by cases r<;>rfl
theorem Kb{A B:List Rv}(hc:PT X c (tT X.K call gv xr ec))(ha:du X A (tS X.K call gv xr n sa))(hb:du X B (tS X.K call gv xr n sb))(hk:du X rest (tS X.K call gv xr n k)):du X (.If c A B pos::rest) (tS X.K call gv xr n (.bZ ec sa sb k)):=
 du.mono (cE (NA hc ha hb) hk) λD σ H ⟨hl,env,cm,m,hE,M,ho⟩=>by
  rw[ex,<-bind_assoc]at ho;refine⟨env,cm,m,hE,M,ho.bind.mono λt cm1 m1 H1 x1 M1 o1=>?_⟩;have go:∀s:S,aX X.K ((ex call gv s env m1).bind λfl m=>match fl with|.next env=>ex call gv k env m|fl=>.ok fl m) xr cm1 m1 H1 (λfl cm' m' H'=>mv X.K n D fl cm' m' H')->tS X.K call gv xr n s { D with nx:=tS X.K call gv xr n k D } σ H1:=λs o=>by
   refine⟨hl,env,cm1,m1,hE.ext x1 M M1,M1,o.bind.mono λfl cm2 m2 H2 x2 M2 o2=>?_⟩;cases fl with
   |next env'=>exact λσ' hl' hE'=>⟨hl',env',cm2,m2,hE',M2,o2⟩
   |ret w=>exact aX.now (xr:=xr) o2 M2
  cases t with
  |true=>exact Ai (go sa o1)
  |false=>exact BD (go sb o1)
theorem hV:∀(b:List Nat) (a:List V) (σ:L2.St),(cy b a σ).length=σ.length
 |[],_,_=>by unfold cy;rfl
 |_::_,[],_=>by unfold cy;rfl
 |i::b,v::a,σ=>by unfold cy;rw[hV,S8]
theorem GR(h:gT K tg v σ H Q):gT K tg v σ H λb H'=>b.length=σ.length/\Q b H':=by
 cases tg with
 |nm i=>exact⟨S8,h⟩
 |tp is =>
  obtain⟨a,c,g,f,e,d⟩:=h;exact⟨a,c,g,f,e,hV _ _ _,d⟩
theorem bq.same(h:bq K cm m H env σ)(f:∀t v,RT K cm m H t v->RT K cm m' H t v):bq K cm m' H env σ:=λi w e=>by
 obtain⟨v,h1,h2⟩:=h i w e;refine⟨v,h1,?_⟩;cases w with
 |t t=>exact f t v h2
 |x _ _ _=>exact XF.Kr f h2
 |c i=>exact h2
theorem Fo(hc:X.calm=true)(hp:Wa (RC X.prog X.w) X.A X.env X.xe)(hi:PI X tgt iter (tI X.K call gv xr it))(hg:PG X tgt (gT X.K tg))(ht:∀i∈ll tg,i<n)(hb:du X body (tS X.K call gv xr n sb))(hk:du X rest (tS X.K call gv xr n k))(hs:∀x,Sm iter X.env x=pure x:=by intro _;rfl):du X (.For tgt iter body [] pos::rest) (tS X.K call gv xr n (.vZ tg it sb k)):=
 du.mono (cE (Mh hp hc hi hg hb hs) hk) λD σ0 H0 ⟨hl0,env0,cm0,m0,hE0,M0,ho⟩=>by
  rw[ex]at ho;refine⟨env0,cm0,m0,hE0,M0,ho.bind.mono λx cm1 m1 H1 x1 M1 o1=>?_⟩;cases hbr:bp x m1 with
  |stuck=>rw[hbr]at o1;exact o1.elim
  |exc e' m' =>
   exfalso;unfold bp at hbr;split at hbr<;>first|(cases hbr;done)|(split at hbr<;>cases hbr)
  |ok ts m2 =>
   rw[hbr]at o1;obtain⟨xb,Mb⟩:=oz M1 hbr
   let g:Flow->Mem->Res Flow:=λfl m=>match fl with
    |.next env=>ex call gv k env (giveBack x m1 m)
    |.ret w=>.ok (.ret w) (giveBack x m1 m)
   have o1:aX X.K ((cj (λenv m=>ex call gv sb env m) tg ts env0 m2).bind g) xr cm1 m1 H1 (λfl cm' m' H'=>mv X.K n D fl cm' m' H'):=o1;refine⟨ts,m2,rfl,λJ hJ=>?_⟩
   let P:Flow->List Q8->Mem->Hp->Prop:=λfl _ m' _=>aX X.K (g fl m') xr cm1 m1 H1 (λfl cm' m' H'=>mv X.K n D fl cm' m' H')
   -- behind the walk
   have fin:∀env cm m H σ,σ.length=n->bq X.K cm m H env σ->aE X.K cm m H->dQ cm1 m2 H1 cm m H->P (.next env) cm m H->tS X.K call gv xr n k D σ H:=λenv cm m H σ hl hE M xx hP=>by
    obtain⟨xg,Mg,fg⟩:=kz M1 hbr xx M;exact⟨hl,env,cm,_,bq.same hE fg,Mg,aX.shift (hP) xg⟩
   refine⟨λi μ σ H=>μ=ts.length-i/\σ.length=n/\∃env cm m,bq X.K cm m H env σ/\aE X.K cm m H/\dQ cm1 m2 H1 cm m H/\aX X.K (cj (λenv m=>ex call gv sb env m) tg (ts.drop i) env m) xr cm m H P,⟨ts.length-0,rfl,hl0,env0,cm1,m2,(hE0.ext x1 M0 M1).ext xb M1 Mb,Mb,.refl,?_⟩,?_⟩
   ·rw[V0]
    exact aX.shift o1.KP xb
   ·rintro i μ σ H ⟨rfl,hl,env,cm,m,hE,M,xx,hq⟩
    have sJ:=hJ.ext xx Mb M;cases e:ts[i]? with
    |none =>
     have ed:=List.drop_eq_nil_iff.mpr (UW.mp e);rw[ed,cj]at hq;exact .inl ⟨sJ.stop M e,fin env cm m H σ hl hE M xx (aX.now hq M)⟩
    |some t =>
     have hlt:=(R0.mp e).1;have ed:ts.drop i=t::ts.drop (i+1):=by
      rw[Su hlt];rw[(R0.mp e).2]
     rw[ed,cj]at hq;obtain⟨go,hy⟩:=sJ.go M e;refine .inr ⟨go,λσ' H'=>σ'.length=n/\∃env cm m,bq X.K cm m H' env σ'/\aE X.K cm m H'/\dQ cm1 m2 H1 cm m H'/\aX X.K (cj (λenv m=>ex call gv sb env m) tg (ts.drop (i+1)) env m) xr cm m H' P,
      λσ' H' hN=>⟨ts.length-(i+1),by omega,rfl,hN⟩,λv H' y=>?_⟩
     obtain⟨xy,My,rt⟩:=hy v H' y;have hE:=hE.ext xy M My;have xx:=xx.trans xy;have hq:=aX.shift hq xy;have M:=My;split at hq
     ·exact hq.elim
     ·rename_i env' eb
      have:=GR (Hw (Q:=λσ' H2=>H2=H'/\bq X.K cm m H' env' σ') hE (λj hj=>by rw[hl];exact ht j hj) rt eb λσ' hE' _=>⟨rfl,hE'⟩);have mono:∀{Q Q':L2.St->Hp->Prop},gT X.K tg v σ H' Q->(∀σ' H',Q σ' H'->Q' σ' H')->gT X.K tg v σ H' Q':=λ{Q Q'} h f=>by
       cases tg with
       |nm j=>exact f _ _ h
       |tp is =>
        obtain⟨a1,xs,z1,z2,z3,z4⟩:=h;exact⟨a1,xs,z1,z2,z3,f _ _ z4⟩
      refine mono this ?_;rintro σ2 H2 ⟨hl2,e2,hE2⟩;subst e2;refine⟨hl2.trans hl,env',cm,m,hE2,M,hq.bind.mono λfl cm3 m3 H3 x3 M3 o3=>?_⟩;cases fl with
      |next env3=>exact λσ3 hl3 hE3=>⟨hl3,env3,cm3,m3,hE3,M3,xx.trans x3,o3⟩
      |ret w =>
       intro v3 rv3;have hP:=aX.now o3 M3;obtain⟨xg,Mg,fg⟩:=kz M1 hbr (xx.trans x3) M3;refine aX.to (m':=giveBack x m1 m3) hP xg Mg v3 ?_;cases w with
       |t t=>exact fg t v3 rv3
       |x _ _ _=>exact XF.Kr fg rv3
       |c j=>exact rv3
theorem mi
  (hc:X.calm=true) (kk:CI X M6 call gv N' scope own keep elt target iter ifs gs it tg cs inner) (hN:X.N.Nodup) (hn:X.N.length=n) (hi:X.N[i]?=Zz x) (hx:X.env.scope.names.lookup x=Zz .local)
  (hk:du X rest (tS X.K call gv xr n k))
  (hsw:V4 (.ListComp elt (⟨target,iter,ifs,0⟩::gs) scope pos) (Zz (.Name x px)) spos.line X.env=pure true:=by rfl):
  du X (.Assign [.Name x px] (.ListComp elt (⟨target,iter,ifs,0⟩::gs) scope pos) spos::rest) (tS X.K call gv xr n (.asg i (.comp own keep it tg cs inner) k)):=by
 have h1:PS X (.Assign [.Name x px] (.ListComp elt (⟨target,iter,ifs,0⟩::gs) scope pos) spos) (λD σ H=>∃env cm m m' out,bq X.K cm m H env σ/\aE X.K cm m H/\ev call gv (.comp own keep it tg cs inner) env m=.ok (.t (.lst out)) m' /\
   ∀(p:Q8) (H3:Hp) (cm3:List Q8) (vs:List V),H3 p=Zy->X.K.lookup p=Zy->dQ cm m H cm3 m' H3->aE X.K cm3 m' H3->c6 X.K cm3 m' H3 out vs->D.nx (σ.set i (Zz (.ref p))) (upd H3 p (.lst vs))):=
  λpins s σ H D I ⟨env,cm,m,m',out,hE,M,ok,q⟩=>EY hc kk hN hi hx hsw I hE M ok q
 refine du.mono (cE h1 hk) ?_;rintro D σ H ⟨hl,env,cm,m,hE,M,ho⟩;rw[ex]at ho;cases h:ev call gv (.comp own keep it tg cs inner) env m with
 |stuck=>rw[h]at ho;exact ho.elim
 |exc e m'=>exact Xk h (r8 e m')
 |ok w m' =>
  obtain⟨out,rfl⟩:=uS h;rw[h]at ho;refine⟨env,cm,m,m',out,hE,M,h,λp H3 cm3 vs hp _ x3 M3 r3=>?_⟩;have hi':i<σ.length:=by rw[hl,<-hn];exact(R0.mp hi).1
  have x4:=x3.trans (dQ.new (o:=.lst vs) hp);have M4:=M3.new (o:=.lst vs) hp;exact⟨by rw[S8];exact hl,_,cm3,m',bq.set (w:=.t (.lst out)) (hE.ext x4 M M4) (RT.zK M3 r3 hp) i hi',M4,aX.shift (ho) x4⟩
end
def NY(h:Rm)(e:Q8)(mk hd:Q2):Prop:=hd=.none∨∃T oT ts,hd=.ref T/\T≠e/\h.get? T=Zz oT/\oT.data=.fields ts/\ts[3]?=Zz mk
theorem mu{o:Obj}(h:o.data=.fields vs)(f:Array Q2->Array Q2):o.mapFields f={ o with data:=.fields (f vs) }:=by
 obtain⟨c,d,e,b⟩:=o;cases h;rfl
structure Kz (fr:List Q8) (h:Rm) (e:Q8) (oe:Obj) (mk:Q2) (h':Rm):Prop where
 keep:∀b o,b∉fr->b≠e->h.get? b=Zz o->h'.get? b=Zz o
 slot:∀b o,b∈fr->h.get? b=Zz o->∃sl,h'.get? b=Zz { o with slots:=sl }
 new:∃T oT ts vs,h.get? T=Zy/\T≠e/\h'.get? T=Zz oT/\oT.data=.fields ts/\ts[3]?=Zz mk/\h'.get? e=Zz { oe with data:=.fields vs }/\vs[1]?=Zz (.ref T)
section
variable{M:X8}{A:SH}{E:Q2->Q7->Prop}{s:Q7}{base:Rm}{env:T8}{outer:List T8}{L e:Q8}{oe:Obj}{vs:Array Q2}{hd:Q2}{Q:Unit->Q7->Prop}
theorem Cn{before:Bool}(hfr:A.frames=Zz (env::outer))(hl:s.heap.FunFrames base (env::outer))(hf:env.frame=Zz L)(he:s.heap.get? e=Zz oe)(hv:oe.data=.fields vs)(h1:1<vs.size)(k:∀h':Rm,Kz (frs (env::outer)) s.heap e oe (rawInt L) h'->Q () { s with heap:=h' }):
  RB M A (do
   let a <-frameOf env
   let pl <-entryPlaceOf L before
   let b <-EntryCells.newEntry hd a .none (rawInt L) .none pl
   Xb (.ref e) 1 b) Q E s:=by
 have ne:e∉frs (env::outer):=λhm=>by
  obtain⟨_,o,q,nf⟩:=hl.mem hm;rw[he]at q;cases q;exact nf vs hv
 refine Q0 (wpAny_frameOf_fun hfr hl hf λf so=>?_);refine Q0 (wpAny_entryPlaceOf λpl hp=>?_);unfold EntryCells.newEntry newFields;refine Q0 (SS ?_ (hp.sizeOk5 _ _ _ _ _));have e1:=(so.2.1 e ne).trans he;generalize hob:({ cls:=.type "traceback",dict:=Zy,data:=.fields ([hd,.ref L,.none,rawInt L,.none]++(if pl.isEmpty then R4 6 UJ else pl)).toArray }:Obj)=ob;have e2:=Q6 ob e1;have obf:ob.isFreed=false:=by rw[<-hob];rfl
 refine Se e2 hv h1 (k _ ?_);have nT:=Uy (RH e1);have kp:∀b o,b≠e->f.get? b=Zz o->((f.push ob).update e (Tl (·.setIfInBounds 1 (SV f.objs.size)))).get? b=Zz o:=λb o hb q=>by
  rw[Rs _ _ (SR hb)];exact Q6 _ q
 refine⟨λb o hb hbe q=>kp b o hbe ((so.2.1 b hb).trans q),λb o hb q=>?_,?_⟩
 ·obtain⟨sl,z⟩:=so.2.2 b o q
  exact⟨sl,kp b _ (λy=>ne (y▸hb)) z⟩
 ·refine⟨f.objs.size,ob,_,vs.setIfInBounds 1 (SV f.objs.size),Ta (by rw[so.1];exact R1 _),nT,?_,by rw[<-hob],?_,?_,?_⟩
  ·rw[Rs _ _ (SR nT)]
   exact RL _ obf
  ·simp
  ·rw[Ry _ e2 (Sv (SI hv _)),mu hv]
  ·simp[h1]
theorem Lm(a:A.frames=Zz (env::outer))(hl:s.heap.FunFrames base (env::outer))(d:env.frame=Zz L)(f:s.heap.get? e=Zz oe)(c:oe.data=.fields vs)(h1:vs[1]?=Zz hd)(ah:NY s.heap e .none hd)(k:∀h':Rm,Kz (frs (env::outer)) s.heap e oe (rawInt L) h'->Q () { s with heap:=h' }):RB M A (WB (.ref e) env) Q E s:=by
 have hz:=(Sq.mp h1).1;unfold WB;simp only[d];refine Q0 (UL f c h1 ?_);rcases ah with rfl|⟨T,oT,ts,rfl,ne,hT,dT,b⟩
 ·rw[Xg (by decide)]
  exact Cn a hl d f c hz k
 ·rw[Xf (by simp)]
  refine Q0 (UL hT dT b ?_);rw[Xg (by simp[rawInt])];refine Q0 (Se hT dT (Sq.mp b).1 ?_);rw[Heap.update_setField_same s.heap T oT ts 3 .none hT dT b];exact Cn a hl d f c hz k
theorem HB{T:Q8}{oT:Obj}{ts:Array Q2}{mk:Q2}(he:s.heap.get? e=Zz oe)(hv:oe.data=.fields vs)(h1:vs[1]?=Zz (.ref T))(hT:s.heap.get? T=Zz oT)(dT:oT.data=.fields ts)(mT:ts[3]?=Zz mk)(k:∀h':Rm,(∀b,b≠T->h'.get? b=s.heap.get? b)->h'.get? T=Zz { oT with data:=.fields (ts.setIfInBounds 3 .none) }->Q () { s with heap:=h' }):RB M A (Wg (.ref e) Zy) Q E s:=by
 unfold Wg;refine Q0 (UL he hv h1 ?_);rw[Xf (by simp)];refine Se hT dT (Sq.mp mT).1 (k _ (λb hb=>Rs _ _ (SR hb)) ?_);rw[Ry _ hT (Sv (SI dT _)),mu dT];rfl
end
def KQ(e C:Q8)(dx:Option Q8)(hd:Q2)(h:Rm):Prop:=∃oe vs,h.get? e=Zz oe/\oe.cls=.ref C/\oe.dict=dx/\oe.data=.fields vs/\vs[1]?=Zz hd
def PD(T:Q8)(h:Rm):Prop:=∃oT ts,h.get? T=Zz oT/\oT.data=.fields ts/\ts[3]?=Zz .none
noncomputable def G3(e C:Q8)(dx:Option Q8)(hd:Q2):HO:=.ext (KQ e C dx hd)
theorem EV(x:KQ e C dx hd h):cL P w H h e (G3 e C dx hd):=by
 refine⟨x,?_,λd c ⟨a,b,q,r⟩ k=>⟨a,b,k _ q,r⟩⟩;obtain⟨a,b,q,r⟩:=x;exact⟨a,q⟩
theorem F6(ok:lr P w H h)(q:H b=Zz u):∃o,h.get? b=Zz o:=by
 cases u with
 |lst c=>obtain⟨_,_,_,_,z⟩:=ok b _ q;exact⟨_,z⟩
 |tup c=>obtain⟨_,_,_,o,z,_⟩:=ok b _ q;exact⟨_,z⟩
 |dK a=>obtain⟨_,_,_,_,o,_,_,z,_⟩:=ok b _ q;exact⟨_,z⟩
 |dT a=>obtain⟨_,_,_,_,o,_,_,z,_⟩:=ok b _ q;exact⟨_,z⟩
 |set S n=>obtain⟨o,_,_,_,z,_⟩:=ok b _ q;exact⟨_,z⟩
 |ins C dx fs=>obtain⟨_,_,_,z,_⟩:=ok b _ q;exact⟨_,z⟩
 |own y=>exact ok b _ q
 |xd fs=>obtain⟨_,⟨_,_,_,z,_⟩,_⟩:=ok b _ q;exact⟨_,z⟩
 |EO lo hi=>obtain⟨_,_,_,z⟩:=ok b _ q;exact⟨_,z⟩
 |jS ob u=>obtain⟨z,_⟩:=ok b _ q;exact⟨_,z⟩
 |Bt ps=>exact⟨_,ok b _ q⟩
 |met f y=>exact⟨_,ok b _ q⟩
 |ext φ=>obtain⟨_,z,_⟩:=ok b _ q;exact z
theorem zG(ok:lr P w H h)(n:h.get? b=Zy):H b=Zy:=by
 cases q:H b with
 |none=>rfl
 |some u =>
  obtain⟨o,z⟩:=F6 ok q;rw[n]at z;cases z
structure HU (P:Rk) (w:Rz) (fr:List Q8) (H:Hp) (s:Q7) (H':Hp) (e C:Q8) (dx:Option Q8) (s':Q7):Prop where
 os:s'.os=s.os
 bare:VB s'.gens
 un:Un fr [] H H' s.heap s'.heap
 hok:lr P w H' s'.heap
 no:H' e=Zy
 new:s.heap.get? e=Zy
 at':∃hd,KQ e C dx hd s'.heap/\(hd=.none∨∃T,hd=.ref T/\T≠e/\PD T s'.heap)
section
variable{P:Rk}{w:Rz}{M:X8}{A:SH}{E:Q2->Q7->Prop}{s s':Q7}{H H':Hp}{base:Rm}{env:T8}{outer:List T8}{L e C:Q8}{dx:Option Q8}{Q:Unit->Q7->Prop}
theorem land(a:HU P w (frs (env::outer)) H s H' e C dx s')(fre:∀b∈frs (env::outer),H' b=Zy)(hfr:A.frames=Zz (env::outer))(hl:s'.heap.FunFrames base (env::outer))(hf:env.frame=Zz L)(k:∀(h':Rm) (T:Q8),HU P w (frs (env::outer)) H s H' e C dx { s' with heap:=h' }->KQ e C dx (.ref T) h'->PD T h'->T≠e->Q () { s' with heap:=h' }):
  RB M A (WB (.ref e) env) (λ_ s1=>RB M A (Wg (.ref e) Zy) Q E s1) E s':=by
 obtain⟨hd,⟨oe,vs,q1,q2,q3,q4,q5⟩,ah⟩:=a.at';refine Lm hfr hl hf q1 q4 q5 ?_ λh1 N=>?_
 ·rcases ah with rfl|⟨T,rfl,ne,oT,ts,z⟩
  ·exact .inl rfl
  ·exact .inr ⟨T,oT,ts,rfl,ne,z⟩
 obtain⟨T,oT,ts,vs',a1,a2,a3,a4,a5,a6,a7⟩:=N.new;refine HB a6 rfl a7 a3 a4 a5 λh2 k2 hT=>?_
 have neT:∀b o,s'.heap.get? b=Zz o->b≠T:=λb o q z=>by rw[z,a1]at q;cases q
 have kp:=λb o d hbe q=>(k2 b (neT b o q)).trans (N.keep b o d hbe q)
 have sl:∀b o,b∈frs (env::outer)->s'.heap.get? b=Zz o->∃sl,h2.get? b=Zz { o with slots:=sl }:=λb o d q=>by
  obtain⟨sl,z⟩:=N.slot b o d q;exact⟨sl,(k2 b (neT b o q)).trans z⟩
 have nb:∀b o,s.heap.get? b=Zz o->b≠e:=λb o q z=>by rw[z,a.new]at q;cases q
 have xe2:KQ e C dx (.ref T) h2:=⟨_,vs',(k2 e (SR a2)).trans a6,q2,q3,rfl,a7⟩
 have xt2:PD T h2:=⟨_,_,hT,rfl,by simp[(Sq.mp a5).1]⟩
 refine k h2 T ⟨a.os,a.bare,⟨λb o q n d hx=>kp b o d (nb b o q) (a.un.keep b o q n d hx),λb o q n d hx=>?_,a.un.free,λb o q hx=>?_,a.un.tups,a.un.bX,a.un.jF⟩,λb u q=>?_,a.no,a.new,_,xe2,.inr ⟨T,rfl,a2,xt2⟩⟩ xe2 xt2 a2
 ·obtain⟨s1,e1⟩:=a.un.slot b o q n d hx
  obtain⟨s2,e2⟩:=sl b _ d e1;exact⟨s2,e2⟩
 ·obtain⟨o',e1⟩:=a.un.there b o q hx
  by_cases d:b∈frs (env::outer)
  ·obtain⟨s2,e2⟩:=sl b _ d e1
   exact⟨_,e2⟩
  ·exact⟨_,kp b o' d (nb b o q) e1⟩
 ·refine(a.hok b u q).stay (λc v g r=>kp c v ?_ ?_ r) (λ_ z=>z) λ_ _ z=>z
  ·intro hm
   rcases g with rfl|g
   ·rw[fre _ hm]at q;cases q
   ·rw[fre _ hm]at g;cases g
  ·rintro rfl
   rcases g with rfl|g
   ·rw[a.no]at q;cases q
   ·rw[a.no]at g;cases g
theorem Ep(a:HU P w (frs (env::outer)) H s H' e C dx s')(fre:∀b∈frs (env::outer),H' b=Zy)(g:A.frames=Zz (env::outer))(hl:s'.heap.FunFrames base (env::outer))(hf:env.frame=Zz L)(k:∀h':Rm,HU P w (frs (env::outer)) H s H' e C dx { s' with heap:=h' }->Q () { s' with heap:=h' }):RB M A (leaving env (.ref e)) Q E s':=by
 unfold leaving;exact Q0 (land a fre g hl hf λh' T a' _ _ _=>k h' a')
end
inductive ux (P:Rk) (w:Rz) (outer:List T8) (H:Hp) (s:Q7) (E:XK) (ev:Q2) (s':Q7):Prop where
 |mk (e C dx H') (_:ev=.ref e) (_:HU P w (frs outer) H s H' e C dx s') (_:E (.ref C) dx H')
def Lk(X:Cx)(xr:XR):Prop:=∀(pins:List (Q8×Obj)) (σ:L2.St) (H:Hp) (s:Q7) (H':Hp) (e:Q8) (dx:Option Q8) (s':Q7) (cm:List Q8) (m:Mem) (x:Exc),Inv X pins σ H s ->
 HU X.prog X.w (frs X.stack) H s H' e x.cls dx s'->aE X.K cm m H'->XF X.K cm m H' x.nms x.FY dx->xr x cm m H'->X.xe (.ref e) s'
theorem Qi{X:Cx}:Lk X M6:=λ_ _ _ _ _ _ _ _ _ _ _ _ _ _ _ h=>h.elim
noncomputable abbrev asX(X:Cx)(xe:Q2->Q7->Prop)(pn:List (Q8×Obj)):Cx:={ X with xe:=xe,pn:=pn }
structure Go (X:Cx) (xr:XR):Prop where
 lk:Lk X xr
 po:Wa (RC X.prog X.w) X.A X.env X.xe
section
variable{K:Rf}{cm cm':List Q8}{m m':Mem}{H H' H'':Hp}{X:Cx}
variable(K) in
def OU(E:XK):XR:=λx cm m H=>∀dx,XF K cm m H x.nms x.FY dx->E (.ref x.cls) dx H
variable(K) in
inductive EX (xr:XR) (cls:Q2) (dx:Option Q8) (H:Hp):Prop where
 |mk (cm m x) (_:aE K cm m H) (_:cls=.ref x.cls) (_:XF K cm m H x.nms x.FY dx) (_:xr x cm m H)
theorem Lk.passes{xr:XR}(h:Lk X xr):BJ (ux X.prog X.w) X (EX X.K xr):=λa σ H s l c I ⟨e,C,i,k,f,b,j,m,x,M,g,d,q⟩=>by
 subst f;cases g;exact h a σ H s k e i c j m x I b M d q
theorem aX.Nx{α:Type}{r:Res α}{xr xr':XR}{k:α->List Q8->Mem->Hp->Prop}(h:aX K r xr cm m H k)(f:∀x cm' m' H',dQ cm m H cm' m' H'->aE K cm' m' H'->xr x cm' m' H'->xr' x cm' m' H'):aX K r xr' cm m H k:=by
 cases r with
 |ok a m2=>exact h
 |exc a m2=>exact λc h' e M=>f _ _ _ _ e M (h c h' e M)
 |stuck=>exact h
theorem aX.Qw{α:Type}{r:Res α}{xr:XR}{k:α->List Q8->Mem->Hp->Prop}(h:aX K r xr cm m H k):aX K r (OU K (EX K xr)) cm m H k:=
 h.Nx λx a b e _ M q d c=>⟨a,b,x,M,rfl,c,q⟩
theorem IM{fs:List Q8}{s r p:Hp}{k o m:Rm}{L:Q8}(a:Un fs [] s r k o)(b:Un (L::fs) [] r p o m)(w:k.get? L=Zy):Un fs [] s p k m where
 keep:=λc d q n h e=>b.keep c d (a.keep c d q n h e) (a.free c d q n e) (λz=>(R6.mp z).elim (λz=>by rw[z,w]at q;cases q) h) e
 slot:=λc d q n h e=>by
  obtain⟨x,f⟩:=a.slot c d q n h e;obtain⟨i,l⟩:=b.slot c _ f (a.free c d q n e) (R5 _ h) e;exact⟨i,l⟩
 free:=λc d q n e=>by
  obtain⟨j,f⟩:=a.there c d q e;exact b.free c j f (a.free c d q n e) e
 there:=λc d q e=>by
  obtain⟨j,f⟩:=a.there c d q e;exact b.there c j f e
 tups:=λc g q=>b.tups c g (a.tups c g q)
 bX:=λc d g q=>b.bX c d g (a.bX c d g q)
 jF:=λc t q=>by
  obtain⟨v,f⟩:=a.jF c t q;obtain⟨u,l⟩:=b.jF c _ f;exact⟨v++u,by rw[l,Vc]⟩
end
theorem Inv.EM{X:Cx}{c:List (Q8×Obj)}{σ:L2.St}{H f:Hp}{s s':Q7}{e C:Q8}{g:Option Q8}(I:Inv X c σ H s)(a:HU X.prog X.w (frs X.stack) H s f e C g s'):Inv X c σ f s':=
 I.call' a.os a.un a.hok a.bare λb z=>Xk z (by simp)
theorem Ib{P:Rk}{w:Rz}{K:Rf}{n:Str->Option Q2}{g:Rm}{N:List Str}{c:Str}{scope:VF}{f:Q8}{r:Q2}{A:SH}{b:List T8}{s:Q7}{H:Hp}{E:XK}:
  Go (kh (ux P w) P w K n g N c scope f r A b s H E) (OU K E):=by
 refine⟨λk σ F u t e l v D m x I a M p q=>?_,PassesOwn.leaving⟩;have i:=Inv.EM I a;have d:s.heap.get? e=Zy:=by
  cases y:s.heap.get? e with
  |none=>rfl
  |some o =>
   obtain⟨B,j⟩:=I.base.there e o y (by intro z;cases z);rw[a.new]at j;cases j
 refine Ep a i.qg i.ok.frames i.stack rfl λC h=>?_
 exact⟨e,x.cls,l,t,rfl,⟨i.os,h.bare,IM I.base h.un (Ta (R1 _)),h.hok,h.no,d,h.at'⟩,q l p⟩
theorem H8{P:Rk}{w:Rz}{K:Rf}{mg:Str->Option Q2}{base:Rm}{x c:Str}{st:Rv}{f:Q8}{fd:Tb}{N ps:List Str}{k:Nat}{sp:Sp}(F:HV K x c st f fd)(S:av N ps (ai st))(len:∀vs H Q E,sp vs H Q E->vs.length=ps.length)(hbody:∀(cdv:Q2),codeIn K cdv c=true->∀(A:SH) (a:List T8) (s:Q7) (H:Hp) (vs:List V) (Q:VK) (E:XK),iQ (k+1) A->lr P w H s.heap->sp vs H Q E ->
  ∃t,du (kh (ux P w) P w K mg base N c (ai st) f cdv A a s H E) (bR st) t/\t { nx:=λ_ H'=>Q .non H',rt:=Q } (start N vs) H):oo P w K mg base (ux P w) (k+1) f fd ps sp:=by
 obtain⟨oc,od,kV,doc,pm,an,cdv,ct,osl,rfl,lk,hcd⟩:=F.ex;exact N4 lk hcd S len λA a s H vs Q E hr hk hsp=>hbody cdv hcd A a s H vs Q E hr hk hsp
end Mi
namespace Mi
open PySem PySem.Spec PyProof.Rows L2 PySem.W PySem.Builtin.ObjectAttr
section
variable{prog:Rk}{w:Rz}{A:SH}{R:Result->Q7->Prop}{h:Rm}{g:Array GenState}{d:Drawn}{t:Nat}{os:OsState}
variable{nm q:Str}{C N f:Q8}{bs bm bmB:List Q2}{hdct:Bool}{sn:List Str}{sub:List Q2}{ab:Bool}{col:Option Bool}{dd:Option Q8}{k0 k1 k2 k3 k5:Option Q2}{B newId initId:String}
noncomputable abbrev newX(C t:Q8):Obj:={ cls:=.ref C,data:=.fields #[.ref t,.none,.none,.none,.bool false,.none] }
noncomputable abbrev wW(us:List Q2):Obj:={ cls:=.type "tuple",data:=.seq us.toArray }
theorem LG(F:ExcBaseFacts B newId initId bmB)(T:OwnTail h bmB bm)(hC:h.get? C=Zz (excClassObj nm q C N bs bm hdct sn sub ab col dd k0 k1 k2 k3 k5 newId))(hi:XS (RC prog w) h (WG (.ref C) "__init__") (Zz (.ref f)))(hb:∀self,XS (RC prog w) h (bindSpecial (.ref f) self) (.ref f,[self]))(hq:Tc (RC prog w) (A.under (.builtin "type.__call__" ⟨.ref C::us,[]⟩)) (.call (.ref f) ⟨.ref (h.objs.size+1)::us,[]⟩) (InitBack (h.objs.size+1) R) ⟨(h.push (wW us)).push (newX C h.objs.size),g,d,t,os⟩)(hz:us.length<=RP):Tc (RC prog w) A (.call (.ref C) ⟨us,[]⟩) R ⟨h,g,d,t,os⟩:=by
 have f1:=tc_lookup;have f2:=tc_bind (.ref C);have hT:(⟨h,g,d,t,os⟩:Q7).TypeIs (.ref C) "type":=⟨_,hC,rfl⟩
 refine Uh ?_;show RB _ _ (callAny (.ref C) _) _ _ _
 repeat (any_goals (first|assumption|with_reducible refine V1 hC ?_|wp_step))
 refine RX rfl (codeAny_call_builtin_at (Vl _ (by decide +kernel)) entry_typeCall (wpAny_check_type_call_sub hC ?_))
 repeat (first|with_reducible refine wpAny_madeBy_exc hC ?_|with_reducible refine V1 hC ?_|wp_step)
 refine codeAny_call_builtin_code (Vl _ F.quiet) (wpAny_check_new_subT F T hC (codeAny_exc_new_subT F T hC ?_ hz));show RB (RC prog w) (A.under (.builtin "type.__call__" ⟨.ref C::us,[]⟩)) _ _ _ ⟨(h.push (wW us)).push (newX C h.objs.size),g,d,t,os⟩;have k:∀b o,h.get? b=Zz o->((h.push (wW us)).push (newX C h.objs.size)).get? b=Zz o:=λb o e=>Q6 _ (Q6 _ e)
 have hC1:=k _ _ hC;have hx:((h.push (wW us)).push (newX C h.objs.size)).get? (h.objs.size+1)=Zz (newX C h.objs.size):=by heap_get
 have hcC:(SV C::bm).contains (.ref C)=true:=by simp
 have i1:=hi.keeps k;have b1:=(hb (.ref (h.objs.size+1))).keeps k;have t1:XS (RC prog w) ((h.push (wW us)).push (newX C h.objs.size)) (typeOf (.ref (h.objs.size+1))) (.ref C):=(Looks.ld hx).andThen .now;have s1:XS (RC prog w) ((h.push (wW us)).push (newX C h.objs.size)) (isSubtype (.ref C) (.ref C)) true:=λA Q E s kk q0=>wpAny_isSubtype_exc (kk _ _ hC1) (by rw[hcC];exact q0)
 clear hT hC hC1 hi hb T;unfold XE callSpecial? specialOf;repeat (first|with_reducible refine Vg ?_|lk)
 refine Td hq λr s' z=>?_
 rcases r with e|(v|_|_|_)
 ·exact z
 ·exact z.elim
 ·exact z.elim
 ·exact z.elim
 ·obtain⟨rfl,z⟩:=z;exact Q5 (Q5 z)
end
noncomputable def uU:List Q2->Bool
 |.ref _::r=>uU r
 |l=>l==[.type "ValueError",.type "Exception",.type "BaseException",.type "object"]
noncomputable def GW(K:Rf)(C:Q8):Bool:=(clsIn K C).any λcd=>uU cd.mro
theorem xK(a:Q2):∀{l:List Q2},uU l=true->refuseLoop a "__setattr__" l=pure ()
 |l,e=>by
  unfold uU at e;split at e
  ·rw[refuseLoop_ref];exact xK a e
  ·rw[eq_of_beq e];exact PySem.F.store_ValueError.passes a
theorem Kv:∀{l:List Q2},uU l=true->l.contains (.type "object")=true
 |l,e=>by
  unfold uU at e;split at e
  ·rw[List.contains_cons,Kv e,V2]
  ·rw[eq_of_beq e];decide
theorem NR{E:Q2->Q7->Prop}{K:Rf}(X:K.In s.heap)(u:s.heap.get? x=Zz ox)(M:ox.cls=.ref C)(g:ox.dict=Zy)(B:ox.data=.fields vs)(hs:findIn K (.ref C) "__setattr__" = Zz (Zz (.builtin "object.__setattr__")))(ho:GW K C=true)(hn:findIn K (.ref C) name=Zz Zy)(hh:W7 K C=true)(k:∀(h':Rm) (tk:Nat),h'.Ns1 s.heap.objs.size (λy=>if y=name then Zz v else Zy)->h'.get? x=Zz { ox with dict:=Zz s.heap.objs.size }->(∀b o,b≠x->s.heap.get? b=Zz o->h'.get? b=Zz o)->Q () { s with heap:=h',toks:=tk }):
  RB (RC prog w) A (setAttr (.ref x) name v) Q E s:=by
 have nc:notCls ox=true:=by unfold notCls;rw[B]
 have I:InstAt s.heap x ox C Zy:=⟨u,M,nc,by rw[g];trivial⟩
 refine set_plain X I hs ?_;have t:=PySem.F.store_object;obtain⟨cd,p,f⟩:=Wv ho;have z:XS (RC prog w) s.heap (XE (.ref x) (.type "object")) true:=I.type.andThen (looks_mroIn X (by
  unfold mroIn;rw[p,Rw,Xg ?_,Kv f];cases q:cd.mro with
  |nil=>rw[q]at f;exact Xk f (by decide)
  |cons a r=>simp))
 refine VG t.slot.plain t.entry (@check_slot (RC prog w) _ _ { s with toks:=s.toks+1 } "object.__setattr__" "object" "__setattr__" (.ref x) [.str name s.toks,v] [] _ t.kind t.split z (t.args (.ref x) (.str name s.toks) v) ?_);rw[osa_eq,refuse_eq];refine Q0 (Q0 (I.type.here (s:={ s with toks:=s.toks+1 }) (Q0 (XG ((looks_clsIn X p).andThen .now) ?_))));rw[xK _ f];refine Q5 (Q0 (I.type.here (s:={ s with toks:=s.toks+1 }) (Q0 (XG (WK X hn) (Q0 (Q5 ?_))))));obtain⟨oc,od,odt,h⟩:=ox;dsimp only at M g B;subst M g B;obtain⟨cd2,n,H⟩:=Wv hh;refine Q0 (Q5 (Q0 (Q0 (wpAny_loadPart u (Q0 (XG (looks_clsIn X n) ?_))))));rw[H];have j:(s.heap.push { cls:=.type "dict",data:=.dict #[] }).get? x=Zz ⟨.ref C,Zy,.fields vs,h⟩:=Q6 _ u;have i:=Rc (RH u);refine Q0 (wpAny_alloc' ?_);refine Q0 (wpAny_update' j ?_);refine Q5 ?_;generalize hG:((s.heap.push { cls:=.type "dict",data:=.dict #[] }).update x λo=>{ cls:=o.cls,dict:=Zz s.heap.objs.size,data:=o.data,slots:=o.slots })=G;have gd:G.get? s.heap.objs.size=Zz { cls:=.type "dict",data:=.dict #[] }:=by
  rw[<-hG];exact(Heap.get?_update_ne _ _ _ _ i.symm).trans (Heap.get?_push_at rfl rfl)
 have gx:G.get? x=Zz ⟨.ref C,Zz s.heap.objs.size,.fields vs,h⟩:=by
  rw[<-hG];exact Ry _ j rfl
 have gb:∀b o,b≠x->s.heap.get? b=Zz o->G.get? b=Zz o:=λb o N q=>by
  rw[<-hG];exact(Heap.get?_update_ne _ _ _ _ N).trans (Q6 _ q)
 have gn:G.Ns s.heap.objs.size (λ_=>Zy):=⟨_,#[],_,gd,rfl,λe he=>Xk he (by simp),λ_=>rfl⟩
 unfold storeInDict newKeyGuard;refine Q0 (Q5 (Q0 (wpAny_nsSet1 (Heap.Ns1.of_empty gn) λh' m l=>?_)));obtain⟨oD,esD,epD,D,J,L⟩:=m.count (Within.cons name v Within.nil);refine Q0 (wpAny_lookBehind D (by rw[J];exact pastItsLine_dict (Re L (by rw[RN,S2,SW];omega))) ?_);refine Q5 (k h' _ m ((l.2 x i).trans gx) λb o N q=>(l.2 b (Rc (RH q))).trans (gb b o N q))
structure Mx (K:Rf) (C:Q8) (f:Str):Prop where
 sa:findIn K (.ref C) "__setattr__" = Zz (Zz (.builtin "object.__setattr__"))
 ov:GW K C=true
 na:findIn K (.ref C) f=Zz Zy
 hd:W7 K C=true
noncomputable def lf(H:Hp)(e C d:Q8)(f:Str)(y:V):Hp:=upd (upd H d (.xd [(f,y)])) e (G3 e C (Zz d) .none)
theorem JQ(ok:lr P w H h)(j:H e=Zz (G3 e C dx hd))(p:h.get? d=Zy)(x:RelV y u)(D:h'.Ns1 d (λz=>if z=f then Zz u else Zy))(s:KQ e C (Zz d) .none h')(k:∀b o,b≠e->h.get? b=Zz o->h'.get? b=Zz o):lr P w (lf H e C d f y) h'/\Un fs [] H (lf H e C d f y) h h':=by
 have l:=zG ok p;have I:d≠e:=λz=>by rw[z,j]at l;cases l
 have a:∀b u,H b=Zz u->b≠e->lf H e C d f y b=Zz u:=λb u q n=>by unfold lf;rw[aI n,aI (λz=>by rw[z,l]at q;cases q)];exact q
 have i:∀b u,H b=Zz u->(∀φ,u≠.ext φ)->b≠e:=λb u q n z=>by rw[z,j]at q;cases q;exact n _ rfl
 refine⟨λb u q=>?_,⟨λb o q n _ _=>k b o (λz=>by rw[z,j]at n;cases n) q,λb o q n _ _=>⟨o.slots,k b o (λz=>by rw[z,j]at n;cases n) q⟩,λb o q n _=>?_,λb o q _=>?_,λb t q=>a b _ q (i b _ q λ_ z=>by cases z),λb o u q=>a b _ q (i b _ q λ_ z=>by cases z),λb G q=>⟨#[],by rw[a b _ q (i b _ q λ_ z=>by cases z)];simp⟩⟩⟩
 ·by_cases h1:b=e
  ·subst h1
   unfold lf at q;rw[bx]at q;cases q;exact EV s
  ·by_cases h2:b=d
   ·subst h2
    unfold lf at q;rw[aI h1,bx]at q;cases q;refine⟨_,D,λg=>?_⟩;by_cases hg:g=f
    ·subst hg
     simp only[Xf,WV,beq_self_eq_true];exact x
    ·have E:=Xj.mpr hg
     simp only[Xg hg,WV,E]
     trivial
   ·have A:H b=Zz u:=by unfold lf at q;rw[aI h1,aI h2]at q;exact q
    refine(ok b u A).stay (λc v m r=>k c v ?_ r) (λc r=>a c _ r (i c _ r λ_ z=>by cases z)) λc t r=>a c _ r (i c _ r λ_ z=>by cases z)
    rcases m with rfl|m
    ·exact h1
    ·exact i c _ m λ_ z=>by cases z
 ·unfold lf
  rw[aI (λz=>by rw[z,j]at n;cases n),aI (λz=>by rw[z,p]at q;cases q)];exact n
 ·by_cases h1:b=e
  ·subst h1
   obtain⟨B,F,z,_⟩:=s;exact⟨B,z⟩
  ·exact⟨o,k b o h1 q⟩
def Ky(K:Rf)(ta tv:TE)(f:Str):TS:=λD σ H=>tv σ H λy H1=>ta σ H1 λx H2=>∃a C,x=.ref a/\H2 a=Zz (G3 a C Zy .none)/\Mx K C f/\∀d,H2 d=Zy->D.nx σ (lf H2 a C d f y)
theorem Km(J:PE X o ta)(E:PE X value tv)(F:V4 value (Zz (.Attribute o f pos')) pos.line X.env=pure false:=by rfl):PS X (.Assign [.Attribute o f pos'] value pos) (Ky X.K ta tv f):=by
 intro b s σ H D I h;refine plainObj_wpAny_Assign_Attribute (bY (E b s σ H _ I h) λu p ⟨y,Q,P,r,q⟩=>bY (J b p σ Q _ P q) λw e ⟨x,T,c,t,a,C,L,i,d,v⟩=>?_) F;subst L;obtain rfl:w=SV a:=t;obtain⟨⟨R,l,O,k,N,j,M⟩,_⟩:=c.hok a _ i;refine NR c.li O k N j d.sa d.ov d.na d.hd λS n G B A=>?_
 have g:e.heap.get? e.heap.objs.size=Zy:=Ta (R1 _);obtain⟨z,m⟩:=JQ c.hok i g r G ⟨_,l,B,k,rfl,j,M⟩ A;exact⟨σ,_,c.un (t':=n) m z,v _ (zG c.hok g)⟩
end Mi
namespace Mi
open PySem PySem.Spec PyProof.Rows L2
inductive Hq (K:Rf) (fns:List Fn) (gv:List T) (k f:Nat) (vs:List V) (H:Hp) (Q:VK) (E:XK):Prop where
 |mk (cm m ws) (_:aE K cm m H) (_:zX K cm m H ws vs) (_:aX K (fU fns gv k f ws m) (OU K E) cm m H λw cm' m' H'=>∀v,RW K cm' m' H' w v->Q v H')
inductive dL (P:Rk) (w:Rz) (K:Rf) (mg:Str->Option Q2) (base:Rm) (fns:List Fn) (gv:List T) (k:Nat) (x:Str) (fi:Nat)  : Prop where
 |mk (f fd ps) (_:mg x=Zz (.ref f)) (_:keepIn K (.ref f)=true) (_:Binds K fd ps []) (_:oo P w K mg base (ux P w) k f fd ps (Hq K fns gv k fi))
section
variable{K:Rf}{cm cm':List Q8}{m m':Mem}{H H':Hp}{X:Cx}{fns:List Fn}{gv:List T}
variable{a b c e:Rq}{es:List Rq}{ea eb ec:E}{eas:Es}{pos p p2:Pos}{k n:Nat}
theorem Fy(o:Lk X xr)(F:dL X.prog X.w X.K X.mg X.base fns gv k x fi)(q:iQ k X.A)(t:Gl X x)(y:PA X (e::es) (tA X.K (fU fns gv k) gv xr eas))(c:(x==("__debug__" : Str))=false:=by decide)(u:notStar e=true:=by rfl)(b:es.all notStar=true:=by rfl):
  PE X (.Call (.Name x p) (e::es) [] pos) (tE X.K (fU fns gv k) gv xr (.call fi eas)):=by
 obtain⟨f,I,G,r,s,v,F⟩:=F;refine PE.mono (I9 F q t r s v .nil o.passes y c (bH u) (ef b)) ?_;rintro σ H Q ⟨d,B,m,z,M,h⟩;rw[ev]at h;refine⟨d,B,m,z,M,h.bind.mono λi g n D E C l j a=>?_⟩;show Hq X.K fns gv k fi (j++[]) D Q (EX X.K xr);rw[RY];exact⟨g,n,i,C,a,l.Qw⟩
theorem fN{c:Bool×List T}(h:(m.take n)[i]?=Zz (Zz c)):m[i]?=Zz (Zz c)/\i<n:=by
 rw[Vn]at h;split at h
 ·exact⟨h,‹_›⟩
 ·cases h
theorem dr(h:i<n):(cm.take n)[i]?=cm[i]?:=by rw[Vn,Xf h]
theorem je{a:Q8}(h:ba cm m a):ba (cm.take n) (m.take n) a:=λi q e=>by
 obtain⟨c,b⟩:=fN e;rw[dr b];exact h i q c
theorem Gf(M:aE K cm m H)(n:Nat):aE K (cm.take n) (m.take n) H/\∀t v,RT K cm m H t v->RT K (cm.take n) (m.take n) H t v:=by
 have sm:∀t v,RT K cm m H t v->RT K (cm.take n) (m.take n) H t v:=λt v r=>r.same (λ_ _ z=>z) λ_ z _=>je z
 refine⟨⟨by rw[Rn,Rn,M.len],λi j a q r b e2 f1 f2=>?_,λi q e=>?_,M.tab⟩,sm⟩
 ·obtain⟨b,d⟩:=fN b
  obtain⟨e2,h2⟩:=fN e2;rw[dr d]at f1;rw[dr h2]at f2;exact M.inj i j a q r b e2 f1 f2
 ·obtain⟨b,d⟩:=fN e
  obtain⟨a,vs,q1,q2,q3,q4⟩:=M.at' i q b;exact⟨a,vs,by rw[dr d];exact q1,q2,q3,aO (λ_ _ z=>sm _ _ z) q4⟩
theorem Gn(M:aE K cm m H)(x:dQ cm m H cm' m' H'):dQ cm m H (cm'.take m.length) (m'.take m.length) H':=by
 refine⟨λi a h=>?_,by rw[Rn];have:=x.len;omega,λi c h=>?_,λa o h n=>⟨(x.keep a o h n).1,je (x.keep a o h n).2⟩⟩
 ·have b:=(R0.mp h).1
  rw[M.len]at b;rw[dr b];exact x.pre i a h
 ·have b:=(R0.mp h).1
  rw[Vn,Xf b];exact x.lent i c h
theorem Lp(M:aE K cm m H)(x:dQ cm m H cm' m' H')(M':aE K cm' m' H')(ho:aX K (fin m.length cell fl m') xr cm m H λw cm' m' H'=>∀v,RW K cm' m' H' w v->Q v H'):
  mv K nn { nx:=λ_ H'=>Q .non H',rt:=Q } fl cm' m' H':=by
 obtain⟨Mt,st⟩:=Gf M' m.length;have xt:=Gn M x;cases fl with
 |next env=>exact λσ _ _=>aX.to ho xt Mt _ .non
 |ret w =>
  intro v rv;cases w with
  |t t=>exact aX.to ho xt Mt v (st t v rv)
  |x _ _ _=>exact ho.elim
  |c i =>
   unfold fin at ho;dsimp only at ho;split at ho
   ·rename_i hi
    obtain⟨a,h1,h2⟩:=rv;exact aX.to ho xt Mt v ⟨a,by rw[dr hi];exact h1,h2⟩
   ·rename_i hi
    split at ho
    ·rename_i ts e
     obtain⟨a,h1,h2⟩:=rv;obtain⟨a',vs,q1,q2,q3,q4⟩:=M'.at' i _ e;rw[h1]at q1;cases q1;have na:ba (cm'.take m.length) (m'.take m.length) a:=λj q ej z=>by
      obtain⟨ej,hj⟩:=fN ej;rw[dr hj]at z;have:=M'.inj j i a _ _ ej e z h1;omega
     have lt:(cm'.take m.length).length=m.length:=by rw[Rn,M'.len];have:=x.len;omega
     have lm:(m'.take m.length).length=m.length:=by rw[Rn];have:=x.len;omega
     split at ho
     ·-- a list that may change is handed back
      have nl:∀b,ba cm' m' b->ba (cm'.take m.length++[a]) (m'.take m.length++[Zz (false,ts)]) b:=λb n=>by
       refine o9 (by rw[lt,lm]) (je n) λz=>?_
       subst z;exact n i _ e h1
      have sm:∀t v,RT K cm' m' H' t v->RT K (cm'.take m.length++[a]) (m'.take m.length++[Zz (false,ts)]) H' t v:=λt v r=>r.same (λ_ _ z=>z) λb z _=>nl b z
      have cs:∀{j:Nat}{c:Bool×List T},(m'.take m.length++[Zz (false,ts)])[j]?=Zz (Zz c)->((m'.take m.length)[j]?=Zz (Zz c)/\j<m.length)∨(j=m.length/\c=(false,ts)):=λ{j c} ej=>by
       by_cases hj:j<m.length
       ·rw[RR (by rw[lm];exact hj)]at ej
        exact .inl ⟨ej,hj⟩
       ·by_cases hj2:j=m.length
        ·subst hj2
         rw[RZ (by rw[lm];exact R1 _),lm,Th]at ej;cases ej;exact .inr ⟨rfl,rfl⟩
        ·rw[Sw (by rw[R7,lm];simp;omega)]at ej
         cases ej
      have cl:∀{j:Nat},j<m.length->(cm'.take m.length++[a])[j]?=(cm'.take m.length)[j]?:=λ{j} hj=>RR (by rw[lt];exact hj)
      have cp:(cm'.take m.length++[a])[m.length]?=Zz a:=by
       rw[RZ (by rw[lt];exact R1 _),lt,Th];rfl
      refine aX.to (cm':=cm'.take m.length++[a]) ho ⟨λj b h=>?_,by rw[R7,lm];simp,λj us h=>?_,λb o h nb=>⟨(x.keep b o h nb).1,nl b (x.keep b o h nb).2⟩⟩ ⟨by rw[R7,R7,lt,lm];rfl,λj1 j2 b c1 c2 e1 e2 f1 f2=>?_,λj c ej=>?_,M'.tab⟩ v ⟨a,cp,h2⟩
      ·have hj:=(R0.mp h).1
       rw[M.len]at hj;rw[cl hj];exact xt.pre j b h
      ·have hj:=(R0.mp h).1
       rw[RR (by rw[lm];exact hj)];exact xt.lent j us h
      ·rcases cs e1 with⟨g1,l1⟩|⟨k1,_⟩
       ·rw[cl l1]at f1
        rcases cs e2 with⟨g2,l2⟩|⟨k2,_⟩
        ·rw[cl l2]at f2
         exact Mt.inj j1 j2 b _ _ g1 g2 f1 f2
        ·rw[k2,cp]at f2;cases f2
         exact Xk f1 (na j1 _ g1)
       ·rw[k1,cp]at f1;cases f1
        rcases cs e2 with⟨g2,l2⟩|⟨k2,_⟩
        ·rw[cl l2]at f2
         exact Xk f2 (na j2 _ g2)
        ·rw[k1,k2]
      ·rcases cs ej with⟨g,l⟩|⟨kk,z⟩
       ·obtain⟨gg,_⟩:=fN g
        obtain⟨b,ws,w1,w2,w3,w4⟩:=M'.at' j c gg;exact⟨b,ws,by rw[cl l,dr l];exact w1,w2,w3,aO (λ_ _ z=>sm _ _ z) w4⟩
       ·rw[kk,z]
        exact⟨a,vs,cp,q2,q3,aO (λ_ _ z=>sm _ _ z) q4⟩
     ·subst h2
      exact aX.to ho xt Mt _ (RT.Ld q2 na (aO (λ_ _ z=>st _ _ z) q4))
    ·exact ho.elim
theorem Ja(r:zX K cm m H ws vs)(f:j=N.length-vs.length):bq K cm m H (ws.map Zz++R4 j Zy) (L2.start N vs):=λi w e=>by
 unfold L2.start;have d:=r.length;by_cases hi:i<ws.length
 ·rw[RR (by simpa using hi),Rh]at e
  cases q:ws[i]? with
  |none=>rw[q]at e;cases e
  |some c =>
   rw[q]at e;cases e;obtain⟨v,b,a⟩:=dq r q;refine⟨v,?_,a⟩;rw[RR (by rw[Q4];omega),Rh,b];rfl
 ·rw[RZ (by simpa using hi),SA]at e
  split at e<;>cases e
theorem Ef(h:vs.length<=N.length):(L2.start N vs).length=N.length:=by
 unfold L2.start;rw[R7,Q4,S7];omega
theorem KY{st:Rv}(F:HV K x qual st f fd)(S:av N ps (ai st))(hd:fns[fi]?=Zz d)(hps:d.ps=ps.length)(hn:d.n=N.length)(hbody:∀(c:Q2),codeIn K c qual=true->∀(A:SH) (a:List T8) (s:Q7) (H:Hp) (E:XK),iQ (k+1) A->∀(xe:Q2->Q7->Prop) (pn:List (Q8×Obj)) (xr:XR),
   Go (asX (kh (ux P w) P w K mg base N qual (ai st) f c A a s H E) xe pn) xr->du (asX (kh (ux P w) P w K mg base N qual (ai st) f c A a s H E) xe pn) (bR st) (tS K (fU fns gv k) gv xr N.length d.body)):
  oo P w K mg base (ux P w) (k+1) f fd ps (Hq K fns gv (k+1) fi):=by
 have hpl:ps.length<=N.length:=by have:=congrArg Rg S.pre;rw[Rn]at this;omega
 have len:∀{ws:List W}{m:Mem}{cm:List Q8}{H:Hp}{xr:XR}{post:W->List Q8->Mem->Hp->Prop},aX K (fU fns gv (k+1) fi ws m) xr cm m H post->ws.length=d.ps/\aX K ((ex (fU fns gv k) gv d.body (ws.map Zz++R4 (d.n-d.ps) Zy) m).bind λfl m'=>fin m.length d.cell fl m') xr cm m H post:=λ{ws m cm H xr post} h=>by
  rw[fU,hd]at h;dsimp only at h;by_cases hc:ws.length=d.ps
  ·rw[Xf hc]at h;exact⟨hc,h⟩
  ·rw[Xg hc]at h;exact h.elim
 refine H8 F S (λvs H Q E ⟨cm,m,ws,M,r,ho⟩=>by rw[<-r.length,(len ho).1,hps]) (λc hcd A a s H vs Q E hr hk ⟨cm,m,ws,M,r,ho⟩=>?_);obtain⟨hl,ho⟩:=len ho;have hv:vs.length=ps.length:=by rw[<-r.length,hl,hps]
 refine⟨_,hbody c hcd A a s H E hr _ _ (OU K E) Ib,Ef (by omega),ws.map Zz++R4 (d.n-d.ps) Zy,cm,m,Ja r (by rw[hn,hps,hv]),M,?_⟩;exact ho.KP.mono λfl cm1 m1 H1 x1 M1 o1=>Lp M x1 M1 o1
theorem KU{st:Rv}(F:HV K x qual st f fd)(S:av N ps (ai st))(l:fns[fi]?=Zz d)(e:d.ps=ps.length)(j:d.n=N.length)(c:∀(b:Q2) (A:SH) (a:List T8) (s:Q7) (H:Hp) (E:XK),iQ k (A.deeper (envOfC qual (ai st) s.heap.objs.size f b))->∀(g:Q2->Q7->Prop) (h:List (Q8×Obj)) (xr:XR),
   Go (asX (kh (ux P w) P w K mg base N qual (ai st) f b A a s H E) g h) xr->du (asX (kh (ux P w) P w K mg base N qual (ai st) f b A a s H E) g h) (bR st) (tS K (fU fns gv k) gv xr N.length d.body)):
  oo P w K mg base (ux P w) (k+1) f fd ps (Hq K fns gv (k+1) fi):=
 KY F S l e j λb _ A a s H E i=>c b A a s H E (i.deeper _)
theorem Jq:oo P w K mg base (ux P w) 0 f fd ps (Hq K d gv 0 fi):=by
 have e:∀a H Q E,¬Hq K d gv 0 fi a H Q E:=λa H Q E ⟨cm,m,ws,M,r,g⟩=>by
  rw[fU]at g;exact g
 exact⟨λa H Q E h=>Xk h (e a H Q E),λA c s H args us a Q E _ _ _ _ h=>Xk h (e a H Q E)⟩
end
end Mi
namespace Mi
open PySem PySem.Spec PyProof.Rows L2 PySem.W
theorem HA{K:Rf}{st:Rv}(F:HV K x qual st f fd)(S:av [a,b] [a,b] (ai st))(hb:bR st=[.Assign [.Attribute (.Name a p1) nm p2] (.Name b p3) p4])(bd:Binds K fd [a,b] [])(xs:Mx K C nm)(l:A.handled=Zy)(k:A.depth<Vf)(e0:yE P w K mg base A outer s H)(he:H e=Zz (G3 e C Zy .none))(rv:RelV v u)(ha:(a==("__debug__" : Str))=false)(hb':(b==("__debug__" : Str))=false)(ha2:(a==("__classdict__" : Str))=false)(hb2:(b==("__classdict__" : Str))=false):
  Tc (RC P w) A (.call (.ref f) ⟨[.ref e,u],[]⟩) (λr h=>r=.ok (.ret .none)/\∃d,H d=Zy/\h.os=s.os/\VB h.gens/\Un (frs outer) [] H (lf H e C d nm v) s.heap h.heap/\lr P w (lf H e C d nm v) h.heap) s:=by
 obtain⟨oc,od,kV,doc,pm,an,m,ct,osl,rfl,lk,hcd⟩:=F.ex;have KX:=e0.mod.Ow.keeps λb o e=>(e0.bs b o e).1
 have t:=e0.mod.nolimit.keeps λb o e=>(e0.bs b o e).1
 have r:Vals [V.ref e,v] [SV e,u]:=.cons rfl (.cons rv .nil);have g:∀y∈[a,b].zip [SV e,u],(ai st).names.lookup y.1=Zz .local∨((ai st).names.lookup y.1=Zz .cell/\((US (s.heap.objs.size+1) (ai st).names []).lookup y.1).isSome=true):=λ⟨n,v⟩ B=>by
  rcases S.NJ n (VJ B).1 with q|q
  ·exact .inl q
  ·exact .inr ⟨q,Vh _ _ _ (.inl q)⟩
 refine codeAny_call_function k (KX _ _ lk) rfl S.co S.gen rfl (PySem.W.codeRec_of KX hcd) (bd s [.ref e,u] KX rfl _ _ _ _ ?_)
 refine wpAny_newFunctionEnv_cells S.kind g λenv D s1 x=>?_
 subst D;refine⟨t.keeps x.toInCall.keep,codeAny_func ?_⟩
 let E:XK:=λ_ _ _=>False
 have I:Inv (kh Qk P w K mg base [a,b] qual (ai st) f m A outer s H E).Qj [] (start [a,b] [V.ref e,v]) H s1:=Inv.wish (ue S l e0 rfl r x) _;have j:∀y∈[a,b],Nc (ai st) y:=λy B=>(S.NJ y B).elim .inl λz=>.inr (.inl z)
 have p:du (kh Qk P w K mg base [a,b] qual (ai st) f m A outer s H E).Qj (bR st) (NI (Ky K (LN 0) (LN 1) nm) KH):=by
  rw[hb];exact cE (Km (A0 rfl (j a (by simp)) ha ha2) (A0 rfl (j b (by simp)) hb' hb2)) B2
 refine SQ (wpAny_noRaise (p [] s1 _ H { nx:=λ_ H'=>∃d,H d=Zy/\H'=lf H e C d nm v,rt:=λ_ _=>False } I ?_)) (λfl h i=>?_) λe h i=>i
 ·exact⟨v,rfl,V.ref e,rfl,e,C,rfl,he,xs,λd l=>⟨d,l,rfl⟩⟩
 ·cases fl with
  |next =>
   obtain⟨σ',H',J,d,l,rfl⟩:=i;exact⟨rfl,d,l,J.os,J.bare,J.base,J.hok⟩
  |ret u =>
   obtain⟨_,_,_,_,_,q⟩:=i;exact TR q
  |brk =>
   obtain⟨_,_,_,q⟩:=i;exact TR q
  |cont =>
   obtain⟨_,_,_,q⟩:=i;exact TR q
noncomputable def OL:List Q2:=[.type "ValueError",.type "Exception",.type "BaseException",.type "object"]
noncomputable def Ea(K:Rf)(C:Q8):Bool:=match K.lookup C with
 |some ⟨.type "type",_,.cls cd,sl⟩=>(match cd.mro,sl.toList with
  |.ref C'::bm,[_,_,_,_,Zz (.builtin n),_]=>C'==C&&n == "ValueError.__new__" && !cd.hasDel&&tailIn K OL bm
  |_,_=>false)
 |_=>false
theorem KN{K:Rf}(X:K.In h)(q:Ea K C=true):∃f e N i bm hdct d b j c dd k0 k1 k2 k3 k5,h.get? C=Zz (excClassObj f e C N i bm hdct d b j c dd k0 k1 k2 k3 k5 "ValueError.__new__")/\OwnTail h OL bm:=by
 unfold Ea at q;split at q
 ·rename_i dd cd sl ho
  split at q
  ·rename_i C' bm k0 k1 k2 k3 n k5 hm hs
   simp only[Q3,beq_iff_eq,Bool.not_eq_true']at q;obtain⟨⟨⟨rfl,rfl⟩,a⟩,o⟩:=q;obtain⟨f,i,m,k,e,p,d,b,j,c,r⟩:=cd;dsimp only at hm a;subst hm a;have g:sl=#[k0,k1,k2,k3,Zz (.builtin "ValueError.__new__"),k5]:=by
    obtain⟨l⟩:=sl;simp only at hs;rw[hs]
   subst g;exact⟨f,e,k,i,bm,p,d,b,j,c,dd,k0,k1,k2,k3,k5,X _ _ ho,tail_of_in X o⟩
  ·cases q
 ·cases q
theorem IS{E:Q2->Q7->Prop}{K:Rf}(m:Ea K C=true)(o:A.handled=Zy)(h:RB M A x (λv a=>∃e c f,v=.ref e/\K.In a.heap/\a.heap.get? e=Zz c/\c.cls=.ref C/\c.data=.fields f/\f[1]?=Zz .none/\E (.ref e) a) E s):RB M A (raiseStmt env (Zz x) Zy) Q E s:=by
 unfold raiseStmt;refine Q0 (SQ h (λv a i=>?_) λ_ _ z=>z);obtain⟨e,c,f,rfl,X,j,b,p,i,r⟩:=i;obtain⟨F,B,N,R,u,k,y,n,S,t,P,L,J,I,H,G,l,T⟩:=KN X m;have q:(SV C::u).contains (.type "BaseException")=true:=by rw[List.contains_cons,T.hasType (show OL.contains (.type "BaseException")=true by decide),V2]
 obtain⟨O,g,d,w,D⟩:=a
 repeat (first|(with_reducible refine V1 j ?_;rw[b])|with_reducible refine V1 l ?_|(with_reducible refine wpAny_isSubtype_exc l ?_;rw[q])|with_reducible refine UL j p i ?_|wp_step)
 exact wpAny_raiseNew_none o r
structure yP (K:Rf) (C:Q8) (nm:Str):Prop where
 xc:Ea K C=true
 kp:keepIn K (.ref C)=true
 xs:Mx K C nm
 fn:∃f fd x qual st a b p1 p2 p3 p4,findIn K (.ref C) "__init__" = Zz (Zz (.ref f))/\typeIn K (.ref f)=Zz (.type "function")/\HV K x qual st f fd/\av [a,b] [a,b] (ai st)/\bR st=[.Assign [.Attribute (.Name a p1) nm p2] (.Name b p3) p4] /\
  Binds K fd [a,b] []/\(a==("__debug__" : Str))=false/\(b==("__debug__" : Str))=false/\(a==("__classdict__" : Str))=false/\(b==("__classdict__" : Str))=false
section
variable{X:Cx}{pins:List (Q8×Obj)}{σ:L2.St}{H:Hp}{s:Q7}{C:Q8}{nm:Str}{v:V}{u:Q2}{Q:Q2->Q7->Prop}{E:Q2->Q7->Prop}
theorem Jt(I:Inv X pins σ H s)(x:yP X.K C nm)(hh:X.A.handled=Zy)(hdep:X.A.depth+1<Vf)(rv:RelV v u)(k:∀s' e d,HU X.prog X.w (frs X.stack) H s (upd H d (.xd [(nm,v)])) e C (Zz d) s'->H d=Zy->KQ e C (Zz d) .none s'.heap->Q (.ref e) s'):RB (RC X.prog X.w) X.A (call (.ref C) [u]) Q E s:=by
 obtain⟨f,fd,xn,qual,st,a,b,p1,p2,p3,p4,hi,hf,F,S,i,bd,n1,n2,n3,n4⟩:=x.fn;obtain⟨cn,qn,N,bs,bm,hdct,sn,sub,ab,col,dd,k0,k1,k2,k3,k5,hC,T⟩:=KN I.li x.xc;have kp:∀b o,s.heap.get? b=Zz o->((s.heap.push (wW [u])).push (newX C s.heap.objs.size)).get? b=Zz o:=λb o e=>Q6 _ (Q6 _ e)
 have hx:((s.heap.push (wW [u])).push (newX C s.heap.objs.size)).get? (s.heap.objs.size+1)=Zz (newX C s.heap.objs.size):=by heap_get
 have I2:Inv X pins σ (upd H (s.heap.objs.size+1) (G3 (s.heap.objs.size+1) C Zy .none)) { s with heap:=(s.heap.push (wW [u])).push (newX C s.heap.objs.size) }:=
  I.laid (t':=s.toks) kp (TK _) (EV ⟨_,_,hx,rfl,rfl,rfl,rfl⟩)
 have nE:s.heap.get? (s.heap.objs.size+1)=Zy:=Ta (TK _);obtain⟨hp,g,d,tk,os⟩:=s;refine Vg (LG PySem.F.excBase_ValueError T hC (WK I.li hi) (λself=>bind_fn I.li self hf) ?_ (show 1<=RP by decide));refine Td (HA F S i bd x.xs (by first|exact hh|simpa[Wo]using hh) (by rw[Am];exact hdep) (I2.env0.make C [u] []) bx rv n1 n2 n3 n4) λr s' z=>?_
 obtain⟨rfl,j,nd,q1,q2,q3,q4⟩:=z;generalize hE:hp.objs.size+1=e' at *;have nHe:=zG I.hok nE;have nde:j≠e':=λz=>by rw[z,bx]at nd;cases nd
 have nd':H j=Zy:=by rw[aI nde]at nd;exact nd
 have un3:=(Un.laid kp (by rw[<-hE];exact TK _) nHe).trans q3;generalize hS:lf (upd H e' (G3 e' C Zy .none)) e' C j nm v=HS at *;have sE:HS e'=Zz (G3 e' C (Zz j) .none):=by rw[<-hS];unfold lf;rw[bx]
 have sD:HS j=Zz (.xd [(nm,v)]):=by rw[<-hS];unfold lf;rw[aI nde,bx]
 have sO:∀b,b≠e'->b≠j->HS b=H b:=λb h1 h2=>by rw[<-hS];unfold lf;rw[aI h1,aI h2,aI h1]
 have toS:∀b u,upd H j (.xd [(nm,v)]) b=Zz u->HS b=Zz u:=λb u q=>by
  by_cases i:b=j
  ·subst i;rw[bx]at q;rw[sD];exact q
  ·rw[aI i]at q
   rw[sO b (λz=>by rw[z,nHe]at q;cases q) i];exact q
 have ofS:∀b u,HS b=Zz u->b≠e'->upd H j (.xd [(nm,v)]) b=Zz u:=λb u q n=>by
  by_cases i:b=j
  ·subst i;rw[bx];rw[sD]at q;exact q
  ·rw[aI i,<-sO b n i];exact q
 obtain⟨xp,_⟩:=q4 e' _ sE;have nS:∀b u,HS b=Zz u->(∀φ,u≠.ext φ)->b≠e':=λb u q n z=>by rw[z,sE]at q;cases q;exact n _ rfl
 refine⟨rfl,k s' e' j ⟨q1,q2,⟨un3.keep,un3.slot,λb o q n hx=>?_,un3.there,λb xs q=>?_,λb o u q=>?_,λb ps q=>⟨#[],?_⟩⟩,λb u q=>?_,?_,nE,_,xp,.inl rfl⟩ nd' xp⟩
 ·have z:=un3.free b o q n hx
  by_cases i:b=j
  ·subst i;rw[sD]at z;cases z
  ·rw[aI i];exact n
 ·rw[aI (λz=>by rw[z,nd']at q;cases q)];exact q
 ·rw[aI (λz=>by rw[z,nd']at q;cases q)];exact q
 ·rw[aI (λz=>by rw[z,nd']at q;cases q),q];simp
 ·refine(q4 b u (toS b u q)).stay (λ_ _ _ z=>z) (λc z=>ofS c _ z (nS c _ z λ_ y=>by cases y)) λc xs z=>ofS c _ z (nS c _ z λ_ y=>by cases y)
 ·rw[aI (SR nde)];exact nHe
end
section
variable{X:Cx}{C:Q8}{nm:Str}{xr:XR}{call':Nat->List W->Mem->Res W}{gv:List T}{e:Rq}{ea:E}{x:Str}{np cpos pos:Pos}{rest:List Rv}{k:S}{n kk:Nat}
theorem EF(lk:Lk X xr)(xi:yP X.K C nm)(hm:X.mg x=Zz (.ref C))(hg:Gl X x)(hc:X.calm=true)(hr:iQ kk X.A)(ha:PE X e (tE X.K call' gv xr ea))(he:notStar e=true:=by rfl)(hdb:(x==("__debug__" : Str))=false:=by decide):
  du X (.Raise (Zz (.Call (.Name x np) [e] [] cpos)) Zy pos::rest) (tS X.K call' gv xr n (.DY C [nm] (.cons ea .nil) k)):=by
 rintro pins s σ H D I ⟨hl,env,cm,m,hE,M,ho⟩;have hh:=I.ok.hd hc;rw[ex]at ho;refine W5 ?_;rw[arm_exec_Raise];refine Q0 (Sk ?_);refine IS xi.xc hh (Q0 ?_);refine TU (kt I hg hm ?_ hdb);refine PySem.W.callWith_K I.ok.mod.Ow xi.kp (bY (xB ha CO he cpos pins s σ H (λvs H1=>∃cm1 m1 ws,aE X.K cm1 m1 H1/\zX X.K cm1 m1 H1 ws vs/\aX X.K _ xr cm1 m1 H1 _) I ⟨env,cm,m,hE,M,ho.bind.mono λws cm1 m1 H1 x1 M1 o1 vs rvs=>⟨cm1,m1,ws,M1,rvs,o1⟩⟩) λus s1 ⟨vs,H1,I1,r,cm1,m1,ws,M1,rvs,o1⟩=>⟨I1.li,?_⟩) (bH he) rfl;cases q:bX ws m1 with
 |stuck=>rw[q]at o1;exact o1.elim
 |exc y m2=>exact Xk q lS
 |ok ts m2 =>
  rw[q]at o1;obtain⟨x2,M2,r2⟩:=gX M1 rvs q;have o1:aX X.K (if([nm]:List Str)=[]then(if ts.length<=1000 then Res.exc (a:=Flow) ⟨C,[],[]⟩ m2 else .stuck)else if ts.length=([nm]:List Str).length then .exc ⟨C,[nm],ts⟩ m2 else .stuck) xr cm1 m1 H1 _:=o1;rw[Xg (by simp)]at o1;split at o1
  ·rename_i hlen
   have hv1:vs.length=1:=by rw[<-r2.length,hlen];rfl
   obtain⟨v,rfl⟩:=List.length_eq_one_iff.mp hv1;cases r with
   |cons ru r' =>
    cases r';refine Jt I1 xi hh (by have:=hr.dp;omega) ru λs' e' d EM nd xp=>?_
    obtain⟨oe,vv,y1,y2,y3,y4,y5⟩:=xp;refine Q0 (Sk (Q5 ?_));refine⟨e',oe,vv,rfl,(Inv.EM I1 EM).li,y1,y2,y4,y5,?_⟩;have keep:∀a o,H1 a=Zz o->upd H1 d (.xd [(nm,v)]) a=Zz o:=bM nd;have Mm:=M2.new (o:=.xd [(nm,v)]) nd;refine lk pins σ H1 s1 (upd H1 d (.xd [(nm,v)])) e' (Zz d) s' cm1 m2 ⟨C,[nm],ts⟩ I1 EM Mm ⟨[v],bx,rfl,aO (λ_ _ z=>z.same keep λ_ n _=>n) r2⟩ ?_;exact o1 cm1 _ (x2.trans (.new nd)) Mm
  ·exact o1.elim
structure Py (K:Rf) (C:Q8):Prop where
 xc:Ea K C=true
 kp:keepIn K (.ref C)=true
 no:excIn K C OL "ValueError.__new__" = true
end
noncomputable abbrev MJ(X:Cx)(A:SH)(pn:List (Q8×Obj)):Cx:={ X with A:=A,calm:=false,xe:=λ_ _=>False,pn:=pn }
section
variable{X:Cx}{pins pins':List (Q8×Obj)}{σ:L2.St}{H:Hp}{s:Q7}{xe:Q2->Q7->Prop}{e:Option Q2}
theorem LZ(I:Inv X pins σ H s)(b:Q2->Q7->Prop):Inv (asX X b (X.pn++pins)) [] σ H s:=
 ⟨⟨I.ok.mod,I.ok.kind,I.ok.glob,I.ok.blt,I.ok.above,I.ok.inj,I.ok.has,I.ok.cab,I.ok.hd,I.ok.frames,I.ok.M8,I.ok.OJ,I.ok.bs,I.ok.Gy,I.ok.BO,I.ok.C7,I.ok.mO,I.ok.Jm⟩,I.os,I.bare,I.base,I.loc,I.cell,I.free,I.eG,λp a=>I.pin p (by rw[RY]at a;exact a),I.hok,I.len⟩
theorem sv(I:Inv (asX X xe (X.pn++pins)) pins' σ H s):Inv X pins σ H s:=
 ⟨⟨I.ok.mod,I.ok.kind,I.ok.glob,I.ok.blt,I.ok.above,I.ok.inj,I.ok.has,I.ok.cab,I.ok.hd,I.ok.frames,I.ok.M8,I.ok.OJ,I.ok.bs,I.ok.Gy,I.ok.BO,I.ok.C7,I.ok.mO,I.ok.Jm⟩,I.os,I.bare,I.base,I.loc,I.cell,I.free,I.eG,λp a=>I.pin p (Rt _ a),I.hok,I.len⟩
theorem B3(I:Inv X pins σ H s)(e:Option Q2):Inv (MJ X (X.A.mark e) (X.pn++pins)) [] σ H s:=
 ⟨⟨I.ok.mod,I.ok.kind,I.ok.glob,I.ok.blt,I.ok.above,I.ok.inj,I.ok.has,I.ok.cab,(λz=>nomatch z),I.ok.frames,I.ok.M8,I.ok.OJ,I.ok.bs,I.ok.Gy,I.ok.BO,I.ok.C7,I.ok.mO,I.ok.Jm⟩,I.os,I.bare,I.base,I.loc,I.cell,I.free,I.eG,λp a=>I.pin p (by rw[RY]at a;exact a),I.hok,I.len⟩
theorem CL(ok:X.Ok)(I:Inv (MJ X A (X.pn++pins)) pins' σ H s):Inv X pins σ H s:=
 ⟨ok,I.os,I.bare,I.base,I.loc,I.cell,I.free,I.eG,λp a=>I.pin p (Rt _ a),I.hok,I.len⟩
theorem vf{E:Q2->Q7->Prop}(I:Inv X g σ H s)(hN:X.N.Nodup)(hi:X.N[i]?=Zz x)(hk:X.env.scope.names.lookup x=Zz .local)(h:∀s',Inv X g (σ.set i Zy) H s'->Q () s'):RB M A (do bindName X.env x .none;unbindBehindTheSuite X.env x pos) Q E s:=by
 obtain⟨m,hn,hl⟩:=id I.loc;have t:(X.env.scope.kind==.class || (X.env.scope.kind==.module&&X.env.locals != X.env.globals))=false:=by rw[I.ok.kind];rfl
 have r:i<σ.length:=by rw[I.len];exact(R0.mp hi).1
 obtain⟨oL,_,_,hoL,_⟩:=id hn;have B:∀b o,X.s₀.heap.get? b=Zz o->b≠X.env.locals:=λb o e=>Rc (RQ (RH e) I.ok.above)
 refine wpAny_nameGoes_keeps hk hn t λh' v C a=>?_
 refine h _ ⟨I.ok,I.os,I.bare,⟨λb o e n D l=>?_,λb o e n D l=>?_,I.base.free,λb o e l=>?_,I.base.tups,I.base.bX,I.base.jF⟩,⟨_,C,λj y v' f w e3=>?_⟩,λy c e=>?_,I.free,I.eG,λp hp=>?_,λb ob e=>?_,by simpa using I.len⟩
 ·exact(a.2 b (B b o e)).trans (I.base.keep b o e n D l)
 ·obtain⟨sl,f⟩:=I.base.slot b o e n D l
  exact⟨sl,(a.2 b (B b o e)).trans f⟩
 ·obtain⟨o',f⟩:=I.base.there b o e l
  exact⟨o',(a.2 b (B b o e)).trans f⟩
 ·have hj:j≠i:=λz=>by
   rw[z,RS r]at w;cases w
  rw[RK (SR hj)]at w;obtain⟨u',r',q⟩:=hl j y v' f w e3;refine⟨u',r',?_⟩;rcases q with⟨k,e⟩|⟨k,c,e,z⟩
  ·refine .inl ⟨k,?_⟩
   have:y≠x:=λe=>hj (si hN f (e▸hi))
   simp[this,e]
  ·exact .inr ⟨k,c,e,z.sameBut a (I.N7 y c e)⟩
 ·obtain⟨w',z⟩:=I.cell y c e
  exact⟨w',z.sameBut a (I.N7 y c e)⟩
 ·obtain⟨e,n,ne,nf,d⟩:=I.pin p hp
  exact⟨(a.2 p.1 ne).trans e,n,ne,nf,d⟩
 ·refine(I.hok b ob e).stay (λc w' u q=>(a.2 c ?_).trans q) (λ_ q=>q) λ_ _ q=>q
  rintro rfl;rcases u with rfl|u
  ·rw[I.free]at e;cases e
  ·rw[I.free]at u;cases u
theorem JC(I:Inv X a σ H s)(he:H e'=Zy)(xp:KQ e' C dx hd s.heap)(n0:X.s₀.heap.get? e'=Zy)(np:∀p∈X.pn++a,p.1≠e'):
  ∃d,d.cls=.ref C/\d.dict=dx/\(∃fs,d.data=.fields fs)/\Inv X a σ (upd H e' (.jS d (G3 e' C dx hd))) s:=by
 obtain⟨d,vs,q1,q2,q3,q4,q5⟩:=id xp;refine⟨d,q2,q3,⟨_,q4⟩,I.ok,I.os,I.bare,⟨I.base.keep,I.base.slot,λb o q n hx=>?_,I.base.there,λb xs q=>?_,λb o u q=>?_,λb ps q=>?_⟩,I.loc,I.cell,?_,λx c hc=>?_,λp hp=>?_,λb u q=>?_,I.len⟩
 ·rw[aI (λz=>by rw[z,n0]at q;cases q)];exact I.base.free b o q n hx
 ·exact bM he _ _ (I.base.tups b xs q)
 ·exact bM he _ _ (I.base.bX b o u q)
 ·obtain⟨more,z⟩:=I.base.jF b ps q
  exact⟨more,bM he _ _ z⟩
 ·obtain⟨m,⟨o,es,ep,e1,e2,_⟩,_⟩:=I.loc
  rw[aI (λz=>by rw[z,q1]at e1;cases e1;rw[q4]at e2;cases e2)];exact I.free
 ·obtain⟨w',o,e1,e2⟩:=I.cell x c hc
  rw[aI (λz=>by rw[z,q1]at e1;cases e1;rw[q4]at e2;cases e2)];exact I.eG x c hc
 ·obtain⟨a1,a2,a3⟩:=I.pin p hp
  exact⟨a1,by rw[aI (np p hp)];exact a2,a3⟩
 ·by_cases hb:b=e'
  ·subst hb
   rw[bx]at q;cases q;exact⟨q1,EV xp⟩
  ·rw[aI hb]at q
   exact(I.hok b u q).stay (λ_ _ _ q=>q) (λc r=>bM he _ _ r) λc xs r=>bM he _ _ r
end
theorem yC{E:Q2->Q7->Prop}{e T:Q8}(g:s.heap.get? e=Zz oe)(f:oe.data=.fields vs)(h:vs[1]?=Zz (.ref T))(c:s.heap.get? T=Zz oT)(d:oT.data=.fields ts)(a:ts[3]?=Zz .none)(k:Q () s):RB M A (Wg (.ref e) Zy) Q E s:=by
 unfold Wg;refine Q0 (UL g f h ?_);rw[Xf (by simp)];refine Se c d (Sq.mp a).1 ?_;show Q () { s with heap:=s.heap.update T (Tl (·.setIfInBounds 3 .none)) };rw[Heap.update_setField_same s.heap T oT ts 3 .none c d a];exact k
section
variable{X:Cx}{xr:XR}{call:Nat->List W->Mem->Res W}{gv:List T}{n:Nat}
def KI(X:Cx)(i:Option Nat)(nmo:Option Str):Prop:=match i,nmo with
 |none,Zy=>True
 |some j,Zz x=>X.N[j]?=Zz x/\X.env.scope.names.lookup x=Zz .local
 |_,_=>False
noncomputable def OO(i:Option Nat)(σ:L2.St):L2.St:=match i with
 |some j=>σ.set j Zy
 |none=>σ
theorem IG:(OO i σ).length=σ.length:=by
 cases i with
 |none=>rfl
 |some j=>exact S8
theorem bq.Nb{K:Rf}(h:bq K cm m H env σ)(i:Option Nat):bq K cm m H (Mi.Nb i env) (OO i σ):=by
 cases i with
 |none=>exact h
 |some j =>
  intro l w e;have e:(env.set j Zy)[l]?=Zz (Zz w):=e;by_cases hj:l=j
  ·subst hj
   rw[List.getElem?_set]at e;simp only[Xf]at e;split at e<;>cases e
  ·rw[RK (SR hj)]at e
   obtain⟨v,b,a⟩:=h l w e;refine⟨v,?_,a⟩;show(σ.set j Zy)[l]?=_;rw[RK (SR hj)];exact b
theorem yD{L rest:List Rv}(hex:X.ex=[])(hst:X.stack=X.env::X.outer)(hfr:X.env.frame=Zz X.env.locals)(hN:X.N.Nodup)(hn:X.N.length=n)(hi:KI X i nmo)(hg:Gl X y)(hm:X.mg y=Zz (.ref D))(hy:∀c∈yes,exmOne X.K (.ref c) (.ref D)=Zz true)(hb:∀xe pn G,Go (asX X xe pn) G->du (asX X xe pn) body (tS X.K call gv G n sb))(hh:∀A pn,A.units=X.A.units->du (MJ X A pn) (b0::L) (tS X.K call gv M6 n sh))(hk:du X rest (tS X.K call gv xr n k))(hdb:(y==("__debug__" : Str))=false:=by decide):
  du X (.Try body [.ExceptHandler (Zz (.Name y yp)) nmo (b0::L) hpos] [] [] pos::rest) (tS X.K call gv xr n (.tri sb yes i sh k)):=by
 rintro g s σ H D0 I ⟨hl,F,cm,m,hE,M,E⟩;refine W5 (wpAny_Try_except ?_);have run:∀G xe',Go (asX X xe' (X.pn++g)) G->aX X.K (ex call gv sb F m) G cm m H (λfl cm' m' h=>mv X.K n { D0 with nx:=tS X.K call gv xr n k D0 } fl cm' m' h) ->
   RB (RC X.prog X.w) X.A (execs body X.env) (λf s1=>match f with
    |.next=>RB (RC X.prog X.w) X.A (execs [] X.env) (λf s'=>match f with
     |.next=>RB (RC X.prog X.w) X.A (execs rest X.env) (SP X g D0) X.xe s'
     |f=>SP X g D0 f s') X.xe s1
    |f=>(match f with
     |.next=>RB (RC X.prog X.w) X.A (execs rest X.env) (SP X g D0) X.xe s1
     |f=>SP X g D0 f s1)) xe' s:=λG xe' go o=>by
  refine SQ (hb xe' (X.pn++g) G go [] s σ H _ (LZ I xe') ⟨hl,F,cm,m,hE,M,o⟩) (λf s1 q=>?_) λ_ _ z=>z
  cases f with
  |next =>
   obtain⟨d,h,C,q⟩:=q;exact VI (hk g s1 d h D0 (sv C) q)
  |ret u=>obtain⟨v,d,h,C,r,q⟩:=q;exact⟨v,d,h,sv C,r,q⟩
  |brk=>obtain⟨d,h,C,q⟩:=q;exact⟨d,h,sv C,q⟩
  |cont=>obtain⟨d,h,C,q⟩:=q;exact⟨d,h,sv C,q⟩
 rw[ex]at E;cases r:ex call gv sb F m with
 |stuck=>rw[r]at E;exact E.elim
 |ok fl m1 =>
  rw[r]at E run;refine run M6 _ ⟨Qi,PassesOwn.looking⟩ λcm1 H1 x1 M1=>?_
  cases fl with
  |next env'=>exact λd hl' hE'=>⟨hl',env',cm1,m1,hE',M1,aX.shift E x1⟩
  |ret w=>show mv X.K n D0 (.ret w) cm1 m1 H1;exact aX.to E x1 M1
 |exc x m1 =>
  rw[r]at E run;dsimp only at E;by_cases hx:x.cls∈yes
  ·rw[Xf hx]at E
   refine run (λx' cm' m' h=>x'=x/\m'=m1/\dQ cm m H cm' m1 h) _ ⟨?_,PassesOwn.looking⟩ λcm1 H1 x1 M1=>⟨rfl,rfl,x1⟩
   rintro pins1 σ1 H1 s1 h e dx s' cm' m' x' I1 EM M' hf ⟨rfl,rfl,x1⟩;have C:=Inv.EM I1 EM;have st:=hst;have air2:HU X.prog X.w (frs (X.env::X.outer)) H1 s1 h e x'.cls dx s':=by rw[<-hst];exact EM
   have fre:∀b∈frs (X.env::X.outer),h b=Zy:=by rw[<-hst];exact C.qg
   have fun':s'.heap.FunFrames X.base (X.env::X.outer):=by rw[<-hst];exact C.stack
   have frm:X.A.frames=Zz (X.env::X.outer):=by rw[<-hst];exact C.ok.frames
   refine land air2 fre frm fun' hfr λh2 T a2 xp xt neT=>?_
   have I2:=Inv.EM I1 (show HU X.prog X.w (frs X.stack) H1 s1 h e x'.cls dx { s' with heap:=h2 } by rw[hst];exact a2);have I3:=sv I2;have np:∀p∈X.pn++g,p.1≠e:=λp hp z=>by
    have q:=(I1.pin p (Rt _ hp)).1;rw[z,EM.new]at q;cases q
   have J:Inv X g (R4 n Zy) h { s' with heap:=h2 }:=I3.weak (by rw[S7,I3.len,hn]) λj v z=>by
    rw[SA]at z;split at z<;>cases z
   obtain⟨oe,vs,y1,y2,y3,y4,y5⟩:=id xp;obtain⟨oT,ts,z1,z2,z3⟩:=id xt;refine wpAny_handleBy_cons (codeAny_handlers_test (kt (B3 J (Zz (.ref e))) hg hm ?_ hdb)) (by intro q;cases q);have LT:XS (RC X.prog X.w) h2 (typeOf (.ref e)) oe.cls:=(Looks.ld y1).andThen .now;rw[y2]at LT;refine(exm_one J.li LT (hy _ hx)).here ?_;rw[Xf rfl];have go:∀σ2 H2 s2 cm2,Inv X g σ2 H2 s2->σ2.length=n->bq X.K cm2 m' H2 (GO F.length i x') σ2->aE X.K cm2 m' H2->dQ cm m H cm2 m' H2 ->
     RB (RC X.prog X.w) (X.A.mark (Zz (.ref e))) (execs (b0::L) X.env) (SP X g { nx:=λσ3 H3=>tS X.K call gv xr n k D0 (OO i σ3) H3,rt:=D0.rt }) (λ_ _=>False) s2:=λσ2 H2 s2 cm2 I4 hl2 hE2 M2 x2=>by
    refine SQ (hh (X.A.mark (Zz (.ref e))) (X.pn++g) rfl [] s2 σ2 H2 { nx:=λσ3 H3=>tS X.K call gv xr n k D0 (OO i σ3) H3,rt:=D0.rt } (B3 I4 _) ⟨hl2,GO F.length i x',cm2,m',hE2,M2,?_⟩) (λf s3 q=>?_) λ_ _ z=>z
    ·cases r2:ex call gv sh (GO F.length i x') m' with
     |stuck=>rw[r2]at E;exact E.elim
     |exc x3 m3=>rw[r2]at E;exact E.elim
     |ok fl m3 =>
      rw[r2]at E;intro cm3 H3 x3 M3;cases fl with
      |next env'=>exact λσ3 hl3 hE3=>⟨IG.trans hl3,Mi.Nb i env',cm3,m3,hE3.Nb i,M3,aX.shift (E) (x2.trans x3)⟩
      |ret w=>show mv X.K n D0 (.ret w) cm3 m3 H3;exact aX.to E (x2.trans x3) M3
    ·cases f with
     |next=>obtain⟨d,h,C,q⟩:=q;exact⟨d,h,CL I4.ok C,q⟩
     |ret u=>obtain⟨v,d,h,C,r,q⟩:=q;exact⟨v,d,h,CL I4.ok C,r,q⟩
     |brk=>obtain⟨d,h,C,q⟩:=q;exact q.elim
     |cont=>obtain⟨d,h,C,q⟩:=q;exact q.elim
   unfold KI at hi;split at hi
   ·refine codeAny_handlers_suite (yC y1 y4 y5 z1 z2 z3 (SQ (go _ _ _ cm' J (S7) (λl w z=>?_) M' x1) (λf s3 q=>?_) λ_ _ z=>z.elim))
    ·have z:(R4 F.length (Zy:Option W))[l]?=Zz (Zz w):=z
     rw[SA]at z;split at z<;>cases z
    ·cases f with
     |next=>obtain⟨d,h,C,q⟩:=q;exact hk g s3 d h D0 C q
     |ret u=>obtain⟨v,d,h,C,r,q⟩:=q;exact⟨v,d,h,C,r,q⟩
     |brk=>obtain⟨d,h,C,q⟩:=q;exact q.elim
     |cont=>obtain⟨d,h,C,q⟩:=q;exact q.elim
   ·rename_i j xn
    obtain⟨hj,hloc⟩:=hi;have hjn:j<n:=by rw[<-hn];exact(R0.mp hj).1
    have gone:X.s₀.heap.get? e=Zy:=by
     cases y:X.s₀.heap.get? e with
     |none=>rfl
     |some o =>
      obtain⟨o',y'⟩:=I1.base.there e o y (by intro z;have z:=z;rw[hex]at z;cases z);rw[EM.new]at y';cases y'
    obtain⟨oe2,c1,c2,c3,I5⟩:=JC J a2.no xp gone np;refine codeAny_handlers_suite_as (yC y1 y4 y5 z1 z2 z3 (nP I5 hN hj (.inl hloc) (v:=.ref e) rfl (λs4 I6=>?_) (.inr hloc)));have keep:∀a o,h a=Zz o->upd h e (.jS oe2 (G3 e x'.cls dx (.ref T))) a=Zz o:=bM a2.no;have M5:=M'.new (o:=.jS oe2 (G3 e x'.cls dx (.ref T))) a2.no;refine SQ (go _ _ _ cm' I6 (by rw[S8,S7]) (λl w z=>?_) M5 (x1.trans (.new a2.no))) (λf s3 q=>?_) λ_ _ z=>z.elim
    ·have z:((R4 F.length (Zy:Option W)).set j (Zz (.x x'.cls x'.nms x'.FY)))[l]?=Zz (Zz w):=z
     by_cases hlj:l=j
     ·subst hlj
      refine⟨.ref e,RS (by rw[S7];exact hjn),?_⟩;rw[List.getElem?_set]at z;simp only[Xf]at z;split at z
      ·cases z
       refine⟨e,oe2,_,rfl,bx,c1,c3,?_⟩;rw[c2];exact hf.same keep λt v r=>r.same keep λ_ n _=>n
      ·cases z
     ·rw[RK (SR hlj),SA]at z
      split at z<;>cases z
    ·cases f with
     |next=>obtain⟨d,h,C,q⟩:=q;exact vf C hN hj hloc λs5 I7=>hk g s5 _ h D0 I7 q
     |ret u=>obtain⟨v,d,h,C,r,q⟩:=q;exact vf C hN hj hloc λs5 I7=>⟨v,_,h,I7,r,q⟩
     |brk=>obtain⟨d,h,C,q⟩:=q;exact q.elim
     |cont=>obtain⟨d,h,C,q⟩:=q;exact q.elim
   ·exact hi.elim
  ·rw[Xg hx]at E
   exact E.elim
end
noncomputable def inBody(s:Rv)(i:Nat):Rv:=match s with
 |.ClassDef _ _ _ b _ _ _ _ _ _ _=>b.getD i (.Pass ⟨0,0,0,0⟩)
 |s=>s
structure ri (K:Rf) (C:Q8):Prop where
 ga:findIn K (.ref C) "__getattribute__" = Zz (Zz (.builtin "BaseException.__getattribute__"))
 gn:findIn K (.ref C) "__getattr__" = Zz Zy
 mb:mroIn K C (.type "BaseException")=Zz true
 hd:W7 K C=true
 ca:findIn K (.ref C) "__class__" = Zz (Zz (.builtin "object.__class__"))
 mo:mroIn K C (.type "object")=Zz true
structure DA (K:Rf):Prop where
 hn:Wb K (.builtin "object.__class__") "__get__" = Zz (Zz (.builtin "getset_descriptor.__get__"))
 htk:takesIn K (.builtin "object.__class__")=Zz true
theorem tG{K:Rf}{C:Q8}(b:(clsIn K C).isSome=true)(e:findIn K (.ref C) name=Zz (Zz a))(d:Wb K a "__get__" = Zz (Zz g))(c:takesIn K a=Zz true):XX K C od name=Zz (.bind g a):=by
 obtain⟨f,b⟩:=UX.mp b;unfold XX;rw[b,Rw,e,Rw];simp[d,c]
section
variable{prog:Rk}{w:Rz}{A:SH}{E:Q2->Q7->Prop}{s:Q7}{K:Rf}{x C:Q8}{ox:Obj}{od:Option Obj}{name:Str}
theorem N8{a e:Bool}(X:K.In s.heap)(I:InstAt s.heap x ox C od)(c:ri K C)(B:s.toks=t+1)(h:∀y:SH,RB (RC prog w) y (Builtin.«object.__getattribute__» ⟨[.ref x,.str name t],[]⟩) (λb k=>match b with|.done (.ret v)=>RB (RC prog w) A (handedOut v) Q E k|_=>False) (λ_ _=>False) s):
  RB (RC prog w) A (getAttrBy (.ref x) (.str name t) e a) Q E s:=by
 obtain⟨l,g,d,n,o⟩:=s;have m:=I.type (M:=RC prog w);have u:=WK (M:=RC prog w) X c.ga;have r:=WK (M:=RC prog w) X c.gn;have q:XS (RC prog w) l (XE (.ref x) (.type "BaseException")) true:=m.andThen (looks_mroIn X c.mb);have p:=PySem.F.attrBase_ValueError.ga.bind (.ref x);have j:(a&&XT (VE "BaseException.__getattribute__"))=false:=by cases a<;>rfl
 have f:(VE "BaseException.__getattribute__" == VE "object.__getattribute__")=false:=by decide +kernel
 have i:(XT (SV C)&&VE "BaseException.__getattribute__" == VE "object.__getattribute__")=false:=by rw[f];rfl
 unfold getAttrBy;refine SF (Q0 (m.at (Q0 (u.at ?_))));dsimp only;rw[i,Xg RG];unfold getAttrByItsOwn hookBefore;rw[Xf (show XT (SV C)=true from rfl)];refine Q0 (r.at ?_);refine Q0 (Ub (SF ?_));unfold callGetattribute;rw[j,Xg RG];unfold boundAndCalled;rw[p];refine Q0 (Q5 (Vg (VG PySem.F.attrBase_ValueError.ga.plain PySem.F.entry_bexc_ga (@check_slot (RC prog w) _ _ ⟨l,g,d,n,o⟩ "BaseException.__getattribute__" "BaseException" "__getattribute__" (.ref x) [.str name t] [] _ (by decide +kernel) (by decide +kernel) q (PySem.F.args_bexc_ga (.ref x) (.str name t)) ?_))));refine SQ (h _) (λb k z=>?_) λ_ _ z=>z.elim
 rcases b with(_|_|_|_)|_<;>first|exact z|exact z.elim
theorem Jj{a:Bool}(X:K.In s.heap)(I:InstAt s.heap x ox C od)(c:ri K C)(f:XX K C od name=Zz (.value v))(e:handedIn v=true)(h:Q v { s with toks:=s.toks+1 }):
  RB (RC prog w) A (getAttr (.ref x) name a) Q E s:=by
 unfold getAttr;refine Q0 (wpAny_mkText ?_);refine N8 X I c rfl λm=>?_
 obtain⟨l,g,d,t,k⟩:=s;have j:=I.type (M:=RC prog w);have i:=looks_find (M:=RC prog w) X I f;unfold Builtin.«object.__getattribute__»;refine Q0 (Q5 ?_);refine Q0 (Q5 (Q0 (j.at (Q0 (i.at ?_)))));refine Q5 ?_;show RB _ _ (handedOut v) _ _ _;rw[handedOut_of e];exact Q5 h
theorem J6{Q:Option Q2->Q7->Prop}(X:K.In s.heap)(I:InstAt s.heap x ox C od)(c:ri K C)(z:DA K)(h:Q (Zz (.ref C)) { s with toks:=s.toks+1 }):
  RB (RC prog w) A (getAttr? (.ref x) "__class__") Q E s:=by
 have b:XX K C od "__class__" = Zz (.bind (.builtin "getset_descriptor.__get__") (.builtin "object.__class__")):=tG (by obtain⟨l,e,_⟩:=Wv c.hd;rw[e];rfl) c.ca z.hn z.htk;unfold getAttr? getAttrBy?;refine Q0 (wpAny_mkText ?_);refine Q0 (Ub ?_);refine N8 X I c rfl λm=>?_
 obtain⟨k,g,d,t,j⟩:=s;have i:=I.type (M:=RC prog w);have f:=looks_find (M:=RC prog w) X I b;unfold Builtin.«object.__getattribute__»;refine Q0 (Q5 ?_);refine Q0 (Q5 (Q0 (i.at (Q0 (f.at ?_)))));refine Q0 (SF (Vg (class_get X I c.mo ?_)));refine Q5 ?_;exact handed_on rfl (Q5 h)
end
theorem Fv{K:Rf}(c:ri K D)(z:DA K):KitX K (.ref x) (.ref D) (λh=>InstAt h x ox D odo) where
 ty:=λ_ _ _ I=>I.type
 it:=λ_ _ X _=>by
  obtain⟨d,a,_⟩:=Wv c.hd;unfold clsIn at a;split at a
  ·rename_i c' d' cd' sl' ho
   intro p m o j k q;unfold isType loadHead;exact Q0 (wpAny_loadPart (k _ _ (X _ _ ho)) (Q5 q))
  ·cases a
 ne:=λh g l f n i X b=>by
  obtain⟨d,a,_⟩:=Wv c.hd;refine SU.mpr λq=>?_
  have e:=Value.ref.inj (beq_iff_eq.mp q);subst e;unfold clsIn at a;split at a
  ·rename_i c' d' cd' sl' ho
   have z:=(X _ _ ho).symm.trans b;cases z
  ·cases a
 ca:=λX I k=>J6 X I c z k
section
variable{X:Cx}{xr:XR}{call:Nat->List W->Mem->Res W}{gv:List T}{cm:List Q8}{m:Mem}{H:Hp}{pins:List (Q8×Obj)}{σ:L2.St}{s:Q7}
variable{e:Rq}{ea:E}{pos p p2:Pos}
theorem x_at(I:Inv X pins σ H s)(r:RW X.K cm m H (.x c nms ts) v):
  ∃a o odo,v=.ref a/\InstAt s.heap a o c odo/\XF X.K cm m H nms ts o.dict:=by
 obtain⟨a,o,u,rfl,k,f,⟨t,j⟩,b⟩:=r;obtain⟨z,_⟩:=I.hok a _ k;have e:notCls o=true:=by unfold notCls;rw[j]
 cases q:o.dict with
 |none=>exact⟨a,o,Zy,rfl,⟨z,f,e,by rw[q];trivial⟩,q▸b⟩
 |some d =>
  rw[q]at b;obtain⟨l,i,p,n⟩:=id b;obtain⟨h,g⟩:=F6 I.hok i;exact⟨a,o,Zz h,rfl,⟨z,f,e,by rw[q];exact g⟩,by rw[q];exact b⟩
theorem yW{K:Rf}:∀{a:List Str}{ts:List T}{c:List V}{b:Str}{t:T},Sl (RT K cm m H) ts c->(a.zip ts).lookup b=Zz t->∃v,(a.zip c).lookup b=Zz v/\RT K cm m H t v
 |[],_,_,_,_,_,h=>by simp at h
 |n::a,_,_,b,t,.nil,h=>by simp at h
 |n::a,_,_,b,t,.cons r d,h=>by
  rw[TW]at h ⊢;simp only[WV]at h ⊢;cases q:b==n with
  |true=>rw[q]at h;cases h;exact⟨_,rfl,r⟩
  |false=>rw[q]at h;exact yW d h
theorem IJ(ha:PE X e (tE X.K call gv xr ea))(hk:∀c∈cs,ri X.K c/\findIn X.K (.ref c) i=Zz Zy)(hb:Sz e i X.env (eval e X.env)=eval e X.env:=by rfl):
  PE X (.Attribute e i pos) (tE X.K call gv xr (.OI ea cs i)):=by
 rintro k s σ H Q I ⟨D,cm,m,hE,M,ho⟩;rw[ev]at ho;refine Jx hb (bY (ha k s σ H (λv j=>∃b h w,aE X.K b h j/\RW X.K b h j w v/\aX X.K (cW (NZ cs i w) h) xr b h j λw cm' m' H'=>∀v,RW X.K cm' m' H' w v->Q v H') I ⟨D,cm,m,hE,M,ho.bind.mono λw b h j x1 M1 z v rv=>⟨b,h,w,M1,rv,z⟩⟩) λu s1 ⟨v,j,r,p,b,h,w,M1,y,z⟩=>?_);obtain⟨t,f,o2⟩:=cz z;cases w with
 |t _=>cases f
 |c _=>cases f
 |x c A ts =>
  have f:(if c∈cs then(A.zip ts).lookup i else Zy)=Zz t:=f;split at f
  ·rename_i hc
   obtain⟨g,hn⟩:=hk c hc;obtain⟨a,o,odo,rfl,J,n⟩:=x_at r y;cases p;cases q:o.dict with
   |none=>rw[q]at n;obtain⟨rfl,rfl⟩:=n;cases f
   |some d =>
    rw[q]at n;obtain⟨vs,h5,h6,h7⟩:=n;obtain⟨v,hv,rt⟩:=yW h7 f;obtain⟨mA,C,l⟩:=(r.hok d _ h5)
    obtain⟨u,hu,p⟩:=pN.some_of (by rw[<-hv];exact l i);obtain⟨od,B,hl⟩:=uZ C;have J2:InstAt s1.heap a o c (Zz od):=⟨J.at_,J.cls,J.no,by rw[q];exact B⟩
    refine Jj r.li J2 g (findObj_own g.hd hn rfl (by rw[hl,hu])) (Dt p) ?_;exact⟨v,j,r.tok _,p,ans o2 M1 rt⟩
  ·cases f
noncomputable def O0(yes no:List Nat)(w:W)(m:Mem):Res W:=cW (Mu yes no w) m
theorem EQ(hcv:∀u,RelV cv u->u=c)(z:DA X.K)(hy:∀C∈yes,ri X.K C/\kitOne X.K (.ref C) c=Zz true)(hn:∀C∈no,ri X.K C/\kitOne X.K (.ref C) c=Zz false):
  db X (.builtin "isinstance") (λxs H Q=>∃x,xs=[x,cv]/\r1 X.K xr (O0 yes no) x H Q):=by
 rintro pins s σ H xs us Q I r ⟨x,e,cm,m,w,M,rw',ho⟩;subst e;obtain⟨u1,u2,rfl,ru1,ru2⟩:=vals2 r;obtain rfl:=hcv _ ru2;obtain⟨t,et,ho⟩:=cz ho;cases w with
 |t _=>cases et
 |c _=>cases et
 |x C nms ts =>
  obtain⟨a,o,odo,rfl,J,xf⟩:=x_at I rw';cases ru1;have et:(if C∈yes then Zz (T.bl true)else if C∈no then Zz (.bl false)else Zy)=Zz t:=et;split at et
  ·rename_i hc
   cases et;exact UG (Fv (hy C hc).1 z) I.li J (hy C hc).2 (λz=>nomatch z) λtk=>⟨.bl _,H,I.tok _,rfl,ans ho M (.bl _)⟩
  ·split at et
   ·rename_i hc
    cases et;exact UG (Fv (hn C hc).1 z) I.li J (hn C hc).2 (λz=>nomatch z) λtk=>⟨.bl _,H,I.tok _,rfl,ans ho M (.bl _)⟩
   ·cases et
theorem ci(s:PE X e (tE X.K call gv xr ea))(q:Gl X "isinstance")(o:X.mg "isinstance" = Zy)(r:PE X ce (tC cv))(b:∀u,RelV cv u->u=c)(z:DA X.K)(l:∀C∈yes,ri X.K C/\kitOne X.K (.ref C) c=Zz true)(n:∀C∈no,ri X.K C/\kitOne X.K (.ref C) c=Zz false)(g:notStar e=true:=by rfl)(a:notStar ce=true:=by rfl):
  PE X (.Call (.Name "isinstance" p) [e,ce] [] pos) (tE X.K call gv xr (.pW ea yes no)):=by
 refine PE.mono (rK (EQ (xr:=xr) b z l n) q o (by decide +kernel) (ny s (ny r BK (bH a)) (bH g)) (by decide) (by decide) (bH g) (ef (by simp[a]))) ?_;rintro σ H Q ⟨d,x,m,t,M,h⟩;rw[ev]at h;exact⟨d,x,m,t,M,h.bind.mono λw f k B A y j v i=>⟨v,rfl,f,k,w,y,i,j⟩⟩
end
end Mi
namespace Mi
open PySem PySem.Spec PyProof.Rows L2
section
variable{K:Rf}{xr:XR}{X:Cx}{call:Nat->List W->Mem->Res W}{gv:List T}
variable{e:Rq}{ea:E}{pos:Pos}{rest:List Rv}{k:S}{n:Nat}
theorem vr(i:Nat)(d:X.N[i]?=Zz x:=by rfl)(b:Nc X.env.scope x:=by first|exact Tz rfl|exact Tn (Tz rfl)|exact Tn (Tn rfl))(c:(x==("__debug__" : Str))=false:=by decide)(a:(x==("__classdict__" : Str))=false:=by decide):PE X (.Name x pos) (tE X.K call gv xr (.var i)):=Jv d b c a
theorem sg(i:Nat)(g:X.N.Nodup)(h:PE X e (tE X.K call gv xr ea))(d:du X rest (tS X.K call gv xr n k))(c:X.N.length=n:=by rfl)(hi:X.N[i]?=Zz x:=by rfl)(a:Loc X.env.scope x:=by first|exact Tz rfl|exact Tn rfl)(b:V4 e (Zz (.Name x px)) pos.line X.env=pure false:=by rfl)(f:X.fn x=true∨X.env.scope.names.lookup x=Zz .local:=by first|exact .inl rfl|exact .inr rfl):du X (.Assign [.Name x px] e pos::rest) (tS X.K call gv xr n (.asg i ea k)):=FX g c hi a h d b f
theorem bh(i:Nat)(c:X.N.Nodup)(hi:X.N[i]?=Zz x:=by rfl)(a:Loc X.env.scope x:=by first|exact Tz rfl|exact Tn rfl)(b:X.fn x=true∨X.env.scope.names.lookup x=Zz .local:=by first|exact .inl rfl|exact .inr rfl):PG X (.Name x pos) (gT X.K (.nm i)):=bS c hi a b
noncomputable def OC(scope osc:VF):Bool:=scope.kind==.function&&scope.names.all λp=>scope.names.lookup p.1==Zz p.2&&(p.2 != .free || osc.names.lookup p.1==Zz .cell || osc.names.lookup p.1==Zz .free)
noncomputable def F4(N' N:List Str)(own:Nat)(keep:List Nat)(scope:VF):Bool:=N'.length==own+keep.length&&(S4 keep.length).all λi=>match N'[own+i]?,keep[i]? with
 |some x,Zz j=>N[j]?==Zz x&&scope.names.any λp=>p.1==x&&p.2==.free
 |_,_=>false
theorem Hn(h1:OC scope X.env.scope=true)(h2:F4 N' X.N own keep scope=true)(pi:PI X target iter (tI X.K call gv xr it))(fs:∀x,Sm iter X.env x=pure x)(ins:AT X xr call gv N' scope elt target ifs (⟨target,iter,ifs,0⟩::gs) tg cs inner)(dis:∀i∈ll tg,i∉dR inner)(OQ:∀i∈ll tg++dR inner,i<own):
  CI X xr call gv N' scope own keep elt target iter ifs gs it tg cs inner:=by
 unfold OC at h1;rw[Q3]at h1;obtain⟨hk,h1⟩:=h1;have h1:=RF.mp h1;unfold F4 at h2;rw[Q3]at h2;obtain⟨hl,h2⟩:=h2;have h2:=RF.mp h2;refine⟨⟨eq_of_beq hk,λp hp=>?_,λx hx=>?_⟩,eq_of_beq hl,λi x e=>?_,pi,fs,ins,dis,OQ⟩
 ·have:=h1 p hp
  simp only[Q3]at this;exact eq_of_beq this.1
 ·have:=h1 _ hx
  simp only[Q3,Sf]at this;rcases this.2 with(h|h)|h
  ·cases h
  ·exact .inl (eq_of_beq h)
  ·exact .inr (eq_of_beq h)
 ·have hlen:=eq_of_beq hl
  have hi:i<keep.length:=by
   have:=(R0.mp e).1;omega
  have h:=h2 i (Ve.mpr hi);rw[e]at h;cases q:keep[i]? with
  |none=>rw[q]at h;cases h
  |some j =>
   rw[q]at h;have h:=h;rw[Q3]at h;refine⟨j,rfl,eq_of_beq h.1,?_⟩;obtain⟨p,hp,hq⟩:=Tv.mp h.2;rw[Q3]at hq;rw[<-eq_of_beq hq.1];have:p.2=Ru:=eq_of_beq hq.2;rw[<-this];exact hp
theorem law_sp{b:List Fn}{k fi:Nat}{H:Hp}{a:Q8}{c:List Int}{E:XK}(f:zn K H)(g:jN K H a c)(h:∃m,fU b gv k fi [.t (.dG c)] []=.ok (.t (.bl true)) m):Hq K b gv k fi [.ref a] H (λv _=>v=.bl true) E:=by
 obtain⟨m,h⟩:=h;refine⟨[],[],[.t (.dG c)],⟨rfl,λi j a p q e=>by simp at e,λi p e=>by simp at e,f⟩,.cons (.dG c g) .nil,?_⟩;rw[h];intro l n x M v d;cases RT.Ey d;rfl
theorem qU(h:mg x=Zz (.str y t))(e:y.cps.toList=cs):bP K mg x (.str cs):=⟨_,.str y,h,⟨t,rfl⟩,λa m H=>by rw[n9 e];exact .str cs⟩
theorem cB(h:mg x=Zz (.int i t)):bP K mg x (.int i):=⟨_,.int i,h,⟨t,rfl⟩,λa m H=>.int i⟩
inductive pv:List (List Nat)->List Q2->Prop where
 |nil:pv [] []
 |cons {y:Str}{t:Tok}{cs:List Nat}{r:List (List Nat)}{us:List Q2}:y.cps.toList=cs->pv r us->pv (cs::r) (.str y t::us)
theorem nZ(h:mg x=Zz (.ref a))(l:K.lookup a=Zz ⟨.type "tuple",Zy,.seq its nn,sl⟩)(hz:its.size<=RP)(g:pv b its.toList):bP K mg x (.tup (b.map .str)):=by
 refine⟨_,.ref a,h,rfl,λcm m H=>?_⟩;have i:∀{b:List (List Nat)}{d:List Q2},pv b d->Vals (b.map λc=>V.str ⟨c.toArray⟩) d/\c6 K cm m H (b.map .str) (b.map λc=>V.str ⟨c.toArray⟩):=λ{b d} h=>by
  induction h with
  |nil=>exact⟨.nil,.nil⟩
  |@cons y t j r d e _ f =>
   refine⟨.cons ?_ f.1,.cons (.str j) f.2⟩;show ∃t',UQ y t=UQ ⟨j.toArray⟩ t';rw[<-n9 e];exact⟨t,rfl⟩
 exact .AF (.inr ⟨_,its,nn,l,rfl,rfl,hz,(i g).1,rfl⟩) (i g).2
end
section
variable{K:Rf}{cm:List Q8}{m:Mem}{H:Hp}{xr:XR}{X:Cx}{call:Nat->List W->Mem->Res W}{gv:List T}
variable{a b c e:Rq}{es:List Rq}{ea eb ec:E}{eas:Es}{pos p p2:Pos}{rest:List Rv}{k:S}{n:Nat}
theorem Ou{b:B}{k:W->List Q8->Mem->Hp->Prop}(r:zX K cm m H ws vs)(h1:∀ts t,b8 b ts=Zz t->∃i j,ts=[.int i,.int j])(h:aX K (nU b ws m) xr cm m H k):
  ∃i j r,vs=[.int i,.int j]/\b8 b [.int i,.int j]=Zz r/\aX K (.ok (.t r) m) xr cm m H k:=by
 obtain⟨t,e,ho⟩:=cz h;cases q:views ws m with
 |none=>rw[q]at e;cases e
 |some ts =>
  rw[q]at e;have e:=e;obtain⟨i,j,rfl⟩:=h1 ts t e;obtain⟨w1,us,rfl,q1,q2⟩:=lL q;obtain⟨w2,us,rfl,q3,q4⟩:=lL q2;obtain rfl:=uq q4;cases r with
  |cons r1 r =>
   cases r with
   |cons r2 r =>
    cases r with
    |nil =>
     cases(ao r1 q1 (λ_ z=>by cases z)).b7;cases(ao r2 q3 (λ_ z=>by cases z)).b7;exact⟨i,j,t,rfl,e,ho⟩
theorem Hf:∀ts t,b8 .min2 ts=Zz t->∃i j,ts=[.int i,.int j]:=by
 intro ts t h;exact(um h).imp λi hi=>hi.imp λj hj=>hj.1
theorem DW(e:X.calm=true):db X (.builtin "min") (rN X.K xr (nU .min2)):=by
 rintro a s σ H g d Q I r ⟨l,m,h,M,b,c⟩;obtain⟨i,j,k,rfl,f,c⟩:=Ou b Hf c;cases f;exact Ed e a s σ H _ d Q I r ⟨i,j,rfl,ans c M (.int _)⟩
theorem MC:OS X op (r2 X.K xr λx y m=>cW ((view x m).bind λx=>(view y m).bind λy=>Jp op x y) m):=by
 rintro c s σ H x y v u Q I g f ⟨o,m,a,b,M,i,h,d⟩;obtain⟨t,e,d⟩:=cz d;obtain⟨n,l,k,j,e⟩:=j4 e;unfold Jp at e;split at e
 ·cases e
  cases(ao i k (λ_ z=>by cases z)).b7;cases(ao h j (λ_ z=>by cases z)).b7;exact L5 c s σ H _ _ v u Q I g f ⟨_,_,rfl,rfl,ans d M (.int _)⟩
 ·cases e
  cases(ao i k (λ_ z=>by cases z)).b7;cases(ao h j (λ_ z=>by cases z)).b7;exact Mj c s σ H _ _ v u Q I g f ⟨_,_,rfl,rfl,ans d M (.int _)⟩
 ·cases e
theorem GU(i:Nat)(I:X.N.Nodup)(h:PE X e (tE X.K call gv xr ea))(F:du X rest (tS X.K call gv xr n k))(E:X.N.length=n:=by rfl)(hi:X.N[i]?=Zz x:=by rfl)(C:Loc X.env.scope x:=by first|exact Tz rfl|exact Tn rfl)(G:X.fn x=true∨X.env.scope.names.lookup x=Zz .local:=by first|exact .inl rfl|exact .inr rfl):du X (.AugAssign (.Name x px) op e pos::rest) (tS X.K call gv xr n (.aug i op ea k)):=by
 refine du.mono (cE (MP I hi C h (MC (xr:=xr)) G) F) ?_;rintro D σ H ⟨o,a,O,m,f,M,b⟩;rw[ex]at b;split at b
 ·rename_i w e
  obtain⟨v,L,J⟩:=f i w e;have d:i<σ.length:=by rw[o,<-E];exact(R0.mp hi).1
  refine⟨v,L,a,O,m,f,M,b.bind.mono λy j B S l c u Q s=>?_⟩;refine⟨j,B,w,y,c,J.ext l M c,s,u.bind.mono λz g A R q p t P r=>?_⟩;exact⟨by rw[S8];exact o,a.set i (Zz z),g,A,bq.set ((f.ext l M c).ext q c p) r i d,p,t⟩
 ·exact b.elim
theorem JJ{l h:List T}{r:T×List T}(d:oQ .append l h=Zz r):∃P,h=[P]:=by
 cases h with
 |nil=>cases d
 |cons P h =>
  cases h with
  |nil=>exact⟨P,rfl⟩
  |cons _ _=>cases d
theorem Av:KL X "list.append" (rM X.K xr .append):=by
 rintro e s σ H x n v B Q I C D ⟨N,m,w,z,M,k,j,g⟩;cases w with
 |t t=>exact g.elim
 |x _ _ _=>exact g.elim
 |c i =>
  have g:aX X.K ((bX z m).bind λh m=>match m[i]? with
   |some (Zz (false,n))=>match oQ .append n h with
    |some (t,l)=>.ok (W.t t) (m.set i (Zz (false,l)))
    |none=>.stuck
   |_=>.stuck) xr N m H _:=g
  obtain⟨h,S,L,f⟩:=iB g;obtain⟨y,r,F⟩:=gX M j L;obtain⟨a,q,rfl⟩:=k;split at f
  ·rename_i l e3
   split at f
   ·rename_i t zs d
    obtain⟨b,A,p,G,R,o⟩:=r.at' i _ e3;rw[q]at p;cases p;have J:=o.length;dsimp only at J;have T:=bj;obtain⟨P,rfl⟩:=JJ d;cases F with
    |cons E F =>
     cases F with
     |nil =>
      unfold oQ at d;dsimp only at d;split at d<;>cases d;rename_i hlt;obtain⟨u,O⟩:=ju r e3 q (bB o (.cons E .nil));exact DO e s σ H _ _ v B Q I C D ⟨a,A,_,rfl,rfl,G,by omega,aX.to f (y.trans u) O _ .non⟩
   ·exact f.elim
  ·exact f.elim
theorem Bq(L:PE X o (tE X.K call gv xr ea))(N:PA X [e] (tA X.K call gv xr eas))(f:Sz o "append" X.env (eval o X.env)=eval o X.env:=by rfl)(d:(apos.endLine==cpos.line)=true:=by rfl)(y:notStar e=true:=by rfl):
  PE X (.Call (.Attribute o "append" apos) [e] [] cpos) (tE X.K call gv xr (.eA .append ea eas)):=by
 refine PE.mono (su Ut PySem.F.slot_list_append PySem.F.type_list_append (Av (xr:=xr)) L N f (Db y) d (bH y) (ef rfl)) ?_;rintro σ H Q ⟨h,P,m,A,M,z⟩;rw[ev]at z;refine⟨h,P,m,A,M,z.bind.mono λw p u S D j l v r=>?_⟩;obtain⟨g,l⟩:=ij l;refine⟨?_,h,p,u,A.ext D M j,j,l.bind.mono λE n J R C B I q k=>?_⟩
 ·cases w with
  |t t=>cases g
  |x _ _ _=>cases g
  |c i =>
   obtain⟨a,O,rfl⟩:=r;have g:(match u[i]? with
    |some (Zz _)=>true
    |_=>false)=true:=g
   split at g
   ·rename_i c e1
    obtain⟨b,q,s,G,_⟩:=j.at' i _ e1;rw[O]at s;cases s;exact .inl ⟨rfl,q,.of G⟩
   ·cases g
 ·exact⟨n,J,w,E,B,r.ext C j B,k,I⟩
theorem Bz(hp:Wa (RC X.prog X.w) X.A X.env X.xe)(hc:PT X c (tT X.K call gv xr ec))(hb:du X body (tS X.K call gv xr n sb))(hk:du X rest (tS X.K call gv xr n k)):
  du X (.While c body [] pos::rest) (tS X.K call gv xr n (.Ml ec sb k)):=by
 refine du.mono (cE (Fg hp hc hb) hk) ?_;rintro D σ0 H0 ⟨hl0,env0,cm0,m0,hE0,M0,ho⟩;rw[ex]at ho
 let g:Flow->Mem->Res Flow:=λfl m=>match fl with
  |.next a=>ex call gv k a m
  |fl=>.ok fl m
 let P:Flow->List Q8->Mem->Hp->Prop:=λfl cm m H=>aX X.K (g fl m) xr cm m H (λfl cm' m' H'=>mv X.K n D fl cm' m' H')
 have ho:=ho;refine⟨λμ σ H=>σ.length=n/\∃a cm m,bq X.K cm m H a σ/\aE X.K cm m H/\aX X.K (dk (λa m=>(ev call gv ec a m).bind cK) (λa m=>ex call gv sb a m) μ a m) xr cm m H P,⟨turns,hl0,env0,cm0,m0,hE0,M0,ho.bind⟩,?_⟩;rintro μ σ H ⟨hl,a,cm,m,hE,M,hq⟩;cases μ with
 |zero=>rw[dk]at hq;exact hq.elim
 |succ μ =>
  rw[dk]at hq;refine⟨a,cm,m,hE,M,hq.bind.mono λb cm1 m1 H1 x1 M1 o1=>?_⟩;cases b with
  |false=>exact BD ⟨hl,a,cm1,m1,hE.ext x1 M M1,M1,aX.now o1 M1⟩
  |true =>
   have o1:aX X.K ((ex call gv sb a m1).bind λfl m=>match fl with
    |.next a=>dk (λa m=>(ev call gv ec a m).bind cK) (λa m=>ex call gv sb a m) μ a m
    |.ret w=>.ok (.ret w) m) xr cm1 m1 H1 P:=o1
   refine Ai ⟨λσ' H'=>σ'.length=n/\∃a cm m,bq X.K cm m H' a σ'/\aE X.K cm m H'/\aX X.K (dk (λa m=>(ev call gv ec a m).bind cK) (λa m=>ex call gv sb a m) μ a m) xr cm m H' P,λσ' H' h=>⟨μ,TM _,h⟩,hl,a,cm1,m1,hE.ext x1 M M1,M1,o1.bind.mono λfl cm2 m2 H2 x2 M2 o2=>?_⟩;cases fl with
   |next env2=>exact λσ2 hl2 hE2=>⟨hl2,env2,cm2,m2,hE2,M2,o2⟩
   |ret w=>exact aX.now (xr:=xr) (aX.now o2 M2) M2
theorem cons_of{α:Type}{l:List α}{n:Nat}(h:l.length=n+1):∃a t,l=a::t/\t.length=n:=by
 cases l with
 |nil=>cases h
 |cons a t=>exact⟨a,t,rfl,Nat.succ.inj h⟩
theorem mL(i j:Nat)(w:X.calm=true)(g:X.N.Nodup)(hi:X.N[i]?=Zz x:=by rfl)(p:X.N[j]?=Zz y:=by rfl)(m:Loc X.env.scope x:=by first|exact Tz rfl|exact Tn rfl)(l:Loc X.env.scope y:=by first|exact Tz rfl|exact Tn rfl)(t:X.fn x=true∨X.env.scope.names.lookup x=Zz .local:=by first|exact .inl rfl|exact .inr rfl)(q:X.fn y=true∨X.env.scope.names.lookup y=Zz .local:=by first|exact .inl rfl|exact .inr rfl)(n:(RM [.Name x px,.Name y py] X.env).map (·.2)=assign (.Name x px) X.env::(RM [.Name y py] X.env).map (·.2):=by rfl)(d:(RM [.Name y py] X.env).map (·.2)=assign (.Name y py) X.env::(RM [] X.env).map (·.2):=by rfl)(o:(RM [.Name x px,.Name y py] X.env).length=2:=by rfl)(c:(RM [.Name x px,.Name y py] X.env).findIdx? (·.1)=Zy:=by rfl):PG X (.Tuple [.Name x px,.Name y py] kk pos) (gT X.K (.tp [i,j])):=by
 rintro b s σ H v u Q I r ⟨a,e,B,A,h,z⟩;refine zP w (bJ (bS g hi m t) (bJ (bS g p l q) qF d) n) o c b s σ H v u Q I r ⟨a,e,B,A,h,?_⟩;obtain⟨k,e,rfl,zq1⟩:=cons_of h;obtain⟨f,e,rfl,zq2⟩:=cons_of zq1;obtain rfl:=SG zq2;exact⟨k,_,rfl,f,_,rfl,rfl,z⟩
theorem GK(P:∀i∈l,i<n)(h:PE X e (tE X.K call gv xr ea))(O:PG X tg (gT X.K (.tp l)))(L:du X rest (tS X.K call gv xr n k))(J:Vy [tg] e pos.line X.env=pure false:=by rfl)(I:Vz [tg] e X.env=pure Zy:=by rfl)(R:(RM [tg] X.env).map (·.2)=[assign tg X.env]:=by rfl):du X (.Assign [tg] e pos::rest) (tS X.K call gv xr n (.le l ea k)):=by
 refine du.mono (cE (A8 h O J I R) L) ?_;rintro D σ H ⟨r,a,S,m,s,M,q⟩;rw[ex]at q;refine⟨a,S,m,s,M,q.bind.mono λw d g p F u b v G=>?_⟩;cases w with
 |x _ _ _=>exact b.elim
 |c i=>exact b.elim
 |t t =>
  have b:aX X.K (match bK (.tp l) t a with
   |some a=>ex call gv k a g
   |none=>.stuck) xr d g p _:=b
  split at b
  ·rename_i env' eb
   have:=GR (Hw (Q:=λf U=>U=p/\bq X.K d g p env' f) (s.ext F M u) (λj N=>by rw[r];exact P j N) G eb λf o _=>⟨rfl,o⟩);obtain⟨T,E,C,B,A,z,V,y⟩:=this;exact⟨T,E,C,B,A,z.trans r,env',d,g,y,u,b⟩
  ·exact b.elim
end
section
variable{xr:XR}{X:Cx}{call:Nat->List W->Mem->Res W}{gv:List T}
variable{e:Rq}{es:List Rq}{eas:Es}{pos p:Pos}
theorem IY(c:Gl X "len")(b:X.mg "len" = Zy)(f:PA X (e::es) (tA X.K call gv xr eas))(d:notStar e=true)(a:es.all notStar=true):PE X (.Call (.Name "len" p) (e::es) [] pos) (tE X.K call gv xr (.blt .len eas)):=qr DV (by decide +kernel) c b f (by decide) (by decide) d a
theorem FG(c:Gl X "int")(b:X.mg "int" = Zy)(f:PA X (e::es) (tA X.K call gv xr eas))(d:notStar e=true)(a:es.all notStar=true):PE X (.Call (.Name "int" p) (e::es) [] pos) (tE X.K call gv xr (.blt .int eas)):=qy Dy (by decide +kernel) c b f (by decide) (by decide) d a
theorem Fx(c:Gl X "str")(b:X.mg "str" = Zy)(f:PA X (e::es) (tA X.K call gv xr eas))(d:notStar e=true)(a:es.all notStar=true):PE X (.Call (.Name "str" p) (e::es) [] pos) (tE X.K call gv xr (.blt .str eas)):=qy C2 (by decide +kernel) c b f (by decide) (by decide) d a
theorem A9(c:Gl X "tuple")(b:X.mg "tuple" = Zy)(g:PA X (e::es) (tA X.K call gv xr eas))(d:notStar e=true)(a:es.all notStar=true)(f:X.calm=true:=by rfl):PE X (.Call (.Name "tuple" p) (e::es) [] pos) (tE X.K call gv xr (.blt .tuple eas)):=qy (xR f) (by decide +kernel) c b g (by decide) (by decide) d a
theorem DQ(c:Gl X "list")(b:X.mg "list" = Zy)(f:PA X (e::es) (tA X.K call gv xr eas))(d:notStar e=true)(a:es.all notStar=true):PE X (.Call (.Name "list" p) (e::es) [] pos) (tE X.K call gv xr (.blt .list eas)):=qy Af (by decide +kernel) c b f (by decide) (by decide) d a
theorem FH(c:Gl X "all")(b:X.mg "all" = Zy)(g:PA X (e::es) (tA X.K call gv xr eas))(d:notStar e=true)(a:es.all notStar=true)(f:X.calm=true:=by rfl):PE X (.Call (.Name "all" p) (e::es) [] pos) (tE X.K call gv xr (.blt .all eas)):=qr (DG f) (by decide +kernel) c b g (by decide) (by decide) d a
theorem Fj(c:Gl X "min")(b:X.mg "min" = Zy)(g:PA X (e::es) (tA X.K call gv xr eas))(d:notStar e=true)(a:es.all notStar=true)(f:X.calm=true:=by rfl):PE X (.Call (.Name "min" p) (e::es) [] pos) (tE X.K call gv xr (.blt .min2 eas)):=qr (DW f) (by decide +kernel) c b g (by decide) (by decide) d a
end
structure Bd (X:Cx) (st:List Rv) (t:TS):Prop where
 h:du X st t
theorem Hm{K:Rf}{g:List Fn}{gv:List T}{k:Nat}{P:Rk}{w:Rz}{l:Str->Option Q2}{d:Rm}{x b:Str}{st:Rv}{f:Q8}{o:Tb}{N ps:List Str}{fi np n:Nat}{body:S}{cell:Bool}(F:HV K x b st f o)(S:av N ps (ai st))(r:g[fi]?=Zz ⟨np,n,body,cell⟩)(m:np=ps.length)(q:N.length=n)(e:∀(c:Q2) (A:SH) (a:List T8) (s:Q7) (H:Hp) (E:XK),iQ k (A.deeper (envOfC b (ai st) s.heap.objs.size f c)) ->
   ∀(i:Q2->Q7->Prop) (j:List (Q8×Obj)) (xr:XR),Go (asX (kh (ux P w) P w K l d N b (ai st) f c A a s H E) i j) xr->Bd (asX (kh (ux P w) P w K l d N b (ai st) f c A a s H E) i j) (bR st) (tS K (fU g gv k) gv xr n body)):
  oo P w K l d (ux P w) (k+1) f o ps (Hq K g gv (k+1) fi):=by
 subst q;exact KU F S r m rfl λc A a s H E p i j xr t=>(e c A a s H E p i j xr t).h
section
variable{K:Rf}{cm:List Q8}{m:Mem}{H:Hp}{xr:XR}{X:Cx}{call:Nat->List W->Mem->Res W}{gv:List T}
variable{a b c e:Rq}{es:List Rq}{ea eb ec:E}{eas:Es}{pos p p2:Pos}{rest:List Rv}{k:S}{n:Nat}
theorem AQ(x:Gl X "range")(u:X.mg "range" = Zy)(y:PA X [a,b] (tA X.K call gv xr eas))(s:notStar a=true:=by rfl)(c:notStar b=true:=by rfl):PI X tg (.Call (.Name "range" p) [a,b] [] pos) (tI X.K call gv xr (.blt .jM eas)):=by
 refine PI.mono (Dx x u y (by rw[bH s,bH c];rfl) (bH c)) ?_;rintro σ H R ⟨g,B,m,z,M,l⟩;rw[ev]at l;refine⟨g,B,m,z,M,l.bind.mono λE A J L D C r F f=>?_⟩;have e:∀d t,b8 .jM d=Zz t->∃i j,d=[.int i,.int j]:=by
  intro d t h;exact(um h).imp λi w=>w.imp λj v=>v.1
 obtain⟨i,j,G,rfl,k,q⟩:=Ou f e r;simp only[b8,F2]at k;split at k<;>cases k;rename_i hc;obtain⟨d,I,o,n⟩:=aX.now q C;cases o;exact⟨_,_,rfl,⟨hc.1.2,hc.1.1,hc.2.2,hc.2.1⟩,n _ (.EO _ _)⟩
theorem sP(z:Nat)(y:Nat)(x:Nat)(D:X.calm=true)(q:X.N.Nodup)(m:X.N[z]?=Zz x0:=by rfl)(l:X.N[y]?=Zz x1:=by rfl)(k:X.N[x]?=Zz x2:=by rfl)(f:Loc X.env.scope x0:=by first|exact Tz rfl|exact Tn rfl)(e:Loc X.env.scope x1:=by first|exact Tz rfl|exact Tn rfl)(d:Loc X.env.scope x2:=by first|exact Tz rfl|exact Tn rfl)(p:X.fn x0=true∨X.env.scope.names.lookup x0=Zz .local:=by first|exact .inl rfl|exact .inr rfl)(o:X.fn x1=true∨X.env.scope.names.lookup x1=Zz .local:=by first|exact .inl rfl|exact .inr rfl)(n:X.fn x2=true∨X.env.scope.names.lookup x2=Zz .local:=by first|exact .inl rfl|exact .inr rfl)(j:(RM [.Name x0 p0,.Name x1 p1,.Name x2 p2] X.env).map (·.2)=assign (.Name x0 p0) X.env::(RM [.Name x1 p1,.Name x2 p2] X.env).map (·.2):=by rfl)(i:(RM [.Name x1 p1,.Name x2 p2] X.env).map (·.2)=assign (.Name x1 p1) X.env::(RM [.Name x2 p2] X.env).map (·.2):=by rfl)(h:(RM [.Name x2 p2] X.env).map (·.2)=assign (.Name x2 p2) X.env::(RM [] X.env).map (·.2):=by rfl)(C:(RM [.Name x0 p0,.Name x1 p1,.Name x2 p2] X.env).length=3:=by rfl)(g:(RM [.Name x0 p0,.Name x1 p1,.Name x2 p2] X.env).findIdx? (·.1)=Zy:=by rfl):PG X (.Tuple [.Name x0 p0,.Name x1 p1,.Name x2 p2] kk pos) (gT X.K (.tp [z,y,x])):=by
 rintro b s σ H v u Q I r ⟨a,t,G,F,A,E⟩;refine zP D (bJ (bS q m f p) (bJ (bS q l e o) (bJ (bS q k d n) qF h) i) j) C g b s σ H v u Q I r ⟨a,t,G,F,A,?_⟩;obtain⟨B,t,rfl,zq1⟩:=cons_of A;obtain⟨w,t,rfl,zq2⟩:=cons_of zq1;obtain⟨c,t,rfl,zq3⟩:=cons_of zq2;obtain rfl:=SG zq3;exact⟨B,_,rfl,w,_,rfl,c,_,rfl,rfl,E⟩
theorem zp(i0:Nat)(i1:Nat)(i2:Nat)(i3:Nat)(Z:Nat)(Y:Nat)(W:Nat)(hc:X.calm=true)(c:X.N.Nodup)(J:X.N[i0]?=Zz x0:=by rfl)(G:X.N[i1]?=Zz x1:=by rfl)(F:X.N[i2]?=Zz x2:=by rfl)(E:X.N[i3]?=Zz x3:=by rfl)(D:X.N[Z]?=Zz x4:=by rfl)(C:X.N[Y]?=Zz x5:=by rfl)(B:X.N[W]?=Zz x6:=by rfl)(o:Loc X.env.scope x0:=by first|exact Tz rfl|exact Tn rfl)(n:Loc X.env.scope x1:=by first|exact Tz rfl|exact Tn rfl)(m:Loc X.env.scope x2:=by first|exact Tz rfl|exact Tn rfl)(l:Loc X.env.scope x3:=by first|exact Tz rfl|exact Tn rfl)(k:Loc X.env.scope x4:=by first|exact Tz rfl|exact Tn rfl)(j:Loc X.env.scope x5:=by first|exact Tz rfl|exact Tn rfl)(i:Loc X.env.scope x6:=by first|exact Tz rfl|exact Tn rfl)(T:X.fn x0=true∨X.env.scope.names.lookup x0=Zz .local:=by first|exact .inl rfl|exact .inr rfl)(S:X.fn x1=true∨X.env.scope.names.lookup x1=Zz .local:=by first|exact .inl rfl|exact .inr rfl)(R:X.fn x2=true∨X.env.scope.names.lookup x2=Zz .local:=by first|exact .inl rfl|exact .inr rfl)(P:X.fn x3=true∨X.env.scope.names.lookup x3=Zz .local:=by first|exact .inl rfl|exact .inr rfl)(O:X.fn x4=true∨X.env.scope.names.lookup x4=Zz .local:=by first|exact .inl rfl|exact .inr rfl)(M:X.fn x5=true∨X.env.scope.names.lookup x5=Zz .local:=by first|exact .inl rfl|exact .inr rfl)(L:X.fn x6=true∨X.env.scope.names.lookup x6=Zz .local:=by first|exact .inl rfl|exact .inr rfl)(A:(RM [.Name x0 p0,.Name x1 p1,.Name x2 p2,.Name x3 p3,.Name x4 p4,.Name x5 p5,.Name x6 p6] X.env).map (·.2)=assign (.Name x0 p0) X.env::(RM [.Name x1 p1,.Name x2 p2,.Name x3 p3,.Name x4 p4,.Name x5 p5,.Name x6 p6] X.env).map (·.2):=by rfl)(z:(RM [.Name x1 p1,.Name x2 p2,.Name x3 p3,.Name x4 p4,.Name x5 p5,.Name x6 p6] X.env).map (·.2)=assign (.Name x1 p1) X.env::(RM [.Name x2 p2,.Name x3 p3,.Name x4 p4,.Name x5 p5,.Name x6 p6] X.env).map (·.2):=by rfl)(y:(RM [.Name x2 p2,.Name x3 p3,.Name x4 p4,.Name x5 p5,.Name x6 p6] X.env).map (·.2)=assign (.Name x2 p2) X.env::(RM [.Name x3 p3,.Name x4 p4,.Name x5 p5,.Name x6 p6] X.env).map (·.2):=by rfl)(x:(RM [.Name x3 p3,.Name x4 p4,.Name x5 p5,.Name x6 p6] X.env).map (·.2)=assign (.Name x3 p3) X.env::(RM [.Name x4 p4,.Name x5 p5,.Name x6 p6] X.env).map (·.2):=by rfl)(w:(RM [.Name x4 p4,.Name x5 p5,.Name x6 p6] X.env).map (·.2)=assign (.Name x4 p4) X.env::(RM [.Name x5 p5,.Name x6 p6] X.env).map (·.2):=by rfl)(t:(RM [.Name x5 p5,.Name x6 p6] X.env).map (·.2)=assign (.Name x5 p5) X.env::(RM [.Name x6 p6] X.env).map (·.2):=by rfl)(q:(RM [.Name x6 p6] X.env).map (·.2)=assign (.Name x6 p6) X.env::(RM [] X.env).map (·.2):=by rfl)(hn:(RM [.Name x0 p0,.Name x1 p1,.Name x2 p2,.Name x3 p3,.Name x4 p4,.Name x5 p5,.Name x6 p6] X.env).length=7:=by rfl)(p:(RM [.Name x0 p0,.Name x1 p1,.Name x2 p2,.Name x3 p3,.Name x4 p4,.Name x5 p5,.Name x6 p6] X.env).findIdx? (·.1)=Zy:=by rfl):PG X (.Tuple [.Name x0 p0,.Name x1 p1,.Name x2 p2,.Name x3 p3,.Name x4 p4,.Name x5 p5,.Name x6 p6] kk pos) (gT X.K (.tp [i0,i1,i2,i3,Z,Y,W])):=by
 rintro f s σ H v u Q I r ⟨a,U,e1,h1,h2,h3⟩;refine zP hc (bJ (bS c J o T) (bJ (bS c G n S) (bJ (bS c F m R) (bJ (bS c E l P) (bJ (bS c D k O) (bJ (bS c C j M) (bJ (bS c B i L) qF q) t) w) x) y) z) A) hn p f s σ H v u Q I r ⟨a,U,e1,h1,h2,?_⟩;obtain⟨v0,U,rfl,zq1⟩:=cons_of h2;obtain⟨V,U,rfl,zq2⟩:=cons_of zq1;obtain⟨h,U,rfl,zq3⟩:=cons_of zq2;obtain⟨g,U,rfl,zq4⟩:=cons_of zq3;obtain⟨e,U,rfl,zq5⟩:=cons_of zq4;obtain⟨d,U,rfl,zq6⟩:=cons_of zq5;obtain⟨b,U,rfl,zq7⟩:=cons_of zq6;obtain rfl:=SG zq7;exact⟨v0,_,rfl,V,_,rfl,h,_,rfl,g,_,rfl,e,_,rfl,d,_,rfl,b,_,rfl,rfl,h3⟩
end
end Mi
namespace Mi
theorem bV:∀(ts:List T),(∀t∈ts,∃env',bK tg t env=Zz env'/\f env' m=.ok (g t) m)->cb f tg ts env m=.ok (ts.flatMap g) m
 |[],_=>rfl
 |t::ts,h=>by
  obtain⟨env',e1,e2⟩:=h t RU;rw[cb,e1];show(f env' m).bind _=_;rw[e2];show(cb f tg ts env m).bind _=_;rw[bV ts λt ht=>h t (R5 _ ht)];rfl
inductive va {α β:Type}(R:α->β->Prop):List α->List β->Prop where
 |nil:va R [] []
 |cons {a:α}{b:β}{as:List α}{bs:List β}:R a b->va R as bs->va R (a::as) (b::bs)
theorem qT{P:Mem->Prop}:∀(ts:List T) (m:Mem),P m->(∀t∈ts,∀m,P m->∃env' xs m',bK tg t env=Zz env'/\f env' m=.ok xs m'/\P m'/\R t xs) ->
  ∃xss m',cb f tg ts env m=.ok xss.flatten m'/\P m'/\va R ts xss
 |[],m,hm,_=>⟨[],m,rfl,hm,.nil⟩
 |t::ts,m,hm,h=>by
  obtain⟨env',xs,m1,e1,e2,p1,r1⟩:=h t RU m hm;obtain⟨xss,m2,e3,p2,r2⟩:=qT ts m1 p1 λt ht=>h t (R5 _ ht)
  refine⟨xs::xss,m2,?_,p2,.cons r1 r2⟩;rw[cb,e1];show(f env' m).bind _=_;rw[e2];show(cb f tg ts env m1).bind _=_;rw[e3];rfl
theorem sw{P:Env->Mem->Prop}:∀(ts:List T) (env:Env) (m:Mem),P env m->(∀t∈ts,∀env m,P env m->∃env1 env2 m2,bK tg t env=Zz env1/\f env1 m=.ok (.next env2) m2/\P env2 m2) ->
  ∃env' m',cj f tg ts env m=.ok (.next env') m'/\P env' m'
 |[],env,m,hm,_=>⟨env,m,rfl,hm⟩
 |t::ts,env,m,hm,h=>by
  obtain⟨env1,env2,m2,e1,e2,p2⟩:=h t RU env m hm;obtain⟨env3,m3,e3,p3⟩:=sw ts env2 m2 p2 λt ht=>h t (R5 _ ht)
  refine⟨env3,m3,?_,p3⟩;rw[cj,e1];show(f env1 m).bind _=_;rw[e2];exact e3
theorem eu{α:Type}{xs:List α}{i:Int}(c:0<=i)(b:i<xs.length):∃x,atT xs i=Zz x/\x∈xs:=by
 have a:i.toNat<xs.length:=by omega
 refine⟨xs[i.toNat],?_,Ts a⟩;unfold atT iW;rw[Xf c,Xf b];exact Ra a
theorem d4{α:Type}(f:α->Bool):∀xs:List α,ek (xs.map λx=>.bl (f x))=Zz (xs.map f)
 |[]=>rfl
 |x::xs=>by
  rw[R8,ek,d4 f xs];rfl
theorem strs_map{α:Type}(f:α->List Nat):∀xs:List α,cu (xs.map λx=>.str (f x))=Zz (xs.map f)
 |[]=>rfl
 |x::xs=>by
  rw[R8,cu,strs_map f xs];rfl
theorem uV:∀xs:List (List Nat),aM [] xs=xs.flatten
 |[]=>rfl
 |[x]=>by simp[aM]
 |x::y::r=>by
  show x++[]++aM [] (y::r)=_;rw[uV (y::r)];simp
section
variable{call:Nat->List W->Mem->Res W}{gv:List T}
noncomputable def bA(call:Nat->List W->Mem->Res W)(gv:List T)(cs:Es)(inner:E)(env:Env)(m:Mem):Res (List T):=(tests call gv cs env m).bind λk m=>if k then(ev call gv inner env m).bind nQ else .ok [] m
theorem aZ(h1:ev call gv it env m=.ok x m0)(h2:bp x m0=.ok ts m1)(h3:cb (bA call gv cs inner) tg ts (R4 own Zy++keep.map λi=>(env[i]?).join) m1=.ok out m2)(hz:out.length<=lim):ev call gv (.comp own keep it tg cs inner) env m=.ok (.t (.lst out)) (giveBack x m0 m2):=by
 have e:ev call gv (.comp own keep it tg cs inner) env m=(ev call gv it env m).only.bind λx m0=>(bp x m0).bind λts m =>
  (cb (bA call gv cs inner) tg ts (R4 own Zy++keep.map λi=>(env[i]?).join) m).only.bind λout m =>
   if out.length<=lim then .ok (.t (.lst out)) (giveBack x m0 m)else .stuck:=by rw[ev];rfl
 rw[e,h1];show(bp x m0).bind _=_;rw[h2];show(cb (bA call gv cs inner) tg ts (R4 own Zy++keep.map λi=>(env[i]?).join) m1).only.bind _=_;rw[h3];exact Xf hz
theorem jL(c:ev call gv it env m=.ok x m0)(b:bp x m0=.ok ts m1)(a:cj (ex call gv body) tg ts env m1=.ok (.next env') m2):
  ex call gv (.vZ tg it body k) env m=ex call gv k env' (giveBack x m0 m2):=by
 rw[ex,c];show(bp x m0).bind _=_;rw[b];show(cj (ex call gv body) tg ts env m1).bind _=_;rw[a];rfl
end
section
variable{call:Nat->List W->Mem->Res W}{gv:List T}{env:Env}{m m1 m2:Mem}{k a b:S}{e:E}{w:W}
theorem ag{α β:Type}(x:α)(m:Mem)(f:α->Mem->Res β):(Res.ok x m).bind f=f x m:=rfl
theorem LJ{α:Type}(x:α)(m:Mem):(Res.ok x m).only=.ok x m:=rfl
theorem Li(x:T)(m:Mem):view (.t x) m=Zz x:=rfl
theorem N1(x:T)(m:Mem):cW (Zz x) m=.ok (.t x) m:=rfl
theorem JF(x:Bool)(m:Mem):jE (.t (.bl x)) m=.ok x m:=rfl
theorem rP(x:Bool)(m:Mem):cK (.t (.bl x)) m=.ok x m:=rfl
theorem Oq(x:T)(m:Mem):jS (.t x) m=.ok x m:=rfl
theorem Cz(x:List T)(m:Mem):nQ (.t (.lst x)) m=.ok x m:=rfl
theorem MI(x:Int)(m:Mem):yy (.t (.int x)) m=.ok (Zz x) m:=rfl
theorem ln(i j:Int):bn .Lt (.int i) (.int j)=Zz (decide (i<j)):=rfl
theorem tj(i j:Int):bn .LtE (.int i) (.int j)=Zz (decide (i<=j)):=rfl
theorem GC(i j:Int):bn .Gt (.int i) (.int j)=Zz (decide (j<i)):=rfl
theorem Ov(i j:Int):bn .GtE (.int i) (.int j)=Zz (decide (j<=i)):=rfl
theorem gL(i j:Int):bn .Eq (.int i) (.int j)=Zz (i==j):=rfl
theorem Kp(i j:Int):bn .NotEq (.int i) (.int j)=Zz (!(i==j)):=rfl
theorem Om(i j:Bool):bn .Eq (.bl i) (.bl j)=Zz (i==j):=rfl
theorem On(i j:Bool):bn .NotEq (.bl i) (.bl j)=Zz (!(i==j)):=rfl
theorem jy(i j:List Nat):bn .Eq (.str i) (.str j)=Zz (i==j):=rfl
theorem rk(i j:List Nat):bn .NotEq (.str i) (.str j)=Zz (!(i==j)):=rfl
theorem KF(i:Nat)(j:List Nat):bn .In (.str [i]) (.str j)=Zz (decide (i∈j)):=rfl
theorem NQ(b x:Bool):bn .Is (.bl x) (.bl b)=Zz (x==b):=rfl
theorem dz(i j:Int):iq .Add (.int i) (.int j)=Zz (.int (i+j)):=rfl
theorem yN(i j:Int):iq .Sub (.int i) (.int j)=Zz (.int (i-j)):=rfl
theorem eZ{a b:List Nat}(h:a.length+b.length<=lim):iq .Add (.str a) (.str b)=Zz (.str (a++b)):=Xf h
theorem LB{a b:List T}(h:a.length+b.length<=lim):iq .Add (.lst a) (.lst b)=Zz (.lst (a++b)):=Xf h
theorem uh(h:fV i j=true):iq .Mult (.int i) (.int j)=Zz (.int (i*j)):=Xf h
theorem zf(h:0<j/\j<1073741824):iq .FloorDiv (.int i) (.int j)=Zz (.int (i / j)):=Xf h
theorem lE(h:0<j):iq .Mod (.int i) (.int j)=Zz (.int (i%j)):=Xf h
theorem Os(h:0<=j/\j<=1000/\i.natAbs<2^64):iq .Pow (.int i) (.int j)=Zz (.int (i^j.toNat)):=Xf h
theorem KA(ts:List T)(i:Int):uN (.tup ts) (.int i)=atT ts i:=rfl
theorem KG(ts:List T)(i:Int):uN (.lst ts) (.int i)=atT ts i:=rfl
theorem Kt(ts:List Int)(i:Int):uN (.dG ts) (.int i)=(atT ts i).map .int:=rfl
theorem BP(h:cs.length<=lim)(i:Int):uN (.str cs) (.int i)=(atT cs i).map λc=>.str [c]:=Xf h
theorem NP(ts:List T)(lo hi:Option Int):EL (.lst ts) lo hi=Zz (.lst (cut ts lo hi)):=rfl
theorem NM(ts:List Int)(lo hi:Option Int):EL (.dG ts) lo hi=Zz (.lst ((cut ts lo hi).map .int)):=rfl
theorem lB(h:cs.length<=lim):b8 .len [.str cs]=Zz (.int cs.length):=Xf h
theorem ki(ts:List T):b8 .len [.lst ts]=Zz (.int ts.length):=rfl
theorem BV(ts:List T):b8 .len [.tup ts]=Zz (.int ts.length):=rfl
theorem KE(ts:List Int):b8 .len [.dG ts]=Zz (.int ts.length):=rfl
theorem uY(b:Bool):b8 .int [.bl b]=Zz (.int (b2i b)):=rfl
theorem zU(h:i.natAbs<2^250):b8 .str [.int i]=Zz (.str (ft i)):=Xf h
theorem i6(ts:List T):b8 .tuple [.lst ts]=Zz (.tup ts):=rfl
theorem vg(h:ek ts=Zz bs):b8 .all [.lst ts]=Zz (.bl (bs.all id)):=by
 show(ek ts).map _=_;rw[h];rfl
theorem sA(h:i<2^62/\-(2^62)<=i):b8 .dY [.int i]=Zz (.lst (rangeT 0 i.toNat)):=Xf h
theorem CD:views [] m=Zz []:=rfl
theorem BZ(x:T)(ws:List W):views (.t x::ws) m=(views ws m).map (x::·):=rfl
theorem cN:bX [] m=.ok [] m:=rfl
theorem dm(x:T)(ws:List W):bX (.t x::ws) m=(bX ws m).bind λts m=>.ok (x::ts) m:=rfl
theorem au(h:ev call gv e env m=.ok w m1):ex call gv (.asg i e k) env m=ex call gv k (env.set i (Zz w)) m1:=by rw[ex,h];rfl
theorem aj(h:ev call gv e env m=.ok w m1):ex call gv (.ret e k) env m=.ok (.ret w) m1:=by rw[ex,h];rfl
theorem az(h:ev call gv e env m=.ok (.t (.bl true)) m1)(c:ex call gv a env m1=.ok (.ret w) m2):ex call gv (.bZ e a b k) env m=.ok (.ret w) m2:=by
 rw[ex,h];show(ex call gv a env m1).bind _=_;rw[c];rfl
theorem ay(h:ev call gv e env m=.ok (.t (.bl false)) m1):ex call gv (.bZ e a .done k) env m=ex call gv k env m1:=by rw[ex,h];rfl
theorem wX(f:ev call gv v env m=.ok (.t x) m1)(e:ev call gv o env m1=.ok (.c c) m1)(d:ev call gv i env m1=.ok (.t (.int j)) m1)(b:m1[c]?=Zz (Zz (false,xs)))(a:iW xs.length j=Zz q):
  ex call gv (.set o i v k) env m=ex call gv k env (m1.set c (Zz (false,xs.set q x))):=by
 rw[ex,f];show((ev call gv o env m1).bind _)=_;rw[e];show((ev call gv i env m1).bind _)=_;rw[d];show(setM (.c c) (.t (.int j)) (.t x) m1).bind _=_;have:setM (.c c) (.t (.int j)) (.t x) m1=.ok () (m1.set c (Zz (false,xs.set q x))):=by
  unfold setM;dsimp only[jS,Res.bind];rw[b];dsimp only;rw[a]
 rw[this];rfl
theorem aD(h:m1.length=n):fin n cell (.ret (.t t)) m1=.ok (.t t) m1:=by
 show Res.ok (W.t t) (m1.take n)=_;rw[<-h,WE]
theorem aG[Decidable c]{k:Nat}(hX:X=if c then(ex call gv b env m).bind λfl m'=>fin k cell fl m' else .stuck)(hc:c)(key:ex call gv b env m=.ok (.ret w) m1)(hf:fin k cell (.ret w) m1=.ok w' m2):X=.ok w' m2:=by
 rw[hX,Xf hc,key];exact hf
theorem Gh(h:cu xs=Zz ys)(b:(ys.map Rg).sum+ys.length*sep.length<=lim):Ar .join (.t (.str sep)) [.t (.lst xs)] m=.ok (.t (.str (aM sep ys))) m:=by
 show cW ((cu xs).bind λys=>if(ys.map Rg).sum+ys.length*sep.length<=lim then Zz (.str (aM sep ys))else Zy) m=_;rw[h];show cW (if(ys.map Rg).sum+ys.length*sep.length<=lim then Zz (.str (aM sep ys))else Zy) m=_;rw[Xf b];rfl
theorem Gu:o0 .join (.t (.str x)) m=true:=rfl
end
noncomputable def dB:=RX @ag (RX @LJ (RX @Li (RX @N1 (RX @JF (RX @rP (RX @Oq (RX @Cz (RX @MI (RX @ln (RX @tj (RX @GC (RX @Ov (RX @gL (RX @Kp (RX @Om (RX @On (RX @jy (RX @rk (RX @KF (RX @NQ (RX @dz (RX @yN (RX @KA (RX @KG (RX @Kt (RX @NP (RX @NM (RX @ki (RX @BV (RX @KE (RX @uY (RX @i6 (RX @CD (RX @BZ (RX @cN (@dm))))))))))))))))))))))))))))))))))))
end Mi
namespace Mi
open PySem PySem.Spec PyProof.Rows L2
theorem my:∀{a b:List Nat},cO a b=false->cO b a=false->a=b
 |[],[],_,_=>rfl
 |[],_::_,h,_=>by simp[cO]at h
 |_::_,[],_,h=>by simp[cO]at h
 |a::x,b::y,d,c=>by
  unfold cO at d c;by_cases h:a<b
  ·simp[h]at d
  ·by_cases h':b<a
   ·simp[h']at c
   ·have e:a=b:=by omega
    subst e;simp at d c;rw[my d c]
theorem Ah:∀{a b c:List Nat},cO b a=false->cO c b=false->cO c a=false
 |a,b,[],d,f=>by
  cases b with
  |nil=>cases a with
   |nil=>rfl
   |cons _ _=>simp[cO]at d
  |cons _ _=>simp[cO]at f
 |[],_,_::_,_,_=>rfl
 |a::x,[],c::z,d,f=>by simp[cO]at d
 |a::x,b::y,c::z,d,f=>by
  unfold cO at d f ⊢;by_cases p1:b<a
  ·simp[p1]at d
  ·by_cases p2:c<b
   ·simp[p2]at f
   ·by_cases p3:a<b
    ·have:¬c<a:=by omega
     have q:a<c:=by omega
     simp[this,q]
    ·have e:a=b:=by omega
     subst e;by_cases p4:a<c
     ·simp[p4,p2]
     ·have e:c=a:=by omega
      subst e;simp at d f ⊢;exact Ah d f
theorem pj(x:List Nat):∀l,(vR x l).Perm (x::l)
 |[]=>.refl _
 |y::r=>by
  unfold vR;split
  ·exact((pj x r).cons y).trans (.swap x y r)
  ·exact .refl _
theorem fW:∀xs,(iC xs).Perm xs
 |[]=>.refl _
 |x::xs=>(pj x _).trans ((fW xs).cons x)
theorem CJ(x:List Nat):∀{l:List (List Nat)},l.Pairwise (λa b=>cO b a=false)->(vR x l).Pairwise (λa b=>cO b a=false)
 |[],_=>Uu _ _
 |y::r,h=>by
  rw[Rx]at h;unfold vR;split
  ·rename_i d
   refine Rx.mpr ⟨λz f=>?_,CJ x h.2⟩;rcases R6.mp ((pj x r).mem_iff.mp f)with rfl|f
   ·cases q:cO z y with
    |false=>rfl
    |true =>
     have:cO y z=false:=by
      rw[oF]at d q ⊢;exact Xh λw=>Xk (List.lt_trans (Xl q) w) (List.lt_irrefl _)
     rw[this]at d;cases d
   ·exact h.1 z f
  ·rename_i d
   have d:cO y x=false:=by simpa using d
   refine Rx.mpr ⟨λz f=>?_,Rx.mpr h⟩;rcases R6.mp f with rfl|f
   ·exact d
   ·exact Ah d (h.1 z f)
theorem qX:∀xs:List (List Nat),(iC xs).Pairwise (λa b=>cO b a=false)
 |[]=>.nil
 |x::xs=>CJ x (qX xs)
theorem Hv:∀a b:List Nat,ltCps a b=cO a b
 |[],[]=>by simp[ltCps,cO]
 |[],_::_=>by simp[ltCps,cO]
 |_::_,[]=>by simp[ltCps,cO]
 |a::x,b::y=>by
  unfold ltCps cO;rw[Hv x y];by_cases h:a<b
  ·simp[h]
  ·by_cases h2:b<a
   ·have:¬a=b:=by omega
    simp[h,h2,this]
   ·have:a=b:=by omega
    subst this;simp
theorem kU:∀(l:List (List Nat)) (x:List Nat),risingS ⟨x.toArray⟩ (l.map λc=>(⟨c.toArray⟩:Str))=true->(x::l).Pairwise (λa b=>cO b a=false)
 |[],x,_=>Uu _ _
 |y::l,x,h=>by
  rw[R8,risingS.eq_2,Q3]at h;have g:cO y x=false:=by
   have:=h.1;rw[Hv]at this;simpa using this
  have f:=kU l y h.2;refine Rx.mpr ⟨λz e=>?_,f⟩;rcases R6.mp e with rfl|e
  ·exact g
  ·exact Ah g ((Rx.mp f).1 z e)
theorem EH(hp:(ys.map λc=>(⟨c.toArray⟩:Str)).Perm (xs.map λc=>(⟨c.toArray⟩:Str)))(hs:sortedS (ys.map λc=>(⟨c.toArray⟩:Str))=true):ys=iC xs:=by
 have hp':ys.Perm xs:=by
  have:=hp.map λs:Str=>s.cps.toList
  simpa[SJ,Function.comp_def]using this
 have hw:ys.Pairwise (λa b=>cO b a=false):=by
  cases ys with
  |nil=>exact .nil
  |cons y ys=>exact kU ys y hs
 exact List.Perm.eq_of_pairwise (λa b _ _ h1 h2=>my h2 h1) hw (qX xs) (hp'.trans (fW xs).symm)
section
variable{K:Rf}{cm:List Q8}{m:Mem}{H:Hp}{xr:XR}{X:Cx}{call:Nat->List W->Mem->Res W}{gv:List T}
variable{a b c e:Rq}{es:List Rq}{ea eb ec:E}{eas:Es}{pos p p2:Pos}{rest:List Rv}{k:S}{n:Nat}
theorem ul(h:XW us ss):∃ys:List (List Nat),ss=ys.map (λc=>(⟨c.toArray⟩:Str))/\Vals (ys.map λc=>V.str ⟨c.toArray⟩) us:=by
 induction h with
 |nil=>exact⟨[],rfl,.nil⟩
 |cons y t _ ih =>
  obtain⟨ys,rfl,h2⟩:=ih;exact⟨y.cps.toList::ys,by simp,.cons ⟨t,by simp⟩ h2⟩
theorem Ci(ys:List (List Nat)):c6 K cm m H (ys.map .str) (ys.map λc=>V.str ⟨c.toArray⟩):=by
 induction ys with
 |nil=>exact .nil
 |cons y ys d=>exact .cons (.str y) d
theorem wI:db X (.builtin "sorted") (rN X.K xr (nU .sorted)):=by
 rintro pins s σ H i us Q I r ⟨cm,m,ws,M,j,o⟩;obtain⟨w,v,t,rr,rfl,rfl,rv,e,c,o⟩:=wB j (fE (by decide)) o;cases t with
 |lst ts =>
  have c:((cu ts).bind λi=>if i.length<64 then Zz (T.lst ((iC i).map .str))else Zy)=Zz rr:=c;cases q:cu ts with
  |none=>rw[q]at c;cases c
  |some bs =>
   rw[q]at c;have c:(if bs.length<64 then Zz (T.lst ((iC bs).map .str))else Zy)=Zz rr:=c;split at c<;>cases c;rename_i h64;obtain⟨a,vs,rfl,h1,r1⟩:=be M rv e;obtain⟨u,rfl,ru⟩:=vals1 r;cases ru;obtain⟨k,g,pl,hz⟩:=I.list (.of h1);cases c6.strs r1 q;have n:=iF g;have hl:=g.length;rw[Q4]at hl;refine sorted_strs pl.isList n (by omega) λh ss' l f d=>?_
   obtain⟨ys,rfl,hv⟩:=ul l;have ey:=EH f d;subst ey;obtain⟨ep,p⟩:=sortedAll_at s.heap k h;have hlen:=hv.length;have hsl:=SW;have hpl:=(fW bs).length_eq;refine⟨.ref (s.heap.objs.size+1),_,I.laid (t':=s.toks) (λb ob q=>sortedAll_old q) (TK _) ?_,rfl,ig o M (Ci _) (I.hok.fresh (TK _))⟩;refine⟨by rw[Q4];omega,h.toList,ep,hv,?_⟩;simpa[seqObj]using p
 |_=>cases c
theorem yv(c:Gl X "sorted")(b:X.mg "sorted" = Zy)(f:PA X (e::es) (tA X.K call gv xr eas))(d:notStar e=true)(a:es.all notStar=true):PE X (.Call (.Name "sorted" p) (e::es) [] pos) (tE X.K call gv xr (.blt .sorted eas)):=qr wI (by decide +kernel) c b f (by decide) (by decide) d a
theorem mC{α β:Type}{F:α->β->Prop}:∀{xs:List α}{ys:List β}(k:Nat),Sl F xs ys->Sl F (xs.eraseIdx k) (ys.eraseIdx k)
 |_,_,_,.nil=>.nil
 |_,_,0,.cons _ t=>t
 |_,_,k+1,.cons r t=>.cons r (mC k t)
theorem Dj:KL X "list.pop" (rM X.K xr .fe):=by
 rintro f s σ H x u v O Q I R S ⟨cm,m,w,N,M,o,n,h⟩;cases w with
 |t t=>exact h.elim
 |x _ _ _=>exact h.elim
 |c i =>
  have h:aX X.K ((bX N m).bind λl m=>match m[i]? with
   |some (Zz (false,u))=>match oQ .fe u l with
    |some (t,e)=>.ok (W.t t) (m.set i (Zz (false,e)))
    |none=>.stuck
   |_=>.stuck) xr cm m H _:=h
  obtain⟨l,m2,e2,g⟩:=iB h;obtain⟨J,r,U⟩:=gX M n e2;obtain⟨a,D,rfl⟩:=o;split at g
  ·rename_i e e3
   split at g
   ·rename_i t zs d
    obtain⟨b,A,C,B,q3,p⟩:=r.at' i _ e3;rw[D]at C;cases C;have V:=p.length;have hz:=bj
    match l,U,d with
    |[.int j],.cons T .nil,d =>
     have d:(match iW e.length j with
      |some k=>(e[k]?).map λt=>(t,e.eraseIdx k)
      |none=>Zy)=Zz (t,zs):=d
     split at d
     ·rename_i k hk
      cases q5:e[k]? with
      |none=>rw[q5]at d;cases d
      |some y =>
       rw[q5]at d;cases d;cases RT.b7 T;obtain⟨G,hy,P⟩:=dq p q5;obtain⟨z,E⟩:=ju r e3 D (mC k p);have q:Mo A.length j=Zz k:=by rw[<-V];exact hk
       obtain⟨F,z2,z3,z4⟩:=vY q;obtain⟨Y,nn,rr,hho,Z⟩:=I.lst B;have hsl:=SW;exact GS f s σ H _ _ v O Q I R S ⟨a,A,j,k,G,rfl,rfl,B,by omega,by omega,F,hy,aX.to g (J.trans z) E _ (RT.ext z r E P)⟩
     ·cases d
    |[],_,d=>cases d
    |L::_::_,_,d=>cases L<;>cases d
    |[.non],_,d=>cases d
    |[.bl _],_,d=>cases d
    |[.str _],_,d=>cases d
    |[.tup _],_,d=>cases d
    |[.lst _],_,d=>cases d
    |[.dct _ _],_,d=>cases d
    |[.dG _],_,d=>cases d
   ·exact g.elim
  ·exact g.elim
theorem ty_cell{b:Mt}(d:b=.append∨b=.fe)(M:aE K cm m H)(r:RW K cm m H w v)(h:o0 b w m=true):MN K "list" v H:=by
 cases w with
 |t t=>rcases d with rfl|rfl<;>cases h
 |x _ _ _=>rcases d with rfl|rfl<;>cases h
 |c i =>
  obtain⟨a,k,rfl⟩:=r;have f:(match m[i]? with
   |some (Zz _)=>true
   |_=>false)=true:=by rcases d with rfl|rfl<;>exact h
  split at f
  ·rename_i c e1
   obtain⟨b,g,e,j,_⟩:=M.at' i _ e1;rw[k]at e;cases e;exact .inl ⟨rfl,g,.of j⟩
  ·cases f
theorem Cd(z:PE X o (tE X.K call gv xr ea))(A:PA X [e] (tA X.K call gv xr eas))(b:Sz o "pop" X.env (eval o X.env)=eval o X.env:=by rfl)(a:(apos.endLine==cpos.line)=true:=by rfl)(k:notStar e=true:=by rfl):
  PE X (.Call (.Attribute o "pop" apos) [e] [] cpos) (tE X.K call gv xr (.eA .fe ea eas)):=by
 refine PE.mono (su Ut PySem.F.slot_list_pop PySem.F.type_list_pop (Dj (xr:=xr)) z A b (Db k) a (bH k) (ef rfl)) ?_;rintro σ H Q ⟨c,B,m,n,M,l⟩;rw[ev]at l;refine⟨c,B,m,n,M,l.bind.mono λw i x E r d g v j=>?_⟩;obtain⟨y,g⟩:=ij g;exact⟨ty_cell (.inr rfl) d j y,c,i,x,n.ext r M d,d,g.bind.mono λs h u D q p t C f=>⟨h,u,w,s,p,j.ext q d p,f,t⟩⟩
theorem Be:db X (.type "list") (λxs H Q=>∃p ys,xs=[.ref p]/\(sU X.K H p ys∨lA X.K H p ys)/\∀l,H l=Zy->X.K.lookup l=Zy->Q (.ref l) (upd H l (.lst ys))):=by
 intro pins s σ H xs us Q I r h;obtain⟨p,ys,rfl,hq,q⟩:=h;obtain⟨u,rfl,rx⟩:=vals1 r;cases rx;have fin:∀(its:List Q2),Vals ys its->ys.length<=RP->∀(h':Rm) (c':Nat),(∀b o',s.heap.get? b=Zz o'->h'.get? b=Zz o') ->
   h'.get? s.heap.objs.size=Zz { cls:=.type "list",dict:=Zy,data:=.seq its.toArray c',slots:=#[] }->EP X pins σ Q (.ref s.heap.objs.size) { s with heap:=h' }:=λits r' hz h' c' kp e =>
  ⟨.ref s.heap.objs.size,_,I.laid (t':=s.toks) kp (R1 _) (show cL X.prog X.w _ h' _ (.lst ys)from⟨hz,its,c',r',e⟩),rfl,q _ (I.hok.fresh (R1 _)) (Mi.Inv.Kk I)⟩
 rcases hq with hq|hq
 ·obtain⟨its,r',pl,hz⟩:=I.list hq
  have hlen:=r'.length;obtain⟨o,ho,hc,n,hd⟩:=pl.isList;exact W0 p (.inl rfl) ho hc hd (λh' c' kp e=>fin its r' hz h' c' kp e) (by simp only[Q9]<;>omega)
 ·obtain⟨its,r',pl,hz⟩:=I.tuple hq
  have hlen:=r'.length;obtain⟨o,ho,hc,n,hd⟩:=pl;exact W0 p (.inr rfl) ho hc hd (λh' c' kp e=>fin its r' hz h' c' kp e) (by simp only[Q9]<;>omega)
theorem GG(hg:Gl X "list")(hm:X.mg "list" = Zy)(ha:PA X [e] (tA X.K call gv xr (.cons ea .nil)))(he:notStar e=true):PE X (.Call (.Name "list" p) [e] [] pos) (tE X.K call gv xr (.yG ea)):=by
 refine PE.mono (uW Be hg hm (by decide +kernel) ha (by decide) (by decide) (bH he) (ef rfl)) ?_;rintro σ H Q ⟨d,cm,m,hE,M,b⟩;rw[ev]at b;have e0:evs call gv (.cons ea .nil) d m=(ev call gv ea d m).bind λw m=>.ok [w] m:=by
  rw[evs];cases ev call gv ea d m with
  |ok w f=>simp only[Res.bind,evs]
  |exc x f=>rfl
  |stuck=>rfl
 refine⟨d,cm,m,hE,M,?_⟩;rw[e0];cases q:ev call gv ea d m with
 |stuck=>rw[q]at b;exact b.elim
 |exc x f=>rw[q]at b;exact b
 |ok w f =>
  rw[q]at b;intro cm1 H1 x1 M1 vs rvs;cases rvs with
  |cons rv r0 =>
   cases r0;have b:aX X.K (match view w f with
    |some (.lst h)=>.ok (W.c f.length) (f++[Zz (false,h)])
    |some (.tup h)=>.ok (W.c f.length) (f++[Zz (false,h)])
    |_=>.stuck) xr cm1 f H1 _:=aX.shift b x1
   split at b
   ·rename_i h e1
    obtain⟨a,us,rfl,h1,r1⟩:=be M1 rv e1;refine⟨a,us,rfl,.inl (.of h1),λl hl hk=>?_⟩;obtain⟨x3,M3,r3⟩:=jH M1 r1 hl hk;exact aX.to b x3 M3 _ r3
   ·rename_i h e1
    obtain⟨a,us,rfl,h1,r1⟩:=(ao rv e1 (λ_ z=>by cases z)).jQ;refine⟨a,us,rfl,.inr h1,λl hl hk=>?_⟩;obtain⟨x3,M3,r3⟩:=jH M1 r1 hl hk;exact aX.to b x3 M3 _ r3
   ·exact b.elim
theorem Ig:dU X (SK .Add) (λx y H Q=>∃l b xs zs,x=.ref l/\y=.ref b/\H l=Zz (.lst xs)/\H b=Zz (.lst zs)/\xs.length+zs.length<=RP/\∀p,H p=Zy->X.K.lookup p=Zy->Q (.ref p) (upd H p (.lst (xs++zs)))):=by
 intro pins s σ H x y v u Q I rx ry h;obtain⟨l,b,xs,zs,rfl,rfl,hH,hB,hz,q⟩:=h;cases rx;cases ry;obtain⟨z,its,n,r,hl,e⟩:=I.zg hH;obtain⟨z2,its2,n2,r2,hl2,e2⟩:=I.zg hB;refine PySem.P.add_list e e2 ?_ (by rw[Q9,Q9];omega);have ea:its.toArray++its2.toArray=(its++its2).toArray:=by simp
 rw[ea];exact⟨.ref _,_,I.Ge (t':=s.toks) (r.append r2) (by rw[R7];omega),rfl,q _ I.fresh (Mi.Inv.Kk I)⟩
theorem Jh:dU X (SK .Add) (r2 X.K xr Im):=by
 rintro c s σ H x y v u Q I rx ry ⟨cm,m,a,b,M,ra,rb,d⟩;unfold Im at d;split at d
 ·rename_i ts e
  obtain⟨ta,tb,ea,eb,e⟩:=j4 e;unfold DH at e;have hz:=bj;split at e
  ·cases e
  ·split at e<;>cases e
  ·split at e<;>cases e
  ·split at e<;>cases e
   obtain⟨p,vs,rfl,h1,r1⟩:=be M ra ea;obtain⟨q,us,rfl,h2,r2⟩:=be M rb eb;have l1:=r1.length;have l2:=r2.length;refine Ig c s σ H _ _ v u Q I rx ry ⟨p,q,vs,us,rfl,rfl,h1,h2,by omega,λl hl hk=>?_⟩;obtain⟨x3,M3,r3⟩:=jH M (bB r1 r2) hl hk;exact aX.to d x3 M3 _ r3
  ·cases e
 ·exact d.elim
theorem E6(ha:PE X a (tE X.K call gv xr ea))(hb:PE X b (tE X.K call gv xr eb)):PE X (.BinOp a .Add b pos) (tE X.K call gv xr (.MU ea eb)):=
 PE.mono (KC Jh ha hb) (yV λe m=>by rw[ev])
end
theorem Cq(a:List Nat):cO a a=false:=by rw[oF];simp
theorem Fc(e:cO a b=true)(d:cO b c=true):cO a c=true:=by
 rw[oF]at *;have e:=Xl e;have d:=Xl d;exact Xi (List.lt_trans e d)
theorem IF(h:cO a b=true):cO b a=false:=by
 cases q:cO b a with
 |false=>rfl
 |true =>
  have:=Fc h q;rw[Cq]at this;cases this
theorem sj(x y:List Nat):∀l,y∈o7 x l↔y=x∨y∈l
 |[]=>by simp[o7]
 |z::l=>by
  unfold o7;split
  ·simp
  ·split
   ·rw[R6,sj x y l,R6]
    constructor
    ·rintro (h|h|h)
     ·exact .inr (.inl h)
     ·exact .inl h
     ·exact .inr (.inr h)
    ·rintro (h|h|h)
     ·exact .inr (.inl h)
     ·exact .inl h
     ·exact .inr (.inr h)
   ·rename_i h1 h2
    have e:=my (by simpa using h1) (by simpa using h2);subst e;simp
theorem Ca(x:List Nat):∀l,l.Pairwise (λa b=>cO a b=true)->(o7 x l).Pairwise (λa b=>cO a b=true)
 |[],_=>Uu _ _
 |z::l,h=>by
  unfold o7;obtain⟨f,g⟩:=Rx.mp h;split
  ·rename_i hx
   refine Rx.mpr ⟨λy d=>?_,h⟩;rcases R6.mp d with rfl|d
   ·exact hx
   ·exact Fc hx (f y d)
  ·split
   ·rename_i hz
    refine Rx.mpr ⟨λy d=>?_,Ca x l g⟩;rcases(sj x y l).mp d with rfl|d
    ·exact hz
    ·exact f y d
   ·exact h
theorem eI(y:List Nat):∀xs,y∈bt xs↔y∈xs
 |[]=>by simp[bt]
 |x::xs=>by
  show y∈o7 x (bt xs)↔_;rw[sj,eI y xs,R6]
theorem jd:∀xs,(bt xs).Pairwise (λa b=>cO a b=true)
 |[]=>.nil
 |x::xs=>Ca x _ (jd xs)
theorem qJ(xs:List (List Nat)):(bt xs).Nodup:=(jd xs).imp λ{a b} h e=>by
 subst e;rw[Cq]at h;cases h
theorem HR(a:Nat->Str)(x:Str):∀n,x∈dd a n↔∃i,i<n/\a i=x
 |0=>by simp[dd]
 |n+1=>by
  have b:=HR a x n;unfold dd;split
  ·rename_i h
   rw[b];constructor
   ·rintro ⟨i,c,e⟩
    exact⟨i,by omega,e⟩
   ·rintro ⟨i,c,e⟩
    by_cases hn:i=n
    ·subst hn
     rw[e]at h;exact b.mp h
    ·exact⟨i,by omega,e⟩
  ·rw[S1,b,Rp]
   constructor
   ·rintro (⟨i,c,e⟩|e)
    ·exact⟨i,by omega,e⟩
    ·exact⟨n,by omega,e.symm⟩
   ·rintro ⟨i,c,e⟩
    by_cases hn:i=n
    ·subst hn;exact .inr e.symm
    ·exact .inl ⟨i,by omega,e⟩
theorem B6{a b:List Nat}(h:(⟨a.toArray⟩:Str)=⟨b.toArray⟩):a=b:=by
 injection h with h;simpa using h
theorem LY(hv:∀(i:Nat) c,xs[i]?=Zz c->val i=⟨c.toArray⟩)(hd:(dd val xs.length).Nodup)(hp:(ys.map λc=>(⟨c.toArray⟩:Str)).Perm (dd val xs.length))(hs:sortedS (ys.map λc=>(⟨c.toArray⟩:Str))=true):ys=bt xs:=by
 have hw:ys.Pairwise (λa b=>cO b a=false):=by
  cases ys with
  |nil=>exact .nil
  |cons y ys=>exact kU ys y hs
 have hn:ys.Nodup:=by
  have h1:=hp.nodup_iff.mpr hd;exact(List.pairwise_map.mp h1).imp λ{a b} h e=>h (by rw[e])
 have hm:∀c,c∈ys↔c∈bt xs:=λc=>by
  rw[eI];have h1:c∈ys↔(⟨c.toArray⟩:Str)∈ys.map λc=>(⟨c.toArray⟩:Str):=by
   constructor
   ·exact λh=>Rb.mpr ⟨c,h,rfl⟩
   ·intro h
    obtain⟨d,hd,e⟩:=Rb.mp h;rw[<-B6 e];exact hd
  rw[h1,hp.mem_iff,HR];constructor
  ·rintro ⟨i,hi,e⟩
   have:=hv i xs[i] (Ra hi);rw[this]at e;rw[<-B6 e];exact Ts hi
  ·intro h
   obtain⟨i,hi,rfl⟩:=VS h;exact⟨i,hi,hv i _ (Ra hi)⟩
 have hpm:=(List.perm_ext_iff_of_nodup hn (qJ xs)).mpr hm;exact List.Perm.eq_of_pairwise (λa b _ _ h1 h2=>my h2 h1) hw ((jd xs).imp λ{a b} h=>IF h) hpm
section
variable{K:Rf}{cm:List Q8}{m:Mem}{H:Hp}{xr:XR}{X:Cx}{call:Nat->List W->Mem->Res W}{gv:List T}
variable{a b c e:Rq}{es:List Rq}{ea eb ec:E}{eas:Es}{pos p p2 pos2:Pos}{rest:List Rv}{k:S}{n:Nat}
theorem Inv.Lg(I:Inv X pins σ H s):Inv X pins σ H { s with drawn:=d }:=
 ⟨I.ok,I.os,I.bare,I.base,I.loc,I.cell,I.free,I.eG,I.pin,I.hok,I.len⟩
theorem LL{xs:List (List Nat)}(h:XW its (xs.map λc=>(⟨c.toArray⟩:Str))):∀(i:Nat) v,its[i]?=Zz v->∃t,v=.str ((xs.map λc=>(⟨c.toArray⟩:Str)).getD i ⟨#[]⟩) t:=by
 generalize xs.map (λc=>(⟨c.toArray⟩:Str))=ss at h
 induction h with
 |nil=>intro i v e;simp at e
 |cons y t _ ih =>
  intro i v e;cases i with
  |zero=>simp at e;exact⟨t,by rw[<-e];rfl⟩
  |succ i =>
   obtain⟨t',h'⟩:=ih i v (by simpa using e);exact⟨t',by rw[h'];rfl⟩
theorem x8(hc:X.calm=true)(hg1:Gl X "sorted")(hm1:X.mg "sorted" = Zy)(hg2:Gl X "set")(hm2:X.mg "set" = Zy)(ha:PA X [e] (tA X.K call gv xr (.cons ea .nil)))(he:notStar e=true:=by rfl):
  PE X (.Call (.Name "sorted" p) [.Call (.Name "set" p2) [e] [] pos2] [] pos) (tE X.K call gv xr (.blt .jm (.cons ea .nil))):=by
 rintro f s σ H Q I ⟨env,cm,m,hE,M,ho⟩;rw[ev]at ho;refine TU (lT I hg1 hm1 (show Sy "sorted" = Zz (.builtin "sorted")from by decide +kernel) ?_ (by decide) (by decide));refine PyProof.Rows.callWith_builtin1 ?_ rfl rfl;refine Calls.spliced_cons ?_;refine TU (lT I hg2 hm2 (show Sy "set" = Zz (.type "set")from by decide +kernel) ?_ (by decide) (by decide));refine TJ (bY (ha pos2 f s σ H (λvs H1=>∃cm1 m1 ws,aE X.K cm1 m1 H1/\zX X.K cm1 m1 H1 ws vs/\aX X.K (nU .jm ws m1) xr cm1 m1 H1 λw cm' m' H'=>∀v,RW X.K cm' m' H' w v->Q v H') I ⟨env,cm,m,hE,M,ho.bind.mono λws cm1 m1 H1 x1 M1 o1 vs rvs=>⟨cm1,m1,ws,M1,rvs,o1⟩⟩) λus s1 ⟨vs,H1,I1,r1,cm1,m1,ws,M1,rws,o1⟩=>?_) (bH he) rfl;obtain⟨w,v,t,rr,rfl,rfl,rv,eq,eb,ho⟩:=wB rws (fE (by decide)) o1;cases t with
 |lst ts =>
  have eb:((cu ts).bind λxs=>if xs.length<64 then Zz (T.lst ((bt xs).map .str))else Zy)=Zz rr:=eb;cases q:cu ts with
  |none=>rw[q]at eb;cases eb
  |some bs =>
   rw[q]at eb;have eb:(if bs.length<64 then Zz (T.lst ((bt bs).map .str))else Zy)=Zz rr:=eb;split at eb<;>cases eb;rename_i h64;obtain⟨a,vs,rfl,h1,rr1⟩:=be M1 rv eq;obtain⟨u,rfl,ru⟩:=vals1 r1;cases ru;obtain⟨its,rv',pl,hz⟩:=I1.list (.of h1);cases c6.strs rr1 q;have hsa:=iF rv';have hl:=rv'.length;rw[Q4]at hl;have hA:=I1.ok.hd hc;refine tF hA pl.isList (λi v hv=>LL hsa i v (by simpa using hv)) (by unfold V7;simp;omega) λh' tk hS kp=>?_
   have I2:Inv X f σ H1 { s1 with heap:=h',toks:=tk }:=I1.kept kp;refine Q5 ?_;rw[show its.toArray.size=bs.length by simp;omega]at hS;have hlen:=BC (λi=>(bs.map λc=>(⟨c.toArray⟩:Str)).getD i ⟨#[]⟩) bs.length;have hnd:(dd (λi=>(bs.map λc=>(⟨c.toArray⟩:Str)).getD i ⟨#[]⟩) bs.length).Nodup:=by
    obtain⟨_,_,_,_,_,hE⟩:=hS;exact hE.nd
   refine AG hA hS (by omega) λh2 tk2 d l out ss' ep hso g hsort hat hle kp2 ht=>?_
   obtain⟨ys,rfl,hv⟩:=ul hso;have ey:=LY (λi c hc=>by simp[List.getD,hc]) hnd g hsort;subst ey;have hvl:=hv.length;have hsl:=SW;have hpl:(bt bs).length<=bs.length:=by
    have:=g.length_eq;rw[Q4]at this;omega
   have I3:Inv X f σ (upd H1 l (.lst ((bt bs).map λc=>V.str ⟨c.toArray⟩))) { s1 with heap:=h2,toks:=tk2 }:=
    I2.laid (t':=tk2) kp2 hle ⟨by rw[Q4];omega,out,ep,hv,by simpa[seqObj]using hat⟩
   exact⟨.ref l,_,Inv.Lg I3,rfl,ig ho M1 (Ci _) (I2.hok.fresh hle)⟩
 |_=>cases eb
theorem rp:∀{ks:List Key}{ts:List T}{a:List V}(_:c6 K cm m H ts a) (k:Key),(∃t v,cg ks ts k=Zz t/\mZ (ks.zip a) k=Zz v/\RT K cm m H t v)∨(cg ks ts k=Zy/\mZ (ks.zip a) k=Zy)
 |[],_,_,_,k=>.inr ⟨by simp[cg],by simp[mZ]⟩
 |_::_,_,_,.nil,k=>.inr ⟨by simp[cg],by simp[mZ]⟩
 |b::ks,t::ts,v::a,.cons r c,k=>by
  by_cases h:b=k
  ·subst h
   exact .inl ⟨t,v,by simp[cg],by simp[mZ],r⟩
  ·have e:cg (b::ks) (t::ts) k=cg ks ts k:=by simp[cg,U8,h]
   have d:mZ ((b::ks).zip (v::a)) k=mZ (ks.zip a) k:=by simp[mZ,U8,h]
   rw[e,d];exact rp c k
theorem Iz{k:Key}(h:lh t=Zz k)(r:RT K cm m H t v):v=kV k:=by
 unfold lh at h;split at h<;>cases h
 ·cases RT.b7 r;rfl
 ·cases RT.dA r;rfl
end
noncomputable abbrev q1(h:Rm)(a:Q8):Rm:=h.push { cls:=.type "list_iterator",data:=.fields #[.ref a,.int 0 0] }
noncomputable abbrev q5(h:Rm)(a b c d:Q8):Rm:=(q1 (q1 (q1 (q1 h a) b) c) d).push { cls:=.type "tuple",data:=.seq #[.ref h.objs.size,.ref (q1 h a).objs.size,.ref (q1 (q1 h a) b).objs.size,.ref (q1 (q1 (q1 h a) b) c).objs.size] }
noncomputable abbrev q6(h:Rm)(a b c d:Q8):Rm:=(q5 h a b c d).push { cls:=.type "tuple",data:=.seq #[.none,.none,.none,.none] }
noncomputable abbrev q7(h:Rm)(a b c d:Q8):Rm:=(q6 h a b c d).push { cls:=.type "zip",data:=.fields #[.none,.bool false,.bool false,.ref (q1 (q1 (q1 (q1 h a) b) c) d).objs.size,.ref (q5 h a b c d).objs.size] }
set_option maxHeartbeats 4000000 in
section
variable{K:Rf}{cm cm':List Q8}{m m':Mem}{H H':Hp}{xr:XR}{X:Cx}{call:Nat->List W->Mem->Res W}{gv:List T}
variable{a b c e:Rq}{es:List Rq}{ea eb ec:E}{eas:Es}{pos p p2:Pos}{rest:List Rv}{k:S}{n:Nat}
theorem dw(c:Nat):∀x:List Nat,ap c x≠[]
 |[]=>by rw[ap];simp
 |a::r=>by
  rw[ap];split
  ·simp
  ·split<;>simp
theorem eU{c:Nat}:∀{ws:List (List Nat)},ws≠[]->(∀w∈ws,c∉w)->ap c (aM [c] ws)=ws
 |[],h,_=>Xk rfl h
 |[w],j,b=>by
  show ap c w=[w]
  have d:=b w (Rp.mpr rfl);clear b j
  induction w with
  |nil=>rfl
  |cons a r i =>
   rw[ap,Xg (λz=>d (by rw[z];exact RU)),i λz=>d (R5 _ z)]
 |w::v::r,j,b=>by
  have i:=eU (by simp) λu k=>b u (R5 _ k)
  show ap c (w++[c]++aM [c] (v::r))=_;have d:=b w RU;clear b j
  induction w with
  |nil =>
   show ap c (c::aM [c] (v::r))=_;rw[ap,Xf rfl,i]
  |cons a w g =>
   show ap c (a::(w++[c]++aM [c] (v::r)))=_;rw[ap,Xg (λz=>d (by rw[z];exact RU)),g λz=>d (R5 _ z)]
theorem yc(c:Nat)(cs:List Nat):XU ⟨cs.toArray⟩ ⟨#[c]⟩=(ap c cs).map λw=>(⟨w.toArray⟩:Str):=by
 have g:=StrLaws.join_split ⟨cs.toArray⟩ ⟨#[c]⟩;have f:=StrLaws.split_free ⟨cs.toArray⟩ c;have a:=split_pos (⟨cs.toArray⟩:Str) ⟨#[c]⟩;generalize d:XU ⟨cs.toArray⟩ ⟨#[c]⟩=ps at g f a;have e:ps=(ps.map λp=>p.cps.toList).map λw=>(⟨w.toArray⟩:Str):=by
  rw[SJ];exact(WL (l:=ps)).symm.trans (List.map_congr_left λx _=>by cases x;simp)
 have i:aM [c] (ps.map λp=>p.cps.toList)=cs:=by
  have:=wE [c] (ps.map λp=>p.cps.toList);rw[<-e]at this;have k:=g.symm.trans this;have j:=congrArg (λz:Str=>z.cps.toList) k;simpa using j.symm
 have b:=eU (ws:=ps.map λp=>p.cps.toList) (by
  intro z;have:ps=[]:=List.map_eq_nil_iff.mp z;rw[this]at a;simp at a) (λw h=>by
  obtain⟨q,d,rfl⟩:=Rb.mp h;exact f q d)
 rw[i]at b;rw[b];exact e
theorem ua{E:Q2->Q7->Prop}(b:(y.length==0)=false)(f:x.length+2<=RP)(h:∀(l:List (Str×Tok)) (k:Nat),l.map (·.1)=XU x y->Q (.ref s.heap.objs.size) { s with heap:=s.heap.push { cls:=.type "list",data:=.seq (strValues l).toArray },toks:=k }):
  RB (RC prog w) A (U3 (.builtin "str.split") [.str x t,.str y u]) Q E s:=by
 have a:(Ud x (S0 x y 0 x.length (x.length+1)) y.length).length<=RP:=by
  have:=StrLaws.occ_length_le x y 0 x.length (x.length+1);rw[length_partsBetween];omega
 by_cases h1:(decide (x.length<y.length) || decide (Builtin.Str.strKind x<Builtin.Str.strKind y))=true
 ·refine Sx WF (V6 _ _ _) Vw (Vo _ _) (meets_str_split_cannot_occur x y t u h1) ?_
  exact h [(x,t)] s.toks (Xf h1).symm
 ·have d:=SU.mpr h1
  by_cases h2:(S0 x y 0 x.length (x.length+1)).isEmpty=true
  ·refine Sx WF (V6 _ _ _) Vw (Vo _ _) (meets_str_split_not_found x y t u d b h2) ?_
   exact h [(x,t)] s.toks ((Xg h1).trans (Xf h2)).symm
  ·have e:=SU.mpr h2
   refine Sx WF (V6 _ _ _) Vw (Vo _ _) (meets_str_split_sep x y t u d b e (by omega) a) ?_;have q:=h (numbered s.toks (Ud x (S0 x y 0 x.length (x.length+1)) y.length)) (s.toks+(Ud x (S0 x y 0 x.length (x.length+1)) y.length).length) ((numbered_texts _ _).trans ((Xg h1).trans (Xg h2)).symm);rw[<-strsFrom_eq]at q;exact q
theorem j5:∀{l:List (Str×Tok)}{xs:List Str},l.map (·.1)=xs->Vals (xs.map V.str) (strValues l)
 |[],_,e=>by cases e;exact .nil
 |q::l,_,e=>by cases e;exact .cons ⟨q.2,rfl⟩ (j5 rfl)
theorem r6:∀(ws:List (List Nat)),c6 K cm m H (ws.map T.str) (ws.map λw=>V.str ⟨w.toArray⟩)
 |[]=>.nil
 |w::ws=>.cons (.str w) (r6 ws)
theorem lM(c:Nat):∀x:List Nat,(ap c x).length<=x.length+1
 |[]=>by rw[ap];simp
 |a::r=>by
  have b:=lM c r;rw[ap];split
  ·simp only[RN];omega
  ·split
   ·rename_i e;rw[e]at b;simp only[RN]at b ⊢;omega
   ·simp only[RN,S2];omega
theorem Dh:KL X "str.split" (rM X.K xr .split):=by
 rintro f s σ H x xs v us Q I rx rs ⟨cm,m,w,ws,M,b,a,h⟩;obtain⟨tw,ts,t,q1,q2,e,d⟩:=BM h;clear h;unfold eT at e;dsimp only at e;split at e
 ·rename_i cs
  split at e
  ·rename_i c
   split at e<;>cases e;rename_i hl;obtain⟨w1,rfl,e1⟩:=kC q2;cases(ao b q1 (λ_ z=>by cases z)).dA;cases a with
   |cons r1 r0 =>
    cases r0;cases(ao r1 e1 (λ_ z=>by cases z)).dA;obtain⟨tt,rfl⟩:=rx;obtain⟨u1,rfl,tu,rfl⟩:=vals1 rs;have hz:=bj;unfold lim at hz;refine ua rfl (by show cs.toArray.size+2<=_;rw[Q9];omega) λl k' j=>?_
    rw[yc c cs]at j;have g:=j5 j;rw[SJ]at g;have i:=lM c cs;have I':=I.Ge (t':=k') g (by rw[Q4];omega);exact⟨.ref s.heap.objs.size,_,I',rfl,ig d M (r6 _) I.fresh⟩
  ·cases e
 ·cases e
theorem vk(r:RW K cm m H w v)(h:o0 .split w m=true):MN K "str" v H:=by
 have a:(match view w m with|some (.str _)=>true|_=>false)=true:=h;split at a
 ·rename_i cs e
  cases(ao r e (λ_ z=>by cases z)).dA;rfl
 ·cases a
theorem Dl(z:PE X o (tE X.K call gv xr ea))(A:PA X [e] (tA X.K call gv xr eas))(b:Sz o "split" X.env (eval o X.env)=eval o X.env:=by rfl)(a:(apos.endLine==cpos.line)=true:=by rfl)(k:notStar e=true:=by rfl):
  PE X (.Call (.Attribute o "split" apos) [e] [] cpos) (tE X.K call gv xr (.eA .split ea eas)):=by
 refine PE.mono (su U4 PySem.F.slot_str_split PySem.F.type_str_split (Dh (xr:=xr)) z A b (Db k) a (bH k) (ef rfl)) ?_;rintro σ H Q ⟨c,B,m,n,M,l⟩;rw[ev]at l;refine⟨c,B,m,n,M,l.bind.mono λw h x E r i f v j=>?_⟩;obtain⟨y,f⟩:=ij f;refine⟨vk j y,c,h,x,n.ext r M i,i,f.bind.mono λs g u D q p t C d=>?_⟩;exact⟨g,u,w,s,p,j.ext q i p,d,t⟩
end
inductive ym (P:Rk) (w:Rz) (K:Rf) (mg:Str->Option Q2) (x:Str) (ks:List Key) (ts:List T)  : Prop where
 |mk (a:Q8) (us:List Q2) (ys:List V) (_:mg x=Zz (.ref a)) (_:(∀h:Rm,K.In h->h.DictOf (eC P w) a (ks.zip us))) (_:(a==Vb)=false) (_:Vals ys us) (_:ks.length=us.length) (_:∀cm m H,c6 K cm m H ts ys)
section
variable{K:Rf}{cm cm':List Q8}{m m':Mem}{H H':Hp}{xr:XR}{X:Cx}{call:Nat->List W->Mem->Res W}{gv:List T}
variable{a b c e:Rq}{es:List Rq}{ea eb ec:E}{eas:Es}{pos p p2:Pos}{rest:List Rv}{k:Nat}{n:Nat}
theorem Bw:∀{ks:List Key}{ys:List V}{us:List Q2},Vals ys us->KV (ks.zip ys) (ks.zip us)
 |[],_,_,_=>.nil
 |_::_,_,_,.nil=>.nil
 |_::_,_,_,.cons r a=>.cons ⟨rfl,r⟩ (Bw a)
theorem oP(h:zq o f=Zz t):∃ks ts,o=Zz (.dct ks ts)/\f ks ts=Zz t:=by
 unfold zq at h;split at h
 ·exact⟨_,_,rfl,h⟩
 ·cases h
theorem uE(r:RW K cm m H w v)(e:view w m=Zz t)(a:lh t=Zz kk):v=kV kk:=by
 refine Iz a (ao r e λb z=>?_);subst z;cases a
theorem J4(hg:Gl X x)(hk:gv[k]?=Zz (.dct ks ts))(ok:ym X.prog X.w X.K X.mg x ks ts)(hb:PE X b (tE X.K call gv xr eb))(hs:NW b)(hd:(x==("__debug__" : Str))=false):PE X (.Subscript (.Name x p) b pos) (tE X.K call gv xr (.Ng k eb)):=by
 obtain⟨a,us,ys,h1,h2,h3,h4,h5,h6⟩:=ok;rintro pins s σ H Q I ⟨env,cm,m,hE,M,ho⟩;rw[ev]at ho;refine I0 PySem.F.slot_dict_getitem.lookup hs (kt I hg h1 (bY (hb pins s σ H (λv H1=>∃cm1 m1 w,aE X.K cm1 m1 H1/\RW X.K cm1 m1 H1 w v/\aX X.K (cW ((view w m1).bind λx=>zq gv[k]? λks vs=>(lh x).bind (cg ks vs)) m1) xr cm1 m1 H1 λw cm' m' H'=>∀v,RW X.K cm' m' H' w v->Q v H') I ⟨env,cm,m,hE,M,ho.bind.mono λw cm1 m1 H1 x1 M1 o1 v rv=>⟨cm1,m1,w,M1,rv,o1⟩⟩) ?_) hd);rintro u s1 ⟨v,H1,I1,ru,cm1,m1,w,M1,rv,o1⟩;obtain⟨t,e,o1⟩:=cz o1;have dd:=h2 _ I1.li;refine⟨dd.typeIs,?_⟩;cases q:view w m1 with
 |none=>rw[q]at e;cases e
 |some tw =>
  rw[q]at e;obtain⟨ks',ts',e1,e2⟩:=oP (show zq gv[k]? (λks vs=>(lh tw).bind (cg ks vs))=Zz t from e);rw[hk]at e1;cases e1;cases q2:lh tw with
  |none=>rw[q2]at e2;cases e2
  |some kk =>
   rw[q2]at e2;have e2:cg ks ts kk=Zz t:=e2;cases uE rv q q2;rcases rp (ks:=ks) (h6 cm1 m1 H1) kk with⟨t',v',f1,f2,f3⟩|⟨f1,_⟩
   ·rw[e2]at f1;cases f1
    obtain⟨u',g1,g2⟩:=pN.some_of (v:=v') (o:=WI (ks.zip us) kk) (by rw[<-f2];exact(Bw h4).val kk);exact wpAny_getItem_of (Hd ru) dd.mapOf g1 ⟨v',H1,I1.tok _,g2,ans o1 M1 f3⟩
   ·rw[e2]at f1;cases f1
noncomputable def Hx(neg:Bool):X1:=if neg then .NotIn else .In
theorem Ih(hg:Gl X x)(hk:gv[k]?=Zz (.dct ks ts))(ok:ym X.prog X.w X.K X.mg x ks ts)(hb:PE X b (tE X.K call gv xr eb))(hd:(x==("__debug__" : Str))=false):PC X (Hx neg) b (.Name x p) (tE X.K call gv xr (.L8 k neg eb)):=by
 obtain⟨a,us,ys,h1,h2,h3,h4,h5,h6⟩:=ok;rintro pins s σ H Q I ⟨env,cm,m,hE,M,ho⟩;rw[ev]at ho;refine bY (hb pins s σ H (λv H1=>∃cm1 m1 w,aE X.K cm1 m1 H1/\RW X.K cm1 m1 H1 w v/\aX X.K (cW ((view w m1).bind λx=>zq gv[k]? λks vs=>(lh x).map λk=>T.bl (if neg then !(cg ks vs k).isSome else(cg ks vs k).isSome)) m1) xr cm1 m1 H1 λw cm' m' H'=>∀v,RW X.K cm' m' H' w v->Q v H') I ⟨env,cm,m,hE,M,ho.bind.mono λw cm1 m1 H1 x1 M1 o1 v rv=>⟨cm1,m1,w,M1,rv,o1⟩⟩) ?_;rintro u s1 ⟨v,H1,I1,ru,cm1,m1,w,M1,rv,o1⟩;refine kt I1 hg h1 ?_ hd;obtain⟨t,e,o1⟩:=cz o1;have dd:=h2 _ I1.li;cases q:view w m1 with
 |none=>rw[q]at e;cases e
 |some tw =>
  rw[q]at e;obtain⟨ks',ts',e1,e2⟩:=oP (show zq gv[k]? (λks vs=>(lh tw).map λk=>T.bl (if neg then !(cg ks vs k).isSome else(cg ks vs k).isSome))=Zz t from e);rw[hk]at e1;cases e1;cases q2:lh tw with
  |none=>rw[q2]at e2;cases e2
  |some kk =>
   rw[q2]at e2;cases e2;cases uE rv q q2;have hv:(WI (ks.zip us) kk).isSome=(cg ks ts kk).isSome:=by
    have r:=(Bw (ks:=ks) h4).val kk;rcases rp (ks:=ks) (h6 cm1 m1 H1) kk with⟨t',v',f1,f2,f3⟩|⟨f1,f2⟩
    ·rw[f2]at r
     obtain⟨u',g1,_⟩:=pN.some_of r;rw[g1,f1];rfl
    ·rw[f2]at r
     rw[pN.none_of r,f1];rfl
   cases neg with
   |true =>
    refine wpAny_notIn_of (Hd ru) h3 dd.mapOf ?_;rw[hv];exact⟨.bl _,H1,I1.tok _,rfl,ans o1 M1 (.bl _)⟩
   |false =>
    refine wpAny_in_of (Hd ru) h3 dd.mapOf ?_;rw[hv];exact⟨.bl _,H1,I1.tok _,rfl,ans o1 M1 (.bl _)⟩
theorem LU(h:ev call gv (.L8 k neg eb) env m=.ok w m'):∃k,w=.t (.bl k):=by
 rw[ev]at h;obtain⟨x,b,_,h⟩:=aY h;unfold cW at h;split at h
 ·rename_i t e
  obtain⟨rfl,rfl⟩:W.t t=w/\b=m':=by cases h;exact⟨rfl,rfl⟩
  cases q:view x b with
  |none=>rw[q]at e;cases e
  |some c =>
   rw[q]at e;obtain⟨f,d,i,a⟩:=oP e;cases q2:lh c with
   |none=>rw[q2]at a;cases a
   |some g=>rw[q2]at a;cases a;exact⟨_,rfl⟩
 ·cases h
theorem I8(d:Gl X x)(c:gv[k]?=Zz (.dct ks ts))(ok:ym X.prog X.w X.K X.mg x ks ts)(g:PE X b (tE X.K call gv xr eb))(e:(x==("__debug__" : Str))=false)(a:Tj (Hx neg) (.Name x p)=false):PT X (.Compare b [Hx neg] [.Name x p] pos) (tT X.K call gv xr (.L8 k neg eb)):=
 wU (f:=λ_ _=>.stuck) (te:=tE X.K call gv xr (.L8 k neg eb)) (PT.mono (Lh (Ih (neg:=neg) d c ok g e) a) λσ H Q q=>q) (λi m w j h=>LU h) (λσ H Q q=>q)
theorem A7{ks:List (List Nat)}(h:ks.Nodup):(ks.map λk=>(Uv ⟨k.toArray⟩:Key)).Nodup:=by
 refine List.Pairwise.map _ (λa b c z=>c ?_) h;have:=congrArg (λq:Key=>match q with|.inr x=>x.cps.toList|.inl _=>[]) z;simpa using this
theorem Cs{α β:Type}:∀{xs:List α}{ys:List β},xs.length=ys.length->(xs.zip ys).map (·.1)=xs
 |[],_,_=>rfl
 |_::_,[],h=>by simp at h
 |x::xs,y::ys,h=>by simp[Cs (xs:=xs) (ys:=ys) (by simpa using h)]
inductive pU (w:Rz):List (List Nat)->List Q2->List Wh->Prop where
 |nil:pU w [] [] []
 |cons {y:Str}{t:Tok}{cs:List Nat}{h:Int}{u:Q2}{css:List (List Nat)}{us:List Q2}{es:List Wh}:y.cps.toList=cs->h=hashStr w y->pU w css us es->pU w (cs::css) (u::us) (⟨h,.str y t,u⟩::es)
def VT(K:Rf)(u:Q2)(t:T):Prop:=∃v,RelV v u/\∀cm m H,RT K cm m H t v
inductive HW (K:Rf):List Q2->List T->Prop where
 |nil:HW K [] []
 |cons {u:Q2}{t:T}{us:List Q2}{ts:List T}:VT K u t->HW K us ts->HW K (u::us) (t::ts)
theorem Gq(h:y.cps.toList=cs):VT K (.str y t) (.str cs):=⟨.str y,⟨t,rfl⟩,λa m H=>by rw[n9 h];exact .str cs⟩
theorem HW.get:∀{us:List Q2}{ts:List T},HW K us ts->∃ys,Vals ys us/\∀cm m H,c6 K cm m H ts ys
 |_,_,.nil=>⟨[],.nil,λ_ _ _=>.nil⟩
 |_,_,.cons ⟨v,h1,h2⟩ r=>let⟨ys,h3,h4⟩:=r.get;⟨v::ys,.cons h1 h3,λcm m H=>.cons (h2 cm m H) (h4 cm m H)⟩
theorem pU.pairs:∀{c:List (List Nat)}{us:List Q2}{es:List Wh},pU w c us es->(∀e∈es,∃k,(eC P w).is k e.key=true/\e.hash=(eC P w).hash k)/\Pairs (eC P w) es ((c.map λk=>(Uv ⟨k.toArray⟩:Key)).zip us)/\c.length=us.length
 |_,_,_,.nil=>RX (λe he=>nomatch he) (RX Pairs.nil rfl)
 |_,_,_,@pU.cons _ y t cs h u c us es e1 e2 r=>by
  obtain⟨h1,h2,h3⟩:=pU.pairs (P:=P) r;refine⟨λe he=>?_,.cons (kv:=(.inr ⟨cs.toArray⟩,u)) ?_ rfl h2,by simp[h3]⟩
  ·rcases R6.mp he with rfl|he
   ·exact⟨.inr y,oE y t,e2⟩
   ·exact h1 e he
  ·show rQ (.inr ⟨cs.toArray⟩) (.str y t)=true
   rw[<-n9 e1];exact oE y t
theorem DB{a:Q8}{es:Array Wh}(h:mg x=Zz (.ref a))(l:K.lookup a=Zz ⟨.type "dict",Zy,.dict es nn,#[]⟩)(hz:(a==Vb)=false)(he:pU w css us es.toList)(nd:css.Nodup)(hv:HW K us ts):ym P w K mg x (css.map λk=>.inr ⟨k.toArray⟩) ts:=by
 obtain⟨ys,h1,h2⟩:=hv.get;obtain⟨p1,p2,p3⟩:=he.pairs (P:=P);refine⟨a,us,ys,h,λhh hK=>⟨_,es,nn,hK a _ l,⟨rfl,rfl,rfl⟩,rfl,λe hm=>p1 e (Array.mem_toList_iff.mpr hm),p2,?_⟩,hz,h1,by rw[Q4];exact p3,h2⟩;rw[Cs (by rw[Q4];exact p3)];exact A7 nd
end
end Mi
namespace So
open PySem PySem.W PyProof.Rows
variable{n:Nat}{R:Nat->Nat->Bool}{cmp:Nat->Nat->(Bool->Q7->Prop)->Q7->Prop}{s:Q7}{p:Array Nat}
structure PX (n:Nat) (R:Nat->Nat->Bool):Prop where
 tr:∀i j k,i<n->j<n->k<n->R i j=true->R j k=true->R i k=true
 tot:∀i j,i<n->j<n->i≠j->R i j=false->R j i=true
 Qy:∀i j,i<n->j<n->R i j=true->R j i=false
def Pm(n:Nat)(p:Array Nat):Prop:=p.toList.Perm (S4 n)
theorem Pm.size(h:Pm n p):p.size=n:=by
 have:=h.length_eq;simpa using this
theorem Pm.lt(h:Pm n p)(b:k<n):p.getD k 0<n:=by
 have a:=h.size;have e:p.getD k 0=p[k]'(by omega):=by simp[XH,a,b]
 rw[e];have:p[k]'(by omega)∈p.toList:=by simp
 have:=h.mem_iff.1 this;simpa using this
theorem Pm.ne(h:Pm n p)(hi:i<n)(g:j<n)(a:i≠j):p.getD i 0≠p.getD j 0:=by
 have d:=h.size;have f:p.toList.Nodup:=h.nodup_iff.2 List.nodup_range;have l:p.getD i 0=p.toList[i]'(by simp;omega):=by simp[XH,d,hi]
 have k:p.getD j 0=p.toList[j]'(by simp;omega):=by simp[XH,d,g]
 rw[l,k];have b:=List.pairwise_iff_getElem.1 f;rcases Nat.lt_or_gt_of_ne a with c|c
 ·exact b i j _ _ c
 ·exact λe=>b j i _ _ c e.symm
def Up(R:Nat->Nat->Bool)(p:Array Nat)(m:Nat):Prop:=∀i j,i<j->j<m->R (p.getD i 0) (p.getD j 0)=true
def Dn(R:Nat->Nat->Bool)(p:Array Nat)(m:Nat):Prop:=∀i j,i<j->j<m->R (p.getD j 0) (p.getD i 0)=true
theorem Up.succ(O:PX n R)(P:Pm n p)(k:1<=m)(b:m<n)(u:Up R p m)(e:R (p.getD (m-1) 0) (p.getD m 0)=true):Up R p (m+1):=by
 intro i j a h;by_cases c:j<m
 ·exact u i j a c
 have:j=m:=by omega
 subst this;by_cases d:i=j-1
 ·subst d;exact e
 have g:i<j-1:=by omega
 have f:j-1<j:=by omega
 exact O.tr _ _ _ (P.lt (VZ a b)) (P.lt (VZ f b)) (P.lt b) (u i (j-1) g f) e
theorem Dn.succ(O:PX n R)(P:Pm n p)(k:1<=m)(b:m<n)(u:Dn R p m)(e:R (p.getD m 0) (p.getD (m-1) 0)=true):Dn R p (m+1):=by
 intro i j a h;by_cases c:j<m
 ·exact u i j a c
 have:j=m:=by omega
 subst this;by_cases d:i=j-1
 ·subst d;exact e
 have g:i<j-1:=by omega
 have f:j-1<j:=by omega
 exact O.tr _ _ _ (P.lt b) (P.lt (VZ f b)) (P.lt (VZ a b)) e (u i (j-1) g f)
section
variable(O:PX n R) (hc:∀i j (C:Bool->Q7->Prop),i<n->j<n->C (R i j) s->cmp i j C s)
include O hc
end
end So
end
section
set_option maxHeartbeats 1000000
namespace Mi
open PySem PySem.Spec PyProof.Rows L2
section
open PySem.W
variable{prog:Rk}{w:Rz}{A:SH}{E:Q2->Q7->Prop}{s:Q7}
def TI(h:Rm)(v:Q2)(k:List Int):Prop:=∃a o its n,v=.ref a/\h.get? a=Zz o/\o.cls=.type "tuple"/\o.data=.seq its n/\We its.toList k
open Classical in
end
section
variable{K:Rf}{cm:List Q8}{m:Mem}{H:Hp}{xr:XR}{X:Cx}{call:Nat->List W->Mem->Res W}{gv:List T}
variable{e:Rq}{es:List Rq}{ea:E}{eas:Es}{pos p p2:Pos}{rest:List Rv}{k:S}{n:Nat}
theorem LC{k:Nat}(hc:X.calm=true)(h:Nw X es t)(hn:(RM es X.env).length=n:=by rfl)(hst:(RM es X.env).findIdx? (·.1)=Zy:=by rfl):PG X (.Tuple es k pos) (λv σ H Q=>∃a xs,v=.ref a/\H a=Zz (.lst xs)/\xs.length=n/\t xs σ H Q):=by
 intro pins s σ H v u Q I r hw;obtain⟨a,xs,e1,hq,hl,hw⟩:=hw;subst e1;cases r;obtain⟨its,rv,ht,hz⟩:=I.list (.of hq);have hlen:=rv.length;rw[assign_Tuple];refine Q0 (Sk ?_);unfold unpack;rw[hn,hst,show n=its.toArray.size by simp;omega];refine Q0 (SF (PySem.W.kun_itemsOf (I.ok.hd hc) ht.isList λh' hx=>?_));have I1:Inv X pins σ H { s with heap:=h' }:=I.kept (t':=s.toks) λb o e=>hx b o (Rc (RH e)) e
 exact h pins _ σ H xs _ Q I1 (by simpa using rv) hw
inductive P9 (is:List Nat) (v:V) (σ:L2.St) (H:Hp) (Q:L2.St->Hp->Prop):Prop where
 |mk (a xs) (_:v=.ref a) (_:H a=Zz (.lst xs)) (_:xs.length=is.length) (_:Q (cy is xs σ) H)
theorem Dg(hN:∀i∈f,i<n)(h:PE X e (tE X.K call gv xr ea))(hg:PG X tg (P9 f))(hk:du X rest (tS X.K call gv xr n k))(hs:Vy [tg] e pos.line X.env=pure false:=by rfl)(hw:Vz [tg] e X.env=pure Zy:=by rfl)(h1:(RM [tg] X.env).map (·.2)=[assign tg X.env]:=by rfl):du X (.Assign [tg] e pos::rest) (tS X.K call gv xr n (.Gi f ea k)):=by
 refine du.mono (cE (A8 h hg hs hw h1) hk) ?_;rintro D σ H ⟨s,b,cm,m,u,M,r⟩;rw[ex]at r;refine⟨b,cm,m,u,M,r.bind.mono λw l o H1 A z d v C=>?_⟩;cases w with
 |x _ _ _=>exact d.elim
 |c i=>exact d.elim
 |t t =>
  cases t with
  |lst g =>
   have d:aX X.K (match bK (.tp f) (.tup g) b with
    |some b=>ex call gv k b o
    |none=>.stuck) xr l o H1 _:=d
   have y:bK (.tp f) (.tup g) b=if g.length=f.length then Zz ((f.zip g).foldl (λb p=>b.set p.1 (Zz (.t p.2))) b)else Zy:=rfl
   by_cases hlen:g.length=f.length
   ·rw[y,Xf hlen]at d
    obtain⟨a,B,rfl,h2,_,q⟩:=RT.Ls C;exact⟨a,B,rfl,h2,by rw[<-q.length];exact hlen,(hV _ _ _).trans s,_,l,o,bq.cy (u.ext A M z) q (λj hj=>by rw[s];exact hN j hj),z,d⟩
   ·rw[y,Xg hlen]at d
    exact d.elim
  |_=>exact d.elim
noncomputable def iv:Q2->Int
 |.int n _=>n
 |_=>0
end
open AutoSeq1 (wpAny_loadPart') in
open MeetsSeq MeetsSeq2 MeetsSeq3 in
open AutoSeq1 (wpAny_loadPart') in
open MeetsSeq MeetsSeq2 MeetsSeq3 in
inductive LI (h:Rm) (v:Q2) (k:List Int)  : Prop where
 |mk (a its n) (_:v=.ref a) (_:h.get? a=Zz { cls:=.type "list",data:=.seq its n }) (_:We its.toList k)
section
variable{K:Rf}{cm:List Q8}{m:Mem}{H:Hp}{xr:XR}{X:Cx}{call:Nat->List W->Mem->Res W}{gv:List T}
variable{e e2:Rq}{es:List Rq}{ea:E}{eas:Es}{pos p p2:Pos}{rest:List Rv}{k:S}{n:Nat}
theorem Ac{i:Int}{E:Q2->Q7->Prop}{Q:VK}(I:Inv X pins σ H s)(b:H l=Zz (.lst xs))(k:0<=i)(j:i<=xs.length)(g:xs.length<RP)(c:RelV y u)(q:Q .non (upd H l (.lst (xs.take i.toNat++y::xs.drop i.toNat)))):
  RB (RC X.prog X.w) X.A (U3 (.builtin "list.insert") [.ref l,.int i t,u]) (EP X pins σ Q) E s:=by
 obtain⟨z,a,n,r,h,e⟩:=I.zg b;have d:=SW;have f:Builtin.List.listFitsIndex i=true:=WQ (by omega) (by omega);refine Sx PySem.F.slot_list_insert ⟨_,e,rfl⟩ PySem.F.entry_list_insert (PySem.F.args_list_insert_3 _ _ _) (AutoListH.list_insert_list_int_val_1 l a.toArray n i t u (by rw[f];decide) (by rw[Q9];omega)) ⟨e,?_⟩;refine⟨.non,_,I.Mp (its':=a.take i.toNat++u::a.drop i.toNat) b e ?_ ?_ ?_,rfl,q⟩
 ·show(a.toArray.extract 0 (if i<0 then _ else min i.toNat a.toArray.size)).push u++a.toArray.extract (if i<0 then _ else min i.toNat a.toArray.size)=_
  rw[Xg (by omega),Q9,Nat.min_eq_left (by omega)];apply Array.ext';simp;exact U5 (by rw[Sh];exact R1 _)
 ·exact bB (gW i.toNat r) (.cons c (gI i.toNat r))
 ·rw[R7,Rn,RN,Sh]
  omega
theorem ID{t:T}(h:oQ .insert xs ts=Zz (t,ys)):∃(i:Int) (u:T),ts=[.int i,u]/\(0<=i/\i<=xs.length/\xs.length<lim)/\t=.non/\ys=xs.take i.toNat++u::xs.drop i.toNat:=by
 cases ts with
 |nil=>cases h
 |cons a r =>
  cases r with
  |nil=>cases a<;>cases h
  |cons b r =>
   cases r with
   |nil =>
    cases a with
    |int i =>
     have h:(if 0<=i/\i<=xs.length/\xs.length<lim then Zz (T.non,xs.take i.toNat++b::xs.drop i.toNat)else Zy)=Zz (t,ys):=h;split at h<;>cases h;exact⟨i,b,rfl,‹_›,rfl,rfl⟩
    |_=>cases h
   |cons c r=>cases a<;>cases h
theorem zR:KL X "list.insert" (rM X.K xr .insert):=by
 rintro pins s σ H x xs v us Q I rx rs ⟨cm,m,w,ws,M,rw',rws,f⟩;cases w with
 |t t=>exact f.elim
 |x _ _ _=>exact f.elim
 |c i =>
  have f:aX X.K ((bX ws m).bind λts m=>match m[i]? with
   |some (Zz (false,xs))=>match oQ .insert xs ts with
    |some (t,ys)=>.ok (W.t t) (m.set i (Zz (false,ys)))
    |none=>.stuck
   |_=>.stuck) xr cm m H _:=f
  obtain⟨ts,m2,e2,e⟩:=iB f;obtain⟨x2,M2,r2⟩:=gX M rws e2;obtain⟨a,ha,rfl⟩:=rw';split at e
  ·rename_i ys e3
   split at e
   ·rename_i t zs e4
    obtain⟨b,vs,q1,q2,q3,q4⟩:=M2.at' i _ e3;rw[ha]at q1;cases q1;have l4:=q4.length;dsimp only at l4;have hz:=bj;obtain⟨j,y,rfl,⟨hj0,hj1,hlt⟩,rfl,rfl⟩:=ID e4;cases r2 with
    |cons r3 r0 =>
     cases r0 with
     |cons r4 r0 =>
      cases r0;cases r3;cases rs with
      |cons s3 g =>
       cases g with
       |cons s4 g =>
        cases g;obtain⟨tk,rfl⟩:=s3;cases rx;obtain⟨x5,M5⟩:=ju M2 e3 ha (bB (gW j.toNat q4) (.cons r4 (gI j.toNat q4)));exact Ac I q2 hj0 (by omega) (by omega) s4 (aX.to e (x2.trans x5) M5 _ .non)
   ·exact e.elim
  ·exact e.elim
theorem O8(a:[e,e2].all notStar=true):((backTo cpos (S9 [e,e2] X.env)).all (λx=>!x.1)&&(XZ cpos (X3 [] X.env)).all (λx=>x.1.isSome)
  && decide ([e,e2].length+([]:List Wd).length+(if([]:List Wd).isEmpty then 0 else 1)<30))=true:=by
 rw[vP a];rfl
theorem J9(M:aE X.K cm m H)(g:RW X.K cm m H w v)(d:o0 .insert w m=true):(∃i,w=.c i)/\MN X.K "list" v H:=by
 cases w with
 |t t=>cases d
 |x _ _ _=>cases d
 |c i =>
  obtain⟨a,j,rfl⟩:=g;have d:(match m[i]? with
   |some (Zz _)=>true
   |_=>false)=true:=d
  split at d
  ·rename_i c e1
   obtain⟨b,f,e,h,_⟩:=M.at' i _ e1;rw[j]at e;cases e;exact⟨⟨_,rfl⟩,.inl ⟨rfl,f,.of h⟩⟩
  ·cases d
theorem zV(z:PE X o (tE X.K call gv xr ea))(A:PA X [e,e2] (tA X.K call gv xr eas))(b:Sz o "insert" X.env (eval o X.env)=eval o X.env:=by rfl)(a:(apos.endLine==cpos.line)=true:=by rfl)(y:[e,e2].all notStar=true:=by rfl)(C:notStar e=true:=by rfl)(B:[e2].all notStar=true:=by rfl):
  PE X (.Call (.Attribute o "insert" apos) [e,e2] [] cpos) (tE X.K call gv xr (.eA .insert ea eas)):=by
 refine PE.mono (su Ut PySem.F.slot_list_insert PySem.F.type_list_insert (zR (xr:=xr)) z A b (O8 y) a (bH C) (ef B)) ?_;rintro σ H Q ⟨c,D,m,l,M,k⟩;rw[ev]at k;refine⟨c,D,m,l,M,k.bind.mono λw i u I q d g v j=>?_⟩;obtain⟨x,g⟩:=ij g;exact⟨(J9 d j x).2,c,i,u,l.ext q M d,d,g.bind.mono λr h t G p n s E f=>⟨h,t,w,r,n,j.ext p d n,f,s⟩⟩
end
section
variable{X:Cx}{params:Arguments}{body:Rq}{scope:VF}{pos:Pos}{q:Str}
structure P7 (X:Cx) (y:Str) (scope:VF):Prop where
 kind:scope.kind=.function
 co:scope.isCoroutine=false
 gen:scope.isGenerator=false
 O7:∀x∈scope.names,x.2≠.cell
 NJ:scope.names.lookup y=Zz .local
 look:∀p∈scope.names,scope.names.lookup p.1=Zz p.2
 free:∀x,(x,Ru)∈scope.names->X.env.kindOf x=Zz .cell∨X.env.kindOf x=Zz .free
end
noncomputable def bN(ps:List Q8)(K:Rf):Rf:=K.filter λp=>!ps.contains p.1
theorem kK:∀(K:Rf),(bN ps K).lookup a=if ps.contains a then Zy else K.lookup a
 |[]=>by cases ps.contains a<;>rfl
 |(b,o)::K=>by
  have c:=kK (ps:=ps) (a:=a) K;unfold bN at c ⊢;rw[List.filter_cons];by_cases hb:a=b
  ·subst hb
   cases hc:ps.contains a with
   |true =>
    simp only[hc,TL,RV,if_false,if_true]at c ⊢;exact c
   |false=>simp only[hc,Bool.not_false,if_true,RV,if_false,SC,beq_self_eq_true]
  ·have e:=Xj.mpr hb
   rw[SC,e];cases hc:ps.contains b with
   |true =>
    simp only[hc,TL,RV,if_false];exact c
   |false =>
    simp only[hc,Bool.not_false,if_true,SC,e];exact c
noncomputable def IN(_:List Q8)(_:Rf):Bool:=true
section
variable{ps:List Q8}{K:Rf}(T:∀P∈ps,K.lookup P=Zz (tabObj #[]))
include T
theorem jZ(l:K.lookup a=Zz o)(b:o.data≠.fields #[]):(bN ps K).lookup a=Zz o:=by
 rw[kK,Xg λz=>?_]
 ·exact l
 ·have:=T a (V3.mp z)
  rw[l]at this;cases this;exact b rfl
theorem Cy(e:codeIn K cd x=true):codeIn (bN ps K) cd x=true:=by
 cases cd with
 |ref c =>
  have:(bN ps K).lookup c=K.lookup c:=by
   rw[kK,Xg λz=>?_];have:=T c (V3.mp z);unfold codeIn at e;dsimp only at e;rw[this]at e;cases e
  unfold codeIn at e ⊢;dsimp only at e ⊢;rw[this];exact e
 |_=>cases e
theorem Ct(l:K.lookup f=Zz ⟨oc,od,.func fd,sl⟩):keepIn (bN ps K) (.ref f)=true:=by
 have:=jZ T l (λz=>by cases z);unfold keepIn;dsimp only;rw[this]
end
theorem law_callT{K:Rf}(KX:K.In s₁.heap)(T:∀P∈ps,K.lookup P=Zz (tabObj #[]))(C:∀P∈ps,∃c,Xd K c P=true)(B:IN ps K=true)(hns:s₁.heap.Ns R9 mg)(hb:s₁.heap.Ns Uj mb)(hbb:∀x:Str,x≠"__name__"->mb x=Sy x)(hlim:s₁.heap.NoLimit)(hbm:∃bm ob,mg "__builtins__" = Zz (.ref bm)/\bm≠Uj/\s₁.heap.get? bm=Zz ob/\ob.cls=.type "module"/\ob.dict=Zz Uj/\ob.data=.plain)(hg:s₁.gens=#[])(ha:s₁.heap.get? a=Zz { cls:=.type "list",data:=.seq vs.toArray })(hi:We vs ns)(hl:ns.length<=RP)(hr:iQ k Wf)(F:∀base:Rm,(bN ps K).In base->base.Ns R9 mg->oo P w (bN ps K) mg base CX k fa fd [x] sp)(hbind:∀(s:Q7) (u:Q2),Wc s fd ⟨[u],[]⟩ [(x,u)])(hsp:∀H:Hp,zn (bN ps K) H->jN (bN ps K) H a ns->sp [.ref a] H (λv _=>v=.bl true) λ_ _ _=>False)(hCX:∀H e s',CX [] H s₁ (λ_ _ _=>False) e s'->False):
  Tc (RC P w) Wf (.call (.ref fa) ⟨[.ref a],[]⟩) (λr s'=>r=.ok (.ret (.bool true))/\OldK s₁.heap s'.heap/\s'.os=s₁.os/\VB s'.gens) s₁:=by
 have rv:=tY hi;have lenV:=hi.length;have TH:=λP hP=>KX P _ (T P hP)
 have aps:a∉ps:=λz=>by have:=TH a z;rw[ha]at this;cases this
 have core:∀(H:Hp),jN (bN ps K) H a ns->lr P w H s₁.heap->(∀b u,H b=Zz u->(b=a/\∃o xs,u=.jS o (.lst xs))∨(b∈ps/\u=.Bt #[]))->(∀b∈ps,H b=Zz (.Bt #[]))->(H a≠Zy->K.lookup a=Zy) ->
   Tc (RC P w) Wf (.call (.ref fa) ⟨[.ref a],[]⟩) (λr s'=>r=.ok (.ret (.bool true))/\OldK s₁.heap s'.heap/\s'.os=s₁.os/\VB s'.gens) s₁:=by
  intro H hS hok hA hT hK;have i:∀{b:Q8}{o:Obj},s₁.heap.get? b=Zz o->H b=Zy->(vQ s₁.heap H).get? b=Zz o:=λe n=>GB e n
  have noA:∀{b:Q8}{o:Obj},s₁.heap.get? b=Zz o->o.cls≠.type "list"∨(∀its n,o.data≠.seq its n)->(∀gs,o.data≠.fields gs)->H b=Zy:=λ{b o} e d1 d2=>by
   cases q:H b with
   |none=>rfl
   |some u =>
    rcases hA b u q with⟨e',_⟩|⟨e',_⟩
    ·subst e'
     rw[ha]at e;cases e;rcases d1 with d|d
     ·exact Xk rfl d
     ·exact Xk rfl (d _ _)
    ·have:=TH b e'
     rw[this]at e;cases e;exact Xk rfl (d2 _)
  have nsK:∀{b:Q8}{m:Str->Option Q2},s₁.heap.Ns b m->(vQ s₁.heap H).Ns b m:=λ{b m} ⟨o,es,ep,e,d,r⟩=>⟨o,es,ep,i e (noA e (.inr λ_ _ z=>by rw[d]at z;cases z) λ_ z=>by rw[d]at z;cases z),d,r⟩
  have hKb:(bN ps K).In (vQ s₁.heap H):=λb o e=>by
   rw[kK]at e;split at e
   ·cases e
   ·rename_i z
    refine i (KX b o e) ?_;cases q:H b with
    |none=>rfl
    |some u =>
     rcases hA b u q with⟨e',_⟩|⟨e',_⟩
     ·subst e'
      rw[hK (by rw[q];simp)]at e;cases e
     ·exact Xk (V3.mpr e') z
  have hM:Mod (bN ps K) mg (vQ s₁.heap H):=⟨hKb,nsK hns,⟨mb,nsK hb,hbb⟩,let⟨mc,h1,h2⟩:=hlim;⟨mc,nsK h1,h2⟩,by
   obtain⟨bm,ob,b1,b2,b3,b4,b5,b6⟩:=hbm;exact⟨bm,ob,b1,b2,i b3 (noA b3 (.inr λ_ _ z=>by rw[b6]at z;cases z) λ_ z=>by rw[b6]at z;cases z),b4,b5,b6⟩⟩
  have e0:yE P w (bN ps K) mg (vQ s₁.heap H) Wf [] s₁ H:=⟨rfl,hM,λb o e=>JR e,Nat.le_of_eq (DI _ _),trivial,λb hb=>Xk (show b∈([]:List Q8)from hb) (by simp),hok,.of_eq hg⟩
  have tab:zn (bN ps K) H:=trivial;refine Td ((F _ hKb (nsK hns)).run Wf [] s₁ H ⟨[.ref a],[]⟩ [.ref a] [.ref a] _ _ hr e0 (hbind s₁ (.ref a)) (.cons rfl .nil) (hsp H tab hS)) λr s' h=>?_
  cases r with
  |error e=>exact(hCX H e s' h).elim
  |ok fl =>
   cases fl with
   |next=>exact TR h
   |brk=>exact TR h
   |cont=>exact TR h
   |ret u =>
    obtain⟨v,H',os,bare,un,hok',r',q⟩:=h;have q':=q;subst q';obtain rfl:u=SZ true:=r';have all:∀b o,s₁.heap.get? b=Zz o->s'.heap.get? b=Zz o∨(b∈ps/\∃more,s'.heap.get? b=Zz (tabObj more)):=λb o e=>by
     cases q:H b with
     |none=>exact .inl (un.keep b o e q (by intro z;exact Xk (show b∈([]:List Q8)from z) (by simp)) (by simp))
     |some u =>
      rcases hA b u q with⟨_,ob,xs,z⟩|⟨z1,z⟩
      ·subst z
       have z2:=un.bX b ob _ q;obtain⟨e1,_⟩:=hok b _ q;obtain⟨e2,_⟩:=hok' b _ z2;rw[e]at e1;cases e1;exact .inl e2
      ·subst z
       obtain⟨more,z2⟩:=un.jF b _ q;exact .inr ⟨z1,_,hok' b _ z2⟩
    refine⟨rfl,⟨λb o e=>?_,λb o e=>?_⟩,os,bare⟩
    ·rcases all b o e with z|⟨z1,more,z⟩
     ·exact .inl z
     ·have e':=TH b z1
      rw[e]at e';cases e';obtain⟨c,hc⟩:=C b z1;exact .inr (.inl ⟨((PySem.W.codeHd_of_K KX hc).tab e).isCodeTable,rfl,#[],more,rfl,by rw[z];simp⟩)
    ·rcases all b o e with z|⟨_,more,z⟩
     ·exact⟨_,z⟩
     ·exact⟨_,z⟩
 have tabOk:∀{H:Hp}{b:Q8},b∈ps->cL P w H s₁.heap b (.Bt #[]):=λhb=>TH _ hb
 cases hk:K.lookup a with
 |some o =>
  have e:=KX a o hk;rw[ha]at e;cases e;refine core (λb=>if b∈ps then Zz (.Bt #[])else Zy) (.inr ⟨_,vs.toArray,_,jZ T hk (λz=>by cases z),rfl,rfl,rfl,by rw[Q9,lenV];exact hl,by simpa using rv⟩) (λb u z=>?_) (λb u z=>?_) (λb hb=>Xf hb) λz=>Xk (Xg aps) z
  ·by_cases hb:b∈ps
   ·have z:=(Xf hb).symm.trans z
    cases z;exact tabOk hb
   ·have z:=(Xg hb).symm.trans z
    cases z
  ·by_cases hb:b∈ps
   ·have z:=(Xf hb).symm.trans z
    cases z;exact .inr ⟨hb,rfl⟩
   ·have z:=(Xg hb).symm.trans z
    cases z
 |none =>
  generalize hH:(λb=>if b=a then Zz (.jS { cls:=.type "list",data:=.seq vs.toArray } (.lst (ns.map V.int)))else if b∈ps then Zz (.Bt #[])else Zy:Hp)=H;have Ha:H a=Zz (.jS { cls:=.type "list",data:=.seq vs.toArray } (.lst (ns.map V.int))):=by rw[<-hH];exact Xf rfl
  have Hp':∀b∈ps,H b=Zz (.Bt #[]):=λb hb=>by
   rw[<-hH];exact(Xg λz=>aps (by rw[<-z];exact hb)).trans (Xf hb)
  have Hc:∀b u,H b=Zz u->(b=a/\u=.jS { cls:=.type "list",data:=.seq vs.toArray } (.lst (ns.map V.int)))∨(b∈ps/\u=.Bt #[]):=λb u z=>by
   by_cases hb:b=a
   ·subst hb
    rw[Ha]at z;cases z;exact .inl ⟨rfl,rfl⟩
   ·by_cases hb':b∈ps
    ·rw[Hp' b hb']at z;cases z
     exact .inr ⟨hb',rfl⟩
    ·rw[<-hH]at z
     have z:Zy=Zz u:=((Xg hb).trans (Xg hb')).symm.trans z;cases z
  refine core H (.inl ⟨_,Ha⟩) (λb u z=>?_) (λb u z=>?_) Hp' λ_=>hk
  ·rcases Hc b u z with⟨rfl,rfl⟩|⟨h1,rfl⟩
   ·exact⟨ha,by rw[Q4];exact hl,vs,_,rv,ha⟩
   ·exact tabOk h1
  ·rcases Hc b u z with⟨h1,rfl⟩|h
   ·exact .inl ⟨h1,_,_,rfl⟩
   ·exact .inr h
theorem HL{l:Ws}{K:Params->Rf}{CX:Rz->JB}{sp:Rz->Sp}(S:l.most=Zz n)(E:n<=RP)(J:d.params.defaults=[])(R:iQ k Wf)(Z:∀(w:Rz) (h:Rm),YP w h->(K w.params).In h)(T:∀(w:Rz) P,P∈ps->(K w.params).lookup P=Zz (tabObj #[]))(C:∀(w:Rz) P,P∈ps->∃c,Xd (K w.params) c P=true)(B:∀w:Rz,IN ps (K w.params)=true)(F:∀(w:Rz) (p:Str->Option Q2) (z:Q8) (h:Rm),(K w.params).In h->h.Ns R9 p->p d.name=Zz (.ref z) ->
   ∃M:Tb,(∀(s:Q7) (u:Q2),Wc s M ⟨[u],[]⟩ [(x,u)]) /\
    ∀i:Rm,(bN ps (K w.params)).In i->i.Ns R9 p->oo l.prog w (bN ps (K w.params)) p i (CX w) k z M [x] (sp w))(D:∀(w:Rz) (H:Hp) (a:Q8) (y:List Int),y.length<=n->zn (bN ps (K w.params)) H->jN (bN ps (K w.params)) H a y->sp w [.ref a] H (λv _=>v=.bl true) λ_ _ _=>False)(L:∀(w:Rz) (H:Hp) (s:Q7) (e:Q2) (A:Q7),CX w [] H s (λ_ _ _=>False) e A->False):
  PySem.W.WalkO q loose XP YP l.row.toRowW d [] (λf N=>U3 f N):=by
 refine Att.yx S J λw O r p mb z o pm cd doc a N y G Y ho hd V I t m j U=>?_
 have Q:=Z w _ Y;obtain⟨M,X,hF⟩:=F w p z _ Q G.T.g I;exact law_callT Q (T w) (C w) (B w) G.T.g G.T.b G.T.builtins G.T.nolimit G.T.bmain U t m (Re j E) R hF X (λH hO hS=>D w H a y j hO hS) λH e A=>L w H r e A
end Mi
end
section
namespace Mi
open PySem PySem.Spec PyProof.Rows L2 PySem.Builtin PySem.Builtin.Str
section
variable{X:L2.Cx}{call:Nat->List W->Mem->Res W}{gv:List T}{xr:XR}
theorem Ff:KL X "str.partition" (rM X.K xr .partition):=by
 rintro h s σ H x xs v us Q I rx rs ⟨cm,m,w,ws,M,u,p,B⟩;obtain⟨tw,ts,t,q1,q2,e,f⟩:=BM B;clear B;unfold eT at e;dsimp only at e;split at e
 ·rename_i cs
  split at e
  ·rename_i c sep
   split at e<;>cases e;rename_i hl;obtain⟨w1,rfl,e1⟩:=kC q2;cases(ao u q1 (λ_ z=>by cases z)).dA;obtain _|⟨r1,_|_⟩:=p;cases(ao r1 e1 (λ_ z=>by cases z)).dA;obtain⟨tt,rfl⟩:=rx;obtain⟨u1,rfl,tu,rfl⟩:=vals1 rs;have A:=bj;unfold lim at A;refine Sx F.slot_str_partition (V6 _ _ _) F.entry_str_partition (F.args_str_partition_2 _ _) (meets_str_partition _ _ tt tu rfl (by show cs.toArray.size<=_;rw[Q9];omega)) ?_;have d:∀(a b g:Str) (n l j:Tok) (k:Nat),(a,b,g)=Wm ⟨cs.toArray⟩ ⟨(c::sep).toArray⟩ ->
     EP X h σ Q (.ref s.heap.objs.size) { s with toks:=k,heap:=s.heap.push { cls:=.type "tuple",data:=.seq [.str a n,.str b l,.str g j].toArray } }:=λa b g n l j k e=>by
    have hr:c6 X.K cm m H [.str a.cps.toList,.str b.cps.toList,.str g.cps.toList] [.str a,.str b,.str g]:=.cons (.str _) (.cons (.str _) (.cons (.str _) .nil));refine⟨.ref s.heap.objs.size,_,I.laid (t':=k) (o:=.tup [.str a,.str b,.str g]) (λ_ _ q=>Q6 _ q) (R1 _) ⟨Re (show 3<=1000000 by decide) A,_,.cons ⟨n,rfl⟩ (.cons ⟨l,rfl⟩ (.cons ⟨j,rfl⟩ .nil)),sf.new _ _⟩,rfl,lW (xr:=xr) (ts:=[.str a.cps.toList,.str b.cps.toList,.str g.cps.toList]) ?_ M hr I.fresh⟩;unfold yh at f;rw[<-e]at f;exact f
   unfold Wm at d;revert d;cases occurrences ⟨cs.toArray⟩ ⟨(c::sep).toArray⟩ 0 (XB ⟨cs.toArray⟩) 1 with
   |nil=>exact λd=>d _ _ _ _ _ _ _ rfl
   |cons i r=>exact λd=>d _ _ _ _ _ _ _ rfl
  ·cases e
 ·cases e
theorem IW{K:Rf}(r:RW K cm m H w v)(h:o0 .partition w m=true):MN K "str" v H:=vk r h
theorem Gw(z:PE X o (tE X.K call gv xr ea))(A:PA X [e] (tA X.K call gv xr eas))(b:Sz o "partition" X.env (eval o X.env)=eval o X.env:=by rfl)(a:(apos.endLine==cpos.line)=true:=by rfl)(k:notStar e=true:=by rfl):
  PE X (.Call (.Attribute o "partition" apos) [e] [] cpos) (tE X.K call gv xr (.eA .partition ea eas)):=by
 refine PE.mono (su U4 PySem.F.slot_str_partition PySem.F.type_str_partition (Ff (xr:=xr)) z A b (Db k) a (bH k) (ef rfl)) ?_;rintro σ H Q ⟨c,B,m,n,M,l⟩;rw[ev]at l;refine⟨c,B,m,n,M,l.bind.mono λw h x E r i f v j=>?_⟩;obtain⟨y,f⟩:=ij f;refine⟨IW j y,c,h,x,n.ext r M i,i,f.bind.mono λs g u D q p t C d=>?_⟩;exact⟨g,u,w,s,p,j.ext q i p,d,t⟩
theorem xJ(G F E D:Nat)(L:X.calm=true)(e:X.N.Nodup)(w:X.N[G]?=Zz x0:=by rfl)(t:X.N[F]?=Zz x1:=by rfl)(q:X.N[E]?=Zz x2:=by rfl)(p:X.N[D]?=Zz x3:=by rfl)(j:Loc X.env.scope x0:=by first|exact Tz rfl|exact Tn rfl)(i:Loc X.env.scope x1:=by first|exact Tz rfl|exact Tn rfl)(h:Loc X.env.scope x2:=by first|exact Tz rfl|exact Tn rfl)(g:Loc X.env.scope x3:=by first|exact Tz rfl|exact Tn rfl)(A:X.fn x0=true∨X.env.scope.names.lookup x0=Zz .local:=by first|exact .inl rfl|exact .inr rfl)(z:X.fn x1=true∨X.env.scope.names.lookup x1=Zz .local:=by first|exact .inl rfl|exact .inr rfl)(y:X.fn x2=true∨X.env.scope.names.lookup x2=Zz .local:=by first|exact .inl rfl|exact .inr rfl)(x:X.fn x3=true∨X.env.scope.names.lookup x3=Zz .local:=by first|exact .inl rfl|exact .inr rfl)(o:(RM [.Name x0 p0,.Name x1 p1,.Name x2 p2,.Name x3 p3] X.env).map (·.2)=assign (.Name x0 p0) X.env::(RM [.Name x1 p1,.Name x2 p2,.Name x3 p3] X.env).map (·.2):=by rfl)(n:(RM [.Name x1 p1,.Name x2 p2,.Name x3 p3] X.env).map (·.2)=assign (.Name x1 p1) X.env::(RM [.Name x2 p2,.Name x3 p3] X.env).map (·.2):=by rfl)(m:(RM [.Name x2 p2,.Name x3 p3] X.env).map (·.2)=assign (.Name x2 p2) X.env::(RM [.Name x3 p3] X.env).map (·.2):=by rfl)(l:(RM [.Name x3 p3] X.env).map (·.2)=assign (.Name x3 p3) X.env::(RM [] X.env).map (·.2):=by rfl)(K:(RM [.Name x0 p0,.Name x1 p1,.Name x2 p2,.Name x3 p3] X.env).length=4:=by rfl)(k:(RM [.Name x0 p0,.Name x1 p1,.Name x2 p2,.Name x3 p3] X.env).findIdx? (·.1)=Zy:=by rfl):PG X (.Tuple [.Name x0 p0,.Name x1 p1,.Name x2 p2,.Name x3 p3] kk pos) (P9 [G,F,E,D]):=by
 rintro c s σ H v u Q I r ⟨a,B,P,O,b,M⟩;refine LC L (bJ (bS e w j A) (bJ (bS e t i z) (bJ (bS e q h y) (bJ (bS e p g x) qF l) m) n) o) K k c s σ H v u Q I r ⟨a,B,P,O,b,?_⟩;rcases B with _|⟨J,_|⟨C,_|⟨f,_|⟨d,_|⟨R,r⟩⟩⟩⟩⟩
 ·cases b
 ·cases b
 ·cases b
 ·cases b
 ·exact⟨J,[C,f,d],rfl,C,[f,d],rfl,f,[d],rfl,d,[],rfl,rfl,M⟩
 ·cases b
end
end Mi
end
section
set_option maxHeartbeats 1000000
namespace Mi
open PySem PySem.Spec PyProof.Rows L2
section
variable{K:Rf}{cm:List Q8}{m:Mem}{H:Hp}{xr:XR}{X:Cx}{call:Nat->List W->Mem->Res W}{gv:List T}
variable{e:Rq}{es:List Rq}{ea:E}{eas:Es}{pos p p2:Pos}{rest:List Rv}{k:S}{n:Nat}
noncomputable def K4(t:T)(m:Mem):Res W:=match t with
 |.lst ts=>.ok (.c m.length) (m++[Zz (false,ts)])
 |.tup ts=>.ok (.c m.length) (m++[Zz (false,ts)])
 |_=>.stuck
noncomputable def Fh(x:W)(m:Mem):Res W:=match view x m with
 |some t=>K4 t m
 |none=>.stuck
theorem G8:ev call gv (.yG (.eA b ea eas)) env m=(ev call gv ea env m).bind λx m=>if o0 b x m then(evs call gv eas env m).bind λws m=>(Ar b x ws m).bind Fh else .stuck:=by
 have hv:∀(x:W) (m:Mem),(match view x m with|some (.lst ts)=>Res.ok (W.c m.length) (m++[Zz (false,ts)])|some (.tup ts)=>.ok (.c m.length) (m++[Zz (false,ts)])|_=>.stuck)=Fh x m:=λx m=>by
  unfold Fh K4;cases view x m with
  |none=>rfl
  |some t=>cases t<;>rfl
 rw[ev,ev];cases ev call gv ea env m with
 |stuck=>rfl
 |exc e m1=>rfl
 |ok x m1 =>
  show(if o0 b x m1 then _ else _:Res W).bind _=if o0 b x m1 then _ else _
  split
  ·cases evs call gv eas env m1 with
   |stuck=>rfl
   |exc e m2=>rfl
   |ok ws m2 =>
    show(Ar b x ws m2).bind _=(Ar b x ws m2).bind Fh
    congr 1
    funext x m
    exact hv x m
  ·rfl
inductive Qr (K:Rf) (xr:XR) (b:Mt) (x:V) (xs:List V) (H:Hp) (Q:VK):Prop where
 |mk (cm m w ws) (_:aE K cm m H) (_:RW K cm m H w x) (_:zX K cm m H ws xs) (_:aX K ((Ar b w ws m).bind Fh) xr cm m H λw cm' m' H'=>∀v,RW K cm' m' H' w v->Q v H')
theorem DP:KL X "str.split" (Qr X.K xr .split):=by
 rintro pins s σ H x xs v us Q I rx rs ⟨cm,m,w,f,M,rw',rws,ho⟩;have d:=ho;unfold Ar at d;obtain⟨t0,e0⟩:∃t,(view w m).bind (λx=>(views f m).bind λb=>eT .split x b)=Zz t:=by
  cases q:(view w m).bind (λx=>(views f m).bind λb=>eT .split x b)with
  |none=>rw[show cW ((view w m).bind λx=>(views f m).bind λb=>eT .split x b) m=.stuck from by rw[q];rfl]at d;exact d.elim
  |some t=>exact⟨t,rfl⟩
 have hz9:aX X.K (K4 t0 m) xr cm m H λw cm' m' H'=>∀v,RW X.K cm' m' H' w v->Q v H':=by
  have d:=d;rw[show cW ((view w m).bind λx=>(views f m).bind λb=>eT .split x b) m=.ok (.t t0) m from by rw[e0];rfl]at d;exact d
 clear ho d;obtain⟨tw,q1,e0⟩:=Uq.mp e0;obtain⟨b,q2,e⟩:=Uq.mp e0;unfold eT at e;dsimp only at e;split at e
 ·rename_i cs
  split at e
  ·rename_i c
   split at e<;>cases e;rename_i hl;obtain⟨w1,rfl,e1⟩:=kC q2;cases(ao rw' q1 (λ_ z=>by cases z)).dA;cases rws with
   |cons r1 r0 =>
    cases r0;cases(ao r1 e1 (λ_ z=>by cases z)).dA;obtain⟨tt,rfl⟩:=rx;obtain⟨u1,rfl,tu,rfl⟩:=vals1 rs;have hz:=bj;unfold lim at hz;refine ua rfl (by show cs.toArray.size+2<=_;rw[Q9];omega) λl k' el=>?_
    rw[yc c cs]at el;have hv:=j5 el;rw[SJ]at hv;have hlen:=lM c cs;have I':=I.Ge (t':=k') hv (by rw[Q4];omega);obtain⟨x3,M3,r3⟩:=jH M (r6 _) I.fresh (Inv.Kk I);exact⟨.ref s.heap.objs.size,_,I',rfl,aX.to hz9 x3 M3 _ r3⟩
  ·cases e
 ·cases e
theorem AH(ho:PE X o (tE X.K call gv xr ea))(ha:PA X [e] (tA X.K call gv xr eas))(b:Sz o "split" X.env (eval o X.env)=eval o X.env:=by rfl)(a:(apos.endLine==cpos.line)=true:=by rfl)(k:notStar e=true:=by rfl):
  PE X (.Call (.Attribute o "split" apos) [e] [] cpos) (tE X.K call gv xr (.yG (.eA .split ea eas))):=by
 refine PE.mono (su U4 PySem.F.slot_str_split PySem.F.type_str_split (DP (xr:=xr)) ho ha b (Db k) a (bH k) (ef rfl)) ?_;rintro σ H Q ⟨c,cm,m,n,M,l⟩;rw[G8]at l;refine⟨c,cm,m,n,M,l.bind.mono λw h m1 H1 x1 i f v j=>?_⟩;obtain⟨ht,f⟩:=ij f;refine⟨vk j ht,c,h,m1,n.ext x1 M i,i,f.bind.mono λws g m2 H2 x2 p o2 vs d=>?_⟩;exact⟨g,m2,w,ws,p,j.ext x2 i p,d,o2⟩
end
end Mi
end
section
namespace My
open Mi
noncomputable abbrev aP(a:E):Es:=.cons a .nil
noncomputable abbrev bv(a b:E):Es:=.cons a (aP b)
noncomputable abbrev qR(a b c:E):Es:=.cons a (bv b c)
noncomputable abbrev nC(a b c d:E):Es:=.cons a (qR b c d)
noncomputable abbrev al(i:Int):E:=.con (.int i)
noncomputable abbrev aq(s:List Nat):E:=.con (.str s)
noncomputable abbrev Al(b:Bool):E:=.con (.bl b)
noncomputable abbrev af(i:Nat):E:=.var i
noncomputable def d8:E:=(.emit (.cmp .In (af 0) (.gl 0)))
noncomputable def iY:E:=(.comp 1 [] (af 0) (.nm 0) .nil d8)
noncomputable def cU:S:=(.ret (.and (.cmp .Gt (.blt .len (aP (af 0))) (al 0)) (.and (.cmp .NotIn (af 0) (.gl 2)) (.blt .all (aP iY)))) .done)
noncomputable def d6:S:=(.ret (.and (.xz (af 0) .str) (.and (.cmp .LtE (.blt .len (aP (af 0))) (.gl 1)) (.call 0 (aP (af 0))))) .done)
noncomputable def i7:S:=(.ret (.and (.xz (af 0) .int) (.not (.xz (af 0) .bool))) .done)
noncomputable def eQ:S:=(.ret (.and (.call 2 (aP (af 0))) (.vO .LtE .LtE (al 0) (af 0) (.gl 3))) .done)
noncomputable def kH:S:=(.ret (.call 3 (aP (af 0))) .done)
noncomputable def nV:E:=(.emit (.cmp .Lt (.ix (af 1) (.bin .Sub (af 0) (al 1))) (.ix (af 1) (af 0))))
noncomputable def zl:E:=(.comp 1 [0] (.blt .jM (bv (al 1) (.blt .len (aP (af 0))))) (.nm 0) .nil nV)
noncomputable def qI:S:=(.ret (.blt .all (aP zl)) .done)
noncomputable def il:E:=(.emit (.call 1 (aP (af 0))))
noncomputable def lp:E:=(.comp 1 [] (af 0) (.nm 0) .nil il)
noncomputable def eM:S:=(.bZ (.or (.not (.xz (af 0) .tuple)) (.cmp .Gt (.blt .len (aP (af 0))) (.gl 4))) (.ret (Al false) .done) .done (.ret (.and (.blt .all (aP lp)) (.call 5 (aP (af 0)))) .done))
noncomputable def iM:S:=(.ret (.and (.xz (af 0) .tuple) (.and (.cmp .Eq (.blt .len (aP (af 0))) (al 2)) (.and (.call 1 (aP (.ix (af 0) (al 0)))) (.call 3 (aP (.ix (af 0) (al 1))))))) .done)
noncomputable def im:E:=(.emit (.ix (af 0) (al 0)))
noncomputable def lC:E:=(.comp 1 [] (af 0) (.nm 0) .nil im)
noncomputable def ia:E:=(.emit (.call 7 (aP (af 0))))
noncomputable def lv:E:=(.comp 1 [] (af 0) (.nm 0) .nil ia)
noncomputable def eD:S:=(.bZ (.or (.not (.xz (af 0) .tuple)) (.cmp .Gt (.blt .len (aP (af 0))) (.gl 5))) (.ret (Al false) .done) .done (.ret (.and (.blt .all (aP lv)) (.call 5 (aP lC))) .done))
noncomputable def iS:S:=(.bZ (.or (.not (.xz (af 0) .tuple)) (.cmp .NotEq (.blt .len (aP (af 0))) (al 4))) (.ret (Al false) .done) .done (.ret (.and (.call 1 (aP (.ix (af 0) (al 0)))) (.and (.call 1 (aP (.ix (af 0) (al 1)))) (.and (.call 6 (aP (.ix (af 0) (al 2)))) (.call 8 (aP (.ix (af 0) (al 3))))))) .done))
noncomputable def gR:S:=(.ret (.and (.xz (af 0) .str) (.cmp .In (af 0) (af 1))) .done)
noncomputable def cF:S:=(.bZ (.not (.xz (af 0) .tuple)) (.ret (Al false) .done) .done (.bZ (.cmp .Eq (.blt .len (aP (af 0))) (al 1)) (.ret (.call 10 (bv (.ix (af 0) (al 0)) (.tup (aP (aq [97,110,121]))))) .done) .done (.bZ (.cmp .Eq (.blt .len (aP (af 0))) (al 2)) (.ret (.and (.call 10 (bv (.ix (af 0) (al 0)) (.tup (bv (aq [105,115]) (aq [98,121]))))) (.call 1 (aP (.ix (af 0) (al 1))))) .done) .done (.bZ (.cmp .Eq (.blt .len (aP (af 0))) (al 3)) (.ret (.and (.call 10 (bv (.ix (af 0) (al 0)) (.tup (bv (aq [108,101,97,115,116]) (aq [109,111,115,116]))))) (.and (.call 1 (aP (.ix (af 0) (al 1)))) (.call 3 (aP (.ix (af 0) (al 2)))))) .done) .done (.ret (Al false) .done)))))
noncomputable def dD:S:=(.ret (.and (.xz (af 0) .tuple) (.vO .LtE .LtE (.gl 8) (.blt .len (aP (af 0))) (.gl 9))) .done)
noncomputable def eS:S:=(.bZ (.or (.not (.xz (af 0) .tuple)) (.cmp .NotEq (.blt .len (aP (af 0))) (al 2))) (.ret (.tup .nil) .done) .done (.bZ (.call 10 (bv (.ix (af 0) (al 0)) (.tup (aP (aq [110,111,116]))))) (.ret (.tup (aP (.ix (af 0) (al 1)))) .done) .done (.bZ (.and (.call 10 (bv (.ix (af 0) (al 0)) (.tup (bv (aq [97,110,100]) (aq [111,114]))))) (.call 12 (aP (.ix (af 0) (al 1))))) (.ret (.ix (af 0) (al 1)) .done) .done (.ret (.tup .nil) .done))))
noncomputable def f8:S:=(.ret (.or (.call 11 (aP (af 0))) (.cmp .Gt (.blt .len (aP (.call 13 (aP (af 0))))) (al 0))) .done)
noncomputable def dy:E:=(.more (.call 13 (aP (af 0))) (.nm 1) .nil (.emit (af 1)))
noncomputable def pz:E:=(.comp 2 [] (af 1) (.nm 0) .nil dy)
noncomputable def jW:E:=(.emit (.call 14 (aP (af 0))))
noncomputable def pA:E:=(.comp 1 [] (af 1) (.nm 0) .nil jW)
noncomputable def bo:S:=(.aug 2 .Add (.blt .len (aP (af 1))) (.bZ (.or (.cmp .Gt (af 2) (.gl 7)) (.not (.blt .all (aP pA)))) (.ret (Al false) .done) .done (.asg 1 pz .done)))
noncomputable def iy:S:=(.asg 1 (.lst (aP (af 0))) (.asg 2 (al 0) (.vZ (.nm 3) (.blt .dY (aP (.gl 6))) bo (.ret (.cmp .Eq (.blt .len (aP (af 1))) (al 0)) .done))))
noncomputable def dM:S:=(.ret (.and (.call 2 (aP (af 0))) (.vO .LtE .LtE (af 1) (af 0) (af 2))) .done)
noncomputable def fS:S:=(.bZ (.or (.not (.xz (af 0) .tuple)) (.cmp .NotEq (.blt .len (aP (af 0))) (al 7))) (.ret (Al false) .done) .done (.le [1,2,3,4,5,6,7] (af 0) (.bZ (.or (.not (.call 10 (bv (af 1) (.gl 10)))) (.or (.not (.call 9 (aP (af 2)))) (.not (.call 15 (aP (af 3)))))) (.ret (Al false) .done) .done (.bZ (.or (.not (.call 16 (qR (af 4) (al 1) (.gl 11)))) (.not (.call 16 (qR (af 5) (al 1) (af 4))))) (.ret (Al false) .done) .done (.ret (.and (.call 16 (qR (af 6) (al 0) (.gl 12))) (.call 4 (aP (af 7)))) .done)))))
noncomputable def ge:E:=(.emit (.cmp .In (af 0) (.gl 13)))
noncomputable def dn:E:=(.comp 1 [] (af 0) (.nm 0) .nil ge)
noncomputable def ck:S:=(.bZ (.or (.not (.vO .LtE .LtE (al 1) (.blt .len (aP (af 0))) (.gl 14))) (.not (.blt .all (aP dn)))) (.ret (Al false) .done) .done (.ret (.or (.cmp .Eq (af 0) (aq [48])) (.cmp .NotEq (.ix (af 0) (al 0)) (aq [48]))) .done))
noncomputable def iI:S:=(.bZ (.cmp .Lt (af 1) (.blt .len (aP (af 0)))) (.ret (.ix (af 0) (af 1)) .done) .done (.ret (aq []) .done))
noncomputable def eh:S:=(.asg 2 (.call 19 (bv (af 0) (af 1))) (.bZ (.not (.call 0 (aP (af 2)))) (.DY 107 ["at"] (aP (af 1)) .done) .done (.ret (af 2) .done)))
noncomputable def cP:S:=(.asg 2 (.call 19 (bv (af 0) (af 1))) (.bZ (.not (.call 18 (aP (af 2)))) (.DY 107 ["at"] (aP (af 1)) .done) .done (.ret (.blt .int (aP (af 2))) .done)))
noncomputable def fo:S:=(.asg 2 (.call 19 (bv (af 0) (af 1))) (.bZ (.cmp .Eq (af 2) (aq [97,110,121])) (.ret (.tup (bv (.tup (aP (af 2))) (.bin .Add (af 1) (al 1)))) .done) .done (.bZ (.cmp .In (af 2) (.tup (bv (aq [105,115]) (aq [98,121])))) (.ret (.tup (bv (.tup (bv (af 2) (.call 20 (bv (af 0) (.bin .Add (af 1) (al 1)))))) (.bin .Add (af 1) (al 2)))) .done) .done (.asg 3 (.call 20 (bv (af 0) (af 1))) (.asg 4 (.call 19 (bv (af 0) (.bin .Add (af 1) (al 1)))) (.bZ (.L8 16 true (af 4)) (.DY 107 ["at"] (aP (.bin .Add (af 1) (al 1))) .done) .done (.ret (.tup (bv (.tup (qR (.Ng 16 (af 4)) (af 3) (.call 21 (bv (af 0) (.bin .Add (af 1) (al 2)))))) (.bin .Add (af 1) (al 3)))) .done)))))))
noncomputable def gp:S:=(.asg 3 (.call 19 (bv (af 0) (af 1))) (.bZ (.cmp .NotIn (af 3) (.tup (bv (aq [110,111,116]) (aq [40])))) (.ret (.call 22 (bv (af 0) (af 1))) .done) .done (.bZ (.cmp .Eq (af 2) (.gl 15)) (.DY 107 ["at"] (aP (af 1)) .done) .done (.bZ (.cmp .Eq (af 3) (aq [110,111,116])) (.le [4,5] (.call 23 (qR (af 0) (.bin .Add (af 1) (al 1)) (.bin .Add (af 2) (al 1)))) (.ret (.tup (bv (.tup (bv (aq [110,111,116]) (af 4))) (af 5))) .done)) .done (.le [4,5] (.call 24 (nC (af 0) (.bin .Add (af 1) (al 1)) (.bin .Add (af 2) (al 1)) (.gl 17))) (.bZ (.cmp .NotEq (.call 19 (bv (af 0) (af 5))) (aq [41])) (.DY 107 ["at"] (aP (af 5)) .done) .done (.ret (.tup (bv (af 4) (.bin .Add (af 5) (al 1)))) .done)))))))
noncomputable def bu:S:=(.le [4,5] (.call 24 (nC (af 0) (.bin .Add (af 5) (al 1)) (af 2) (.EK (af 3) (al 1) .hole))) (.expr (.eA .append (af 6) (aP (af 4))) .done))
noncomputable def da:S:=(.bZ (.cmp .Eq (.blt .len (aP (af 3))) (al 0)) (.ret (.call 23 (qR (af 0) (af 1) (af 2))) .done) .done (.le [4,5] (.call 24 (nC (af 0) (af 1) (af 2) (.EK (af 3) (al 1) .hole))) (.asg 6 (.zv (aP (af 4))) (.Ml (.cmp .Eq (.call 19 (bv (af 0) (af 5))) (.ix (af 3) (al 0))) bu (.bZ (.cmp .Eq (.blt .len (aP (af 6))) (al 1)) (.ret (.tup (bv (af 4) (af 5))) .done) .done (.ret (.tup (bv (.tup (bv (.ix (af 3) (al 0)) (.blt .tuple (aP (af 6))))) (af 5))) .done))))))
noncomputable def cr:S:=(.bZ (.not (.xz (af 0) .str)) (.DY 107 ["at"] (aP (al 0)) .done) .done (.asg 1 (.eA .split (af 0) (aP (aq [32]))) (.le [2,3] (.call 24 (nC (af 1) (al 0) (al 0) (.gl 17))) (.bZ (.or (.cmp .Lt (af 3) (.blt .len (aP (af 1)))) (.not (.call 15 (aP (af 2))))) (.DY 107 ["at"] (aP (af 3)) .done) .done (.ret (af 2) .done)))))
noncomputable def gU:S:=(.bZ (.cmp .Eq (af 0) (.gl 18)) (.ret (.lst .nil) .done) .done (.ret (.eA .split (af 0) (aP (aq [44]))) .done))
noncomputable def gS:S:=(.bZ (.and (.call 18 (aP (af 0))) (.call 3 (aP (.blt .int (aP (af 0)))))) (.ret (.blt .int (aP (af 0))) .done) .done (.ret (.con .non) .done))
noncomputable def kT:S:=(.le [1,2,3] (.eA .partition (af 0) (aP (aq [61]))) (.ret (.tup (bv (af 1) (.call 27 (aP (af 3))))) .done))
noncomputable def xN:S:=(.ret (.con .non) .done)
noncomputable def ke:S:=(.ret (.call 25 (aP (af 0))) .done)
noncomputable def d9:S:=(.tri ke [107] Zy xN .done)
noncomputable def wY:E:=(.emit (.call 27 (aP (af 0))))
noncomputable def nN:E:=(.comp 1 [] (.EK (af 4) (al 5) .hole) (.nm 0) .nil wY)
noncomputable def xl:E:=(.emit (.call 28 (aP (af 0))))
noncomputable def nD:E:=(.comp 1 [] (.call 26 (aP (.ix (af 4) (al 4)))) (.nm 0) .nil xl)
noncomputable def gf:S:=(.le [1,2,3] (.eA .partition (af 0) (aP (aq [32,124,32]))) (.asg 4 (.eA .split (af 1) (aP (aq [32]))) (.bZ (.cmp .NotEq (.blt .len (aP (af 4))) (al 9)) (.ret (.con .non) .done) .done (.asg 5 (.blt .tuple (aP (.call 26 (aP (.ix (af 4) (al 3)))))) (.asg 6 (.blt .tuple (aP nD)) (.Gi [7,8,9,10] nN (.asg 11 (.tup (.cons (.ix (af 4) (al 0)) (.cons (.tup (nC (.ix (af 4) (al 1)) (.ix (af 4) (al 2)) (af 5) (af 6))) (.cons (.call 29 (aP (af 3))) (nC (af 7) (af 8) (af 9) (af 10)))))) (.bZ (.call 17 (aP (af 11))) (.ret (af 11) .done) .done (.ret (.con .non) .done)))))))))
noncomputable def i5:S:=(.bZ (.not (.xz (af 0) .str)) (.DY 107 ["at"] (aP (al 0)) .done) .done (.asg 1 (.call 30 (aP (af 0))) (.bZ (.cmp .Is (af 1) (.con .non)) (.DY 107 ["at"] (aP (al 0)) .done) .done (.ret (af 1) .done))))
noncomputable def mh:S:=(.bZ (.cmp .Lt (af 1) (.blt .len (aP (af 0)))) (.ret (.ix (af 0) (af 1)) .done) .done (.ret (al 0) .done))
noncomputable def m9:S:=(.asg 2 (.bin .Mod (.bin .Mult (.bin .Add (.bin .Add (af 0) (.bin .Mult (al 7919) (af 1))) (al 1)) (al 48271)) (al 2147483647)) (.ret (.bin .Mod (.bin .Mult (af 2) (.bin .Add (.bin .FloorDiv (af 2) (al 1009)) (al 69621))) (al 2147483647)) .done))
noncomputable def mU:S:=(.asg 2 (.bin .Mod (.bin .Mult (.bin .Add (.bin .Add (.call 33 (bv (af 0) (af 1))) (.bin .Mult (al 104729) (af 1))) (al 11)) (al 69621)) (al 2147483647)) (.ret (.bin .Mod (.bin .Mult (af 2) (.bin .Add (.bin .FloorDiv (af 2) (al 1013)) (al 48271))) (al 2147483647)) .done))
noncomputable def mI:S:=(.asg 2 (.call 32 (bv (af 0) (af 1))) (.ret (.zv (qR (.ix (.lst (bv (al 0) (af 2))) (.blt .int (aP (.cmp .GtE (af 2) (.bin .Pow (al 10) (al 18)))))) (al 0) (.bin .Add (af 2) (af 1)))) .done))
noncomputable def mE:S:=(.bZ (.cmp .Gt (.ix (af 0) (al 0)) (al 0)) (.asg 2 (.bin .Mod (.ix (af 0) (al 0)) (af 1)) (.set (af 0) (al 0) (.bin .FloorDiv (.ix (af 0) (al 0)) (af 1)) (.ret (af 2) .done))) .done (.set (af 0) (al 1) (.bin .Add (.ix (af 0) (al 1)) (al 1)) (.ret (.bin .Mod (.call 34 (bv (.ix (af 0) (al 2)) (.ix (af 0) (al 1)))) (af 1)) .done)))
noncomputable def iG:S:=(.expr (.eA .append (af 4) (aP (.eA .fe (af 3) (aP (.call 36 (bv (af 0) (.blt .len (aP (af 3))))))))) .done)
noncomputable def mY:S:=(.asg 3 (.yG (af 1)) (.asg 4 (.zv .nil) (.vZ (.nm 5) (.blt .dY (aP (.call 36 (bv (af 0) (.bin .Add (af 2) (al 1)))))) iG (.ret (.blt .tuple (aP (.blt .sorted (aP (af 4))))) .done))))
noncomputable def iu:S:=(.ret (.ix (.lst (qR (.call 36 (bv (af 0) (al 10))) (.call 36 (bv (af 0) (al 10))) (.bin .Sub (.bin .Pow (al 10) (al 9)) (.call 36 (bv (af 0) (al 2)))))) (.bin .Mod (.bin .FloorDiv (.call 36 (bv (af 0) (al 8))) (al 3)) (al 3))) .done)
noncomputable def Ev:E:=(.emit (.ix (af 1) (.call 36 (bv (af 2) (al 26)))))
noncomputable def oU:E:=(.comp 1 [1,0] (.blt .dY (aP (.bin .Add (al 1) (.call 36 (bv (af 0) (al 8)))))) (.nm 0) .nil Ev)
noncomputable def mj:S:=(.asg 1 (aq [97,98,99,100,101,102,103,104,105,106,107,108,109,110,111,112,113,114,115,116,117,118,119,120,121,122]) (.asg 2 (.eA .join (aq []) (aP oU)) (.bZ (.cmp .In (af 2) (.tup (.cons (aq [97,110,121]) (.cons (aq [105,115]) (nC (aq [98,121]) (aq [110,111,116]) (aq [97,110,100]) (aq [111,114])))))) (.ret (.bin .Add (af 2) (aq [113])) .done) .done (.ret (af 2) .done))))
noncomputable def eH:S:=(.bZ (.cmp .Eq (.call 36 (bv (af 0) (al 3))) (al 0)) (.ret (.call 39 (aP (af 0))) .done) .done (.ret (.ix (af 1) (.call 36 (bv (af 0) (.blt .len (aP (af 1)))))) .done))
noncomputable def oG:E:=(.emit (.tup (bv (af 0) (.call 38 (aP (af 1))))))
noncomputable def oX:E:=(.comp 1 [0] (.call 37 (qR (af 0) (.ix (af 3) (al 1)) (.blt .min2 (bv (al 6) (.blt .len (aP (.ix (af 3) (al 1)))))))) (.nm 0) .nil oG)
noncomputable def Dp:E:=(.emit (.call 39 (aP (af 1))))
noncomputable def uO:E:=(.comp 1 [1] (.blt .dY (aP (al 8))) (.nm 0) .nil Dp)
noncomputable def DZ:E:=(.emit (.blt .jm (aP (.bin .Add uO (.lst (aP (aq [109,110])))))))
noncomputable def oH:E:=(.comp 1 [0] (.blt .dY (aP (al 2))) (.nm 0) .nil DZ)
noncomputable def m6:S:=(.asg 1 (.call 40 (bv (af 0) (.lst (.cons (aq [97,110,110]) (nC (aq [98,111,98]) (aq [99,121]) (aq [122,122,122,122,122,122,122,122]) (aq [112,114,105,99,101])))))) (.asg 2 (.call 40 (bv (af 0) (.lst (qR (aq [98,114,101,97,100]) (aq [119,111,111,100]) (aq [105,115,108,101]))))) (.asg 3 (.lst (bv (.lst (.cons (aq [97]) (.cons (aq [102,114,101,115,104]) (nC (aq [111,108,100]) (aq [114,121,101]) (aq [97,110,110]) (aq [97,110,121,120]))))) (.lst (nC (aq [97]) (aq [112,114,105,99,101]) (aq [119,105,100,116,104]) (aq [111,108,100]))))) (.bZ (.cmp .Eq (.call 36 (bv (af 0) (al 2))) (al 0)) (.asg 3 oH .done) .done (.asg 4 (.call 37 (qR (af 0) (.ix (af 3) (al 0)) (.blt .min2 (bv (al 6) (.blt .len (aP (.ix (af 3) (al 0)))))))) (.asg 5 (.blt .tuple (aP oX)) (.ret (.tup (nC (af 1) (af 2) (af 4) (af 5))) .done)))))))
noncomputable def nW:S:=(.asg 1 (.call 36 (bv (af 0) (al 8))) (.bZ (.cmp .Lt (af 1) (al 2)) (.ret (.tup (aP (aq [97,110,121]))) .done) .done (.bZ (.cmp .Eq (af 1) (al 2)) (.ret (.tup (bv (aq [98,121]) (.call 40 (bv (af 0) (.lst (nC (aq [97,110,110]) (aq [98,111,98]) (aq [99,121]) (aq [122,122,122,122,122,122,122,122]))))))) .done) .done (.bZ (.cmp .Lt (af 1) (al 5)) (.ret (.tup (qR (.ix (.lst (bv (aq [108,101,97,115,116]) (aq [109,111,115,116]))) (.bin .Mod (af 1) (al 2))) (.call 40 (bv (af 0) (.lst (nC (aq [97]) (aq [112,114,105,99,101]) (aq [119,105,100,116,104]) (aq [111,108,100]))))) (.call 38 (aP (af 0))))) .done) .done (.ret (.tup (bv (aq [105,115]) (.call 40 (bv (af 0) (.lst (.cons (aq [97]) (.cons (aq [102,114,101,115,104]) (nC (aq [111,108,100]) (aq [114,121,101]) (aq [97,110,110]) (aq [119,111,111,100]))))))))) .done)))))
noncomputable def lb:E:=(.emit (.call 43 (qR (af 1) (.bin .Sub (af 3) (al 1)) (af 2))))
noncomputable def uF:E:=(.comp 1 [0,2,1] (.blt .dY (aP (af 4))) (.nm 0) .nil lb)
noncomputable def ja:S:=(.set (af 2) (al 0) (.bin .Sub (.ix (af 2) (al 0)) (al 1)) (.asg 3 (.call 36 (bv (af 0) (al 6))) (.bZ (.or (.cmp .Lt (af 1) (al 2)) (.or (.cmp .Lt (af 3) (al 2)) (.cmp .Lt (.ix (af 2) (al 0)) (al 3)))) (.ret (.call 42 (aP (af 0))) .done) .done (.bZ (.cmp .Eq (af 3) (al 2)) (.ret (.tup (bv (aq [110,111,116]) (.call 43 (qR (af 0) (.bin .Sub (af 1) (al 1)) (af 2))))) .done) .done (.asg 4 (.bin .Add (al 2) (.call 36 (bv (af 0) (.ix (.lst (bv (al 2) (al 5))) (.bin .FloorDiv (.call 36 (bv (af 0) (al 3))) (al 2)))))) (.ret (.tup (bv (.ix (.lst (bv (aq [97,110,100]) (aq [111,114]))) (.bin .Mod (af 3) (al 2))) (.blt .tuple (aP uF)))) .done))))))
noncomputable def cQ:S:=(.asg 1 (.ix (.lst (qR (.bin .Add (al 1) (.call 36 (bv (af 0) (al 9)))) (.bin .Add (al 1) (.call 36 (bv (af 0) (.bin .Pow (al 10) (al 6))))) (.bin .Pow (al 10) (al 6)))) (.call 36 (bv (af 0) (al 3)))) (.asg 2 (.ix (.lst (qR (al 1) (.bin .Add (al 1) (.call 36 (bv (af 0) (af 1)))) (af 1))) (.call 36 (bv (af 0) (al 3)))) (.asg 3 (.ix (.lst (qR (al 0) (al 1000) (.call 36 (bv (af 0) (al 1001))))) (.call 36 (bv (af 0) (al 3)))) (.asg 4 (.ix (.lst (nC (al 0) (.bin .Pow (al 10) (al 9)) (.call 36 (bv (af 0) (.bin .Add (.bin .Pow (al 10) (al 9)) (al 1)))) (.call 36 (bv (af 0) (al 30))))) (.call 36 (bv (af 0) (al 4)))) (.asg 5 (.call 41 (aP (af 0))) (.asg 6 (.call 43 (qR (af 0) (.bin .Add (al 1) (.call 36 (bv (af 0) (al 6)))) (.zv (aP (al 12))))) (.ret (.tup (.cons (.ix (.lst (qR (aq [103,105,118,101]) (aq [116,97,107,101]) (aq [98,101,97,114]))) (.call 36 (bv (af 0) (al 3)))) (.cons (af 5) (.cons (af 6) (nC (af 1) (af 2) (af 3) (af 4)))))) .done)))))))
noncomputable def ou:S:=(.asg 2 (.call 46 (aP (af 0))) (.bZ (.cmp .In (.ix (af 0) (al 0)) (af 1)) (.ret (.bin .Add (.bin .Add (aq [40,32]) (af 2)) (aq [32,41])) .done) .done (.ret (af 2) .done)))
noncomputable def rL:E:=(.emit (.call 45 (bv (af 0) (.tup (aP (aq [111,114]))))))
noncomputable def rA:E:=(.comp 1 [] (.ix (af 0) (al 1)) (.nm 0) .nil rL)
noncomputable def rO:E:=(.emit (.call 45 (bv (af 0) (.tup (bv (aq [97,110,100]) (aq [111,114]))))))
noncomputable def rm:E:=(.comp 1 [] (.ix (af 0) (al 1)) (.nm 0) .nil rO)
noncomputable def bL:S:=(.asg 1 (.ix (af 0) (al 0)) (.bZ (.cmp .In (af 1) (.tup (bv (aq [108,101,97,115,116]) (aq [109,111,115,116])))) (.ret (.bin .Add (.bin .Add (.ix (af 0) (al 1)) (.ix (.lst (bv (aq [32,60,61,32]) (aq [32,62,61,32]))) (.blt .int (aP (.cmp .Eq (af 1) (aq [108,101,97,115,116])))))) (.blt .str (aP (.ix (af 0) (al 2))))) .done) .done (.bZ (.cmp .Eq (af 1) (aq [110,111,116])) (.ret (.bin .Add (aq [110,111,116,32]) (.call 45 (bv (.ix (af 0) (al 1)) (.tup (bv (aq [97,110,100]) (aq [111,114])))))) .done) .done (.bZ (.cmp .Eq (af 1) (aq [97,110,100])) (.ret (.eA .join (aq [32,97,110,100,32]) (aP rm)) .done) .done (.bZ (.cmp .Eq (af 1) (aq [111,114])) (.ret (.eA .join (aq [32,111,114,32]) (aP rA)) .done) .done (.ret (.eA .join (aq [32]) (aP (af 0))) .done))))))
noncomputable def iX:S:=(.ret (.ix (.lst (bv (.eA .join (aq [44]) (aP (af 0))) (aq [45]))) (.blt .int (aP (.cmp .Eq (af 0) (.lst .nil))))) .done)
noncomputable def fb:E:=(.emit (.blt .str (aP (af 0))))
noncomputable def jA:E:=(.comp 1 [] (.lst (nC (af 4) (af 5) (af 6) (af 7))) (.nm 0) .nil fb)
noncomputable def fc:E:=(.emit (.bin .Add (.bin .Add (af 0) (aq [61])) (.blt .str (aP (af 1)))))
noncomputable def jD:E:=(.comp 2 [] (.ix (af 2) (al 3)) (.tp [0,1]) .nil fc)
noncomputable def c9:S:=(.le [1,2,3,4,5,6,7] (af 0) (.asg 8 (.zv (nC (af 1) (.ix (af 2) (al 0)) (.ix (af 2) (al 1)) (.call 47 (aP (.blt .list (aP (.ix (af 2) (al 2)))))))) (.expr (.eA .append (af 8) (aP (.call 47 (aP jD)))) (.asg 8 (.MU (af 8) jA) (.ret (.bin .Add (.bin .Add (.eA .join (aq [32]) (aP (af 8))) (aq [32,124,32])) (.call 46 (aP (af 3)))) .done)))))
noncomputable def iU:S:=(.asg 2 (.lst (.cons (aq []) (.cons (aq [45]) (.cons (aq [103,105,118,101]) (.cons (aq [116,97,107,101]) (.cons (aq [98,101,97,114]) (.cons (aq [71,105,118,101]) (.cons (aq [97,110,110]) (.cons (aq [105,115]) (.cons (aq [97,110,121]) (nC (aq [110,105,110,101,115,105,103,110,115]) (aq [101,105,103,104,116,115,105,103]) (aq [97,44,98]) (aq [98,44,97])))))))))))) (.asg 2 (.bin .Add (af 2) (.lst (.cons (aq [97,44,97]) (.cons (aq [97,44]) (.cons (aq [44,97]) (.cons (aq [97,61,49]) (.cons (aq [97,61,49,44,98,61,50]) (.cons (aq [98,61,50,44,97,61,49]) (nC (aq [97,61,49,44,97,61,50]) (aq [97,61]) (aq [61,49]) (aq [97,61,48,49])))))))))) (.asg 2 (.bin .Add (af 2) (.lst (bv (aq [97,61,49,48,48,48,48,48,48,48,48,48]) (aq [97,61,49,48,48,48,48,48,48,48,48,49])))) (.asg 2 (.bin .Add (af 2) (.lst (.cons (aq [97,61,45,49]) (.cons (aq [48]) (.cons (aq [49]) (.cons (aq [48,48]) (.cons (aq [48,49]) (.cons (aq [55]) (.cons (aq [49,48,48,48]) (.cons (aq [49,48,48,49]) (nC (aq [49,48,48,48,48,48,48]) (aq [49,48,48,48,48,48,49]) (aq [49,48,48,48,48,48,48,48,48,48]) (aq [49,48,48,48,48,48,48,48,48,49])))))))))))) (.asg 2 (.bin .Add (af 2) (.lst (.cons (aq [57,57,57,57,57,57,57,57,57,57,57]) (.cons (aq [45,49]) (.cons (aq [43,49]) (.cons (aq [49,46,48]) (.cons (aq [124]) (.cons (aq [124,124]) (nC (aq [97,61,98]) (aq [97,44,98,44,99,44,100,44,101,44,102]) (aq [97,44,98,44,99,44,100,44,101,44,102,44,103]) (aq [97,110,100])))))))))) (.asg 2 (.bin .Add (af 2) (.lst (bv (aq [114,121,101]) (aq [40])))) (.asg 3 (.yG (.eA .split (af 1) (aP (aq [32])))) (.asg 4 (.call 36 (bv (af 0) (.ix (.lst (qR (.blt .min2 (bv (.blt .len (aP (af 3))) (al 11))) (.blt .min2 (bv (.blt .len (aP (af 3))) (al 11))) (.blt .len (aP (af 3))))) (.call 36 (bv (af 0) (al 3)))))) (.asg 5 (.call 36 (bv (af 0) (al 6))) (.bZ (.cmp .Lt (af 5) (al 2)) (.set (af 3) (af 4) (.ix (af 2) (.call 36 (bv (af 0) (.blt .len (aP (af 2)))))) .done) .done (.bZ (.cmp .Eq (af 5) (al 2)) (.expr (.eA .fe (af 3) (aP (af 4))) .done) .done (.bZ (.cmp .Eq (af 5) (al 3)) (.expr (.eA .insert (af 3) (bv (af 4) (.ix (af 3) (af 4)))) .done) .done (.bZ (.cmp .Eq (af 5) (al 4)) (.expr (.eA .insert (af 3) (bv (af 4) (.ix (af 2) (.call 36 (bv (af 0) (.blt .len (aP (af 2)))))))) .done) .done (.bZ (.cmp .Eq (af 5) (al 5)) (.asg 6 (.call 36 (bv (af 0) (.bin .Add (.blt .len (aP (af 1))) (al 1)))) (.asg 7 (.ix (.lst (.cons (aq [32]) (.cons (aq [44]) (.cons (aq [61]) (.cons (aq [10]) (nC (aq [48]) (aq [65]) (aq [97]) (aq []))))))) (.call 36 (bv (af 0) (al 8)))) (.ret (.bin .Add (.bin .Add (.EK (af 1) .hole (af 6)) (af 7)) (.EK (af 1) (.bin .Add (af 6) (.blt .int (aP (.cmp .Eq (af 7) (aq []))))) .hole)) .done))) .done (.ret (.eA .join (aq [32]) (aP (af 3))) .done)))))))))))))))
noncomputable def rc:E:=(.emit (af 0))
noncomputable def j7:E:=(.comp 1 [] (af 0) (.nm 0) (aP (.not (.vO .LtE .LtE (aq [48]) (af 0) (aq [57])))) rc)
noncomputable def fC:S:=(.bZ (.or (.cmp .Eq (af 0) (aq [])) (.or (.cmp .Gt (.blt .len (aP (af 0))) (al 10)) (.cmp .NotEq j7 (.lst .nil)))) (.ret (.con .non) .done) .done (.bZ (.or (.and (.cmp .Eq (.ix (af 0) (al 0)) (aq [48])) (.cmp .NotEq (af 0) (aq [48]))) (.cmp .Gt (.blt .int (aP (af 0))) (.bin .Pow (al 10) (al 9)))) (.ret (.con .non) .done) .done (.ret (.blt .int (aP (af 0))) .done)))
noncomputable def Er:E:=(.emit (af 0))
noncomputable def tV:E:=(.comp 1 [] (af 0) (.nm 0) (aP (.not (.vO .LtE .LtE (aq [97]) (af 0) (aq [122])))) Er)
noncomputable def qz:S:=(.bZ (.or (.not (.vO .LtE .LtE (al 1) (.blt .len (aP (af 0))) (al 8))) (.cmp .In (af 0) (.lst (.cons (aq [97,110,121]) (.cons (aq [105,115]) (nC (aq [98,121]) (aq [110,111,116]) (aq [97,110,100]) (aq [111,114]))))))) (.ret (.con .non) .done) .done (.bZ (.cmp .NotEq tV (.lst .nil)) (.ret (.con .non) .done) .done (.ret (af 0) .done)))
noncomputable def nY:S:=(.ret (.and (.cmp .NotIn (.con .non) (af 0)) (.and (.cmp .LtE (.blt .len (aP (af 0))) (al 6)) (.cmp .Eq (af 0) (.blt .jm (aP (af 0)))))) .done)
noncomputable def DN:S:=(.ret (.con .non) .done)
noncomputable def oW:S:=(.asg 13 (.call 25 (aP (.eA .join (aq [32]) (aP (.EK (af 1) (al 10) .hole))))) .done)
noncomputable def uT:E:=(.emit (af 1))
noncomputable def uf:E:=(.comp 2 [] (af 3) (.tp [0,1]) .nil uT)
noncomputable def tU:E:=(.emit (af 0))
noncomputable def ui:E:=(.comp 2 [] (af 3) (.tp [0,1]) .nil tU)
noncomputable def uo:E:=(.emit (.call 50 (aP (af 0))))
noncomputable def uQ:E:=(.comp 1 [] (.EK (af 1) (al 5) (al 9)) (.nm 0) .nil uo)
noncomputable def fQ:S:=(.le [5,6,7] (.eA .partition (af 4) (aP (aq [61]))) (.expr (.eA .append (af 3) (aP (.tup (bv (.call 51 (aP (af 5))) (.call 50 (aP (af 7))))))) .done))
noncomputable def u0:E:=(.emit (.call 51 (aP (af 0))))
noncomputable def uz:E:=(.comp 1 [] (.eA .split (.ix (af 1) (al 3)) (aP (aq [44]))) (.nm 0) .nil u0)
noncomputable def ky:S:=(.asg 1 (.eA .split (af 0) (aP (aq [32]))) (.bZ (.or (.cmp .Lt (.blt .len (aP (af 1))) (al 11)) (.or (.cmp .NotEq (.ix (af 1) (al 9)) (aq [124])) (.cmp .NotIn (.ix (af 1) (al 0)) (.lst (qR (aq [103,105,118,101]) (aq [116,97,107,101]) (aq [98,101,97,114])))))) (.ret (.con .non) .done) .done (.asg 2 (.lst .nil) (.asg 3 (.zv .nil) (.bZ (.cmp .NotEq (.ix (af 1) (al 3)) (aq [45])) (.asg 2 uz .done) .done (.bZ (.cmp .NotEq (.ix (af 1) (al 4)) (aq [45])) (.vZ (.nm 4) (.eA .split (.ix (af 1) (al 4)) (aP (aq [44]))) fQ .done) .done (.asg 8 uQ (.bZ (.or (.cmp .In (.con .non) (.lst (bv (.call 51 (aP (.ix (af 1) (al 1)))) (.call 51 (aP (.ix (af 1) (al 2))))))) (.not (.call 52 (aP (af 2))))) (.ret (.con .non) .done) .done (.bZ (.or (.not (.call 52 (aP ui))) (.cmp .In (.con .non) (.bin .Add uf (af 8)))) (.ret (.con .non) .done) .done (.Gi [9,10,11,12] (af 8) (.bZ (.or (.not (.vO .LtE .LtE (al 1) (af 9) (.bin .Pow (al 10) (al 6)))) (.or (.not (.vO .LtE .LtE (al 1) (af 10) (af 9))) (.cmp .Gt (af 11) (al 1000)))) (.ret (.con .non) .done) .done (.tri oW [107] Zy DN (.ret (.tup (.cons (.ix (af 1) (al 0)) (.cons (.tup (nC (.ix (af 1) (al 1)) (.ix (af 1) (al 2)) (.blt .tuple (aP (af 2))) (.blt .tuple (aP (af 3))))) (.cons (af 13) (nC (af 9) (af 10) (af 11) (af 12)))))) .done)))))))))))))
noncomputable def oY:S:=(.asg 3 (.lst (nC (.pW (af 2) [] [107]) (.pW (af 2) [] [107]) (.pW (af 2) [] [107]) (.pW (af 2) [] [107]))) (.asg 3 (.bin .Add (af 3) (.lst (nC (.pW (af 2) [] [107]) (.pW (af 2) [] [107]) (.pW (af 2) [] [107]) (.pW (af 2) [] [107])))) (.asg 3 (.bin .Add (af 3) (.lst (qR (.pW (af 2) [] [107]) (.pW (af 2) [] [107]) (.pW (af 2) [] [107])))) (.bZ (.and (.pW (af 2) [107] []) (.and (.pW (af 2) [107] []) (.and (.cmp .NotIn (Al true) (af 3)) (.cmp .Eq (.OI (af 2) [107] "at") (al 0))))) (.asg 1 (.tup (bv (aq [114,101,102,117,115,101,100]) (.con .non))) .done) .done .done))))
noncomputable def DM:S:=(.asg 1 (.tup (bv (aq [116,111,108,100]) (.call 31 (aP (af 0))))) .done)
noncomputable def nu:S:=(.asg 1 (.tup (bv (aq [111,116,104,101,114]) (.con .non))) (.tri DM [107] (Zz 2) oY (.ret (af 1) .done)))
noncomputable def CK:S:=(.asg 3 (.call 49 (bv (af 2) (af 3))) .done)
noncomputable def wm:S:=(.asg 2 (.call 35 (bv (af 0) (af 1))) (.asg 3 (.call 48 (aP (.call 44 (aP (af 2))))) (.vZ (.nm 4) (.blt .dY (aP (.call 36 (bv (af 2) (al 4))))) CK (.asg 5 (.call 53 (aP (af 3))) (.bZ (.cmp .NotEq (.call 54 (aP (af 3))) (.tup (bv (.ix (.lst (bv (aq [116,111,108,100]) (aq [114,101,102,117,115,101,100]))) (.blt .int (aP (.cmp .Is (af 5) (.con .non))))) (af 5)))) (.ret (Al false) .done) .done (.bZ (.cmp .NotEq (.call 54 (aP (.ix (.lst (.cons (.con .non) (.cons (al 7) (nC (.lst (aP (aq [103,105,118,101]))) (.eA .split (af 3) (aP (aq [32]))) (Al true) (aq []))))) (.call 36 (bv (af 2) (al 6)))))) (.tup (bv (aq [114,101,102,117,115,101,100]) (.con .non)))) (.ret (Al false) .done) .done .done))))))
noncomputable def ub:S:=(.vZ (.nm 1) (.blt .dY (aP (al 8))) wm (.ret (Al true) .done))
noncomputable def fns:List Fn:=[⟨1,1,cU,false⟩,⟨1,1,d6,false⟩,⟨1,1,i7,false⟩,⟨1,1,eQ,false⟩,⟨1,1,kH,false⟩,⟨1,1,qI,false⟩,⟨1,1,eM,false⟩,⟨1,1,iM,false⟩,⟨1,1,eD,false⟩,⟨1,1,iS,false⟩,⟨2,2,gR,false⟩,⟨1,1,cF,false⟩,⟨1,1,dD,false⟩,⟨1,1,eS,false⟩,⟨1,1,f8,false⟩,⟨1,4,iy,false⟩,⟨3,3,dM,false⟩,⟨1,8,fS,false⟩,⟨1,1,ck,false⟩,⟨2,2,iI,false⟩,⟨2,3,eh,false⟩,⟨2,3,cP,false⟩,⟨2,5,fo,false⟩,⟨3,6,gp,false⟩,⟨4,7,da,false⟩,⟨1,4,cr,false⟩,⟨1,1,gU,false⟩,⟨1,1,gS,false⟩,⟨1,4,kT,false⟩,⟨1,1,d9,false⟩,⟨1,12,gf,false⟩,⟨1,2,i5,false⟩,⟨2,2,mh,false⟩,⟨2,3,m9,false⟩,⟨2,3,mU,false⟩,⟨2,3,mI,true⟩,⟨2,3,mE,false⟩,⟨3,6,mY,false⟩,⟨1,1,iu,false⟩,⟨1,3,mj,false⟩,⟨2,2,eH,false⟩,⟨1,6,m6,false⟩,⟨1,2,nW,false⟩,⟨3,5,ja,false⟩,⟨1,7,cQ,false⟩,⟨2,3,ou,false⟩,⟨1,2,bL,false⟩,⟨1,1,iX,false⟩,⟨1,9,c9,false⟩,⟨2,8,iU,false⟩,⟨1,1,fC,false⟩,⟨1,1,qz,false⟩,⟨1,1,nY,false⟩,⟨1,14,ky,false⟩,⟨1,4,nu,false⟩,⟨1,6,ub,false⟩]
noncomputable def gv:List T:=[(.str [97,98,99,100,101,102,103,104,105,106,107,108,109,110,111,112,113,114,115,116,117,118,119,120,121,122]),(.int 8),(.tup [(.str [97,110,121]),(.str [105,115]),(.str [98,121]),(.str [110,111,116]),(.str [97,110,100]),(.str [111,114])]),(.int 1000000000),(.int 6),(.int 6),(.int 6),(.int 40),(.int 2),(.int 6),(.tup [(.str [103,105,118,101]),(.str [116,97,107,101]),(.str [98,101,97,114])]),(.int 1000000),(.int 1000),(.str [48,49,50,51,52,53,54,55,56,57]),(.int 10),(.int 12),(.dct (Ww (λk=>.inr ⟨k.toArray⟩) [[62,61],[60,61]]) [(.str [108,101,97,115,116]),(.str [109,111,115,116])]),(.tup [(.str [111,114]),(.str [97,110,100])]),(.str [45])]
noncomputable abbrev cf:=fU fns gv
abbrev CF(k:Nat)(b:S)(p q:Nat)(c:Bool):Prop:=∀(n:Nat) (ws:List W) (m:Mem),cf (n+1) k ws m=if ws.length=p then(ex (cf n) gv b (ws.map Zz++R4 (q-p) Zy) m).bind λfl m'=>fin m.length c fl m' else .stuck
theorem pP:CF 0 cU 1 1 false:=λ_ _ _=>rfl
theorem rS:CF 1 d6 1 1 false:=λ_ _ _=>rfl
theorem yu:CF 2 i7 1 1 false:=λ_ _ _=>rfl
theorem wF:CF 3 eQ 1 1 false:=λ_ _ _=>rfl
theorem zQ:CF 4 kH 1 1 false:=λ_ _ _=>rfl
theorem Jb:CF 5 qI 1 1 false:=λ_ _ _=>rfl
theorem wM:CF 6 eM 1 1 false:=λ_ _ _=>rfl
theorem Ba:CF 7 iM 1 1 false:=λ_ _ _=>rfl
theorem wK:CF 8 eD 1 1 false:=λ_ _ _=>rfl
theorem AA:CF 9 iS 1 1 false:=λ_ _ _=>rfl
theorem xm:CF 10 gR 2 2 false:=λ_ _ _=>rfl
theorem oy:CF 11 cF 1 1 false:=λ_ _ _=>rfl
theorem tO:CF 12 dD 1 1 false:=λ_ _ _=>rfl
theorem vw:CF 13 eS 1 1 false:=λ_ _ _=>rfl
theorem xC:CF 14 f8 1 1 false:=λ_ _ _=>rfl
theorem BN:CF 15 iy 1 4 false:=λ_ _ _=>rfl
theorem sV:CF 16 dM 3 3 false:=λ_ _ _=>rfl
theorem xU:CF 17 fS 1 8 false:=λ_ _ _=>rfl
theorem nG:CF 18 ck 1 1 false:=λ_ _ _=>rfl
theorem BE:CF 19 iI 2 2 false:=λ_ _ _=>rfl
theorem rF:CF 20 eh 2 3 false:=λ_ _ _=>rfl
theorem nz:CF 21 cP 2 3 false:=λ_ _ _=>rfl
theorem tm:CF 22 fo 2 5 false:=λ_ _ _=>rfl
theorem pB:CF 23 gp 3 6 false:=λ_ _ _=>rfl
theorem kb:CF 24 da 4 7 false:=λ_ _ _=>rfl
theorem mX:CF 25 cr 1 4 false:=λ_ _ _=>rfl
theorem wp:CF 26 gU 1 1 false:=λ_ _ _=>rfl
theorem vW:CF 27 gS 1 1 false:=λ_ _ _=>rfl
theorem Ag:CF 28 kT 1 4 false:=λ_ _ _=>rfl
theorem rT:CF 29 d9 1 1 false:=λ_ _ _=>rfl
theorem pK:CF 30 gf 1 12 false:=λ_ _ _=>rfl
theorem ib:CF 31 i5 1 2 false:=λ_ _ _=>rfl
theorem Fd:CF 32 mh 2 2 false:=λ_ _ _=>rfl
theorem De:CF 33 m9 2 3 false:=λ_ _ _=>rfl
theorem D6:CF 34 mU 2 3 false:=λ_ _ _=>rfl
theorem Gd:CF 35 mI 2 3 true:=λ_ _ _=>rfl
theorem GV:CF 36 mE 2 3 false:=λ_ _ _=>rfl
theorem G1:CF 37 mY 3 6 false:=λ_ _ _=>rfl
theorem BL:CF 38 iu 1 1 false:=λ_ _ _=>rfl
theorem Fa:CF 39 mj 1 3 false:=λ_ _ _=>rfl
theorem wb:CF 40 eH 2 2 false:=λ_ _ _=>rfl
theorem GE:CF 41 m6 1 6 false:=λ_ _ _=>rfl
theorem Hy:CF 42 nW 1 2 false:=λ_ _ _=>rfl
theorem xO:CF 43 ja 3 5 false:=λ_ _ _=>rfl
theorem pX:CF 44 cQ 1 7 false:=λ_ _ _=>rfl
theorem rg:CF 45 ou 2 3 false:=λ_ _ _=>rfl
theorem cG:CF 46 bL 1 2 false:=λ_ _ _=>rfl
theorem zA:CF 47 iX 1 1 false:=λ_ _ _=>rfl
theorem r9:CF 48 c9 1 9 false:=λ_ _ _=>rfl
theorem A4:CF 49 iU 2 8 false:=λ_ _ _=>rfl
theorem sW:CF 50 fC 1 1 false:=λ_ _ _=>rfl
theorem GJ:CF 51 qz 1 1 false:=λ_ _ _=>rfl
theorem Bo:CF 52 nY 1 1 false:=λ_ _ _=>rfl
theorem xQ:CF 53 ky 1 14 false:=λ_ _ _=>rfl
theorem yZ:CF 54 nu 1 4 false:=λ_ _ _=>rfl
theorem LW:CF 55 ub 1 6 false:=λ_ _ _=>rfl
theorem BB:gv[0]?=Zz (.str [97,98,99,100,101,102,103,104,105,106,107,108,109,110,111,112,113,114,115,116,117,118,119,120,121,122]):=rfl
theorem jz:gv[1]?=Zz (.int 8):=rfl
theorem lw:gv[2]?=Zz (.tup [(.str [97,110,121]),(.str [105,115]),(.str [98,121]),(.str [110,111,116]),(.str [97,110,100]),(.str [111,114])]):=rfl
theorem lI:gv[3]?=Zz (.int 1000000000):=rfl
theorem lx:gv[4]?=Zz (.int 6):=rfl
theorem lH:gv[5]?=Zz (.int 6):=rfl
theorem A1:gv[6]?=Zz (.int 6):=rfl
theorem hW:gv[7]?=Zz (.int 40):=rfl
theorem iD:gv[8]?=Zz (.int 2):=rfl
theorem j8:gv[9]?=Zz (.int 6):=rfl
theorem ET:gv[10]?=Zz (.tup [(.str [103,105,118,101]),(.str [116,97,107,101]),(.str [98,101,97,114])]):=rfl
theorem oO:gv[11]?=Zz (.int 1000000):=rfl
theorem lR:gv[12]?=Zz (.int 1000):=rfl
theorem Bj:gv[13]?=Zz (.str [48,49,50,51,52,53,54,55,56,57]):=rfl
theorem pS:gv[14]?=Zz (.int 10):=rfl
theorem jT:gv[15]?=Zz (.int 12):=rfl
theorem re:gv[16]?=Zz (.dct (Ww (λk=>.inr ⟨k.toArray⟩) [[62,61],[60,61]]) [(.str [108,101,97,115,116]),(.str [109,111,115,116])]):=rfl
theorem mV:gv[17]?=Zz (.tup [(.str [111,114]),(.str [97,110,100])]):=rfl
theorem wP:gv[18]?=Zz (.str [45]):=rfl
end My
end
section
set_option maxRecDepth 20000
namespace My
open Mi
def bE(s:List T):Prop:=∃a b c:Int,s=[.int a,.int b,.int c]
noncomputable def put(m:Mem)(i:Nat)(s:List T):Mem:=m.set i (Zz (false,s))
theorem AJ{m:Mem}{i:Nat}{s:List T}(h:i<m.length):(put m i s)[i]?=Zz (Zz (false,s)):=RS h
theorem aF{m:Mem}{i:Nat}{s:List T}:(put m i s).length=m.length:=S8
theorem BW{m:Mem}{i:Nat}{s s':List T}:(put m i s).set i (Zz (false,s'))=put m i s':=Wx _
theorem Jk{i j:Int}(h:0<=i)(h':i<4294967296):fV i j=true:=by
 have:i.natAbs<2^64:=by omega
 simp[fV,small,this]
theorem Nd{i j:Int}(h:0<=j)(h':j<4294967296):fV i j=true:=by
 have:j.natAbs<2^64:=by omega
 simp[fV,small,this]
section
variable{call:Nat->List W->Mem->Res W}{gv:List T}{env:Env}{m m1 m2 m3:Mem}{a b c e o v i:E}{x y z r:T}{w w1 w2:W}{f:Nat}{bb:B}{k:Bool}
theorem aB{op:PySem.Operator}(e:ev call gv a env m=.ok (.t x) m1)(d:ev call gv b env m1=.ok (.t y) m2)(c:iq op x y=Zz r):ev call gv (.bin op a b) env m=.ok (.t r) m2:=by
 rw[ev,e,ag,d,ag];show cW (iq op x y) m2=_;rw[c];rfl
theorem ar{op:X5}(e:ev call gv a env m=.ok (.t x) m1)(d:ev call gv b env m1=.ok (.t y) m2)(c:bn op x y=Zz k):ev call gv (.cmp op a b) env m=.ok (.t (.bl k)) m2:=by
 rw[ev,e,ag,d,ag];show cW ((bn op x y).map .bl) m2=_;rw[c];rfl
theorem ae(t:T):ev call gv (.con t) env m=.ok (.t t) m:=by rw[ev]
theorem aa{i:Nat}{w:W}(h:env[i]?=Zz (Zz w)):ev call gv (.var i) env m=.ok w m:=by rw[ev,h]
theorem jK{c j:Nat}{k:Int}{xs:List T}(h:env[c]?=Zz (Zz (.c j)))(b:m[j]?=Zz (Zz (false,xs)))(a:atT xs k=Zz r):ev call gv (.ix (.var c) (.con (.int k))) env m=.ok (.t r) m:=by
 rw[ev,aa h,ag,ae,ag];simp only[view,b,Rw,uN,a];rfl
theorem bi(e:ev call gv a env m=.ok (.t x) m1)(d:ev call gv b env m1=.ok (.t y) m2)(c:uN x y=Zz r):ev call gv (.ix a b) env m=.ok (.t r) m2:=by
 rw[ev,e,ag,d,ag];show cW (uN x y) m2=_;rw[c];rfl
theorem aC(h:ev call gv e env m=.ok (.t x) m1)(a:b8 bb [x]=Zz r):ev call gv (.blt bb (.cons e .nil)) env m=.ok (.t r) m1:=by
 rw[ev,evs,h];show cW (b8 bb [x]) m1=_;rw[a];rfl
theorem ax(h:ev call gv e env m=.ok w m1):ev call gv (.call f (.cons e .nil)) env m=call f [w] m1:=by
 rw[ev,evs,h];rfl
theorem am(d:ev call gv a env m=.ok w m1)(c:ev call gv b env m1=.ok w1 m2):ev call gv (.call f (.cons a (.cons b .nil))) env m=call f [w,w1] m2:=by
 simp only[ev,evs,d,c,ag]
theorem eP(g:ev call gv a env m=.ok w m1)(e:ev call gv b env m1=.ok w1 m2)(d:ev call gv c env m2=.ok w2 m3):ev call gv (.call f (.cons a (.cons b (.cons c .nil)))) env m=call f [w,w1,w2] m3:=by
 simp only[ev,evs,g,e,d,ag]
theorem wR(b:ev call gv a env m=.ok (.t x) m1):ev call gv (.tup (.cons a .nil)) env m=.ok (.t (.tup [x])) m1:=by
 simp only[ev,evs,b,ag,dm,cN];exact Xf (by simp[lim])
theorem aV(d:ev call gv a env m=.ok (.t x) m1)(c:ev call gv b env m1=.ok (.t y) m2):ev call gv (.tup (.cons a (.cons b .nil))) env m=.ok (.t (.tup [x,y])) m2:=by
 simp only[ev,evs,d,c,ag,dm,cN];exact Xf (by simp[lim])
theorem wJ(f:ev call gv a env m=.ok (.t x) m1)(e:ev call gv b env m1=.ok (.t y) m2)(d:ev call gv c env m2=.ok (.t z) m3):ev call gv (.tup (.cons a (.cons b (.cons c .nil)))) env m=.ok (.t (.tup [x,y,z])) m3:=by
 simp only[ev,evs,f,e,d,ag,dm,cN];exact Xf (by simp[lim])
theorem dF(d:ev call gv a env m=.ok (.t x) m1)(c:ev call gv b env m1=.ok (.t y) m2):ev call gv (.lst (.cons a (.cons b .nil))) env m=.ok (.t (.lst [x,y])) m2:=by
 simp only[ev,evs,d,c,ag,dm,cN];exact Xf (by simp[lim])
theorem fz(h:ev call gv a env m=.ok (.t (.bl true)) m1):ev call gv (.and a b) env m=ev call gv b env m1:=by rw[ev,h];rfl
theorem mW(h:ev call gv a env m=.ok (.t (.bl false)) m1):ev call gv (.and a b) env m=.ok (.t (.bl false)) m1:=by rw[ev,h];rfl
theorem bf(h:ev call gv a env m=.ok (.t (.bl k)) m1):ev call gv (.not a) env m=.ok (.t (.bl (!k))) m1:=by rw[ev,h];rfl
theorem cH(h:ev call gv a env m=.ok (.t (.bl true)) m1):ev call gv (.or a b) env m=.ok (.t (.bl true)) m1:=by rw[ev,h];rfl
theorem aW(h:ev call gv a env m=.ok (.t (.bl false)) m1):ev call gv (.or a b) env m=ev call gv b env m1:=by rw[ev,h];rfl
theorem vq{ty:Ty}(h:ev call gv a env m=.ok (.t x) m1)(b:cJ x ty=k):ev call gv (.xz a ty) env m=.ok (.t (.bl k)) m1:=by rw[ev,h,<-b];rfl
end
section
variable{call:Nat->List W->Mem->Res W}{gv:List T}{env:Env}{m m1 m2 m3:Mem}{a lo hi:E}{es:Es}{x y z r:T}{w:W}{ws:List W}{ts:List T}{f:Nat}{bb:B}
theorem bg{ts:List T}(h:ts.length<=1000:=by exact Nat.le_of_ble_eq_true rfl):ts.length<=lim:=Re h (by decide)
theorem aU:evs call gv .nil env m=.ok [] m:=by rw[evs]
theorem ak(c:ev call gv a env m=.ok w m1)(b:evs call gv es env m1=.ok ws m2):evs call gv (.cons a es) env m=.ok (w::ws) m2:=by rw[evs,c,ag,b];rfl
theorem bw(h:evs call gv es env m=.ok ws m1)(b:bX ws m1=.ok ts m1)(a:ts.length<=lim):ev call gv (.lst es) env m=.ok (.t (.lst ts)) m1:=by rw[ev,h,ag,b,ag,Xf a]
theorem oM(h:evs call gv es env m=.ok ws m1)(b:bX ws m1=.ok ts m1)(a:ts.length<=lim):ev call gv (.tup es) env m=.ok (.t (.tup ts)) m1:=by rw[ev,h,ag,b,ag,Xf a]
theorem ji(h:evs call gv es env m=.ok ws m1):ev call gv (.call f es) env m=call f ws m1:=by rw[ev,h];rfl
theorem Ak(h:evs call gv es env m=.ok ws m1)(b:views ws m1=Zz ts)(a:b8 bb ts=Zz r):ev call gv (.blt bb es) env m=.ok (.t r) m1:=by
 rw[ev,h,ag,b];show cW (b8 bb ts) m1=_;rw[a];rfl
theorem jC{k:Nat}(h:gv[k]?=Zz x):ev call gv (.gl k) env m=.ok (.t x) m:=by rw[ev,h];rfl
theorem qo{k:Int}(e:ev call gv a env m=.ok (.t x) m1)(d:ev call gv lo env m1=.ok (.t (.int k)) m2)(c:EL x (Zz k) Zy=Zz r)(b:aA lo=false:=by rfl):ev call gv (.EK a lo .hole) env m=.ok (.t r) m2:=by
 rw[ev,e,ag,b,Xg RG,d];show cW (EL x (Zz k) Zy) m2=_;rw[c];rfl
end
section
variable{call:Nat->List W->Mem->Res W}{gv:List T}{env env':Env}{m m1 m2:Mem}{k a b:S}{e:E}{w:W}
theorem l0(h:ev call gv e env m=.ok (.t (.bl true)) m1)(c:ex call gv a env m1=.ok (.next env') m2):ex call gv (.bZ e a b k) env m=ex call gv k env' m2:=by
 rw[ex,h];show(ex call gv a env m1).bind _=_;rw[c];rfl
theorem kL(h:ev call gv e env m=.ok w m1):ex call gv (.expr e k) env m=ex call gv k env m1:=by rw[ex,h];rfl
end
section
variable{call:Nat->List W->Mem->Res W}{gv:List T}{env:Env}{m m1 m2:Mem}{a c inner:E}{x:T}{xs:List T}
theorem cA(h:ev call gv a env m=.ok (.t x) m1):ev call gv (.emit a) env m=.ok (.t (.lst [x])) m1:=by rw[ev,h];rfl
theorem E8(h:ev call gv c env m=.ok (.t (.bl true)) m1)(a:ev call gv inner env m1=.ok (.t (.lst xs)) m2):bA call gv (.cons c .nil) inner env m=.ok xs m2:=by
 unfold bA;rw[tests,h,ag,rP,ag,Xf rfl,tests,ag,Xf rfl,a];rfl
theorem MS(h:ev call gv c env m=.ok (.t (.bl false)) m1):bA call gv (.cons c .nil) inner env m=.ok [] m1:=by
 unfold bA;rw[tests,h,ag,rP,ag,Xg (by decide),ag,Xg (by decide)]
theorem iL(a:ev call gv inner env m=.ok (.t (.lst xs)) m2):bA call gv .nil inner env m=.ok xs m2:=by
 unfold bA;rw[tests,ag,Xf rfl,a];rfl
end
theorem at0{α:Type}(a:α)(r:List α):atT (a::r) 0=Zz a:=by simp[atT,iW]
theorem at1{α:Type}(a b:α)(r:List α):atT (a::b::r) 1=Zz b:=by
 have:(1:Int)<(r.length:Int)+1+1:=by omega
 simp[atT,iW,this]
theorem HP{α:Type}{xs:List α}{i:Int}(b:0<=i)(a:i<xs.length):atT xs i=xs[i.toNat]?:=by
 unfold atT iW;rw[Xf b,Xf a];rfl
theorem bD{α β:Type}(f:α->β)(xs:List α):xs.flatMap (λx=>[f x])=xs.map f:=by
 induction xs with
 |nil=>rfl
 |cons x xs c=>simp[c]
section
variable{m:Mem}
theorem PN{n f:Nat}{a b t:T}{body:S}{k:Nat}(hcf:∀ws:List W,cf (n+1) f ws m=if ws.length=2 then(ex (cf n) gv body (ws.map Zz++R4 (2+k-2) Zy) m).bind λfl m'=>fin m.length false fl m' else .stuck)(h:ex (cf n) gv body ([Zz (.t a),Zz (.t b)]++R4 k Zy) m=.ok (.ret (.t t)) m):cf (n+1) f [.t a,.t b] m=.ok (.t t) m:=by
 rw[hcf];rw[Xf (show[W.t a,W.t b].length=2 from rfl)];have:2+k-2=k:=by omega
 rw[this];show(ex (cf n) gv body ([Zz (.t a),Zz (.t b)]++R4 k Zy) m).bind _=_;rw[h];exact aD (cell:=false) rfl
end
theorem Gp{n:Nat}{m:Mem}{x k:Int}:∃y:Int,cf (n+1) 33 [.t (.int x),.t (.int k)] m=.ok (.t (.int y)) m:=by
 have e:fV 7919 k=true:=Jk (by decide) (by decide);have d:∀x,fV x 48271=true:=λx=>Nd (by decide) (by decide)
 have c:∀x y,fV (x%2147483647) y=true:=λx y=>Jk (VP _ (by decide)) (by have:=Ul x (b:=2147483647) (by decide);omega)
 refine⟨((x+7919*k+1)*48271%2147483647)*((x+7919*k+1)*48271%2147483647 / 1009+69621)%2147483647,?_⟩;refine PN (k:=1) (λa=>De _ a m) ?_;unfold m9;rw[au (aB (aB (aB (aB (aa rfl) (aB (ae _) (aa rfl) (uh e)) (dz _ _)) (ae _) (dz _ _)) (ae _) (uh (d _))) (ae _) (lE (by decide)))];exact aj (aB (aB (aa rfl) (aB (aB (aa rfl) (ae _) (zf (by decide))) (ae _) (dz _ _)) (uh (c _ _))) (ae _) (lE (by decide)))
theorem Gm{n:Nat}{m:Mem}{x k:Int}:∃y:Int,cf (n+2) 34 [.t (.int x),.t (.int k)] m=.ok (.t (.int y)) m:=by
 have f:fV 104729 k=true:=Jk (by decide) (by decide);have e:∀x,fV x 69621=true:=λx=>Nd (by decide) (by decide)
 have d:∀x y,fV (x%2147483647) y=true:=λx y=>Jk (VP _ (by decide)) (by have:=Ul x (b:=2147483647) (by decide);omega)
 obtain⟨z,c⟩:=Gp;refine⟨((z+104729*k+11)*69621%2147483647)*((z+104729*k+11)*69621%2147483647 / 1013+48271)%2147483647,?_⟩;refine PN (k:=1) (λa=>D6 _ a m) ?_;unfold mU;rw[au (aB (aB (aB (aB ((am (aa rfl) (aa rfl)).trans c) (aB (ae _) (aa rfl) (uh f)) (dz _ _)) (ae _) (dz _ _)) (ae _) (uh (e _))) (ae _) (lE (by decide)))];exact aj (aB (aB (aa rfl) (aB (aB (aa rfl) (ae _) (zf (by decide))) (ae _) (dz _ _)) (uh (d _ _))) (ae _) (lE (by decide)))
theorem aQ{n:Nat}{m:Mem}{i:Nat}{s:List T}{many:Int}(hi:i<m.length)(o:bE s)(f:0<many)(p:many<1073741824):
  ∃r d,cf (n+3) 36 [.c i,.t (.int many)] (put m i s)=.ok (.t (.int r)) (put m i d)/\bE d/\0<=r/\r<many:=by
 obtain⟨a,b,c,rfl⟩:=o;have j:∃r d,ex (cf (n+2)) gv mE [Zz (.c i),Zz (.t (.int many)),Zy] (put m i [.int a,.int b,.int c])=.ok (.ret (.t (.int r))) (put m i d)/\bE d/\0<=r/\r<many:=by
  have h:=AJ (s:=[.int a,.int b,.int c]) hi;unfold mE;have g:ev (cf (n+2)) gv (.cmp .Gt (.ix (.var 0) (.con (.int 0))) (.con (.int 0))) [Zz (.c i),Zz (.t (.int many)),Zy] (put m i [.int a,.int b,.int c])=.ok (.t (.bl (decide (0<a)))) (put m i [.int a,.int b,.int c]):=ar (jK rfl h rfl) (ae _) (GC _ _);by_cases ha:0<a
  ·rw[Xi ha]at g
   refine⟨a%many,[.int (a / many),.int b,.int c],az g ?_,⟨_,_,_,rfl⟩,VP _ (by omega),Ul _ f⟩;rw[au (aB (jK rfl h rfl) (aa rfl) (lE f))];rw[wX (aB (jK rfl h rfl) (aa rfl) (zf ⟨f,p⟩)) (aa rfl) (ae _) h rfl];rw[BW];exact aj (aa rfl)
  ·rw[Xh ha]at g
   rw[ay g];have k:=AJ (s:=[.int a,.int (b+1),.int c]) hi;obtain⟨z,l⟩:=Gm;refine⟨z%many,[.int a,.int (b+1),.int c],?_,⟨_,_,_,rfl⟩,VP _ (by omega),Ul _ f⟩;rw[wX (aB (jK rfl h rfl) (ae _) (dz _ _)) (aa rfl) (ae _) h rfl];rw[BW];exact aj (aB ((am (jK rfl k rfl) (jK rfl k rfl)).trans l) (aa rfl) (lE f))
 obtain⟨r,d,e,h⟩:=j;refine⟨r,d,?_,h⟩;rw[GV];simp only[RN,S2,R8,T3,if_true,R4,V8,T9,WJ];rw[e];exact aD (cell:=false) (by rw[aF,aF])
theorem Ji{n:Nat}{m:Mem}{a:List Int}{k:Int}(g:0<=k):∃v:Int,cf (n+1) 32 [.t (.dG a),.t (.int k)] m=.ok (.t (.int v)) m:=by
 have c:∃v:Int,ex (cf n) gv mh [Zz (.t (.dG a)),Zz (.t (.int k))] m=.ok (.ret (.t (.int v))) m:=by
  unfold mh;have b:ev (cf n) gv (.cmp .Lt (.var 1) (.blt .len (.cons (.var 0) .nil))) [Zz (.t (.dG a)),Zz (.t (.int k))] m=.ok (.t (.bl (decide (k<a.length)))) m:=ar (aa rfl) (aC (aa rfl) (KE a)) (ln _ _);by_cases h:k<a.length
  ·obtain⟨v,f,_⟩:=eu g h
   rw[Xi h]at b;exact⟨v,az b (aj (bi (aa rfl) (aa rfl) (by rw[Kt,f];rfl)))⟩
  ·rw[Xh h]at b
   exact⟨0,by rw[ay b];exact aj (ae _)⟩
 obtain⟨v,e⟩:=c;exact⟨v,PN (k:=0) (λd=>Fd _ d m) e⟩
theorem JG{n:Nat}{m:Mem}{a:List Int}{k:Int}(g:0<=k):∃s,cf (n+2) 35 [.t (.dG a),.t (.int k)] m=.ok (.c m.length) (put (m++[Zy]) m.length s)/\bE s:=by
 obtain⟨v,f⟩:=Ji g;have e:∀b:Bool,atT [T.int 0,.int v] (b2i b)=Zz (.int (if b then v else 0)):=λb=>by cases b<;>rfl
 refine⟨[.int (if decide (1000000000000000000<=v)then v else 0),.int 0,.int (v+k)],?_,⟨_,_,_,rfl⟩⟩;have d:ex (cf (n+1)) gv mI [Zz (.t (.dG a)),Zz (.t (.int k)),Zy] m=.ok (.ret (.c m.length)) (m++[Zz (false,[.int (if decide (1000000000000000000<=v)then v else 0),.int 0,.int (v+k)])]):=by
  unfold mI;rw[au ((am (aa rfl) (aa rfl)).trans f)];have i:ev (cf (n+1)) gv (.ix (.lst (.cons (.con (.int 0)) (.cons (.var 2) .nil))) (.blt .int (.cons (.cmp .GtE (.var 2) (.bin .Pow (.con (.int 10)) (.con (.int 18)))) .nil))) [Zz (.t (.dG a)),Zz (.t (.int k)),Zz (.t (.int v))] m=.ok (.t (.int (if decide (1000000000000000000<=v)then v else 0))) m:=
   bi (dF (ae _) (aa rfl)) (aC (ar (aa rfl) (aB (ae _) (ae _) (Os (by decide))) (Ov _ _)) (uY _)) (e _)
  have h:ev (cf (n+1)) gv (.bin .Add (.var 2) (.var 1)) [Zz (.t (.dG a)),Zz (.t (.int k)),Zz (.t (.int v))] m=.ok (.t (.int (v+k))) m:=aB (aa rfl) (aa rfl) (dz _ _);refine aj ?_;rw[ev];simp only[evs,i,h,ae,ag,RD,RE,dm,cN];exact Xf (by simp[lim])
 rw[Gd];simp only[RN,S2,R8,T3,if_true,R4,V8,T9,WJ];rw[d];simp[ag,fin,put]
theorem bI{m xs:Mem}{i:Nat}{s:List T}(hi:i<m.length):put (m++xs) i s=put m i s++xs:=by
 unfold put;rw[List.set_append_left _ _ hi]
section
variable{m:Mem}{i:Nat}{s L F L' F':List T}
theorem Ly(hi:i<m.length):(put (m++[Zz (false,L),Zz (false,F)]) i s)[m.length]?=Zz (Zz (false,L)):=by
 rw[bI hi,RZ (by rw[aF];exact R1 _),aF,Th];rfl
theorem MW(hi:i<m.length):(put (m++[Zz (false,L),Zz (false,F)]) i s)[m.length+1]?=Zz (Zz (false,F)):=by
 rw[bI hi,RZ (by rw[aF];omega),aF,Nat.add_sub_cancel_left];rfl
theorem OE(hi:i<m.length):(put (m++[Zz (false,L),Zz (false,F)]) i s).set m.length (Zz (false,L'))=put (m++[Zz (false,L'),Zz (false,F)]) i s:=by
 rw[bI hi,bI hi,UF _ _ (by rw[aF];exact R1 _),aF,Th];rfl
theorem Np(hi:i<m.length):(put (m++[Zz (false,L),Zz (false,F)]) i s).set (m.length+1) (Zz (false,F'))=put (m++[Zz (false,L),Zz (false,F')]) i s:=by
 rw[bI hi,bI hi,UF _ _ (by rw[aF];omega),aF,Nat.add_sub_cancel_left];rfl
theorem F1(hi:i<m.length):(put (m++[Zz (false,L),Zz (false,F)]) i s).take m.length=put m i s:=by
 rw[bI hi];exact Ui aF
end
theorem og{α β:Type}(f:α->β):∀(xs:List α) (k:Nat),(xs.map f).eraseIdx k=(xs.eraseIdx k).map f
 |[],_=>rfl
 |_::_,0=>rfl
 |x::xs,k+1=>by
  rw[R8,List.eraseIdx_cons_succ,List.eraseIdx_cons_succ,R8,og f xs k]
theorem G6{m:Mem}{b:Mt}{j:Nat}{xs ys:List T}{x t:T}(hb:b=.append∨b=.fe)(h:m[j]?=Zz (Zz (false,xs)))(hm:oQ b xs [x]=Zz (t,ys)):Ar b (.c j) [.t x] m=.ok (.t t) (m.set j (Zz (false,ys))):=by
 rcases hb with rfl|rfl<;>simp[Ar,dm,cN,ag,h,hm]
theorem nJ{n:Nat}{q:Int}(b:0<=q)(a:q<n):iW n q=Zz q.toNat:=by unfold iW;rw[Xf b,Xf a]
theorem rD{α:Type}:∀{l:List α}{k:Nat}(h:k<l.length),([l[k]]++l.eraseIdx k).Perm l
 |_::_,0,_=>List.Perm.refl _
 |a::l,k+1,h=>(List.Perm.swap a (l[k]'(Nat.lt_of_succ_lt_succ h)) (l.eraseIdx k)).trans ((rD (Nat.lt_of_succ_lt_succ h)).cons a)
theorem DJ{n:Nat}{m:Mem}{i:Nat}{s:List T}{ls fs:List (List Nat)}{e1 e2:Option W}{x:T}(hi:i<m.length)(hs:bE s)(h0:0<ls.length)(h1:ls.length<=60)(h2:fs.length<=60):
  ∃(b fs':List (List Nat)) (s':List T),ex (cf (n+3)) gv iG [Zz (.c i),e1,e2,Zz (.c m.length),Zz (.c (m.length+1)),Zz (.t x)] (put (m++[Zz (false,ls.map .str),Zz (false,fs.map .str)]) i s)=.ok (.next [Zz (.c i),e1,e2,Zz (.c m.length),Zz (.c (m.length+1)),Zz (.t x)]) (put (m++[Zz (false,b.map .str),Zz (false,fs'.map .str)]) i s')/\bE s'/\b.length+1=ls.length/\fs'.length=fs.length+1/\(fs'++b).Perm (fs++ls):=by
 have hiM:i<(m++[Zz (false,ls.map T.str),Zz (false,fs.map T.str)]).length:=by rw[R7];omega
 obtain⟨q,s1,d1,hs1,q0,q1⟩:=aQ (many:=(ls.length:Int)) hiM hs (by omega) (by omega);have hq:q.toNat<ls.length:=by omega
 have hv:∀ws,views (.c m.length::ws) (put (m++[Zz (false,ls.map .str),Zz (false,fs.map .str)]) i s)=(views ws (put (m++[Zz (false,ls.map .str),Zz (false,fs.map .str)]) i s)).map (.lst (ls.map .str)::·):=λws=>by
  simp[views,view,Ly hi]
 have hlen:ev (cf (n+3)) gv (.blt .len (.cons (.var 3) .nil)) [Zz (.c i),e1,e2,Zz (.c m.length),Zz (.c (m.length+1)),Zz (.t x)] (put (m++[Zz (false,ls.map .str),Zz (false,fs.map .str)]) i s)=.ok (.t (.int (ls.length:Int))) (put (m++[Zz (false,ls.map .str),Zz (false,fs.map .str)]) i s):=by
  rw[ev,evs,aa rfl,ag,evs,ag,ag,hv];simp[views,b8,hU,Ju,cW]
 have hpop:ev (cf (n+3)) gv (.eA .fe (.var 3) (.cons (.call 36 (.cons (.var 0) (.cons (.blt .len (.cons (.var 3) .nil)) .nil))) .nil)) [Zz (.c i),e1,e2,Zz (.c m.length),Zz (.c (m.length+1)),Zz (.t x)] (put (m++[Zz (false,ls.map .str),Zz (false,fs.map .str)]) i s)=.ok (.t (.str ls[q.toNat])) (put (m++[Zz (false,(ls.eraseIdx q.toNat).map .str),Zz (false,fs.map .str)]) i s1):=by
  rw[ev,aa rfl,ag];have ht:o0 .fe (.c m.length) (put (m++[Zz (false,ls.map .str),Zz (false,fs.map .str)]) i s)=true:=by
   show(match(put (m++[Zz (false,ls.map .str),Zz (false,fs.map .str)]) i s)[m.length]? with
    |some (Zz _)=>true
    |_=>false)=true
   rw[Ly hi]
  rw[Xf ht,evs,am (aa rfl) hlen,d1,ag,evs,ag,ag];have hm:oQ .fe (ls.map T.str) [.int q]=Zz (.str ls[q.toNat],(ls.eraseIdx q.toNat).map .str):=by
   show(match iW (ls.map T.str).length q with
    |some k=>((ls.map T.str)[k]?).map λt=>(t,(ls.map T.str).eraseIdx k)
    |none=>Zy)=_
   rw[Q4,nJ q0 q1];dsimp only;rw[Rh,Ra hq,og];rfl
  rw[G6 (.inr rfl) (Ly hi) hm,OE hi]
 refine⟨ls.eraseIdx q.toNat,fs++[ls[q.toNat]],s1,?_,hs1,by rw[UM hq];omega,by simp,?_⟩
 rotate_left
 ·rw[S3]
  exact List.Perm.append_left fs (rD hq)
 unfold iG;have happ:ev (cf (n+3)) gv (.eA .append (.var 4) (.cons (.eA .fe (.var 3) (.cons (.call 36 (.cons (.var 0) (.cons (.blt .len (.cons (.var 3) .nil)) .nil))) .nil)) .nil)) [Zz (.c i),e1,e2,Zz (.c m.length),Zz (.c (m.length+1)),Zz (.t x)] (put (m++[Zz (false,ls.map .str),Zz (false,fs.map .str)]) i s)=.ok (.t .non) (put (m++[Zz (false,(ls.eraseIdx q.toNat).map .str),Zz (false,(fs++[ls[q.toNat]]).map .str)]) i s1):=by
  rw[ev,aa rfl,ag];have ht:o0 .append (.c (m.length+1)) (put (m++[Zz (false,ls.map .str),Zz (false,fs.map .str)]) i s)=true:=by
   show(match(put (m++[Zz (false,ls.map .str),Zz (false,fs.map .str)]) i s)[m.length+1]? with
    |some (Zz _)=>true
    |_=>false)=true
   rw[MW hi]
  rw[Xf ht,evs,hpop,ag,evs,ag,ag];have hm:oQ .append (fs.map T.str) [.str ls[q.toNat]]=Zz (.non,(fs++[ls[q.toNat]]).map .str):=by
   show(if(fs.map T.str).length<lim then Zz (T.non,fs.map T.str++[.str ls[q.toNat]])else Zy)=_;rw[Xf (by rw[Q4];unfold lim;omega),Ug];rfl
  rw[G6 (.inl rfl) (MW hi) hm,Np hi]
 rw[kL happ,ex]
theorem g9{n:Nat}{m:Mem}{x:T}:cf (n+1) 2 [.t x] m=.ok (.t (.bl (cJ x .int&&!cJ x .bool))) m:=by
 rw[yu];cases x<;>simp[i7,ex,ev,Res.bind,view,cW,cJ,jE,fin]
noncomputable def j9:T->Bool
 |.int i=>decide (0<=i)&&decide (i<=1000000000)
 |_=>false
theorem fL{n:Nat}{m:Mem}{x:T}:cf (n+2) 3 [.t x] m=.ok (.t (.bl (j9 x))) m:=by
 rw[wF];cases x with
 |int i =>
  by_cases h:0<=i<;>simp[eQ,ex,ev,evs,Res.bind,view,cW,cJ,jE,fin,g9,bn,nI,Kx,KO,A5,j9,h,lI]
 |_=>simp[eQ,ex,ev,evs,Res.bind,view,cW,cJ,jE,fin,g9,j9]
noncomputable def gu:List Nat:=[97,98,99,100,101,102,103,104,105,106,107,108,109,110,111,112,113,114,115,116,117,118,119,120,121,122]
noncomputable def six:List (List Nat):=[[97,110,121],[105,115],[98,121],[110,111,116],[97,110,100],[111,114]]
noncomputable def jU(cs:List Nat):Bool:=six.any λa=>a==cs
noncomputable def aJ(cs:List Nat):Bool:=decide (1<=cs.length)&&decide (cs.length<=8)&&!jU cs&&cs.all λc=>decide (c∈gu)
theorem Df{n:Nat}{cs:List Nat}{m:Mem}(a:cs.length<=lim):ev (cf n) gv iY [Zz (.t (.str cs))] m=.ok (.t (.lst (cs.map λc=>.bl (decide (c∈gu))))) m:=by
 have h:=bV (f:=bA (cf n) gv .nil d8) (tg:=.nm 0) (env:=[Zy]) (m:=m)
  (g:=λt=>match t with|.str [c]=>[.bl (decide (c∈gu))]|_=>[]) (cs.map λc=>.str [c]) (λt b=>by
   obtain⟨c,_,rfl⟩:=Rb.mp b;exact⟨[Zz (.t (.str [c]))],rfl,by simp[bA,tests,d8,ev,Res.bind,view,cW,BB,bn,nI,Kx,KO,A5,nQ,jS,gu]⟩)
 have e:(cs.map λc=>T.str [c]).flatMap (λt=>match t with|.str [c]=>[T.bl (decide (c∈gu))]|_=>[])=cs.map λc=>.bl (decide (c∈gu)):=by
  rw[List.flatMap_map];exact bD _ _
 rw[e]at h;exact aZ (x:=.t (.str cs)) (m0:=m) (by simp[ev]) (by simp[bp,n8,a]) h (by simpa using a)
theorem Cp(cs:List Nat):lX (.str cs) (.tup [.str [97,110,121],.str [105,115],.str [98,121],.str [110,111,116],.str [97,110,100],.str [111,114]])=Zz (jU cs):=by
 simp[lX,flat,eqT,six,jU]
noncomputable def eJ(cs:List Nat):Bool:=decide (1<=cs.length)&&!jU cs&&cs.all λc=>decide (c∈gu)
theorem lU{n:Nat}{m:Mem}{cs:List Nat}(hl:cs.length<=lim):cf (n+1) 0 [.t (.str cs)] m=.ok (.t (.bl (eJ cs))) m:=by
 have e:ex (cf n) gv cU [Zz (.t (.str cs))] m=.ok (.ret (.t (.bl (eJ cs)))) m:=by
  unfold cU;refine aj ?_;by_cases h1:0<cs.length
  ·have b:(0:Int)<cs.length:=by omega
   have a:(decide (1<=cs.length))=true:=Xi h1;have f:bn .NotIn (.str cs) (.tup [.str [97,110,121],.str [105,115],.str [98,121],.str [110,111,116],.str [97,110,100],.str [111,114]])=Zz (!jU cs):=by
    rcases cs with _|⟨c,_|⟨d,r⟩⟩<;>simp[bn,nI,Kx,KO,A5,Cp]
   cases h6:jU cs
   ·simp only[eJ,a,h6]
    simp[ev,evs,cJ,aA,dB,lB hl,h1,b,f,h6,lw,Df hl,vg (d4 _ cs)]
   ·simp[ev,evs,cJ,aA,dB,lB hl,h1,b,f,h6,lw,eJ]
  ·have b:¬(0:Int)<cs.length:=by omega
   have a:(decide (1<=cs.length))=false:=Xh h1;simp only[eJ,a];simp[ev,evs,cJ,aA,dB,lB hl,h1,b]
 exact aG (pP _ _ _) rfl e (aD rfl)
theorem yw{n:Nat}{m:Mem}{cs:List Nat}(b:cs.length<=lim):cf (n+2) 1 [.t (.str cs)] m=.ok (.t (.bl (aJ cs))) m:=by
 have e:ex (cf (n+1)) gv d6 [Zz (.t (.str cs))] m=.ok (.ret (.t (.bl (aJ cs)))) m:=by
  unfold d6;refine aj ?_;by_cases h8:cs.length<=8
  ·have a:(cs.length:Int)<=8:=by omega
   have c:aJ cs=eJ cs:=by simp[aJ,eJ,h8]
   simp[ev,evs,cJ,aA,dB,lB b,a,jz,lU b,c]
  ·have a:¬(cs.length:Int)<=8:=by omega
   simp[ev,evs,cJ,aA,dB,lB b,a,jz,aJ,h8]
 exact aG (rS _ _ _) rfl e (aD rfl)
theorem AC{n:Nat}{m:Mem}{x:T}(h:cJ x .str=false):cf (n+2) 1 [.t x] m=.ok (.t (.bl false)) m:=by
 have e:ex (cf (n+1)) gv d6 [Zz (.t x)] m=.ok (.ret (.t (.bl false))) m:=by
  unfold d6;refine aj ?_;cases x with
  |str b=>cases h
  |_=>simp[ev,evs,cJ,aA,dB]
 exact aG (rS _ _ _) rfl e (aD rfl)
theorem JI(cs:List Nat):((cs.map λc=>[c]).map Rg).sum=cs.length:=by
 induction cs with
 |nil=>rfl
 |cons c cs d=>rw[R8,R8,Tp,d];simp;omega
theorem B5{α:Type}(xs:List α)(lo hi:Option Int):(cut xs lo hi).length<=xs.length:=by
 unfold cut;rw[Rn,Sh];omega
def LF:T->Prop:=λt=>∀cs,t=.str cs->cs.length<=lim
noncomputable def oneOf(x:T)(ws:List (List Nat)):Bool:=match x with
 |.str cs=>ws.any λa=>a==cs
 |_=>false
theorem ph{n:Nat}{m:Mem}{x:T}{ws:List (List Nat)}:cf (n+1) 10 [.t x,.t (.tup (ws.map .str))] m=.ok (.t (.bl (oneOf x ws))) m:=by
 have hh:∀cs,bn .In (.str cs) (.tup (ws.map .str))=Zz (ws.any λa=>a==cs):=λcs=>by
  have h1:lX (.str cs) (.tup (ws.map .str))=Zz (ws.any λa=>a==cs):=by
   have ha:∀ws:List (List Nat),(ws.map T.str).all flat=true:=λws=>by simp[flat]
   have hb:∀ws:List (List Nat),((ws.map T.str).any λt=>eqT t (.str cs))=ws.any λa=>a==cs:=λws=>by
    induction ws with
    |nil=>rfl
    |cons w ws f=>simp[eqT]at f ⊢;rw[f]
   unfold lX;dsimp only;rw[ha,hb];rfl
  rw[<-h1];cases cs with
  |nil=>rfl
  |cons c r=>cases r<;>rfl
 rw[xm];cases x with
 |str cs=>simp[gR,ex,ev,evs,cJ,aA,dB,hh,oneOf,fin]
 |_=>exact aG rfl rfl rfl (aD rfl)
noncomputable def cx:T->Bool
 |.str cs=>aJ cs
 |_=>false
theorem dX{n:Nat}{m:Mem}{x:T}(h:LF x):cf (n+2) 1 [.t x] m=.ok (.t (.bl (cx x))) m:=by
 cases x with
 |str b=>exact yw (h b rfl)
 |_=>exact AC rfl
noncomputable def dj:T->Bool
 |.tup [a]=>oneOf a [[97,110,121]]
 |.tup [a,b]=>oneOf a [[105,115],[98,121]]&&cx b
 |.tup [a,b,c]=>oneOf a [[108,101,97,115,116],[109,111,115,116]]&&cx b&&j9 c
 |_=>false
def wx:T->Prop
 |.tup ts=>∀t∈ts,LF t
 |_=>True
theorem hU{n:Nat}{m:Mem}{x:T}{w:List Nat}:cf (n+1) 10 [.t x,.t (.tup [.str w])] m=.ok (.t (.bl (oneOf x [w]))) m:=ph (ws:=[w])
theorem HQ{n:Nat}{m:Mem}{x:T}{w v:List Nat}:cf (n+1) 10 [.t x,.t (.tup [.str w,.str v])] m=.ok (.t (.bl (oneOf x [w,v]))) m:=ph (ws:=[w,v])
theorem at2{α:Type}(a b c:α)(r:List α):atT (a::b::c::r) 2=Zz c:=by
 have:(2:Int)<(r.length:Int)+1+1+1:=by omega
 simp[atT,iW,this]
theorem Fi{n:Nat}{m:Mem}{x:T}(h:wx x):cf (n+3) 11 [.t x] m=.ok (.t (.bl (dj x))) m:=by
 have e:ex (cf (n+2)) gv cF [Zz (.t x)] m=.ok (.ret (.t (.bl (dj x)))) m:=by
  unfold cF;cases x with
  |tup i =>
   rw[ay rfl]
   match i,h with
   |[],_ =>
    rw[ay rfl,ay rfl,ay rfl];exact aj rfl
   |[a],_ =>
    exact az rfl (aj (by simp[ev,evs,cJ,aA,dB,at0,hU,lim,dj]))
   |[a,b],h =>
    rw[ay rfl];have f:=dX (n:=n) (m:=m) (h b (by simp));refine az rfl (aj ?_);cases ho:oneOf a [[105,115],[98,121]]<;>simp[ev,evs,cJ,aA,dB,at0,at1,HQ,lim,dj,ho,f]
   |[a,b,c],h =>
    rw[ay rfl,ay rfl];have f:=dX (n:=n) (m:=m) (h b (by simp));have j:=fL (n:=n) (m:=m) (x:=c);refine az rfl (aj ?_);cases ho:oneOf a [[108,101,97,115,116],[109,111,115,116]]<;>cases hw:cx b<;>simp[ev,evs,cJ,aA,dB,at0,at1,at2,HQ,lim,dj,ho,f,hw,j]
   |a::b::c::d::r,_ =>
    have o:¬(r.length:Int)+1+1+1+1=1:=by omega
    have l:¬(r.length:Int)+1+1+1+1=2:=by omega
    have k:¬(r.length:Int)+1+1+1+1=3:=by omega
    rw[ay (m1:=m) (by simp[ev,evs,cJ,aA,dB,o]),ay (m1:=m) (by simp[ev,evs,cJ,aA,dB,l]),ay (m1:=m) (by simp[ev,evs,cJ,aA,dB,k])];exact aj rfl
  |_=>exact az rfl (aj rfl)
 exact aG (oy _ _ _) rfl e (aD rfl)
noncomputable def js:T->Bool
 |.tup ts=>decide (2<=ts.length)&&decide (ts.length<=6)
 |_=>false
theorem uR{n:Nat}{m:Mem}{x:T}:cf (n+1) 12 [.t x] m=.ok (.t (.bl (js x))) m:=by
 rw[tO];cases x with
 |tup a =>
  by_cases h:2<=a.length
  ·have b:(2:Int)<=a.length:=by omega
   simp[dD,ex,ev,evs,cJ,aA,dB,iD,j8,b,js,h,fin];omega
  ·have b:¬(2:Int)<=a.length:=by omega
   simp[dD,ex,ev,evs,cJ,aA,dB,iD,j8,b,js,h,fin]
 |_=>exact aG rfl rfl rfl (aD rfl)
noncomputable def kids:T->List T
 |.tup [a,b]=>if oneOf a [[110,111,116]]then[b]else if oneOf a [[97,110,100],[111,114]]&&js b then(match b with
  |.tup ts=>ts
  |_=>[])else[]
 |_=>[]
theorem uH{n:Nat}{m:Mem}{x:T}:cf (n+2) 13 [.t x] m=.ok (.t (.tup (kids x))) m:=by
 have e:ex (cf (n+1)) gv eS [Zz (.t x)] m=.ok (.ret (.t (.tup (kids x)))) m:=by
  unfold eS;cases x with
  |tup f =>
   match f with
   |[]=>exact az rfl (aj rfl)
   |[a]=>exact az rfl (aj rfl)
   |[a,b] =>
    rw[ay rfl];cases hn:oneOf a [[110,111,116]]with
    |true=>exact az (m1:=m) (by simp[ev,evs,cJ,aA,dB,at0,hU,lim,hn]) (aj (by simp[ev,evs,cJ,aA,dB,at1,lim,kids,hn]))
    |false =>
     rw[ay (m1:=m) (by simp[ev,evs,cJ,aA,dB,at0,hU,lim,hn])];cases ho:oneOf a [[97,110,100],[111,114]]with
     |false =>
      rw[ay (m1:=m) (by simp[ev,evs,cJ,aA,dB,at0,HQ,lim,ho])];exact aj (by simp[ev,evs,cJ,aA,dB,lim,kids,hn,ho])
     |true =>
      cases hj:js b with
      |false =>
       rw[ay (m1:=m) (by simp[ev,evs,cJ,aA,dB,at0,at1,HQ,lim,ho,uR,hj])];exact aj (by simp[ev,evs,cJ,aA,dB,lim,kids,hn,ho,hj])
      |true =>
       refine az (m1:=m) (by simp[ev,evs,cJ,aA,dB,at0,at1,HQ,lim,ho,uR,hj]) (aj ?_);cases b with
       |tup f=>simp[ev,evs,cJ,aA,dB,at1,kids,hn,ho,hj]
       |_=>cases hj
   |a::b::c::r =>
    have g:¬(r.length:Int)+1+1+1=2:=by omega
    exact az (by simp[ev,evs,cJ,aA,dB,g]) (aj rfl)
  |_=>exact az rfl (aj rfl)
 exact aG (vw _ _ _) rfl e (aD rfl)
noncomputable def eX(x:T):Bool:=dj x || decide (0<(kids x).length)
theorem Iq{n:Nat}{m:Mem}{x:T}(h:wx x):cf (n+4) 14 [.t x] m=.ok (.t (.bl (eX x))) m:=by
 have a:ex (cf (n+3)) gv f8 [Zz (.t x)] m=.ok (.ret (.t (.bl (eX x)))) m:=by
  unfold f8;refine aj ?_;cases hp:dj x<;>simp[ev,evs,cJ,aA,dB,Fi h,hp,uH,eX]
 exact aG (xC _ _ _) rfl a (aD rfl)
theorem Jc(x:T):(kids x).length<=6:=by
 unfold kids;split
 ·rename_i a b
  split
  ·simp
  ·split
   ·rename_i h
    rw[Q3]at h;cases b with
    |tup d =>
     have:=h.2;unfold js at this;simp at this;exact this.2
    |_=>simp
   ·simp
 ·simp
theorem Bm{n:Nat}{m:Mem}{l:List T}{e0 e2 e3:Option W}(d:∀x∈l,wx x)(c:l.length<=lim):ev (cf (n+4)) gv pA [e0,Zz (.t (.lst l)),e2,e3] m=.ok (.t (.lst (l.map λx=>.bl (eX x)))) m:=by
 have h:=bV (f:=bA (cf (n+4)) gv .nil jW) (tg:=.nm 0) (env:=[Zy]) (m:=m) (g:=λx=>[.bl (eX x)]) l (λt b=>⟨[Zz (.t t)],rfl,by simp[bA,tests,jW,ev,evs,cJ,aA,dB,Iq (d t b)]⟩);rw[bD]at h;exact aZ (x:=.t (.lst l)) rfl rfl h (by simpa using c)
theorem ED{n:Nat}{m:Mem}{x:T}:bA (cf (n+4)) gv .nil dy [Zz (.t x),Zy] m=.ok (kids x) m:=by
 have h:=bV (f:=bA (cf (n+4)) gv .nil (.emit (.var 1))) (tg:=.nm 1) (env:=[Zz (.t x),Zy]) (m:=m) (g:=λy=>[y]) (kids x) (λt j=>⟨[Zz (.t x),Zz (.t t)],rfl,by simp[bA,tests,ev,evs,cJ,aA,dB]⟩);rw[bD,WL]at h;have e:ev (cf (n+4)) gv dy [Zz (.t x),Zy] m=.ok (.t (.lst (kids x))) m:=by
  have i:ev (cf (n+4)) gv dy [Zz (.t x),Zy] m=(ev (cf (n+4)) gv (.call 13 (.cons (.var 0) .nil)) [Zz (.t x),Zy] m).bind λy b=>(bp y b).bind λc m =>
    (cb (bA (cf (n+4)) gv .nil (.emit (.var 1))) (.nm 1) c [Zz (.t x),Zy] m).bind λa m=>.ok (.t (.lst a)) (giveBack y b m):=by
   unfold dy;rw[ev];rfl
  rw[i];have d:ev (cf (n+4)) gv (.call 13 (.cons (.var 0) .nil)) [Zz (.t x),Zy] m=.ok (.t (.tup (kids x))) m:=by simp[ev,evs,cJ,aA,dB,uH]
  rw[d];show(cb (bA (cf (n+4)) gv .nil (.emit (.var 1))) (.nm 1) (kids x) [Zz (.t x),Zy] m).bind _=_;rw[h];rfl
 unfold bA;simp[tests,ag,e,Cz]
theorem D2{n:Nat}{m:Mem}{l:List T}{e0 e2 e3:Option W}(a:(l.flatMap kids).length<=lim):ev (cf (n+4)) gv pz [e0,Zz (.t (.lst l)),e2,e3] m=.ok (.t (.lst (l.flatMap kids))) m:=by
 have h:=bV (f:=bA (cf (n+4)) gv .nil dy) (tg:=.nm 0) (env:=[Zy,Zy]) (m:=m) l (λt b=>⟨[Zz (.t t),Zy],rfl,ED⟩);exact aZ (x:=.t (.lst l)) rfl rfl h a
noncomputable def lay:Nat->List T->List T
 |0,l=>l
 |k+1,l=>lay k (l.flatMap kids)
noncomputable def run:Nat->Nat->List T->Option (List T)
 |0,_,l=>Zz l
 |k+1,p,l=>if 40<p+l.length∨l.all eX=false then Zy else run k (p+l.length) (l.flatMap kids)
theorem GY(l:List T):(l.flatMap kids).length<=6*l.length:=by
 induction l with
 |nil=>simp
 |cons x l c =>
  have:=Jc x;rw[UH,R7,RN];omega
theorem Ek(l:List T):((l.map eX).all id)=l.all eX:=by rw[T4];rfl
theorem layers{n:Nat}{m:Mem}{x:Option W}:∀(ts:List T) (l:List T) (p:Nat) (d:Option W),(∀k,∀y∈lay k l,wx y)->l.length<=lim->match run ts.length p l with
  |none=>cj (ex (cf (n+4)) gv bo) (.nm 3) ts [x,Zz (.t (.lst l)),Zz (.t (.int p)),d] m=.ok (.ret (.t (.bl false))) m
  |some l'=>∃p' d',cj (ex (cf (n+4)) gv bo) (.nm 3) ts [x,Zz (.t (.lst l)),Zz (.t (.int p)),d] m=.ok (.next [x,Zz (.t (.lst l')),p',d']) m
 |[],l,p,d,_,_=>⟨_,_,rfl⟩
 |t::ts,l,p,d,hf,hl=>by
  have hd:bK (.nm 3) t [x,Zz (.t (.lst l)),Zz (.t (.int p)),d]=Zz [x,Zz (.t (.lst l)),Zz (.t (.int p)),Zz (.t t)]:=rfl;have hfo:=Bm (n:=n) (m:=m) (l:=l) (e0:=x) (e2:=Zz (.t (.int ((p:Int)+l.length)))) (e3:=Zz (.t t)) (λy hy=>hf 0 y hy) hl;have ha:=vg (d4 eX l);rw[Ek]at ha;have b:∀k,ex (cf (n+4)) gv (.aug 2 .Add (.blt .len (.cons (.var 1) .nil)) k) [x,Zz (.t (.lst l)),Zz (.t (.int p)),Zz (.t t)] m=ex (cf (n+4)) gv k [x,Zz (.t (.lst l)),Zz (.t (.int ((p:Int)+l.length))),Zz (.t t)] m:=λk=>by
   rw[ex];simp[ev,evs,cJ,aA,dB,Jp]
  rw[RN,run];by_cases hc:40<p+l.length∨l.all eX=false
  ·rw[Xf hc]
   rw[cj,hd];show(ex (cf (n+4)) gv bo [x,Zz (.t (.lst l)),Zz (.t (.int p)),Zz (.t t)] m).bind _=_;have e:ex (cf (n+4)) gv bo [x,Zz (.t (.lst l)),Zz (.t (.int p)),Zz (.t t)] m=.ok (.ret (.t (.bl false))) m:=by
    unfold bo;rw[b];refine az ?_ (aj rfl);by_cases h4:40<p+l.length
    ·have a:(40:Int)<(p:Int)+l.length:=by omega
     simp[ev,evs,cJ,aA,dB,hW,a]
    ·have a:¬(40:Int)<(p:Int)+l.length:=by omega
     have c:l.all eX=false:=by
      rcases hc with h|h
      ·exact Xk h h4
      ·exact h
     rw[c]at ha;simp[ev,evs,cJ,aA,dB,hW,a,hfo,ha]
   rw[e];rfl
  ·rw[Xg hc]
   have h4:=λh=>hc (.inl h)
   have c:l.all eX=true:=by
    cases h:l.all eX with
    |true=>rfl
    |false=>exact Xk (.inr h) hc
   have hfl:=GY l;have hl2:(l.flatMap kids).length<=lim:=by unfold lim;omega
   have hk:=D2 (n:=n) (m:=m) (e0:=x) (e2:=Zz (.t (.int ((p:Int)+l.length)))) (e3:=Zz (.t t)) hl2;have e:ex (cf (n+4)) gv bo [x,Zz (.t (.lst l)),Zz (.t (.int p)),Zz (.t t)] m=.ok (.next [x,Zz (.t (.lst (l.flatMap kids))),Zz (.t (.int ((p+l.length:Nat):Int))),Zz (.t t)]) m:=by
    unfold bo;rw[b];have a:¬(40:Int)<(p:Int)+l.length:=by omega
    rw[c]at ha;rw[ay (m1:=m) (by simp[ev,evs,cJ,aA,dB,hW,a,hfo,ha])];rw[au hk];rw[ex];simp
   have ih:=layers (n:=n) (m:=m) (x:=x) ts (l.flatMap kids) (p+l.length) (Zz (.t t)) (λk y hy=>hf (k+1) y hy) hl2;have f:cj (ex (cf (n+4)) gv bo) (.nm 3) (t::ts) [x,Zz (.t (.lst l)),Zz (.t (.int p)),d] m=cj (ex (cf (n+4)) gv bo) (.nm 3) ts [x,Zz (.t (.lst (l.flatMap kids))),Zz (.t (.int ((p+l.length:Nat):Int))),Zz (.t t)] m:=by
    rw[cj,hd];show(ex (cf (n+4)) gv bo [x,Zz (.t (.lst l)),Zz (.t (.int p)),Zz (.t t)] m).bind _=_;rw[e];rfl
   rw[f];exact ih
noncomputable def cS(x:T):Bool:=match run 6 0 [x]with
 |none=>false
 |some l=>l.isEmpty
theorem rj{n:Nat}{m:Mem}{x:T}(g:∀k,∀y∈lay k [x],wx y):cf (n+5) 15 [.t x] m=.ok (.t (.bl (cS x))) m:=by
 have b:ex (cf (n+4)) gv iy [Zz (.t x),Zy,Zy,Zy] m=.ok (.ret (.t (.bl (cS x)))) m:=by
  unfold iy;rw[au rfl];rw[au rfl];simp only[RD,RE];have a:ev (cf (n+4)) gv (.blt .dY (.cons (.gl 6) .nil)) [Zz (.t x),Zz (.t (.lst [x])),Zz (.t (.int 0)),Zy] m=.ok (.t (.lst (rangeT 0 6))) m:=by
   simp[ev,evs,cJ,aA,dB,A1,sA (show(6:Int)<2^62/\-(2^62)<=(6:Int) by decide)]
  have h:=layers (n:=n) (m:=m) (x:=Zz (.t x)) (rangeT 0 6) [x] 0 Zy g (by show 1<=lim;decide);have f:(rangeT 0 6).length=6:=rfl;rw[f]at h;unfold cS;cases q:run 6 0 [x]with
  |none =>
   rw[q]at h;have h:cj (ex (cf (n+4)) gv bo) (.nm 3) (rangeT 0 6) [Zz (.t x),Zz (.t (.lst [x])),Zz (.t (.int 0)),Zy] m=.ok (.ret (.t (.bl false))) m:=h;rw[ex,a];show(cj (ex (cf (n+4)) gv bo) (.nm 3) (rangeT 0 6) [Zz (.t x),Zz (.t (.lst [x])),Zz (.t (.int 0)),Zy] m).bind _=_;rw[h];rfl
  |some e =>
   rw[q]at h;obtain⟨i,j,h⟩:=h;have h:=h;rw[jL a rfl h];refine aj ?_;cases e<;>simp[ev,evs,cJ,aA,dB,giveBack];omega
 exact aG (BN _ _ _) rfl b (aD rfl)
noncomputable def tot:Nat->List T->Nat
 |0,_=>0
 |d+1,l=>l.length+tot d (l.flatMap kids)
theorem lO:∀(d:Nat) (a b:List T),tot d (a++b)=tot d a+tot d b
 |0,_,_=>rfl
 |d+1,a,b=>by
  rw[tot,tot,tot,List.flatMap_append,lO d,R7];omega
theorem jv:∀d:Nat,tot d []=0
 |0=>rfl
 |d+1=>by rw[tot];simpa using jv d
theorem Cc(d:Nat):∀l:List T,tot d l=(l.map λx=>tot d [x]).sum
 |[]=>by rw[jv];rfl
 |x::l=>by rw[show x::l=[x]++l from rfl,lO,Cc d l];simp
theorem kW(d:Nat)(x:T):tot (d+1) [x]=1+tot d (kids x):=by
 rw[tot];simp
def Qp(x:T):Prop:=∀k,∀y∈lay k [x],wx y
inductive WT:Nat->T->Prop where
 |leaf {d:Nat}{t:T}:dj t=true->kids t=[]->wx t->WT (d+1) t
 |nt {d:Nat}{a:T}:WT d a->WT (d+1) (.tup [.str [110,111,116],a])
 |jn {d:Nat}{w:List Nat}{ts:List T}:(w=[97,110,100]∨w=[111,114])->2<=ts.length->ts.length<=6->(∀t∈ts,WT d t)->WT (d+1) (.tup [.str w,.tup ts])
theorem xS(a:T):kids (.tup [.str [110,111,116],a])=[a]:=by simp[kids,oneOf]
theorem BQ{w:List Nat}{ts:List T}(d:w=[97,110,100]∨w=[111,114])(f:2<=ts.length)(e:ts.length<=6):kids (.tup [.str w,.tup ts])=ts:=by
 rcases d with rfl|rfl<;>simp[kids,oneOf,js,f,e]
theorem vh(w a b:List Nat):bn .In (.str w) (.tup [.str a,.str b])=Zz (a==w || b==w):=by
 have h:lX (.str w) (.tup [.str a,.str b])=Zz (a==w || b==w):=by simp[lX,flat,eqT]
 rw[<-h];cases w with
 |nil=>rfl
 |cons c r=>cases r<;>rfl
noncomputable def wl(ws:List (List Nat)):T:=.lst (ws.map .str)
noncomputable def cw(ws:List (List Nat))(i:Nat):List Nat:=(ws[i]?).getD []
theorem bU{n:Nat}{m:Mem}{ws:List (List Nat)}{k:Int}{i:Nat}(c:k=(i:Int)):cf (n+1) 19 [.t (wl ws),.t (.int k)] m=.ok (.t (.str (cw ws i))) m:=by
 subst c;have b:ex (cf n) gv iI [Zz (.t (wl ws)),Zz (.t (.int i))] m=.ok (.ret (.t (.str (cw ws i)))) m:=by
  unfold iI;have a:ev (cf n) gv (.cmp .Lt (.var 1) (.blt .len (.cons (.var 0) .nil))) [Zz (.t (wl ws)),Zz (.t (.int i))] m=.ok (.t (.bl (decide (i<ws.length)))) m:=by
   refine(ar (aa rfl) (aC (aa rfl) (ki _)) (ln _ _)).trans ?_;rw[Q4]
   congr 3
   exact decide_eq_decide.mpr (by omega)
  by_cases h:i<ws.length
  ·rw[Xi h]at a
   refine az a (aj (bi (aa rfl) (aa rfl) ?_));show atT (ws.map T.str) (i:Int)=_;rw[HP (by omega) (by rw[Q4];omega)];simp[cw,h]
  ·rw[Xh h]at a
   rw[ay a];refine aj ?_;rw[show cw ws i=[] by simp[cw,Sw (XD.mp h)]];exact ae _
 exact aG (BE _ _ _) rfl b (aD rfl)
theorem rJ{n:Nat}{m:Mem}{ws:List (List Nat)}{k:Int}{i:Nat}(e:k=(i:Int))(d:(cw ws i).length<=lim)(c:eJ (cw ws i)=true):cf (n+2) 20 [.t (wl ws),.t (.int k)] m=.ok (.t (.str (cw ws i))) m:=by
 have a:ex (cf (n+1)) gv eh [Zz (.t (wl ws)),Zz (.t (.int k)),Zy] m=.ok (.ret (.t (.str (cw ws i)))) m:=by
  unfold eh;rw[au ((am (aa rfl) (aa rfl)).trans (bU e))];dsimp only[RD,RE];have b:=lU (n:=n) (m:=m) d;rw[c]at b;rw[ay (bf ((ax (aa rfl)).trans b))];exact aj (aa rfl)
 exact aG (rF _ _ _) rfl a (aD rfl)
noncomputable def iP:List Nat:=[48,49,50,51,52,53,54,55,56,57]
noncomputable def dW(cs:List Nat):Bool:=decide (1<=cs.length)&&decide (cs.length<=10)&&(cs.all λc=>decide (c∈iP))&&(cs==[48] || cs.head? != Zz 48)
theorem Ft{n:Nat}{cs:List Nat}{m:Mem}(hl:cs.length<=lim):ev (cf n) gv dn [Zz (.t (.str cs))] m=.ok (.t (.lst (cs.map λc=>.bl (decide (c∈iP))))) m:=by
 have h:=bV (f:=bA (cf n) gv .nil ge) (tg:=.nm 0) (env:=[Zy]) (m:=m)
  (g:=λt=>match t with|.str [c]=>[.bl (decide (c∈iP))]|_=>[]) (cs.map λc=>.str [c]) (λt ht=>by
   obtain⟨c,_,rfl⟩:=Rb.mp ht;exact⟨[Zz (.t (.str [c]))],rfl,iL (cA (ar (aa rfl) (jC Bj) (KF _ _)))⟩)
 have e:(cs.map λc=>T.str [c]).flatMap (λt=>match t with|.str [c]=>[T.bl (decide (c∈iP))]|_=>[])=cs.map λc=>.bl (decide (c∈iP)):=by
  clear h hl
  induction cs with
  |nil=>rfl
  |cons c cs ih=>rw[R8,UH,ih];rfl
 rw[e]at h;have hb:bp (.t (.str cs)) m=.ok (cs.map λc=>.str [c]) m:=by simp[bp,n8,hl]
 exact aZ (aa rfl) hb h (by rw[Q4];exact hl)
theorem kf{n:Nat}{m:Mem}{cs:List Nat}(hl:cs.length<=lim):cf (n+1) 18 [.t (.str cs)] m=.ok (.t (.bl (dW cs))) m:=by
 have key:ex (cf n) gv ck [Zz (.t (.str cs))] m=.ok (.ret (.t (.bl (dW cs)))) m:=by
  unfold ck;have ha:ev (cf n) gv (.not (.blt .all (.cons dn .nil))) [Zz (.t (.str cs))] m=.ok (.t (.bl (!(cs.all λc=>decide (c∈iP))))) m:=by
   refine(bf (aC (Ft hl) (vg (d4 _ _)))).trans ?_;rw[T4];rfl
  have hb:ev (cf n) gv (.vO .LtE .LtE (.con (.int 1)) (.blt .len (.cons (.var 0) .nil)) (.gl 14)) [Zz (.t (.str cs))] m=.ok (.t (.bl (decide (1<=cs.length)&&decide (cs.length<=10)))) m:=by
   rw[ev,ae,ag,aC (aa rfl) (lB hl),ag];simp only[view,Rw,tj];by_cases h1:1<=cs.length
   ·rw[Xi (show(1:Int)<=(cs.length:Int) by omega)]
    rw[jC pS,ag];simp only[view,Rw,tj,h1,decide_true,S6,VQ,cW]
    congr 3
    exact decide_eq_decide.mpr (by omega)
   ·rw[Xh (show ¬(1:Int)<=(cs.length:Int) by omega)]
    simp[h1]
  by_cases h1:(decide (1<=cs.length)&&decide (cs.length<=10))=true
  ·rw[h1]at hb
   by_cases h2:(cs.all λc=>decide (c∈iP))=true
   ·rw[h2]at ha
    rw[ay ((aW (bf hb)).trans ha)];rw[Q3]at h1;have hlen:=Xl h1.1;have hf:dW cs=(cs==[48] || cs.head? != Zz 48):=by
     unfold dW;rw[h1.1,h1.2,h2];rfl
    rw[hf];cases cs with
    |nil=>simp at hlen
    |cons c r =>
     have e1:ev (cf n) gv (.cmp .Eq (.var 0) (.con (.str [48]))) [Zz (.t (.str (c::r)))] m=.ok (.t (.bl (c::r==[48]))) m:=ar (aa rfl) (ae _) (jy _ _);cases q:(c::r==[48])with
     |true =>
      rw[q]at e1;exact aj (cH e1)
     |false =>
      rw[q]at e1;refine aj ((aW e1).trans (ar (bi (aa rfl) (ae _) ((BP hl _).trans (by rw[at0];rfl))) (ae _) ?_));rw[rk];simp[bne]
   ·rw[SU.mpr h2]at ha
    have hf:dW cs=false:=by unfold dW;rw[SU.mpr h2];simp
    rw[hf];exact az ((aW (bf hb)).trans ha) (aj (ae _))
  ·rw[SU.mpr h1]at hb
   have hf:dW cs=false:=by unfold dW;rw[SU.mpr h1];simp
   rw[hf];exact az (cH (bf hb)) (aj (ae _))
 exact aG (nG _ _ _) rfl key (aD rfl)
theorem wh{cs:List Nat}(h:dW cs=true):b8 .int [.str cs]=Zz (.int (aN cs))/\cs.length<=lim:=by
 unfold dW at h;simp only[Q3,decide_eq_true_eq,RF]at h;obtain⟨⟨⟨d,e⟩,b⟩,_⟩:=h;refine⟨?_,by unfold lim;omega⟩;refine Xf ⟨λz=>by subst z;simp at d,by omega,RF.mpr λc a=>?_⟩;have:=b c a;unfold iP at this;rw[Q3];refine⟨Xi ?_,Xi ?_⟩<;>(simp at this;omega)
theorem vB{n:Nat}{m:Mem}{ws:List (List Nat)}{k:Int}{i:Nat}(d:k=(i:Int))(b:dW (cw ws i)=true):cf (n+2) 21 [.t (wl ws),.t (.int k)] m=.ok (.t (.int (aN (cw ws i)))) m:=by
 have a:ex (cf (n+1)) gv cP [Zz (.t (wl ws)),Zz (.t (.int k)),Zy] m=.ok (.ret (.t (.int (aN (cw ws i))))) m:=by
  unfold cP;rw[au ((am (aa rfl) (aa rfl)).trans (bU d))];dsimp only[RD,RE];have c:=kf (n:=n) (m:=m) (wh b).2;rw[b]at c;rw[ay (bf ((ax (aa rfl)).trans c))];exact aj (aC (aa rfl) (wh b).1)
 exact aG (nz _ _ _) rfl a (aD rfl)
inductive EN:T->List (List Nat)->Prop where
 |any:EN (.tup [.str [97,110,121]]) [[97,110,121]]
 |two {w v:List Nat}:(w=[105,115]∨w=[98,121])->eJ v=true->v.length<=lim->EN (.tup [.str w,.str v]) [w,v]
 |three {a w v f:List Nat}:(a=[62,61]/\w=[108,101,97,115,116]∨a=[60,61]/\w=[109,111,115,116])->eJ v=true->v.length<=lim->dW f=true->EN (.tup [.str w,.str v,.int (aN f)]) [v,a,f]
theorem jR{call:Nat->List W->Mem->Res W}{gv:List T}{env:Env}{m m1:Mem}{k:S}{e:E}{i j:Nat}{x y:T}(h:ev call gv e env m=.ok (.t (.tup [x,y])) m1):ex call gv (.le [i,j] e k) env m=ex call gv k ((env.set i (Zz (.t x))).set j (Zz (.t y))) m1:=by
 rw[ex,h];rfl
theorem L0{call:Nat->List W->Mem->Res W}{gv:List T}{env:Env}{m m1:Mem}{e:E}{k:Nat}{x r:T}{ks:List L2.Key}{a:List T}(h:ev call gv e env m=.ok (.t x) m1)(c:gv[k]?=Zz (.dct ks a))(b:(lh x).bind (cg ks a)=Zz r):ev call gv (.Ng k e) env m=.ok (.t r) m1:=by
 rw[ev,h];rw[c];show cW ((lh x).bind (cg ks a)) m1=_;rw[b];rfl
theorem GF{call:Nat->List W->Mem->Res W}{gv:List T}{env:Env}{m m1:Mem}{e:E}{k:Nat}{neg b:Bool}{x:T}{ks:List L2.Key}{a:List T}(h:ev call gv e env m=.ok (.t x) m1)(d:gv[k]?=Zz (.dct ks a))(c:((lh x).map λk=>T.bl (if neg then !(cg ks a k).isSome else(cg ks a k).isSome))=Zz (.bl b)):ev call gv (.L8 k neg e) env m=.ok (.t (.bl b)) m1:=by
 rw[ev,h];rw[d];show cW ((lh x).map λk=>T.bl (if neg then !(cg ks a k).isSome else(cg ks a k).isSome)) m1=_;rw[c];rfl
theorem cC{call:Nat->List W->Mem->Res W}{gv:List T}{env:Env}{m:Mem}{i:Nat}{a b:Int}(h:env[i]?=Zz (Zz (.t (.int a)))):ev call gv (.bin .Add (.var i) (.con (.int b))) env m=.ok (.t (.int (a+b))) m:=aB (aa h) (ae _) (dz _ _)
noncomputable abbrev Rd:=Except Nat (T×Nat)
noncomputable def Ck(e:Nat):Exc:=⟨107,["at"],[.int (e:Int)]⟩
def Back(r:Rd)(m:Mem)(res:Res W):Prop:=match r with
 |.ok p=>res=.ok (.t (.tup [p.1,.int (p.2:Int)])) m
 |.error e=>∃x,res=.exc (Ck e) (m++x)
section
variable{call:Nat->List W->Mem->Res W}{gv:List T}{env:Env}{m m1 m2:Mem}{e a b c:E}{s s' k:S}{x:Exc}
theorem wL{i:Nat}(h:ev call gv e env m=.exc x m1):ex call gv (.asg i e k) env m=.exc x m1:=by rw[ex,h];rfl
theorem j6{a:List Nat}(h:ev call gv e env m=.exc x m1):ex call gv (.le a e k) env m=.exc x m1:=by rw[ex,h];rfl
theorem kG(h:ev call gv e env m=.exc x m1):ex call gv (.ret e k) env m=.exc x m1:=by rw[ex,h];rfl
theorem ee(h:ev call gv e env m=.ok (.t (.bl true)) m1)(a:ex call gv s env m1=.exc x m2):ex call gv (.bZ e s s' k) env m=.exc x m2:=by
 rw[ex,h];show(ex call gv s env m1).bind _=_;rw[a];rfl
theorem gJ{b:Nat}{a:Xe}{t:T}(h:ev call gv e env m=.ok (.t t) m1):ex call gv (.DY b [a] (.cons e .nil) k) env m=.exc ⟨b,[a],[t]⟩ m1:=by
 rw[ex,evs,h,ag,evs,ag,ag,dm,cN,ag,ag,Xg (by simp)];exact Xf rfl
theorem oZ{cc:Prop}[Decidable cc]{bb:S}{kk:Nat}{cell:Bool}{X:Res W}(hX:X=if cc then(ex call gv bb env m).bind λfl m'=>fin kk cell fl m' else .stuck)(hc:cc)(key:ex call gv bb env m=.exc x m1):X=.exc x m1:=by
 rw[hX,Xf hc,key];rfl
theorem yK(h:ev call gv a env m=.exc x m1):ev call gv (.tup (.cons a (.cons b .nil))) env m=.exc x m1:=by rw[ev,evs,h];rfl
theorem yt{y:T}(h:ev call gv a env m=.ok (.t y) m1)(c:ev call gv b env m1=.exc x m2):ev call gv (.tup (.cons a (.cons b .nil))) env m=.exc x m2:=by rw[ev,evs,h,ag,evs,c];rfl
theorem E5{y z:T}(h:ev call gv a env m=.ok (.t y) m1)(e:ev call gv b env m1=.ok (.t z) m2){m3:Mem}(d:ev call gv c env m2=.exc x m3):ev call gv (.tup (.cons a (.cons b (.cons c .nil)))) env m=.exc x m3:=by rw[ev,evs,h,ag,evs,e,ag,evs,d];rfl
end
theorem Back.fn{r:Rd}{m:Mem}{cc:Prop}[Decidable cc]{bb:S}{env:Env}{call:Nat->List W->Mem->Res W}{gv:List T}{X:Res W}(hX:X=if cc then(ex call gv bb env m).bind λfl m'=>fin m.length false fl m' else .stuck)(hc:cc)(key:match r with
   |.ok p=>∃y,ex call gv bb env m=.ok (.ret (.t (.tup [p.1,.int (p.2:Int)]))) (m++y)
   |.error e=>∃y,ex call gv bb env m=.exc (Ck e) (m++y)):Back r m X:=by
 cases r with
 |ok p =>
  obtain⟨y,key⟩:=key;refine aG hX hc key ?_;show Res.ok _ ((m++y).take m.length)=_;rw[WX]
 |error e =>
  obtain⟨y,key⟩:=key;exact⟨y,oZ hX hc key⟩
theorem uG{n:Nat}{m:Mem}{ws:List (List Nat)}{k:Int}{i:Nat}(a:k=(i:Int))(d:(cw ws i).length<=lim)(c:eJ (cw ws i)=false):cf (n+2) 20 [.t (wl ws),.t (.int k)] m=.exc (Ck i) m:=by
 refine oZ (rF _ _ _) rfl (show ex (cf (n+1)) gv eh [Zz (.t (wl ws)),Zz (.t (.int k)),Zy] m=_ from ?_);unfold eh;rw[au ((am (aa rfl) (aa rfl)).trans (bU a))];dsimp only[RD,RE];have b:=lU (n:=n) (m:=m) d;rw[c]at b;subst a;exact ee (bf ((ax (aa rfl)).trans b)) (gJ (aa rfl))
theorem xF{n:Nat}{m:Mem}{ws:List (List Nat)}{k:Int}{i:Nat}(a:k=(i:Int))(d:(cw ws i).length<=lim)(c:dW (cw ws i)=false):cf (n+2) 21 [.t (wl ws),.t (.int k)] m=.exc (Ck i) m:=by
 refine oZ (nz _ _ _) rfl (show ex (cf (n+1)) gv cP [Zz (.t (wl ws)),Zz (.t (.int k)),Zy] m=_ from ?_);unfold cP;rw[au ((am (aa rfl) (aa rfl)).trans (bU a))];dsimp only[RD,RE];have b:=kf (n:=n) (m:=m) d;rw[c]at b;subst a;exact ee (bf ((ax (aa rfl)).trans b)) (gJ (aa rfl))
noncomputable def signOf(w:List Nat):Option (List Nat):=if w==[62,61]then Zz [108,101,97,115,116]else if w==[60,61]then Zz [109,111,115,116]else Zy
theorem Lc(a w:List Nat):decide ((Uv ⟨a.toArray⟩:L2.Key)=.inr ⟨w.toArray⟩)=(w==a):=by
 by_cases h:w=a
 ·subst h;simp
 ·rw[Xj.mpr h]
  refine Xh λz=>h ?_
  have z:=Sum.inr.inj z;have:=congrArg (λs:Xe=>s.cps.toList) z;simpa using this.symm
theorem EC(w:List Nat):cg (Ww (λk=>.inr ⟨k.toArray⟩) [[62,61],[60,61]]) [(.str [108,101,97,115,116]),(.str [109,111,115,116])] (.inr ⟨w.toArray⟩)=(signOf w).map .str:=by
 unfold cg signOf;simp only[R8,T3,TW,Vx,List.find?,Lc];cases w==[62,61]<;>cases w==[60,61]<;>rfl
noncomputable def en(ws:List (List Nat))(i:Nat):Rd:=
 if cw ws i==[97,110,121]then .ok (.tup [.str (cw ws i)],i+1)
 else if cw ws i==[105,115] || cw ws i==[98,121]then(if eJ (cw ws (i+1))then .ok (.tup [.str (cw ws i),.str (cw ws (i+1))],i+2)else .error (i+1))
 else if eJ (cw ws i)then(match signOf (cw ws (i+1))with
  |none=>.error (i+1)
  |some sg=>if dW (cw ws (i+2))then .ok (.tup [.str sg,.str (cw ws i),.int (aN (cw ws (i+2)))],i+3)else .error (i+2))
 else .error i
def Fits(ws:List (List Nat)):Prop:=∀w∈ws,w.length<=lim
theorem Fits.at{ws:List (List Nat)}(h:Fits ws)(i:Nat):(cw ws i).length<=lim:=by
 unfold cw;cases q:ws[i]? with
 |none=>simp[lim]
 |some w=>exact h w (SX q)
theorem m5{n:Nat}{m:Mem}{ws:List (List Nat)}{i:Nat}{b:Int}(hf:Fits ws)(hb:b=(i:Int)):Back (en ws i) m (cf (n+3) 22 [.t (wl ws),.t (.int b)] m):=by
 refine Back.fn (tm _ _ _) rfl (env:=[Zz (.t (wl ws)),Zz (.t (.int b)),Zy,Zy,Zy]) ?_;subst hb;have h0:∀k,ex (cf (n+2)) gv (.asg 2 (.call 19 (.cons (.var 0) (.cons (.var 1) .nil))) k) [Zz (.t (wl ws)),Zz (.t (.int (i:Int))),Zy,Zy,Zy] m=ex (cf (n+2)) gv k [Zz (.t (wl ws)),Zz (.t (.int (i:Int))),Zz (.t (.str (cw ws i))),Zy,Zy] m:=λk=>by
  rw[au ((am (aa rfl) (aa rfl)).trans (bU rfl))];rfl
 have e1:∀e3 e4,ev (cf (n+2)) gv (.cmp .Eq (.var 2) (.con (.str [97,110,121]))) [Zz (.t (wl ws)),Zz (.t (.int (i:Int))),Zz (.t (.str (cw ws i))),e3,e4] m=.ok (.t (.bl (cw ws i==[97,110,121]))) m:=λe3 e4=>ar (aa rfl) (ae _) (jy _ _)
 have e2:∀e3 e4,ev (cf (n+2)) gv (.cmp .In (.var 2) (.tup (.cons (.con (.str [105,115])) (.cons (.con (.str [98,121])) .nil)))) [Zz (.t (wl ws)),Zz (.t (.int (i:Int))),Zz (.t (.str (cw ws i))),e3,e4] m=.ok (.t (.bl (cw ws i==[105,115] || cw ws i==[98,121]))) m:=λe3 e4 =>
  ar (aa rfl) (aV (ae _) (ae _)) (by rw[vh,Ue (a:=cw ws i),Ue (a:=cw ws i)])
 have p1:∀(d:Int) (j:Nat) e2 e3 e4,(i:Int)+d=(j:Int)->ev (cf (n+2)) gv (.bin .Add (.var 1) (.con (.int d))) [Zz (.t (wl ws)),Zz (.t (.int (i:Int))),e2,e3,e4] m=.ok (.t (.int (j:Int))) m:=λd j e2 e3 e4 h=>by rw[cC rfl,h]
 unfold fo;rw[h0];unfold en;cases q1:cw ws i==[97,110,121]with
 |true =>
  rw[Xf rfl];have e1:=e1 Zy Zy;rw[q1]at e1;refine⟨[],?_⟩;rw[RY];exact az e1 (aj (aV (wR (aa rfl)) (p1 1 _ _ _ _ (by omega))))
 |false =>
  rw[Xg (by simp)];have e1:=e1 Zy Zy;rw[q1]at e1;rw[ay e1];have e2:=e2 Zy Zy;cases q2:(cw ws i==[105,115] || cw ws i==[98,121])with
  |true =>
   rw[q2]at e2;rw[Xf rfl];cases q3:eJ (cw ws (i+1))with
   |true =>
    rw[Xf rfl];refine⟨[],?_⟩;rw[RY];exact az e2 (aj (aV (aV (aa rfl) ((am (aa rfl) (p1 1 (i+1) _ _ _ (by omega))).trans (rJ rfl (hf.at _) q3))) (p1 2 _ _ _ _ (by omega))))
   |false =>
    rw[Xg (by simp)];refine⟨[],?_⟩;rw[RY];exact ee e2 (kG (yK (yt (aa rfl) ((am (aa rfl) (p1 1 (i+1) _ _ _ (by omega))).trans (uG rfl (hf.at _) q3)))))
  |false =>
   rw[q2]at e2;rw[Xg (by simp),ay e2];cases q3:eJ (cw ws i)with
   |false =>
    rw[Xg (by simp)];refine⟨[],?_⟩;rw[RY];exact wL ((am (aa rfl) (aa rfl)).trans (uG rfl (hf.at _) q3))
   |true =>
    rw[Xf rfl];rw[au ((am (aa rfl) (aa rfl)).trans (rJ rfl (hf.at _) q3))];dsimp only[RD,RE];rw[au ((am (aa rfl) (p1 1 (i+1) _ _ _ (by omega))).trans (bU rfl))];dsimp only[RD,RE];have hl:=EC (cw ws (i+1));cases q4:signOf (cw ws (i+1))with
    |none =>
     rw[q4]at hl;refine⟨[],?_⟩;rw[RY];exact ee (GF (aa rfl) re (by show((Zz (Uv _)).map _)=_;rw[VQ,hl];rfl)) (gJ (p1 1 (i+1) _ _ _ (by omega)))
    |some sg =>
     rw[q4]at hl;rw[ay (GF (aa rfl) re (by show((Zz (Uv _)).map _)=_;rw[VQ,hl];rfl))];have hg:∀e2 e3,ev (cf (n+2)) gv (.Ng 16 (.var 4)) [Zz (.t (wl ws)),Zz (.t (.int (i:Int))),e2,e3,Zz (.t (.str (cw ws (i+1))))] m=.ok (.t (.str sg)) m:=λe2 e3=>L0 (aa rfl) re hl
     dsimp only;cases q5:dW (cw ws (i+2))with
     |true =>
      rw[Xf rfl];refine⟨[],?_⟩;rw[RY];exact aj (aV (wJ (hg _ _) (aa rfl) ((am (aa rfl) (p1 2 (i+2) _ _ _ (by omega))).trans (vB rfl q5))) (p1 3 _ _ _ _ (by omega)))
     |false =>
      rw[Xg (by simp)];refine⟨[],?_⟩;rw[RY];exact kG (yK (E5 (hg _ _) (aa rfl) ((am (aa rfl) (p1 2 (i+2) _ _ _ (by omega))).trans (xF rfl (hf.at _) q5))))
theorem yo{c:Env->Mem->Res Bool}{f:Env->Mem->Res Flow}{n:Nat}{env env':Env}{m m1 m2:Mem}(b:c env m=.ok true m1)(a:f env m1=.ok (.next env') m2):dk c f (n+1) env m=dk c f n env' m2:=by
 rw[dk,b];show(f env m1).bind _=_;rw[a];rfl
theorem za{c:Env->Mem->Res Bool}{f:Env->Mem->Res Flow}{n:Nat}{env:Env}{m m1:Mem}(a:c env m=.ok false m1):dk c f (n+1) env m=.ok (.next env) m1:=by
 rw[dk,a];rfl
theorem wG{m:Mem}{ts:List T}{t:T}(a:ts.length<lim):Ar .append (.c m.length) [.t t] (m++[Zz (false,ts)])=.ok (.t .non) (m++[Zz (false,ts++[t])]):=by
 have b:(m++[Zz (false,ts)])[m.length]?=Zz (Zz (false,ts)):=by rw[RZ (R1 _),Th];rfl
 unfold Ar;dsimp only;rw[dm,cN,ag,ag,b];unfold oQ;dsimp only;rw[Xf a];dsimp only;rw[UF _ _ (R1 _),Th];rfl
theorem iH{m:Mem}{c:Option (Bool×List T)}:(m++[c])[m.length]?=Zz c:=by rw[RZ (R1 _),Th];rfl
theorem MB{call:Nat->List W->Mem->Res W}{gv:List T}{env:Env}{m:Mem}{i j:Nat}{ts:List T}{t:T}(hi:env[i]?=Zz (Zz (.c m.length)))(b:env[j]?=Zz (Zz (.t t)))(a:ts.length<lim):ev call gv (.eA .append (.var i) (.cons (.var j) .nil)) env (m++[Zz (false,ts)])=.ok (.t .non) (m++[Zz (false,ts++[t])]):=by
 rw[ev,aa hi,ag];rw[show o0 .append (.c m.length) (m++[Zz (false,ts)])=true by unfold o0;dsimp only;rw[iH]];rw[Xf rfl,evs,aa b,ag,evs,ag,ag];exact wG a
theorem eV{call:Nat->List W->Mem->Res W}{gv:List T}{env:Env}{m m1 m2 m3 m4:Mem}{f:Nat}{a b c d:E}{w w1 w2 w3:W}(h1:ev call gv a env m=.ok w m1)(h2:ev call gv b env m1=.ok w1 m2)(h3:ev call gv c env m2=.ok w2 m3)(h4:ev call gv d env m3=.ok w3 m4):ev call gv (.call f (.cons a (.cons b (.cons c (.cons d .nil))))) env m=call f [w,w1,w2,w3] m4:=by
 simp only[ev,evs,h1,h2,h3,h4,ag]
section
variable{N:Nat}{s:List Nat}{rest:List T}{P:T->List (List Nat)->Prop}{I:List Nat->Prop}{wi:Int}
def Reads(N:Nat)(rest:List T)(wi:Int)(P:T->List (List Nat)->Prop)(I:List Nat->Prop):Prop:=
 ∀(m:Mem) (t:T) (pre mid post:List (List Nat)) (b:Int),P t mid->mid.length<900000->I (cw post 0)->b=(pre.length:Int)->cf N 24 [.t (wl (pre++mid++post)),.t (.int b),.t (.int wi),.t (.tup rest)] m=.ok (.t (.tup [t,.int ((pre.length+mid.length:Nat):Int)])) m
theorem jp(s:List Nat)(a:List T):EL (.tup (.str s::a)) (Zz 1) Zy=Zz (.tup a):=by
 show Zz (T.tup (cut (T.str s::a) (Zz 1) Zy))=_;simp only[cut,ug,RN];rw[Xg (by decide),show min (1:Int).toNat (a.length+1)=1 by simp];simp
theorem xE{call:Nat->List W->Mem->Res W}{gv:List T}{env:Env}{m:Mem}{i:Nat}{ts:List T}{a:B}{r:T}(hi:env[i]?=Zz (Zz (.c m.length)))(b:b8 a [.lst ts]=Zz r):ev call gv (.blt a (.cons (.var i) .nil)) env (m++[Zz (false,ts)])=.ok (.t r) (m++[Zz (false,ts)]):=
 Ak (ak (aa hi) aU) (show views [.c m.length] (m++[Zz (false,ts)])=Zz [.lst ts] by unfold views views view;dsimp only;rw[iH];rfl) b
end
noncomputable def JN:List T:=[.str [111,114],.str [97,110,100]]
theorem uy(w a b:List Nat):bn .NotIn (.str w) (.tup [.str a,.str b])=Zz (!(a==w || b==w)):=by
 show(A5 (.str w) (.tup [.str a,.str b])).map (!·)=_;rw[show A5 (.str w) (.tup [.str a,.str b])=Zz (a==w || b==w)from vh w a b];rfl
noncomputable def gr(s:List Nat)(f:Nat->Rd)(ws:List (List Nat)):Nat->List T->Nat->Except Nat (List T×Nat)
 |0,acc,b=>.ok (acc,b)
 |n+1,acc,b=>if cw ws b==s then(match f (b+1)with
  |.error e=>.error e
  |.ok p=>gr s f ws n (acc++[p.1]) p.2)else .ok (acc,b)
noncomputable def Ko(s:List Nat):List T->T
 |[t]=>t
 |acc=>.tup [.str s,.tup acc]
noncomputable def dP(s:List Nat)(f:Nat->Rd)(ws:List (List Nat))(i:Nat):Rd:=match f i with
 |.error e=>.error e
 |.ok p=>match gr s f ws ws.length [p.1] p.2 with
  |.error e=>.error e
  |.ok q=>.ok (Ko s q.1,q.2)
noncomputable def gN:Nat->List (List Nat)->Nat->Rd
 |0,ws,i=>if cw ws i==[110,111,116] || cw ws i==[40]then .error i else en ws i
 |k+1,ws,i=>if cw ws i==[110,111,116] || cw ws i==[40]then
   (if cw ws i==[110,111,116]then(match gN k ws (i+1)with
    |.error e=>.error e
    |.ok p=>.ok (.tup [.str [110,111,116],p.1],p.2))
   else(match dP [111,114] (dP [97,110,100] (gN k ws) ws) ws (i+1)with
    |.error e=>.error e
    |.ok p=>if cw ws p.2==[41]then .ok (p.1,p.2+1)else .error p.2))
  else en ws i
noncomputable abbrev Nn(k:Nat)(ws:List (List Nat)):Nat->Rd:=dP [97,110,100] (gN k ws) ws
noncomputable abbrev L9(k:Nat)(ws:List (List Nat)):Nat->Rd:=dP [111,114] (Nn k ws) ws
def Kw(f:Nat->Rd):Prop:=∀i p,f i=.ok p->i<p.2
theorem u3(ws:List (List Nat)):Kw (en ws):=by
 intro i p h;unfold en at h;split at h
 ·cases h;exact TM _
 ·split at h
  ·split at h
   ·cases h;show i<i+2;omega
   ·cases h
  ·split at h
   ·split at h
    ·cases h
    ·split at h
     ·cases h;show i<i+3;omega
     ·cases h
   ·cases h
theorem Hg{s:List Nat}{f:Nat->Rd}{ws:List (List Nat)}(hf:Kw f):∀(n:Nat) (acc:List T) (b:Nat) (q:List T×Nat),gr s f ws n acc b=.ok q->b<=q.2:=by
 intro n
 induction n with
 |zero=>intro acc b q h;cases h;exact R1 _
 |succ n ih =>
  intro acc b q h;rw[gr]at h;split at h
  ·split at h
   ·cases h
   ·rename_i p hp
    have h1:=hf _ _ hp;have h2:=ih _ _ _ h;omega
  ·cases h;exact R1 _
theorem ro{s:List Nat}{f:Nat->Rd}{ws:List (List Nat)}(hf:Kw f):Kw (dP s f ws):=by
 intro i p h;unfold dP at h;split at h
 ·cases h
 ·rename_i p1 h1
  split at h
  ·cases h
  ·rename_i q h2
   cases h;have:=hf _ _ h1;have:=Hg hf _ _ _ _ h2;omega
theorem Cu(ws:List (List Nat)):∀k,Kw (gN k ws):=by
 intro k
 induction k with
 |zero =>
  intro i p h;rw[gN]at h;split at h
  ·cases h
  ·exact u3 ws i p h
 |succ k ih =>
  intro i p h;rw[gN]at h;split at h
  ·split at h
   ·split at h
    ·cases h
    ·rename_i p1 h1
     cases h;have:=ih _ _ h1;omega
   ·split at h
    ·cases h
    ·rename_i p1 h1
     split at h
     ·cases h
      have:=ro (ro ih) _ _ h1;omega
     ·cases h
  ·exact u3 ws i p h
section
variable{N:Nat}{s:List Nat}{rest:List T}{wi:Int}{ws:List (List Nat)}{f:Nat->Rd}
def RJ(N:Nat)(rest:List T)(wi:Int)(ws:List (List Nat))(f:Nat->Rd):Prop:=
 ∀(m:Mem) (i:Nat) (b:Int),b=(i:Int)->Back (f i) m (cf N 24 [.t (wl ws),.t (.int b),.t (.int wi),.t (.tup rest)] m)
def RO(N:Nat)(wi:Int)(ws:List (List Nat))(f:Nat->Rd):Prop:=
 ∀(m:Mem) (i:Nat) (b:Int),b=(i:Int)->Back (f i) m (cf N 23 [.t (wl ws),.t (.int b),.t (.int wi)] m)
theorem Ix{i:Nat}(h:ws.length<=i):cw ws i=[]:=by simp[cw,Sw h]
theorem Mc(R:RJ (N+1) rest wi ws f)(hf:Kw f)(hs:s≠[]){e1:Option W}{m:Mem}:∀(n fu:Nat) (acc:List T) (t:T) (b:Nat),acc.getLast?=Zz t->ws.length<=n+b->n<fu->acc.length+n<1000000 ->
  match gr s f ws n acc b with
  |.ok q=>∃t',q.1.getLast?=Zz t'/\q.1≠[]/\dk (λenv m=>(ev (cf (N+1)) gv (.cmp .Eq (.call 19 (.cons (.var 0) (.cons (.var 5) .nil))) (.ix (.var 3) (.con (.int 0)))) env m).bind cK) (λenv m=>ex (cf (N+1)) gv bu env m) fu
    [Zz (.t (wl ws)),e1,Zz (.t (.int wi)),Zz (.t (.tup (.str s::rest))),Zz (.t t),Zz (.t (.int (b:Int))),Zz (.c m.length)] (m++[Zz (false,acc)]) =
    .ok (.next [Zz (.t (wl ws)),e1,Zz (.t (.int wi)),Zz (.t (.tup (.str s::rest))),Zz (.t t'),Zz (.t (.int (q.2:Int))),Zz (.c m.length)]) (m++[Zz (false,q.1)])
  |.error e=>∃x,dk (λenv m=>(ev (cf (N+1)) gv (.cmp .Eq (.call 19 (.cons (.var 0) (.cons (.var 5) .nil))) (.ix (.var 3) (.con (.int 0)))) env m).bind cK) (λenv m=>ex (cf (N+1)) gv bu env m) fu
    [Zz (.t (wl ws)),e1,Zz (.t (.int wi)),Zz (.t (.tup (.str s::rest))),Zz (.t t),Zz (.t (.int (b:Int))),Zz (.c m.length)] (m++[Zz (false,acc)])=.exc (Ck e) (m++x):=by
 have cond:∀{b:Nat}{t:T}{ts:List T},(ev (cf (N+1)) gv (.cmp .Eq (.call 19 (.cons (.var 0) (.cons (.var 5) .nil))) (.ix (.var 3) (.con (.int 0)))) [Zz (.t (wl ws)),e1,Zz (.t (.int wi)),Zz (.t (.tup (.str s::rest))),Zz (.t t),Zz (.t (.int (b:Int))),Zz (.c m.length)] (m++[Zz (false,ts)])).bind cK=.ok (cw ws b==s) (m++[Zz (false,ts)]):=λ{b t ts}=>by
  have h0:uN (.tup (.str s::rest)) (.int 0)=Zz (.str s):=at0 _ _;rw[ar ((am (aa rfl) (aa rfl)).trans (bU rfl)) (bi (aa rfl) (ae _) h0) (jy _ _)];rfl
 have ne:∀{acc:List T}{t:T},acc.getLast?=Zz t->acc≠[]:=λ{acc t} h z=>by rw[z]at h;cases h
 intro n
 induction n with
 |zero =>
  intro fu acc t b ht hb hfu hl;obtain⟨fu,rfl⟩:∃g,fu=g+1:=⟨fu-1,by omega⟩
  have hw:(cw ws b==s)=false:=by
   rw[Ix (by omega)];exact Xj.mpr (SR hs)
  have c1:=cond (b:=b) (t:=t) (ts:=acc);rw[hw]at c1;exact⟨t,ht,ne ht,za c1⟩
 |succ n ih =>
  intro fu acc t b ht hb hfu hl;obtain⟨fu,rfl⟩:∃g,fu=g+1:=⟨fu-1,by omega⟩
  rw[gr];have c1:=cond (b:=b) (t:=t) (ts:=acc);cases hw:cw ws b==s with
  |false =>
   rw[hw]at c1;rw[Xg (by simp)];exact⟨t,ht,ne ht,za c1⟩
  |true =>
   rw[hw]at c1;rw[Xf rfl];have hr:=R (m++[Zz (false,acc)]) (b+1) ((b:Int)+1) (by omega);cases hq:f (b+1)with
   |error e =>
    rw[hq]at hr;obtain⟨x,hr⟩:=hr;refine⟨[Zz (false,acc)]++x,?_⟩;rw[dk,c1];show(ex (cf (N+1)) gv bu _ _).bind _=_;rw[show ex (cf (N+1)) gv bu [Zz (.t (wl ws)),e1,Zz (.t (.int wi)),Zz (.t (.tup (.str s::rest))),Zz (.t t),Zz (.t (.int (b:Int))),Zz (.c m.length)] (m++[Zz (false,acc)])=.exc (Ck e) (m++[Zz (false,acc)]++x) by
     unfold bu;exact j6 ((eV (aa rfl) (cC rfl) (aa rfl) (qo (aa rfl) (ae _) (jp s rest))).trans hr)]
    rw[S3];rfl
   |ok p =>
    rw[hq]at hr;have hr:=hr;have hadv:=hf _ _ hq;have hbody:ex (cf (N+1)) gv bu [Zz (.t (wl ws)),e1,Zz (.t (.int wi)),Zz (.t (.tup (.str s::rest))),Zz (.t t),Zz (.t (.int (b:Int))),Zz (.c m.length)] (m++[Zz (false,acc)]) =
      .ok (.next [Zz (.t (wl ws)),e1,Zz (.t (.int wi)),Zz (.t (.tup (.str s::rest))),Zz (.t p.1),Zz (.t (.int (p.2:Int))),Zz (.c m.length)]) (m++[Zz (false,acc++[p.1])]):=by
     unfold bu;rw[jR ((eV (aa rfl) (cC rfl) (aa rfl) (qo (aa rfl) (ae _) (jp s rest))).trans hr)];dsimp only[RD,RE];rw[kL (MB rfl rfl (by unfold lim;omega)),ex]
    have h2:=ih fu (acc++[p.1]) p.1 p.2 (by simp) (by omega) (by omega) (by rw[R7,UD];omega);show match gr s f ws n (acc++[p.1]) p.2 with
     |.ok q=>_
     |.error e=>_
    cases hl2:gr s f ws n (acc++[p.1]) p.2 with
    |ok q =>
     rw[hl2]at h2;obtain⟨t',h3,h4,h5⟩:=h2;exact⟨t',h3,h4,(yo c1 hbody).trans h5⟩
    |error e =>
     rw[hl2]at h2;obtain⟨x,h5⟩:=h2;exact⟨x,(yo c1 hbody).trans h5⟩
theorem ER(R:RJ (N+1) rest wi ws f)(hf:Kw f)(hs:s≠[])(hl:ws.length<900000):RJ (N+2) (.str s::rest) wi ws (dP s f ws):=by
 intro m i b hb;refine Back.fn (kb _ _ _) rfl (env:=[Zz (.t (wl ws)),Zz (.t (.int b)),Zz (.t (.int wi)),Zz (.t (.tup (.str s::rest))),Zy,Zy,Zy]) ?_;have hr:=R m i b hb;have h0:∀k,ex (cf (N+1)) gv (.bZ (.cmp .Eq (.blt .len (.cons (.var 3) .nil)) (.con (.int 0))) (.ret (.call 23 (.cons (.var 0) (.cons (.var 1) (.cons (.var 2) .nil)))) .done) .done k) [Zz (.t (wl ws)),Zz (.t (.int b)),Zz (.t (.int wi)),Zz (.t (.tup (.str s::rest))),Zy,Zy,Zy] m=ex (cf (N+1)) gv k [Zz (.t (wl ws)),Zz (.t (.int b)),Zz (.t (.int wi)),Zz (.t (.tup (.str s::rest))),Zy,Zy,Zy] m:=λk =>
  ay (ar (aC (aa rfl) (BV _)) (ae _) (by rw[gL];simp;omega))
 unfold da;rw[h0];unfold dP;cases hq:f i with
 |error e =>
  rw[hq]at hr;obtain⟨x,hr⟩:=hr;exact⟨x,j6 ((eV (aa rfl) (aa rfl) (aa rfl) (qo (aa rfl) (ae _) (jp s rest))).trans hr)⟩
 |ok p =>
  rw[hq]at hr;have hr:=hr;rw[jR ((eV (aa rfl) (aa rfl) (aa rfl) (qo (aa rfl) (ae _) (jp s rest))).trans hr)];dsimp only[RD,RE];rw[au (show ev (cf (N+1)) gv (.zv (.cons (.var 4) .nil)) _ m=.ok (.c m.length) (m++[Zz (false,[p.1])]) by rw[ev,ak (aa rfl) aU,ag,dm,cN,ag,ag,Xf (by simp[lim])])];dsimp only[RD,RE];have hlp:=Mc (e1:=Zz (.t (.int b))) (m:=m) R hf hs ws.length turns [p.1] p.1 p.2 rfl (by omega) (by unfold turns;omega) (by simp;omega);rw[ex];cases hq2:gr s f ws ws.length [p.1] p.2 with
  |error e =>
   rw[hq2]at hlp;obtain⟨x,hlp⟩:=hlp;exact⟨x,by rw[hlp];rfl⟩
  |ok q =>
   rw[hq2]at hlp;obtain⟨t',h1,h2,hlp⟩:=hlp;refine⟨[Zz (false,q.1)],?_⟩;rw[hlp,ag];have hc:ev (cf (N+1)) gv (.cmp .Eq (.blt .len (.cons (.var 6) .nil)) (.con (.int 1))) [Zz (.t (wl ws)),Zz (.t (.int b)),Zz (.t (.int wi)),Zz (.t (.tup (.str s::rest))),Zz (.t t'),Zz (.t (.int (q.2:Int))),Zz (.c m.length)] (m++[Zz (false,q.1)])=.ok (.t (.bl ((q.1.length:Int)==1))) (m++[Zz (false,q.1)]):=
    ar (xE rfl (ki _)) (ae _) (gL _ _)
   have many:q.1.length≠1->ex (cf (N+1)) gv (.bZ (.cmp .Eq (.blt .len (.cons (.var 6) .nil)) (.con (.int 1))) (.ret (.tup (.cons (.var 4) (.cons (.var 5) .nil))) .done) .done (.ret (.tup (.cons (.tup (.cons (.ix (.var 3) (.con (.int 0))) (.cons (.blt .tuple (.cons (.var 6) .nil)) .nil))) (.cons (.var 5) .nil))) .done)) [Zz (.t (wl ws)),Zz (.t (.int b)),Zz (.t (.int wi)),Zz (.t (.tup (.str s::rest))),Zz (.t t'),Zz (.t (.int (q.2:Int))),Zz (.c m.length)] (m++[Zz (false,q.1)])=.ok (.ret (.t (.tup [.tup [.str s,.tup q.1],.int (q.2:Int)]))) (m++[Zz (false,q.1)]):=λhn=>by
    rw[show((q.1.length:Int)==1)=false from by rw[Xj];omega]at hc;rw[ay hc];have h0:uN (.tup (.str s::rest)) (.int 0)=Zz (.str s):=at0 _ _;exact aj (aV (aV (bi (aa rfl) (ae _) h0) (xE rfl (i6 _))) (aa rfl))
   obtain⟨ac,bb⟩:=q;dsimp only at *
   match ac,h1,h2 with
   |[],h1,h2=>exact Xk rfl h2
   |[x],h1,h2 =>
    cases h1;exact az hc (aj (aV (aa rfl) (aa rfl)))
   |x::y::r,h1,h2=>exact many (by simp)
theorem L3(R:RO N wi ws f):RJ (N+1) [] wi ws f:=by
 intro m i b hb;refine Back.fn (kb _ _ _) rfl ?_;have hr:=R m i b hb;have hc:ev (cf N) gv (.cmp .Eq (.blt .len (.cons (.var 3) .nil)) (.con (.int 0))) [Zz (.t (wl ws)),Zz (.t (.int b)),Zz (.t (.int wi)),Zz (.t (.tup [])),Zy,Zy,Zy] m=.ok (.t (.bl true)) m:=ar (aC (aa rfl) (BV _)) (ae _) rfl;unfold da;cases hq:f i with
 |error e =>
  rw[hq]at hr;obtain⟨x,hr⟩:=hr;exact⟨x,ee hc (kG ((eP (aa rfl) (aa rfl) (aa rfl)).trans hr))⟩
 |ok p =>
  rw[hq]at hr;have hr:=hr;exact⟨[],by rw[RY];exact az hc (aj ((eP (aa rfl) (aa rfl) (aa rfl)).trans hr))⟩
theorem Op(R:RO N wi ws f)(b:Kw f)(a:ws.length<900000):RJ (N+3) JN wi ws (dP [111,114] (dP [97,110,100] f ws) ws):=
 ER (ER (L3 R) b (by simp) a) (ro b) (by simp) a
end
section
variable{ws:List (List Nat)}
theorem Nf(hF:Fits ws)(hl:ws.length<900000):∀(k n:Nat) (wi:Int),0<=wi->wi+k=12->RO (n+4*k+4) wi ws (gN k ws):=by
 intro k
 induction k with
 |zero =>
  intro n wi h0 h1 m i b hb;refine Back.fn (pB _ _ _) rfl (env:=[Zz (.t (wl ws)),Zz (.t (.int b)),Zz (.t (.int wi)),Zy,Zy,Zy]) ?_;have hp:=m5 (n:=n) (m:=m) hF hb;have hc:ev (cf (n+3)) gv (.cmp .NotIn (.var 3) (.tup (.cons (.con (.str [110,111,116])) (.cons (.con (.str [40])) .nil)))) [Zz (.t (wl ws)),Zz (.t (.int b)),Zz (.t (.int wi)),Zz (.t (.str (cw ws i))),Zy,Zy] m=.ok (.t (.bl (!(cw ws i==[110,111,116] || cw ws i==[40])))) m:=
   ar (aa rfl) (aV (ae _) (ae _)) (by rw[uy,Ue (a:=cw ws i),Ue (a:=cw ws i)])
  unfold gp;rw[au ((am (aa rfl) (aa rfl)).trans (bU hb))];dsimp only[RD,RE];rw[gN];cases q:(cw ws i==[110,111,116] || cw ws i==[40])with
  |true =>
   rw[q]at hc;rw[Xf rfl,ay hc];refine⟨[],?_⟩;rw[RY];subst hb;exact ee (ar (aa rfl) (jC jT) (by rw[gL];simp;omega)) (gJ (aa rfl))
  |false =>
   rw[q]at hc;rw[Xg (by simp)];cases hq:en ws i with
   |error e =>
    rw[hq]at hp;obtain⟨x,hp⟩:=hp;exact⟨x,ee hc (kG ((am (aa rfl) (aa rfl)).trans hp))⟩
   |ok p =>
    rw[hq]at hp;have hp:=hp;exact⟨[],by rw[RY];exact az hc (aj ((am (aa rfl) (aa rfl)).trans hp))⟩
 |succ k ih =>
  intro n wi h0 h1 m i b hb;refine Back.fn (pB _ _ _) rfl (env:=[Zz (.t (wl ws)),Zz (.t (.int b)),Zz (.t (.int wi)),Zy,Zy,Zy]) ?_;have hp:=m5 (n:=n+4*(k+1)) (m:=m) hF hb;have hc:ev (cf (n+4*(k+1)+3)) gv (.cmp .NotIn (.var 3) (.tup (.cons (.con (.str [110,111,116])) (.cons (.con (.str [40])) .nil)))) [Zz (.t (wl ws)),Zz (.t (.int b)),Zz (.t (.int wi)),Zz (.t (.str (cw ws i))),Zy,Zy] m=.ok (.t (.bl (!(cw ws i==[110,111,116] || cw ws i==[40])))) m:=
   ar (aa rfl) (aV (ae _) (ae _)) (by rw[uy,Ue (a:=cw ws i),Ue (a:=cw ws i)])
  have hwi:(wi==12)=false:=by rw[Xj];omega
  unfold gp;rw[au ((am (aa rfl) (aa rfl)).trans (bU hb))];dsimp only[RD,RE];rw[gN];cases q:(cw ws i==[110,111,116] || cw ws i==[40])with
  |false =>
   rw[q]at hc;rw[Xg (by simp)];cases hq:en ws i with
   |error e =>
    rw[hq]at hp;obtain⟨x,hp⟩:=hp;exact⟨x,ee hc (kG ((am (aa rfl) (aa rfl)).trans hp))⟩
   |ok p =>
    rw[hq]at hp;have hp:=hp;exact⟨[],by rw[RY];exact az hc (aj ((am (aa rfl) (aa rfl)).trans hp))⟩
  |true =>
   rw[q]at hc;rw[Xf rfl,ay hc];rw[ay (ar (aa rfl) (jC jT) (by rw[gL,hwi]))];have hn:ev (cf (n+4*(k+1)+3)) gv (.cmp .Eq (.var 3) (.con (.str [110,111,116]))) [Zz (.t (wl ws)),Zz (.t (.int b)),Zz (.t (.int wi)),Zz (.t (.str (cw ws i))),Zy,Zy] m=.ok (.t (.bl (cw ws i==[110,111,116]))) m:=ar (aa rfl) (ae _) (jy _ _);cases q2:(cw ws i==[110,111,116])with
   |true =>
    rw[q2]at hn;rw[Xf rfl];have hr:=ih (n+3) (wi+1) (by omega) (by omega) m (i+1) (b+1) (by omega);have e0:n+4*(k+1)+3=n+3+4*k+4:=by omega
    rw[e0]at hn ⊢;cases hq:gN k ws (i+1)with
    |error e =>
     rw[hq]at hr;obtain⟨x,hr⟩:=hr;exact⟨x,ee hn (j6 ((eP (aa rfl) (cC rfl) (cC rfl)).trans hr))⟩
    |ok p =>
     rw[hq]at hr;have hr:=hr;refine⟨[],?_⟩;rw[RY];refine az hn ?_;rw[jR ((eP (aa rfl) (cC rfl) (cC rfl)).trans hr)];dsimp only[RD,RE];exact aj (aV (aV (ae _) (aa rfl)) (aa rfl))
   |false =>
    rw[q2]at hn;rw[Xg (by simp),ay hn];have hr:=Op (ih n (wi+1) (by omega) (by omega)) (Cu ws k) hl m (i+1) (b+1) (by omega);have e0:n+4*(k+1)+3=n+4*k+4+3:=by omega
    rw[e0];cases hq:dP [111,114] (dP [97,110,100] (gN k ws) ws) ws (i+1)with
    |error e =>
     rw[hq]at hr;obtain⟨x,hr⟩:=hr;exact⟨x,j6 ((eV (aa rfl) (cC rfl) (cC rfl) (jC mV)).trans hr)⟩
    |ok p =>
     rw[hq]at hr;have hr:=hr;rw[jR ((eV (aa rfl) (cC rfl) (cC rfl) (jC mV)).trans hr)];dsimp only[RD,RE];have h3:ev (cf (n+4*k+4+3)) gv (.cmp .NotEq (.call 19 (.cons (.var 0) (.cons (.var 5) .nil))) (.con (.str [41]))) [Zz (.t (wl ws)),Zz (.t (.int b)),Zz (.t (.int wi)),Zz (.t (.str (cw ws i))),Zz (.t p.1),Zz (.t (.int (p.2:Int)))] m=.ok (.t (.bl (!(cw ws p.2==[41])))) m:=ar ((am (aa rfl) (aa rfl)).trans (bU rfl)) (ae _) (rk _ _);cases q3:(cw ws p.2==[41])with
     |true =>
      rw[q3]at h3;rw[Xf rfl];refine⟨[],?_⟩;rw[RY,ay h3];refine(aj (aV (aa rfl) (cC rfl))).trans ?_
      congr 6
     |false =>
      rw[q3]at h3;rw[Xg (by simp)];refine⟨[],?_⟩;rw[RY];exact ee h3 (gJ (aa rfl))
end
inductive gt:T->Prop where
 |str {cs:List Nat}:cs.length<=lim->gt (.str cs)
 |int (i:Int):gt (.int i)
 |tup {ts:List T}:(∀t∈ts,gt t)->gt (.tup ts)
theorem gt.one{x:T}(h:gt x):wx x:=by
 cases h with
 |str _=>exact U1
 |int _=>exact U1
 |tup h =>
  intro t ht cs e;have:=h t ht;rw[e]at this;cases this with
  |str h=>exact h
theorem gt.kids{x:T}(h:gt x):∀y∈kids x,gt y:=by
 intro y hy;unfold My.kids at hy;split at hy
 ·rename_i a b
  cases h with
  |tup h =>
   have hb:=h b (by simp);split at hy
   ·simp at hy;subst hy;exact hb
   ·split at hy
    ·cases hb with
     |tup h2=>exact h2 y hy
     |str _=>cases hy
     |int _=>cases hy
    ·cases hy
 ·cases hy
theorem gt.lay:∀(k:Nat) (l:List T),(∀y∈l,gt y)->∀y∈lay k l,gt y
 |0,l,h=>h
 |k+1,l,h=>gt.lay k (l.flatMap My.kids) λy hy=>by
  obtain⟨x,hx,hy⟩:=V9.mp hy;exact(h x hx).kids y hy
def Good(f:Nat->Rd):Prop:=∀i p,f i=.ok p->gt p.1
theorem qO{ws:List (List Nat)}(d:Fits ws):Good (en ws):=by
 intro i p h;have e:∀{a b:T},gt a->gt b->gt (.tup [a,b]):=λg f=>.tup λt c=>by
  simp at c;rcases c with rfl|rfl
  ·exact g
  ·exact f
 unfold en at h;split at h
 ·cases h
  exact .tup λt c=>by simp at c;subst c;exact .str (d.at _)
 ·split at h
  ·split at h
   ·cases h
    exact e (.str (d.at _)) (.str (d.at _))
   ·cases h
  ·split at h
   ·split at h
    ·cases h
    ·rename_i sg hsg
     split at h
     ·cases h
      refine .tup λt c=>?_
      simp at c;rcases c with rfl|rfl|rfl
      ·refine .str ?_
       unfold signOf at hsg;split at hsg
       ·cases hsg;decide
       ·split at hsg
        ·cases hsg;decide
        ·cases hsg
      ·exact .str (d.at _)
      ·exact .int _
     ·cases h
   ·cases h
theorem Ew{s:List Nat}{f:Nat->Rd}{ws:List (List Nat)}(hf:Good f):∀(n:Nat) (acc:List T) (b:Nat) (q:List T×Nat),(∀t∈acc,gt t)->gr s f ws n acc b=.ok q->∀t∈q.1,gt t:=by
 intro n
 induction n with
 |zero=>intro acc b q ha h;cases h;exact ha
 |succ n ih =>
  intro acc b q ha h;rw[gr]at h;split at h
  ·split at h
   ·cases h
   ·rename_i p hp
    refine ih _ _ _ (λt ht=>?_) h;rcases S1.mp ht with ht|ht
    ·exact ha t ht
    ·simp at ht;subst ht;exact hf _ _ hp
  ·cases h;exact ha
theorem fO{s:List Nat}{f:Nat->Rd}{ws:List (List Nat)}(hs:s.length<=lim)(hf:Good f):Good (dP s f ws):=by
 intro i p h;unfold dP at h;split at h
 ·cases h
 ·rename_i p1 h1
  split at h
  ·cases h
  ·rename_i q h2
   cases h;have:=Ew hf _ _ _ _ (λt ht=>by simp at ht;subst ht;exact hf _ _ h1) h2;unfold Ko;split
   ·rename_i t e;exact this t (by rw[e];simp)
   ·refine .tup λt ht=>?_
    simp at ht;rcases ht with rfl|rfl
    ·exact .str hs
    ·exact .tup this
theorem ye{ws:List (List Nat)}(hF:Fits ws):∀k,Good (gN k ws):=by
 intro k
 induction k with
 |zero =>
  intro i p h;rw[gN]at h;split at h
  ·cases h
  ·exact qO hF i p h
 |succ k ih =>
  intro i p h;rw[gN]at h;split at h
  ·split at h
   ·split at h
    ·cases h
    ·rename_i p1 h1
     cases h;refine .tup λt ht=>?_
     simp at ht;rcases ht with rfl|rfl
     ·exact .str (by decide)
     ·exact ih _ _ h1
   ·split at h
    ·cases h
    ·rename_i p1 h1
     split at h
     ·cases h
      exact fO (by decide) (fO (by decide) ih) _ p1 h1
     ·cases h
  ·exact qO hF i p h
noncomputable def kj(ws:List (List Nat)):Except Nat T:=match L9 12 ws 0 with
 |.error e=>.error e
 |.ok p=>if decide (p.2<ws.length) || !cS p.1 then .error p.2 else .ok p.1
theorem split_len(c:Nat):∀cs:List Nat,(ap c cs).length<=cs.length+1/\∀w∈ap c cs,w.length<=cs.length
 |[]=>by rw[ap];simp
 |a::r=>by
  obtain⟨h1,h2⟩:=split_len c r;rw[ap];split
  ·refine⟨by simp;omega,λw hw=>?_⟩
   rcases R6.mp hw with rfl|hw
   ·simp
   ·have:=h2 w hw;simp;omega
  ·split
   ·rename_i x xs e
    rw[e]at h1 h2;refine⟨by simp at h1 ⊢;omega,λw hw=>?_⟩;rcases R6.mp hw with rfl|hw
    ·have:=h2 x (by simp);simp;omega
    ·have:=h2 w (R5 _ hw);simp;omega
   ·exact⟨by simp,λw hw=>by simp at hw;subst hw;simp⟩
def Of(r:Except Nat T)(m:Mem)(res:Res W):Prop:=match r with
 |.ok t=>res=.ok (.t t) m
 |.error e=>∃x,res=.exc (Ck e) (m++x)
theorem pG{n:Nat}{m:Mem}{cs:List Nat}(hc:cs.length<=800000):Of (kj (ap 32 cs)) m (cf (n+56) 25 [.t (.str cs)] m):=by
 obtain⟨hs1,hs2⟩:=split_len 32 cs;generalize hws:ap 32 cs=ws at *;have hF:Fits ws:=λw hw=>by have:=hs2 w hw;unfold lim;omega
 have hl:ws.length<900000:=by omega
 have hr:Back (L9 12 ws 0) m (cf (n+55) 24 [.t (wl ws),.t (.int 0),.t (.int 0),.t (.tup JN)] m):=Op (Nf hF hl 12 n 0 (by omega) (by omega)) (Cu ws 12) hl m 0 0 rfl;have h0:∀k,ex (cf (n+55)) gv (.bZ (.not (.xz (.var 0) .str)) (.DY 107 ["at"] (.cons (.con (.int 0)) .nil) .done) .done (.asg 1 (.eA .split (.var 0) (.cons (.con (.str [32])) .nil)) k)) [Zz (.t (.str cs)),Zy,Zy,Zy] m=ex (cf (n+55)) gv k [Zz (.t (.str cs)),Zz (.t (wl ws)),Zy,Zy] m:=λk=>by
  rw[ay (bf (k:=true) (vq (aa rfl) rfl))];rw[au (show ev (cf (n+55)) gv (.eA .split (.var 0) (.cons (.con (.str [32])) .nil)) [Zz (.t (.str cs)),Zy,Zy,Zy] m=.ok (.t (wl ws)) m by
   rw[ev,aa rfl,ag,show o0 .split (.t (.str cs)) m=true from rfl,Xf rfl,ak (ae _) aU,ag];show cW (if cs.length<=900000 then Zz (.lst ((ap 32 cs).map .str))else Zy) m=_;rw[Xf (by omega),hws];rfl)]
  rfl
 have fin1:∀{x:Exc}{y:Mem},ex (cf (n+55)) gv cr [Zz (.t (.str cs)),Zy,Zy,Zy] m=.exc x (m++y)->cf (n+56) 25 [.t (.str cs)] m=.exc x (m++y):=λkey=>oZ (mX _ _ _) rfl key
 unfold kj;cases hq:L9 12 ws 0 with
 |error e =>
  rw[hq]at hr;obtain⟨x,hr⟩:=hr;refine⟨x,fin1 ?_⟩;unfold cr;rw[h0];exact j6 ((eV (aa rfl) (ae _) (ae _) (jC mV)).trans hr)
 |ok p =>
  rw[hq]at hr;have hr:=hr;have hg:=fO (by decide) (fO (by decide) (ye hF 12)) _ _ hq;have hw:=rj (n:=n+50) (m:=m) (λk y hy=>(gt.lay k [p.1] (λy hy=>by simp at hy;subst hy;exact hg) y hy).one);have h2:∀k,ex (cf (n+55)) gv (.le [2,3] (.call 24 (.cons (.var 1) (.cons (.con (.int 0)) (.cons (.con (.int 0)) (.cons (.gl 17) .nil))))) k) [Zz (.t (.str cs)),Zz (.t (wl ws)),Zy,Zy] m=ex (cf (n+55)) gv k [Zz (.t (.str cs)),Zz (.t (wl ws)),Zz (.t p.1),Zz (.t (.int (p.2:Int)))] m:=λk=>by
   rw[jR ((eV (aa rfl) (ae _) (ae _) (jC mV)).trans hr)];rfl
  have h3:ev (cf (n+55)) gv (.or (.cmp .Lt (.var 3) (.blt .len (.cons (.var 1) .nil))) (.not (.call 15 (.cons (.var 2) .nil)))) [Zz (.t (.str cs)),Zz (.t (wl ws)),Zz (.t p.1),Zz (.t (.int (p.2:Int)))] m=.ok (.t (.bl (decide (p.2<ws.length) || !cS p.1))) m:=by
   have h4:ev (cf (n+55)) gv (.cmp .Lt (.var 3) (.blt .len (.cons (.var 1) .nil))) [Zz (.t (.str cs)),Zz (.t (wl ws)),Zz (.t p.1),Zz (.t (.int (p.2:Int)))] m=.ok (.t (.bl (decide (p.2<ws.length)))) m:=by
    refine(ar (aa rfl) (aC (aa rfl) (ki _)) (ln _ _)).trans ?_;rw[Q4]
    congr 3
    exact decide_eq_decide.mpr (by omega)
   cases q:decide (p.2<ws.length)with
   |true=>rw[q]at h4;exact cH h4
   |false =>
    rw[q]at h4;exact(aW h4).trans (bf ((ax (aa rfl)).trans hw))
  dsimp only;cases q:(decide (p.2<ws.length) || !cS p.1)with
  |true =>
   rw[q]at h3;rw[Xf rfl];refine⟨[],fin1 ?_⟩;rw[RY];unfold cr;rw[h0,h2];exact ee h3 (gJ (aa rfl))
  |false =>
   rw[q]at h3;rw[Xg (by simp)];refine aG (mX _ _ _) rfl (show ex (cf (n+55)) gv cr [Zz (.t (.str cs)),Zy,Zy,Zy] m=.ok (.ret (.t p.1)) m from ?_) (aD rfl);unfold cr;rw[h0,h2,ay h3];exact aj (aa rfl)
inductive on:T->Prop where
 |any:on (.tup [.str [97,110,121]])
 |two {w v:List Nat}:(w=[105,115]∨w=[98,121])->aJ v=true->on (.tup [.str w,.str v])
 |three {w v:List Nat}{k:Int}:(w=[108,101,97,115,116]∨w=[109,111,115,116])->aJ v=true->0<=k->k<=1000000000->on (.tup [.str w,.str v,.int k])
theorem xM{cs:List Nat}(h:aJ cs=true):cs.length<=lim:=by
 unfold aJ at h;simp at h;unfold lim;omega
theorem on.wt{d:Nat}{t:T}(h:on t):WT (d+1) t:=by
 cases h with
 |any=>exact .leaf (by decide) (by rfl) λt c cs e=>by subst e;simp at c;subst c;decide
 |two hw hv =>
  refine .leaf ?_ ?_ λt c cs e=>?_
  ·rcases hw with rfl|rfl<;>simp[dj,oneOf,cx,hv]
  ·rcases hw with rfl|rfl<;>simp[kids,oneOf]
  ·subst e
   simp at c;rcases c with rfl|rfl
   ·rcases hw with rfl|rfl<;>decide
   ·exact xM hv
 |three hw hv h0 h1 =>
  refine .leaf ?_ ?_ λt c cs e=>?_
  ·rcases hw with rfl|rfl<;>simp[dj,oneOf,cx,hv,j9,h0,h1]
  ·rfl
  ·subst e
   simp at c;rcases c with rfl|rfl
   ·rcases hw with rfl|rfl<;>decide
   ·exact xM hv
theorem d0{a:T}{ws:List (List Nat)}(h:oneOf a ws=true):∃cs,a=.str cs/\cs∈ws:=by
 cases a with
 |str cs =>
  obtain⟨w,h1,h2⟩:=Tv.mp (h);exact⟨cs,rfl,by rw[<-eq_of_beq h2];exact h1⟩
 |_=>cases h
theorem Aw{t:T}(h:dj t=true):∃w r,t=.tup (.str w::r)/\w≠[110,111,116]/\w≠[97,110,100]/\w≠[111,114]:=by
 unfold dj at h;split at h
 ·obtain⟨w,rfl,a⟩:=d0 h
  simp at a;subst a;exact⟨_,_,rfl,by decide,by decide,by decide⟩
 ·rw[Q3]at h
  obtain⟨w,rfl,a⟩:=d0 h.1;simp at a;rcases a with rfl|rfl<;>exact⟨_,_,rfl,by decide,by decide,by decide⟩
 ·rw[Q3,Q3]at h
  obtain⟨w,rfl,a⟩:=d0 h.1.1;simp at a;rcases a with rfl|rfl<;>exact⟨_,_,rfl,by decide,by decide,by decide⟩
 ·cases h
theorem kX{call:Nat->List W->Mem->Res W}{gv:List T}{env env':Env}{m m1:Mem}{k:S}{e:E}{a:List Nat}{t:T}(h:ev call gv e env m=.ok (.t t) m1)(b:bK (.tp a) t env=Zz env'):ex call gv (.le a e k) env m=ex call gv k env' m1:=by
 rw[ex,h];show(match bK (.tp a) t env with
  |some env=>ex call gv k env m1
  |none=>.stuck)=_
 rw[b]
theorem on.Ks{t:T}(h:on t):kids t=[]:=by
 cases h with
 |any=>rfl
 |two hw _=>rcases hw with rfl|rfl<;>simp[kids,oneOf]
 |three _ _ _ _=>rfl
theorem yL(m:Nat)(h:0<m):∃c r,UU 10 m=c::r/\c≠'0':=by
 induction m using Nat.strongRecOn with
 |_ m a =>
  by_cases hm:m<10
  ·refine⟨Nat.digitChar m,[],Nat.toDigits_of_lt_base hm,?_⟩
   have:∀k:Nat,k<10->0<k->Nat.digitChar k≠'0':=by decide
   exact this m hm h
  ·obtain⟨c,r,e,b⟩:=a (m / 10) (by omega) (by omega)
   have t:UU 10 (m / 10)++UU 10 (m%10)=UU 10 (10*(m / 10)+m%10):=Nat.toDigits_append_toDigits (by decide) (by omega) (XC m (by decide));rw[Nat.div_add_mod]at t;exact⟨c,r++UU 10 (m%10),by rw[<-t,e];rfl,b⟩
theorem cV{k:Int}(h0:0<=k)(h1:k<10000000000):dW (ft k)=true/\aN (ft k)=k/\32∉ft k/\(ft k).length<=10:=by
 obtain⟨n,rfl⟩:=Int.eq_ofNat_of_zero_le h0;have g:(ft (n:Int)).length<=10:=by
  have:=PySem.W.KT.len_num h0 h1;unfold ft;rw[Rr];exact this
 have e:ft (n:Int)=(UU 10 n).map Char.toNat:=PySem.W.KIN.signs_num n;have hd:∀c∈ft (n:Int),48<=c/\c<=57:=λc b=>by
  rw[e]at b;obtain⟨ch,d,rfl⟩:=Rb.mp b;exact PyProof.Rows.digit_range (Nat.isDigit_of_mem_toDigits (by decide) (by decide) d)
 have f:1<=(ft (n:Int)).length:=by rw[e,Q4];exact PySem.toDigits_len_ge 10 n
 refine⟨?_,?_,λz=>Xk (hd 32 z).1 (by decide),g⟩
 ·unfold dW
  rw[Xi f,Xi g];simp only[S6,Q3,RF];refine⟨λc b=>Xi ?_,?_⟩
  ·have:=hd c b
   obtain⟨i,rfl⟩:∃i,c=48+i:=⟨c-48,by omega⟩
   exact(by decide:∀i<10,48+i∈iP) i (by omega)
  ·by_cases hn:n=0
   ·subst hn
    rw[e];rfl
   ·obtain⟨c,r,e2,b⟩:=yL n (by omega)
    rw[e,e2];simp only[R8,List.head?_cons,Sf];right;rw[bne_iff_ne];intro z;have z:=Ri z;exact b (Char.ext (UInt32.toNat_inj.mp z))
 ·have:=PySem.W.KIN.val_back n
  rw[e];show((PySem.NumText.digitsVal ((UU 10 n).map Char.toNat):Nat):Int)=_;rw[this]
theorem IB{t:T}(h:dj t=true):on t:=by
 unfold dj at h;split at h
 ·rename_i a
  obtain⟨g,rfl,d⟩:=d0 h;simp at d;subst d;exact .any
 ·rename_i a b
  rw[Q3]at h;obtain⟨g,rfl,d⟩:=d0 h.1;cases b with
  |str v=>exact .two (by simpa using d) h.2
  |_=>cases h.2
 ·rename_i a b c
  rw[Q3,Q3]at h;obtain⟨g,rfl,d⟩:=d0 h.1.1;cases b with
  |str v =>
   cases c with
   |int k =>
    have f:(decide (0<=k)&&decide (k<=1000000000))=true:=h.2;rw[Q3]at f;exact .three (by simpa using d) h.1.2 (Xl f.1) (Xl f.2)
   |_=>cases h.2
  |_=>cases h.1.2
 ·cases h
theorem u9{v:List Nat}(h:aJ v=true):eJ v=true/\v.length<=8/\32∉v:=by
 unfold aJ at h;simp only[Q3,decide_eq_true_eq]at h;obtain⟨⟨⟨d,c⟩,b⟩,a⟩:=h;refine⟨by unfold eJ;rw[Xi d,b,a];rfl,c,λz=>?_⟩;have:=Xl (RF.mp a 32 z);revert this;decide
section
variable{call:Nat->List W->Mem->Res W}{gv:List T}{env:Env}{m m1 m2 m3:Mem}{a b c e:E}{x y z:T}{p q r:List Nat}{s k:S}{w:W}
theorem wV(h:ev call gv e env m=.ok (.t (.str p)) m)(a:(p==q)=false):ex call gv (.bZ (.cmp .Eq e (.con (.str q))) s .done k) env m=ex call gv k env m:=ay (ar h (ae _) (by rw[jy,a]))
theorem ML(h:ev call gv e env m=.ok (.t (.str p)) m)(b:(p==q)=true)(a:ex call gv s env m=.ok (.ret w) m2):ex call gv (.bZ (.cmp .Eq e (.con (.str q))) s .done k) env m=.ok (.ret w) m2:=az (ar h (ae _) (by rw[jy,b])) a
theorem FO(h:ev call gv e env m=.ok (.t (.str p)) m)(a:(q==p || r==p)=false):ex call gv (.bZ (.cmp .In e (.tup (.cons (.con (.str q)) (.cons (.con (.str r)) .nil)))) s .done k) env m=ex call gv k env m:=ay (ar h (aV (ae _) (ae _)) (by rw[vh,a]))
theorem OX(h:ev call gv e env m=.ok (.t (.str p)) m)(b:(q==p || r==p)=true)(a:ex call gv s env m=.ok (.ret w) m2):ex call gv (.bZ (.cmp .In e (.tup (.cons (.con (.str q)) (.cons (.con (.str r)) .nil)))) s .done k) env m=.ok (.ret w) m2:=az (ar h (aV (ae _) (ae _)) (by rw[vh,b])) a
theorem Ao{ts:List T}(h:ev call gv e env m=.ok (.t (.tup (x::y::ts))) m):ev call gv (.ix e (.con (.int 1))) env m=.ok (.t y) m:=bi h (ae _) (at1 _ _ _)
theorem fZ{ts:List T}(h:ev call gv e env m=.ok (.t (.tup (.str p::ts))) m):ev call gv (.ix e (.con (.int 0))) env m=.ok (.t (.str p)) m:=bi h (ae _) (at0 _ _)
end
theorem AB(h:List Nat)(ws:List (List Nat)):bn .In (.str h) (.tup (ws.map .str))=Zz (ws.any λa=>a==h)/\bn .In (.str h) (.lst (ws.map .str))=Zz (ws.any λa=>a==h):=by
 have b:(ws.map T.str).all flat=true:=by simp[flat]
 have e:((ws.map T.str).any λt=>eqT t (.str h))=ws.any λa=>a==h:=by
  clear b
  induction ws with
  |nil=>rfl
  |cons w ws d=>simp[eqT]at d ⊢;rw[d]
 have h1:lX (.str h) (.tup (ws.map .str))=Zz (ws.any λa=>a==h):=by
  unfold lX;dsimp only;rw[b,e];rfl
 have h2:lX (.str h) (.lst (ws.map .str))=Zz (ws.any λa=>a==h):=by
  unfold lX;dsimp only;rw[b,e];rfl
 constructor
 ·rw[<-h1]
  match h with
  |[]=>rfl
  |[c]=>rfl
  |c::c'::r=>rfl
 ·rw[<-h2]
  match h with
  |[]=>rfl
  |[c]=>rfl
  |c::c'::r=>rfl
theorem Tx.cons{d:Nat}{t:T}(h:WT d t):∃w r,t=.tup (.str w::r):=by
 cases h with
 |leaf h _ _=>obtain⟨w,r,e,_⟩:=Aw h;exact⟨w,r,e⟩
 |nt _=>exact⟨_,_,rfl⟩
 |jn _ _ _ _=>exact⟨_,_,rfl⟩
theorem E0{f g:T->Nat}:∀{ts:List T},(∀t∈ts,f t<=g t)->(ts.map f).sum<=(ts.map g).sum
 |[],_=>R1 _
 |t::ts,h=>by
  rw[R8,R8,Tp,Tp];exact Nat.add_le_add (h t RU) (E0 λx a=>h x (R5 _ a))
theorem F8{f:T->Nat}:∀{ts:List T}{t:T},t∈ts->f t<=(ts.map f).sum
 |x::ts,t,h=>by
  rw[R8,Tp];rcases R6.mp h with rfl|h
  ·omega
  ·have:=F8 (f:=f) h
   omega
theorem CZ(f:T->Nat)(k c:Nat):∀ts:List T,(ts.map λt=>k*f t+c).sum=k*(ts.map f).sum+c*ts.length
 |[]=>by simp
 |t::ts=>by
  rw[R8,R8,Tp,Tp,CZ f k c ts,RN,X6,X6];omega
theorem ir(sep:List Nat):∀ys:List (List Nat),(aM sep ys).length<=(ys.map Rg).sum+ys.length*sep.length
 |[]=>by simp[aM]
 |[x]=>by simp[aM]
 |x::y::r=>by
  have ih:=ir sep (y::r);show(x++sep++aM sep (y::r)).length<=_;rw[R7,R7,R8,Tp,RN,Nat.add_mul];omega
theorem Cv{call:Nat->List W->Mem->Res W}{gv:List T}{env:Env}{m m1 m2:Mem}{a b:E}{sep:List Nat}{ys:List (List Nat)}(f:ev call gv a env m=.ok (.t (.str sep)) m1)(e:ev call gv b env m1=.ok (.t (.lst (ys.map .str))) m2)(c:(ys.map Rg).sum+ys.length*sep.length<=lim):ev call gv (.eA .join a (.cons b .nil)) env m=.ok (.t (.str (aM sep ys))) m2:=by
 rw[ev,f,ag,Gu,Xf rfl,ak e aU,ag];have d:cu (ys.map T.str)=Zz ys:=by
  have:=strs_map (λx:List Nat=>x) ys;simpa using this
 exact Gh d c
theorem GQ:∀(n:Nat) (t:T),aw n t=true->eqT t t=true:=by
 intro n
 induction n with
 |zero =>
  intro t h;cases t with
  |non=>rfl
  |bl b=>simp[eqT]
  |int b=>simp[eqT]
  |str b=>simp[eqT]
  |tup a=>simp[aw]at h
  |lst a=>simp[aw]at h
  |dct ks a=>simp[aw]at h
  |dG ns=>simp[aw]at h
 |succ n ih =>
  have hl:∀a:List T,aL n a=true->o6 a a=true:=by
   intro a
   induction a with
   |nil=>intro _;rfl
   |cons t a iht =>
    intro h;rw[aL,Q3]at h;rw[o6,ih t h.1,iht h.2];rfl
  intro t h;cases t with
  |tup a=>rw[aw]at h;rw[eqT];exact hl a h
  |lst a=>rw[aw]at h;rw[eqT];exact hl a h
  |non=>rfl
  |bl b=>simp[eqT]
  |int b=>simp[eqT]
  |str b=>simp[eqT]
  |dct ks a=>simp[aw]at h
  |dG ns=>simp[aw]at h
theorem BX{t:T}(h:aw 60 t=true):bn .NotEq t t=Zz false:=by
 show(if(lz t t || (aw 60 t&&aw 60 t))=true then Zz (!eqT t t)else Zy)=_;rw[h,S6,V2,Xf rfl,GQ 60 t h];rfl
theorem iN{k:Nat}{w:List Nat}(h:aJ w=true):aw k (.str w)=true:=by
 unfold aw;show(w.toArray.all λc=>decide (c<0x110000))=true;rw[List.all_toArray,RF];intro c e;have:c<200:=by
  unfold aJ at h;simp only[Q3]at h;exact(by decide:∀c∈gu,c<200) c (Xl (RF.mp h.2 c e))
 exact Xi (by omega)
theorem cY{k:Nat}:∀{ts:List T},(∀t∈ts,aw k t=true)->aL k ts=true
 |[],_=>by unfold aL;rfl
 |t::ts,h=>by
  unfold aL;rw[h t RU,cY λu a=>h u (R5 _ a)];rfl
theorem iJ{k:Nat}{w:List Nat}(h:∀c∈w,c<1114112):aw k (.str w)=true:=by
 unfold aw;show(w.toArray.all λc=>decide (c<0x110000))=true;rw[List.all_toArray,RF];exact λc a=>Xi (h c a)
mutual
noncomputable def fits:T->Bool
 |.str cs=>decide (cs.length<=lim)
 |.tup ts=>eY ts
 |_=>true
noncomputable def eY:List T->Bool
 |[]=>true
 |t::ts=>fits t&&eY ts
end
theorem bQ:∀{ts:List T}{t:T},eY ts=true->t∈ts->fits t=true
 |a::ts,t,h,c=>by
  rw[eY,Q3]at h;rcases R6.mp c with rfl|c
  ·exact h.1
  ·exact bQ h.2 c
theorem ml:∀{ts:List T},(∀t∈ts,fits t=true)->eY ts=true
 |[],_=>by rw[eY]
 |a::ts,h=>by
  rw[eY,h a RU,ml λt b=>h t (R5 _ b)];rfl
theorem qP{t:T}(h:fits t=true):LF t:=by
 rintro a rfl;rw[fits]at h;exact Xl h
theorem K9{t:T}(h:fits t=true):wx t:=by
 cases t with
 |tup c=>rw[fits]at h;exact λu b=>qP (bQ h b)
 |_=>exact U1
theorem C5{x:T}(h:fits x=true):∀y∈kids x,fits y=true:=by
 intro y hy;unfold kids at hy;split at hy
 ·rename_i a b
  rw[fits,eY,eY,eY,Q3,Q3]at h;split at hy
  ·rw[Rp]at hy;subst hy;exact h.2.1
  ·split at hy
   ·cases b with
    |tup e=>exact bQ (by have:=h.2.1;rw[fits]at this;exact this) hy
    |_=>cases hy
   ·cases hy
 ·cases hy
theorem yO:∀(k:Nat) (l:List T),(∀t∈l,fits t=true)->∀y∈lay k l,fits y=true
 |0,l,h=>h
 |k+1,l,h=>yO k _ λt b=>by
  obtain⟨x,a,c⟩:=V9.mp b;exact C5 (h x a) t c
theorem Ht{x:T}(h:fits x=true):Qp x:=λk y b=>K9 (yO k [x] (λt a=>by rw[Rp]at a;subst a;exact h) y b)
section
variable{call:Nat->List W->Mem->Res W}{gv:List T}{env:Env}{m m1 m2:Mem}{a b e:E}{x y r:T}{w:W}{f:Nat}{bb:B}
theorem qb(e:ev call gv a env m=.ok (.t x) m1)(d:ev call gv b env m1=.ok (.t y) m2)(c:b8 bb [x,y]=Zz r):ev call gv (.blt bb (.cons a (.cons b .nil))) env m=.ok (.t r) m2:=by
 simp only[ev,evs,e,d,ag,BZ,CD,VQ,Rw,c];rfl
end
noncomputable def bO:List (List Nat)->Bool
 |a::b::r=>cO a b&&bO (b::r)
 |_=>true
theorem xP:∀ws:List (List Nat),((S4 (ws.length-1)).map λk=>cO (ws.getD k []) (ws.getD (k+1) [])).all id=bO ws
 |[]=>rfl
 |[a]=>rfl
 |a::b::r=>by
  have ih:=xP (b::r);have e:(a::b::r).length-1=((b::r).length-1)+1:=by simp
  rw[e,List.range_succ_eq_map,R8,Ro,SJ,bO,<-ih];rfl
theorem jO{ws:List (List Nat)}{k:Nat}(h:k<ws.length):atT (ws.map T.str) (k:Int)=Zz (.str (ws.getD k [])):=by
 rw[HP (by omega) (by rw[Q4];omega)];simp[h]
theorem L6{i j:Int}(h:(i<2^62/\-(2^62)<=i)/\j<2^62/\-(2^62)<=j):b8 .jM [.int i,.int j]=Zz (.lst (rangeT i (j-i).toNat)):=Xf h
theorem Em(ws:List (List Nat))(l:List Nat):(l.map λk:Nat=>T.int (1+(k:Int))).flatMap (λt=>match t with|.int i=>[T.bl (cO (ws.getD (i.toNat-1) []) (ws.getD i.toNat []))]|_=>[])=l.map λk=>.bl (cO (ws.getD k []) (ws.getD (k+1) [])):=by
 induction l with
 |nil=>rfl
 |cons k l c =>
  rw[R8,UH,c,R8];have d:(1+(k:Int)).toNat=k+1:=by omega
  simp[d]
theorem DD{n:Nat}{m:Mem}{x:T}{ws:List (List Nat)}(a:∀k:Nat,k<ws.length->uN x (.int (k:Int))=Zz (.str (ws.getD k []))){k:Nat}(f:k+1<ws.length):
  bA (cf n) gv .nil nV [Zz (.t (.int (1+(k:Int)))),Zz (.t x)] m=.ok [.bl (cO (ws.getD k []) (ws.getD (k+1) []))] m:=by
 have e:(1+(k:Int))-1=((k:Nat):Int):=by omega
 have d:(1+(k:Int))=((k+1:Nat):Int):=by omega
 have c:=a k (by omega);have b:=a (k+1) (by omega);rw[<-e]at c;rw[<-d]at b;simp[bA,tests,nV,ev,evs,cJ,aA,dB,c,b,bn,nI,Kx,KO,A5]
theorem FP{n:Nat}{m:Mem}{x:T}{k:Nat}(a:b8 .len [x]=Zz (.int (k:Int)))(f:k<=1000):ev (cf n) gv (.blt .jM (.cons (.con (.int 1)) (.cons (.blt .len (.cons (.var 0) .nil)) .nil))) [Zz (.t x)] m=.ok (.t (.lst (rangeT 1 ((k:Int)-1).toNat))) m:=by
 have c:(k:Int)<2^62:=by
  have:(1000:Int)<2^62:=by decide
  omega
 have b:-(2^62)<=(k:Int):=by omega
 have e:b8 .jM [.int 1,.int (k:Int)]=Zz (.lst (rangeT 1 ((k:Int)-1).toNat)):=L6 ⟨⟨by decide,by decide⟩,c,b⟩;have d:ev (cf n) gv (.blt .len (.cons (.var 0) .nil)) [Zz (.t x)] m=.ok (.t (.int k)) m:=aC (by rw[ev];rfl) a;exact qb (by rw[ev]) d e
theorem Di{n:Nat}{m:Mem}{x:T}{ws:List (List Nat)}(b:∀k:Nat,k<ws.length->uN x (.int (k:Int))=Zz (.str (ws.getD k [])))(a:b8 .len [x]=Zz (.int ws.length))(l:ws.length<=1000):
  ev (cf n) gv zl [Zz (.t x)] m=.ok (.t (.lst ((S4 (ws.length-1)).map λk=>.bl (cO (ws.getD k []) (ws.getD (k+1) []))))) m:=by
 have h:=bV (f:=bA (cf n) gv .nil nV) (tg:=.nm 0) (env:=[Zy,Zz (.t x)]) (m:=m)
  (g:=λt=>match t with|.int i=>[.bl (cO (ws.getD (i.toNat-1) []) (ws.getD i.toNat []))]|_=>[]) (rangeT 1 ((ws.length:Int)-1).toNat) (λt c=>by
   unfold rangeT at c;obtain⟨k,d,rfl⟩:=Rb.mp c;have d:=Ve.mp d;refine⟨[Zz (.t (.int (1+(k:Int)))),Zz (.t x)],rfl,?_⟩;have o:(1+(k:Int)).toNat=k+1:=by omega
   simp only[o,Nat.add_sub_cancel];exact DD b (by omega))
 have e:(rangeT 1 ((ws.length:Int)-1).toNat).flatMap (λt=>match t with|.int i=>[T.bl (cO (ws.getD (i.toNat-1) []) (ws.getD i.toNat []))]|_=>[])=(S4 (ws.length-1)).map λk=>.bl (cO (ws.getD k []) (ws.getD (k+1) [])):=by
  rw[<-Em];unfold rangeT;rw[show((ws.length:Int)-1).toNat=ws.length-1 by omega]
 rw[e]at h;have j:((S4 (ws.length-1)).map λk=>T.bl (cO (ws.getD k []) (ws.getD (k+1) []))).length<=lim:=by
  rw[Q4,Tf];unfold lim;omega
 exact aZ (FP a l) rfl h j
theorem CM{n:Nat}{m:Mem}{x:T}{ws:List (List Nat)}(d:x=.tup (ws.map .str)∨x=.lst (ws.map .str))(g:ws.length<=1000):cf (n+1) 5 [.t x] m=.ok (.t (.bl (bO ws))) m:=by
 have c:∀k:Nat,k<ws.length->uN x (.int (k:Int))=Zz (.str (ws.getD k [])):=λk e=>by
  rcases d with rfl|rfl
  ·rw[KA,jO e]
  ·rw[KG,jO e]
 have a:b8 .len [x]=Zz (.int ws.length):=by
  rcases d with rfl|rfl
  ·rw[BV,Q4]
  ·rw[ki,Q4]
 have h:=Di (n:=n) (m:=m) c a g;have f:=vg (d4 (λk=>cO (ws.getD k []) (ws.getD (k+1) [])) (S4 (ws.length-1)));rw[xP]at f;have b:ex (cf n) gv qI [Zz (.t x)] m=.ok (.ret (.t (.bl (bO ws)))) m:=by
  unfold qI;exact aj (aC h f)
 exact aG (Jb _ _ _) rfl b (aD rfl)
noncomputable def xW:T->List Nat
 |.str c=>c
 |_=>[]
theorem oR:∀{ts:List T},ts.all cx=true->ts=(ts.map xW).map .str
 |[],_=>rfl
 |t::ts,h=>by
  rw[Ro,Q3]at h;rw[R8,R8,<-oR h.2];cases t with
  |str c=>rfl
  |_=>cases h.1
noncomputable def jj:T->Bool
 |.tup ts=>decide (ts.length<=6)&&(ts.all cx&&bO (ts.map xW))
 |_=>false
theorem G2{n:Nat}{m:Mem}{x:T}(h:fits x=true):cf (n+3) 6 [.t x] m=.ok (.t (.bl (jj x))) m:=by
 have d:ex (cf (n+2)) gv eM [Zz (.t x)] m=.ok (.ret (.t (.bl (jj x)))) m:=by
  unfold eM;cases x with
  |tup a =>
   by_cases hl:a.length<=6
   ·have b:¬(6:Int)<a.length:=by omega
    rw[ay (m1:=m) (by simp[ev,evs,cJ,aA,dB,lx,b])];have e:ev (cf (n+2)) gv lp [Zz (.t (.tup a))] m=.ok (.t (.lst (a.map λt=>.bl (cx t)))) m:=by
     have i:=bV (f:=bA (cf (n+2)) gv .nil il) (tg:=.nm 0) (env:=[Zy]) (m:=m) (g:=λt=>[.bl (cx t)]) a (λt ht=>⟨[Zz (.t t)],rfl,by
      rw[fits]at h;simp[bA,tests,il,ev,evs,cJ,aA,dB,dX (qP (bQ h ht))]⟩)
     rw[bD]at i;exact aZ (x:=.t (.tup a)) rfl rfl i (by rw[Q4];unfold lim;omega)
    have c:=vg (d4 cx a);have hb:(a.map cx).all id=a.all cx:=by rw[T4];rfl
    rw[hb]at c;refine aj ?_;cases hw:a.all cx with
    |false =>
     rw[hw]at c;simp only[jj,hw];simp[ev,evs,cJ,aA,dB,e,c]
    |true =>
     rw[hw]at c;have hr:=CM (n:=n+1) (m:=m) (.inl (congrArg T.tup (oR hw))) (by rw[Q4];omega);simp only[jj,hw,Xi hl];simp[ev,evs,cJ,aA,dB,e,c,hr]
   ·have b:(6:Int)<a.length:=by omega
    refine az (m1:=m) (by simp[ev,evs,cJ,aA,dB,lx,b]) (aj ?_);simp only[jj,Xh hl];simp[ev,evs,cJ,aA,dB]
  |_=>exact az rfl (aj rfl)
 exact aG (wM _ _ _) rfl d (aD rfl)
noncomputable def ff:T->Bool
 |.tup [a,b]=>cx a&&j9 b
 |_=>false
theorem Jl{n:Nat}{m:Mem}{x:T}(h:fits x=true):cf (n+3) 7 [.t x] m=.ok (.t (.bl (ff x))) m:=by
 have d:ex (cf (n+2)) gv iM [Zz (.t x)] m=.ok (.ret (.t (.bl (ff x)))) m:=by
  unfold iM;refine aj ?_;cases x with
  |tup f =>
   match f,h with
   |[],_=>rfl
   |[a],_=>rfl
   |[a,b],h =>
    rw[fits]at h;have g:=dX (n:=n) (m:=m) (x:=a) (qP (bQ h (by simp)));have i:=fL (n:=n) (m:=m) (x:=b);cases hwa:cx a<;>simp[ev,evs,cJ,aA,dB,at0,at1,g,i,hwa,ff]
   |a::b::c::r,_ =>
    have j:¬(r.length:Int)+1+1+1=2:=by omega
    simp[ev,evs,cJ,aA,dB,ff,j]
  |_=>rfl
 exact aG (Ba _ _ _) rfl d (aD rfl)
noncomputable def wH:T->T
 |.tup (a::_)=>a
 |_=>.non
theorem yU{t:T}(h:ff t=true):∃a b,t=.tup [a,b]/\cx a=true:=by
 unfold ff at h;split at h
 ·rw[Q3]at h
  exact⟨_,_,rfl,h.1⟩
 ·cases h
noncomputable def kg:T->Bool
 |.tup ts=>decide (ts.length<=6)&&(ts.all ff&&bO ((ts.map wH).map xW))
 |_=>false
theorem Fz{n:Nat}{m:Mem}{x:T}(h:fits x=true):cf (n+4) 8 [.t x] m=.ok (.t (.bl (kg x))) m:=by
 have k:ex (cf (n+3)) gv eD [Zz (.t x)] m=.ok (.ret (.t (.bl (kg x)))) m:=by
  unfold eD;cases x with
  |tup c =>
   rw[fits]at h;by_cases hl:c.length<=6
   ·have e:¬(6:Int)<c.length:=by omega
    rw[ay (m1:=m) (by simp[ev,evs,cJ,aA,dB,lH,e])];have hc:ev (cf (n+3)) gv lv [Zz (.t (.tup c))] m=.ok (.t (.lst (c.map λt=>.bl (ff t)))) m:=by
     have j:=bV (f:=bA (cf (n+3)) gv .nil ia) (tg:=.nm 0) (env:=[Zy]) (m:=m) (g:=λt=>[.bl (ff t)]) c (λt d=>⟨[Zz (.t t)],rfl,by
      simp[bA,tests,ia,ev,evs,cJ,aA,dB,Jl (bQ h d)]⟩)
     rw[bD]at j;exact aZ (x:=.t (.tup c)) rfl rfl j (by rw[Q4];unfold lim;omega)
    have i:=vg (d4 ff c);have hb:(c.map ff).all id=c.all ff:=by rw[T4];rfl
    rw[hb]at i;refine aj ?_;cases hw:c.all ff with
    |false =>
     rw[hw]at i;simp only[kg,hw];simp[ev,evs,cJ,aA,dB,hc,i]
    |true =>
     rw[hw]at i;have p:=λt d=>RF.mp hw t d
     have hf:ev (cf (n+3)) gv lC [Zz (.t (.tup c))] m=.ok (.t (.lst (c.map wH))) m:=by
      have j:=bV (f:=bA (cf (n+3)) gv .nil im) (tg:=.nm 0) (env:=[Zy]) (m:=m) (g:=λt=>[wH t]) c (λt d=>⟨[Zz (.t t)],rfl,by
       obtain⟨a,b,rfl,_⟩:=yU (p t d);simp[bA,tests,im,ev,evs,cJ,aA,dB,at0,wH]⟩)
      rw[bD]at j;exact aZ (x:=.t (.tup c)) rfl rfl j (by rw[Q4];unfold lim;omega)
     have o:(c.map wH).all cx=true:=RF.mpr λt d=>by
      obtain⟨u,hu,rfl⟩:=Rb.mp d;obtain⟨a,b,rfl,l⟩:=yU (p u hu);exact l
     have hr:=CM (n:=n+2) (m:=m) (x:=.lst (c.map wH)) (ws:=(c.map wH).map xW) (.inr (congrArg T.lst (oR o))) (by rw[Q4,Q4];omega);simp only[kg,hw,Xi hl,S6];rw[fz (aC hc i),ax hf];exact hr
   ·have e:(6:Int)<c.length:=by omega
    refine az (m1:=m) (by simp[ev,evs,cJ,aA,dB,lH,e]) (aj ?_);simp only[kg,Xh hl];simp[ev,evs,cJ,aA,dB]
  |_=>exact az (m1:=m) rfl (aj rfl)
 exact aG (wK _ _ _) rfl k (aD (cell:=false) rfl)
noncomputable def pF:T->Bool
 |.tup [a,b,c,d]=>cx a&&(cx b&&(jj c&&kg d))
 |_=>false
theorem Qo{α:Type}(a b c d:α)(r:List α):atT (a::b::c::d::r) 3=Zz d:=by
 have:(3:Int)<(r.length:Int)+1+1+1+1:=by omega
 simp[atT,iW,this]
theorem FS{ts:List T}(h:¬ts.length=4):pF (.tup ts)=false:=by
 unfold pF;split
 ·rename_i e;cases e;exact Xk rfl h
 ·rfl
theorem zD{n:Nat}{m:Mem}{x:T}(h:fits x=true):cf (n+5) 9 [.t x] m=.ok (.t (.bl (pF x))) m:=by
 have f:ex (cf (n+4)) gv iS [Zz (.t x)] m=.ok (.ret (.t (.bl (pF x)))) m:=by
  unfold iS;cases x with
  |tup e =>
   by_cases hl:e.length=4
   ·match e,hl,h with
    |[a,b,c,d],_,h =>
     rw[fits]at h;have o:=dX (n:=n+2) (m:=m) (x:=a) (qP (bQ h (by simp)));have l:=dX (n:=n+2) (m:=m) (x:=b) (qP (bQ h (by simp)));have k:=G2 (n:=n+1) (m:=m) (x:=c) (bQ h (by simp));have j:=Fz (n:=n) (m:=m) (x:=d) (bQ h (by simp));rw[ay rfl];refine aj ?_;cases hwa:cx a<;>cases hwb:cx b<;>cases hmc:jj c<;>simp[ev,evs,cJ,aA,dB,at0,at1,at2,Qo,o,l,k,j,hwa,hwb,hmc,pF]
   ·have g:¬(e.length:Int)=4:=by omega
    exact az (m1:=m) (by simp[ev,evs,cJ,aA,dB,g]) (aj (by simp[ev,evs,cJ,aA,dB,FS hl]))
  |_=>exact az rfl (aj rfl)
 exact aG (AA _ _ _) rfl f (aD rfl)
theorem Bf{n:Nat}{m:Mem}{x:T}:cf (n+3) 4 [.t x] m=.ok (.t (.bl (j9 x))) m:=by
 rw[zQ];simp[kH,ex,ev,evs,Res.bind,fL,fin]
noncomputable def jG(x:T)(lo hi:Int):Bool:=match x with
 |.int i=>decide (lo<=i)&&decide (i<=hi)
 |_=>false
theorem AL{n:Nat}{m:Mem}{x:T}{lo hi:Int}:cf (n+2) 16 [.t x,.t (.int lo),.t (.int hi)] m=.ok (.t (.bl (jG x lo hi))) m:=by
 rw[sV];cases x with
 |int i=>by_cases h:lo<=i<;>simp[dM,ex,ev,evs,Res.bind,view,cW,cJ,jE,fin,g9,bn,nI,Kx,KO,A5,jG,h]
 |_=>simp[dM,ex,ev,evs,Res.bind,view,cW,cJ,jE,fin,g9,jG]
noncomputable def sides:List (List Nat):=[[103,105,118,101],[116,97,107,101],[98,101,97,114]]
noncomputable def oI(x y:T):Bool:=match y with
 |.int k=>jG x 1 k
 |_=>false
noncomputable def bz:T->Bool
 |.tup [a,b,c,d,e,f,g]=>oneOf a sides&&(pF b&&(cS c&&(jG d 1 1000000&&(oI e d&&(jG f 0 1000&&j9 g)))))
 |_=>false
theorem D7{ts:List T}(h:¬ts.length=7):bz (.tup ts)=false:=by
 unfold bz;split
 ·rename_i e;cases e;exact Xk rfl h
 ·rfl
theorem Du{n:Nat}{m:Mem}{x:T}:cf (n+1) 10 [.t x,.t (.tup [.str [103,105,118,101],.str [116,97,107,101],.str [98,101,97,114]])] m=.ok (.t (.bl (oneOf x sides))) m:=ph (ws:=sides)
theorem xY{n:Nat}{m:Mem}{x:T}(h:fits x=true):cf (n+6) 17 [.t x] m=.ok (.t (.bl (bz x))) m:=by
 have key:ex (cf (n+5)) gv fS [Zz (.t x),Zy,Zy,Zy,Zy,Zy,Zy,Zy] m=.ok (.ret (.t (.bl (bz x)))) m:=by
  unfold fS;cases x with
  |tup ts =>
   by_cases hl:ts.length=7
   ·match ts,hl,h with
    |[a,b,c,d,e,f,g],_,h =>
     rw[fits]at h;rw[ay rfl];rw[kX (env':=[Zz (.t (.tup [a,b,c,d,e,f,g])),Zz (.t a),Zz (.t b),Zz (.t c),Zz (.t d),Zz (.t e),Zz (.t f),Zz (.t g)]) rfl rfl];generalize hE:([Zz (.t (.tup [a,b,c,d,e,f,g])),Zz (.t a),Zz (.t b),Zz (.t c),Zz (.t d),Zz (.t e),Zz (.t f),Zz (.t g)]:Env)=env;have hside:ev (cf (n+5)) gv (.call 10 (.cons (.var 1) (.cons (.gl 10) .nil))) env m=.ok (.t (.bl (oneOf a sides))) m:=by subst hE;exact(ji (ak (aa rfl) (ak (jC ET) aU))).trans (Du)
     have hcard:ev (cf (n+5)) gv (.call 9 (.cons (.var 2) .nil)) env m=.ok (.t (.bl (pF b))) m:=by subst hE;exact(ji (ak (aa rfl) aU)).trans (zD (bQ h (show b∈[a,b,c,d,e,f,g] by simp)))
     have hwish:ev (cf (n+5)) gv (.call 15 (.cons (.var 3) .nil)) env m=.ok (.t (.bl (cS c))) m:=by subst hE;exact(ji (ak (aa rfl) aU)).trans (rj (Ht (bQ h (show c∈[a,b,c,d,e,f,g] by simp))))
     have hmany:ev (cf (n+5)) gv (.call 16 (.cons (.var 4) (.cons (.con (.int 1)) (.cons (.gl 11) .nil)))) env m=.ok (.t (.bl (jG d 1 1000000))) m:=by subst hE;exact(ji (ak (aa rfl) (ak (ae _) (ak (jC oO) aU)))).trans (AL)
     have hleast:∀k,d=.int k->ev (cf (n+5)) gv (.call 16 (.cons (.var 5) (.cons (.con (.int 1)) (.cons (.var 4) .nil)))) env m=.ok (.t (.bl (oI e d))) m:=by rintro k rfl;subst hE;exact(ji (ak (aa rfl) (ak (ae _) (ak (aa rfl) aU)))).trans (AL)
     have hweight:ev (cf (n+5)) gv (.call 16 (.cons (.var 6) (.cons (.con (.int 0)) (.cons (.gl 12) .nil)))) env m=.ok (.t (.bl (jG f 0 1000))) m:=by subst hE;exact(ji (ak (aa rfl) (ak (ae _) (ak (jC lR) aU)))).trans (AL)
     have htill:ev (cf (n+5)) gv (.call 4 (.cons (.var 7) .nil)) env m=.ok (.t (.bl (j9 g))) m:=by subst hE;exact(ji (ak (aa rfl) aU)).trans (Bf)
     have hfalse:∀k:S,ex (cf (n+5)) gv (.ret (.con (.bl false)) k) env m=.ok (.ret (.t (.bl false))) m:=λk=>aj (by rw[ev])
     cases v1:oneOf a sides with
     |false =>
      rw[v1]at hside;rw[az (cH (bf hside)) (hfalse _)];simp[bz,v1]
     |true =>
     rw[v1]at hside;cases v2:pF b with
     |false =>
      rw[v2]at hcard;rw[az ((aW (bf hside)).trans (cH (bf hcard))) (hfalse _)];simp[bz,v2]
     |true =>
     rw[v2]at hcard;cases v3:cS c with
     |false =>
      rw[v3]at hwish;rw[az ((aW (bf hside)).trans ((aW (bf hcard)).trans (bf hwish))) (hfalse _)];simp[bz,v3]
     |true =>
     rw[v3]at hwish;rw[ay ((aW (bf hside)).trans ((aW (bf hcard)).trans (bf hwish)))];cases v4:jG d 1 1000000 with
     |false =>
      rw[v4]at hmany;rw[az (cH (bf hmany)) (hfalse _)];simp[bz,v4]
     |true =>
     have hk:∃k,d=.int k:=by
      cases d with
      |int k=>exact⟨k,rfl⟩
      |_=>cases v4
     obtain⟨k,hk⟩:=hk;have hleast:=hleast k hk;rw[v4]at hmany;cases v5:oI e d with
     |false =>
      rw[v5]at hleast;rw[az ((aW (bf hmany)).trans (bf hleast)) (hfalse _)];simp[bz,v5]
     |true =>
     rw[v5]at hleast;rw[ay ((aW (bf hmany)).trans (bf hleast))];refine aj ?_;have ho:bz (.tup [a,b,c,d,e,f,g])=(jG f 0 1000&&j9 g):=by simp[bz,v1,v2,v3,v4,v5]
     rw[ho];cases v6:jG f 0 1000 with
     |false=>rw[v6]at hweight;rw[mW hweight];rfl
     |true=>rw[v6]at hweight;rw[fz hweight,htill];rfl
   ·have hl':¬(ts.length:Int)=7:=by omega
    exact az (m1:=m) (by simp[ev,evs,cJ,aA,dB,hl']) (aj (by simp[ev,evs,cJ,aA,dB,D7 hl]))
  |_=>exact az rfl (aj rfl)
 exact aG (xU _ _ _) rfl key (aD rfl)
theorem Ch:∀{a b:List Nat},cO a b=false->cO b a=false->a=b
 |[],[],_,_=>rfl
 |[],_::_,h,_=>by cases h
 |_::_,[],_,h=>by cases h
 |a::x,b::y,d,c=>by
  unfold cO at d c;by_cases q:a<b
  ·rw[Xf q]at d;cases d
  ·by_cases q2:b<a
   ·rw[Xf q2]at c;cases c
   ·rw[Xg q,Xg q2]at d
    rw[Xg q2,Xg q]at c;rw[show a=b by omega,Ch d c]
theorem kU:∀{xs:List (List Nat)},xs.Pairwise (λa b=>cO b a=false)->xs.Nodup->bO xs=true
 |[],_,_=>rfl
 |[_],_,_=>rfl
 |a::b::r,h,c=>by
  have e:=(Rx.mp h).1 b (by simp);have d:cO a b=true:=by
   cases q:cO a b with
   |true=>rfl
   |false=>exact Xk (Ch q e) λz=>by rw[z]at c;simp at c
  show(cO a b&&bO (b::r))=true;rw[d,kU (Rx.mp h).2 (Uf.mp c).2];rfl
theorem C9{xs:List (List Nat)}(a:xs.Nodup):bO (iC xs)=true:=kU (qX xs) ((fW xs).nodup_iff.mpr a)
theorem uj{n:Nat}{m:Mem}{i:Nat}{e1 e2:Option W}(hi:i<m.length):∀(ts:List T) (ls fs:List (List Nat)) (s:List T) (e5:Option W),bE s->ts.length<=ls.length->ls.length<=30->ts.length+fs.length<=60 ->
  ∃(b a:List (List Nat)) (h:List T) (g:Option W),cj (ex (cf (n+3)) gv iG) (.nm 5) ts [Zz (.c i),e1,e2,Zz (.c m.length),Zz (.c (m.length+1)),e5] (put (m++[Zz (false,ls.map .str),Zz (false,fs.map .str)]) i s)=.ok (.next [Zz (.c i),e1,e2,Zz (.c m.length),Zz (.c (m.length+1)),g]) (put (m++[Zz (false,b.map .str),Zz (false,a.map .str)]) i h)/\bE h/\a.length=fs.length+ts.length/\(a++b).Perm (fs++ls)
 |[],ls,fs,s,e5,f,_,_,_=>⟨ls,fs,s,e5,rfl,f,rfl,.refl _⟩
 |t::ts,ls,fs,s,e5,f,w,D,v=>by
  rw[RN]at w v;obtain⟨q,A,k,y,e,C,u,o⟩:=DJ (ls:=ls) (fs:=fs) hi f (by omega) (by omega) (by omega);obtain⟨p,z,j,B,x,d,r,l⟩:=uj hi ts q A k (Zz (.t t)) e (by omega) (by omega) (by omega);refine⟨p,z,j,B,?_,d,by rw[r,u,RN];omega,l.trans o⟩;rw[cj];show(ex (cf (n+3)) gv iG [Zz (.c i),e1,e2,Zz (.c m.length),Zz (.c (m.length+1)),Zz (.t t)] _).bind _=_;rw[y];exact x
theorem yH(x:List Nat):∀l,(vR x l).length=l.length+1
 |[]=>rfl
 |y::r=>by
  unfold vR;split
  ·rw[RN,yH x r,RN]
  ·rfl
theorem vd:∀xs:List (List Nat),(iC xs).length=xs.length
 |[]=>rfl
 |x::xs=>by rw[show iC (x::xs)=vR x (iC xs)from rfl,yH,vd xs,RN]
theorem i8(xs:List (List Nat)):cu (xs.map T.str)=Zz xs:=by
 have:=strs_map (λc:List Nat=>c) xs;simpa using this
theorem Iv{n:Nat}{m:Mem}{i:Nat}{s:List T}{ws:List (List Nat)}{most:Nat}(hi:i<m.length)(hs:bE s)(h1:most<=ws.length)(h2:ws.length<=20)(hd:ws.Nodup):
  ∃(fs:List (List Nat)) (p:List T),cf (n+4) 37 [.c i,.t (.lst (ws.map .str)),.t (.int (most:Int))] (put m i s)=.ok (.t (.tup (fs.map .str))) (put m i p)/\bE p/\fs.length<=most/\bO fs=true/\∀w∈fs,w∈ws:=by
 have k:i<(m++[Zz (false,ws.map T.str),Zz (false,([]:List T))]).length:=by rw[R7];omega
 obtain⟨r,o,d1,h,r0,r1⟩:=aQ (many:=(most:Int)+1) k hs (by omega) (by omega);obtain⟨e,b,d,e5,g2,g,u,q⟩:=uj hi (rangeT 0 r.toNat) ws [] o Zy h (by simp[rangeT];omega) (by omega) (by simp[rangeT];omega);have hl:(rangeT 0 r.toNat).length=r.toNat:=by simp[rangeT]
 rw[hl]at u;have hk:b.length<=most:=by rw[u];simp;omega
 have hn:=(List.nodup_append.mp (q.nodup_iff.mpr hd)).1;refine⟨iC b,d,?_,g,by rw[vd];exact hk,C9 hn,λw v=>q.mem_iff.mp (Rt _ ((fW b).mem_iff.mp v))⟩;have f:ex (cf (n+3)) gv mY [Zz (.c i),Zz (.t (.lst (ws.map .str))),Zz (.t (.int (most:Int))),Zy,Zy,Zy] (put m i s)=.ok (.ret (.t (.tup ((iC b).map .str)))) (put (m++[Zz (false,e.map .str),Zz (false,b.map .str)]) i d):=by
  unfold mY;have c1:ev (cf (n+3)) gv (.yG (.var 1)) [Zz (.c i),Zz (.t (.lst (ws.map .str))),Zz (.t (.int (most:Int))),Zy,Zy,Zy] (put m i s)=.ok (.c m.length) (put m i s++[Zz (false,ws.map .str)]):=by
   rw[ev,aa rfl,ag];simp[view,aF]
  rw[au c1];simp only[RD,RE];have c2:ev (cf (n+3)) gv (.zv .nil) [Zz (.c i),Zz (.t (.lst (ws.map .str))),Zz (.t (.int (most:Int))),Zz (.c m.length),Zy,Zy] (put m i s++[Zz (false,ws.map .str)])=.ok (.c (m.length+1)) (put (m++[Zz (false,ws.map .str),Zz (false,[])]) i s):=by
   rw[bI hi];simp[ev,evs,ag,cN,lim,aF]
  rw[au c2];simp only[RD,RE];have hr:=sA (i:=r) ⟨by omega,by omega⟩;have j:ev (cf (n+3)) gv (.blt .dY (.cons (.call 36 (.cons (.var 0) (.cons (.bin .Add (.var 2) (.con (.int 1))) .nil))) .nil)) [Zz (.c i),Zz (.t (.lst (ws.map .str))),Zz (.t (.int (most:Int))),Zz (.c m.length),Zz (.c (m.length+1)),Zy] (put (m++[Zz (false,ws.map .str),Zz (false,[])]) i s)=.ok (.t (.lst (rangeT 0 r.toNat))) (put (m++[Zz (false,ws.map .str),Zz (false,[])]) i o):=
   aC ((am (aa rfl) (aB (aa rfl) (ae _) (dz _ _))).trans d1) hr
  rw[jL j rfl g2];refine aj (aC ?_ (i6 _));have hv:∀ws,views (.c (m.length+1)::ws) (put (m++[Zz (false,e.map .str),Zz (false,b.map .str)]) i d)=(views ws (put (m++[Zz (false,e.map .str),Zz (false,b.map .str)]) i d)).map (.lst (b.map .str)::·):=λws=>by
   simp[views,view,MW hi]
  show ev (cf (n+3)) gv (.blt .sorted (.cons (.var 4) .nil)) _ (put (m++[Zz (false,e.map .str),Zz (false,b.map .str)]) i d)=_;rw[ev,evs,aa rfl,ag,evs,ag,ag,hv];show cW ((cu (b.map T.str)).bind λl=>if l.length<64 then Zz (T.lst ((iC l).map .str))else Zy) _=_;rw[i8,Rw,Xf (by omega)];rfl
 rw[G1];simp only[RN,S2,R8,T3,if_true,R4,V8,T9,WJ];rw[f];show Res.ok _ ((put (m++[Zz (false,e.map .str),Zz (false,b.map .str)]) i d).take (put m i s).length)=_;rw[aF,F1 hi]
theorem Ej{α:Type}{f:α->T}{P:α->Prop}{ts:List T}{xss:List (List T)}(h:va (λ_ xs=>∃c,P c/\xs=[f c]) ts xss):∃cs:List α,xss.flatten=cs.map f/\cs.length=ts.length/\∀c∈cs,P c:=by
 induction h with
 |nil=>exact⟨[],rfl,rfl,λ_ h=>by cases h⟩
 |cons h _ ih =>
  obtain⟨c,hc,rfl⟩:=h;obtain⟨cs,h1,h2,h3⟩:=ih;exact⟨c::cs,by rw[Sb,h1];rfl,by simp[h2],by simpa using⟨hc,h3⟩⟩
theorem drawn{α:Type}{f:α->T}{P:α->Prop}{n own:Nat}{keep:List Nat}{c it e inner:E}{tg:Tg}{env:Env}{m m0:Mem}{i:Nat}{s:List T}{x:T}{ts:List T}(hc:c=.comp own keep it tg .nil inner)(he:inner=.emit e)(hs:bE s)(h0:ev (cf n) gv it env m0=.ok (.t x) (put m i s))(hx:n8 x=Zz ts)(hl:ts.length<=lim)(h:∀t∈ts,∀s,bE s->∃env' c s',bK tg t (R4 own Zy++keep.map λi=>(env[i]?).join)=Zz env'/\ev (cf n) gv e env' (put m i s)=.ok (.t (f c)) (put m i s')/\bE s'/\P c):
  ∃(cs:List α) (s':List T),ev (cf n) gv c env m0=.ok (.t (.lst (cs.map f))) (put m i s')/\bE s'/\cs.length=ts.length/\∀c∈cs,P c:=by
 subst hc he;obtain⟨xss,m',h2,⟨s2,rfl,hs2⟩,ht⟩:=qT (P:=λm'=>∃s,m'=put m i s/\bE s) (R:=λ_ xs=>∃c,P c/\xs=[f c]) ts (put m i s) ⟨s,rfl,hs⟩ (by
  rintro t ht m' ⟨s,rfl,hs⟩;obtain⟨env',c,s',h1,h2,h3,h4⟩:=h t ht s hs;exact⟨env',_,_,h1,iL (cA h2),⟨s',rfl,h3⟩,c,h4,rfl⟩)
 obtain⟨cs,e1,e2,e3⟩:=Ej ht;rw[e1]at h2;exact⟨cs,s2,aZ h0 (by simp[bp,hx]) h2 (by rw[Q4];omega),hs2,e2,e3⟩
section
variable{n:Nat}{m:Mem}{i:Nat}{s:List T}
theorem uX(hi:i<m.length)(w:bE s):∃(v:Int) (k:List T),cf (n+4) 38 [.c i] (put m i s)=.ok (.t (.int v)) (put m i k)/\bE k/\0<=v/\v<=1000000000:=by
 obtain⟨q,E,B,h,M,L⟩:=aQ (many:=10) hi w (by decide) (by decide);obtain⟨p,D,A,g,K,J⟩:=aQ (many:=10) hi h (by decide) (by decide);obtain⟨o,C,y,f,I,H⟩:=aQ (many:=2) hi g (by decide) (by decide);obtain⟨l,j,x,e,G,F⟩:=aQ (many:=8) hi f (by decide) (by decide);obtain⟨z,r,a⟩:=eu (xs:=[T.int q,.int p,.int (1000000000-o)]) (i:=l / 3%3) (by omega) (by simp;omega);have d:∃v:Int,z=.int v/\0<=v/\v<=1000000000:=by
  simp only[R6,R3,or_false]at a;rcases a with rfl|rfl|rfl<;>exact⟨_,rfl,by omega,by omega⟩
 obtain⟨v,rfl,u⟩:=d;refine⟨v,j,?_,e,u⟩;have b:ex (cf (n+3)) gv iu [Zz (.c i)] (put m i s)=.ok (.ret (.t (.int v))) (put m i j):=by
  unfold iu;exact aj (bi (bw (ak ((am (aa rfl) (ae _)).trans B) (ak ((am (aa rfl) (ae _)).trans A) (ak (aB (aB (ae _) (ae _) rfl) ((am (aa rfl) (ae _)).trans y) (yN _ _)) aU))) rfl bg) (aB (aB ((am (aa rfl) (ae _)).trans x) (ae _) (zf (by decide))) (ae _) (lE (by decide))) r)
 exact aG (BL _ _ _) rfl b (aD (by rw[aF,aF]))
theorem sM(cs:List Nat):aM [] (cs.map λc=>[c])=cs:=by
 rw[uV,<-List.flatMap_def,bD];simp
theorem B9(hi:i<m.length)(hs:bE s):∃(cs:List Nat) (s':List T),cf (n+4) 39 [.c i] (put m i s)=.ok (.t (.str cs)) (put m i s')/\bE s'/\aJ cs=true:=by
 have key:∃(cs:List Nat) (s':List T),ex (cf (n+3)) gv mj [Zz (.c i),Zy,Zy] (put m i s)=.ok (.ret (.t (.str cs))) (put m i s')/\bE s'/\aJ cs=true:=by
  obtain⟨r,s1,d1,hs1,r0,r1⟩:=aQ (many:=8) hi hs (by decide) (by decide);unfold mj;rw[au (ae _)];obtain⟨cs,g,h2,hs2,l2,hl⟩:=drawn (c:=oU) (env:=[Zz (.c i),Zz (.t (.str gu)),Zy]) rfl rfl hs1 (aC (aB (ae (.int 1)) ((am (aa rfl) (ae (.int 8))).trans d1) (dz _ _)) (sA (show 1+r<2^62/\-(2^62)<=1+r by omega))) rfl (by simp[rangeT,lim];omega) (λt _ s hs=>by
   obtain⟨q,s3,h3,hs3,hq0,hq1⟩:=aQ (n:=n) (many:=26) hi hs (by decide) (by decide);obtain⟨c,hc,hcm⟩:=eu (xs:=gu) hq0 (by simpa[gu]using hq1);exact⟨_,c,s3,rfl,bi (aa rfl) ((am (aa rfl) (ae _)).trans h3) (by rw[BP (by decide),hc];rfl),hs3,hcm⟩)
  have l8:1<=cs.length/\cs.length<=8:=by simp[rangeT]at l2;omega
  have hj:=Gh (m:=put m i g) (strs_map (λc=>[c]) cs) (by rw[JI,S2,Nat.mul_zero];unfold lim;omega);rw[sM]at hj;have h2:ev (cf (n+3)) gv oU [Zz (.c i),Zz (.t (.str [97,98,99,100,101,102,103,104,105,106,107,108,109,110,111,112,113,114,115,116,117,118,119,120,121,122])),Zy] (put m i s)=_:=h2;simp only[RD,RE];rw[au (w:=.t (.str cs)) (m1:=put m i g) (by simp[ev,evs,cJ,aA,dB,Gu,h2,hj])];have hin:bn .In (.str cs) (.tup [.str [97,110,121],.str [105,115],.str [98,121],.str [110,111,116],.str [97,110,100],.str [111,114]])=Zz (jU cs):=by
   rcases cs with _|⟨c,_|⟨d,r⟩⟩<;>simp[bn,nI,Kx,KO,A5,Cp]
  cases h6:jU cs with
  |true =>
   have hc:cs∈six:=by
    obtain⟨a,ha,hb⟩:=Tv.mp h6;rw[<-eq_of_beq hb];exact ha
   refine⟨cs++[113],g,az (m1:=put m i g) (by simp[ev,evs,cJ,aA,dB,lim,hin,h6]) (aj (by simp[ev,evs,cJ,aA,dB,eZ (a:=cs) (b:=[113]) (by simp[lim];omega)])),hs2,?_⟩;simp only[six,R6,R3,or_false]at hc;rcases hc with rfl|rfl|rfl|rfl|rfl|rfl<;>decide
  |false =>
   refine⟨cs,g,?_,hs2,?_⟩
   ·rw[ay (m1:=put m i g) (by simp[ev,evs,cJ,aA,dB,lim,hin,h6])]
    exact aj (by simp[ev,evs,cJ,aA,dB])
   ·simp[aJ,h6,l8]
    exact hl
 obtain⟨cs,s',e,hs',hw⟩:=key;exact⟨cs,s',aG (Fa _ _ _) rfl e (aD (by rw[aF,aF])),hs',hw⟩
theorem mH{ws:List (List Nat)}(hi:i<m.length)(A:bE s)(J:0<ws.length)(I:ws.length<100)(z:ws.all aJ=true):∃(cs:List Nat) (b:List T),cf (n+5) 40 [.c i,.t (.lst (ws.map .str))] (put m i s)=.ok (.t (.str cs)) (put m i b)/\bE b/\aJ cs=true:=by
 have k:∃(cs:List Nat) (b:List T),ex (cf (n+4)) gv eH [Zz (.c i),Zz (.t (.lst (ws.map .str)))] (put m i s)=.ok (.ret (.t (.str cs))) (put m i b)/\bE b/\aJ cs=true:=by
  obtain⟨r,F,E,f,H,G⟩:=aQ (many:=3) hi A (by decide) (by decide);unfold eH;have g:=ar ((am (gv:=gv) (env:=[Zz (.c i),Zz (.t (.lst (ws.map .str)))]) (a:=.var 0) (aa rfl) (ae (.int 3))).trans E) (ae (.int 0)) (gL _ _);cases hr:r==0 with
  |true =>
   rw[hr]at g;obtain⟨cs,j,p,d,D⟩:=B9 hi f;exact⟨cs,j,az g (aj ((ax (aa rfl)).trans p)),d,D⟩
  |false =>
   rw[hr]at g;obtain⟨q,j,p,d,v,u⟩:=aQ (many:=(ws.length:Int)) hi f (by omega) (by omega);obtain⟨x,y,B⟩:=eu (xs:=ws.map T.str) v (by rw[Q4];exact u);obtain⟨w,l,rfl⟩:=Rb.mp B;have C:b8 .len [.lst (ws.map T.str)]=Zz (.int (ws.length:Int)):=by simp[b8,Mi.hU,Ju]
   refine⟨w,j,?_,d,RF.mp z w l⟩;rw[ay g];exact aj (bi (aa rfl) ((am (aa rfl) (aC (aa rfl) C)).trans p) y)
 obtain⟨cs,b,e,o,h⟩:=k;exact⟨cs,b,aG (wb _ _ _) rfl e (aD (by rw[aF,aF])),o,h⟩
end
theorem zd(x:List Nat):∀l,(o7 x l).length<=l.length+1
 |[]=>R1 _
 |y::l=>by
  unfold o7;split
  ·exact R1 _
  ·split
   ·rw[RN,RN]
    have:=zd x l;omega
   ·rw[RN];omega
theorem pJ:∀xs,(bt xs).length<=xs.length
 |[]=>R1 _
 |x::xs=>by
  have h1:=zd x (bt xs);have h2:=pJ xs;show(o7 x (bt xs)).length<=_;rw[RN];omega
theorem Kl{call:Nat->List W->Mem->Res W}{gv:List T}{env:Env}{m m1:Mem}{a:E}{x:T}(b:ev call gv a env m=.ok (.t x) m1):ev call gv (.lst (.cons a .nil)) env m=.ok (.t (.lst [x])) m1:=by
 simp only[ev,evs,b,ag,dm,cN];exact Xf (by simp[lim])
noncomputable def rh(p:List Nat×Int):T:=.tup [.str p.1,.int p.2]
noncomputable def mN(nm kd:List Nat)(mk:List (List Nat))(sz:List (List Nat×Int)):T:=.tup [.str nm,.str kd,.tup (mk.map .str),.tup (sz.map rh)]
noncomputable def vD(ws:List (List Nat)):T:=.lst (ws.map .str)
structure uC (ws:List (List Nat)):Prop where
 one:1<=ws.length
 few:ws.length<=9
 nd:ws.Nodup
 wd:ws.all aJ=true
structure GoodC (nm kd:List Nat) (mk:List (List Nat)) (sz:List (List Nat×Int)):Prop where
 nm:aJ nm=true
 kd:aJ kd=true
 Qf:mk.length<=6
 Qz:bO mk=true
 OM:mk.all aJ=true
 P0:sz.length<=6
 QB:bO (sz.map (·.1))=true
 Nh:∀p∈sz,aJ p.1=true/\0<=p.2/\p.2<=1000000000
section
variable{n:Nat}{m:Mem}{i:Nat}{s:List T}
theorem JW{e1 e2 e3 e4 e5:Option W}(hi:i<m.length)(hs:bE s):∃(a b:List (List Nat)) (s':List T),ev (cf (n+4)) gv oH [Zz (.c i),e1,e2,e3,e4,e5] (put m i s)=.ok (.t (.lst [vD a,vD b])) (put m i s')/\bE s'/\uC a/\uC b:=by
 obtain⟨cs,s2,h2,hs2,l2,hp⟩:=drawn (c:=oH) (f:=vD) (P:=uC) (env:=[Zz (.c i),e1,e2,e3,e4,e5]) (n:=n+4) rfl rfl hs (aC (ae (.int 2)) (sA (by decide))) rfl (by simp[rangeT,lim]) (λt _ s hs=>by
  obtain⟨g,s3,h3,hs3,l3,hw⟩:=drawn (c:=uO) (f:=T.str) (P:=λc=>aJ c=true) (env:=[Zz (.t t),Zz (.c i)]) (n:=n+4) rfl rfl hs (aC (ae (.int 8)) (sA (by decide))) rfl (by simp[rangeT,lim]) (λt _ s hs=>by
   obtain⟨c,s4,h4,hs4,hc⟩:=B9 (n:=n) hi hs;exact⟨_,c,s4,rfl,(ax (aa rfl)).trans h4,hs4,hc⟩)
  have l3:g.length=8:=by simpa[rangeT]using l3
  have hadd:iq .Add (.lst (g.map .str)) (.lst [.str [109,110]])=Zz (.lst ((g++[[109,110]]).map .str)):=by
   show(if _ then _ else _)=_;rw[Xf (by simp[l3,lim]),Ug];rfl
  have hset:b8 .jm [.lst ((g++[[109,110]]).map .str)]=Zz (vD (bt (g++[[109,110]]))):=by
   show((cu ((g++[[109,110]]).map T.str)).bind λxs=>if xs.length<64 then Zz (T.lst ((bt xs).map .str))else Zy)=_;rw[i8,Rw,Xf (by simp[l3])];rfl
  refine⟨_,bt (g++[[109,110]]),s3,rfl,aC (aB h3 (Kl (ae _)) hadd) hset,hs3,?_,?_,qJ _,?_⟩
  ·exact List.length_pos_of_mem ((eI [109,110] _).mpr (by simp))
  ·have:=pJ (g++[[109,110]])
   rw[R7,l3]at this;exact this
  ·rw[RF]
   intro w hm;rcases S1.mp ((eI w _).mp hm)with h|h
   ·exact hw w h
   ·rw[Rp]at h
    rw[h];decide)
 have l2:cs.length=2:=by simpa[rangeT]using l2
 rcases cs with _|⟨a,_|⟨b,_|_⟩⟩
 ·cases l2
 ·cases l2
 ·exact⟨a,b,s2,h2,hs2,hp a (by simp),hp b (by simp)⟩
 ·simp at l2
theorem KZ(k:Nat):b8 .min2 [.int 6,.int (k:Int)]=Zz (.int ((min 6 k:Nat):Int)):=by
 show Zz (T.int (if(k:Int)<6 then(k:Int)else 6))=_;by_cases h:k<6
 ·rw[Xf (by omega),Nat.min_eq_right (by omega)]
 ·rw[Xg (by omega),Nat.min_eq_left (by omega)];rfl
theorem Nr(ws:List (List Nat)):b8 .len [vD ws]=Zz (.int (ws.length:Int)):=by simp[b8,Mi.hU,Ju,vD]
theorem KB{env:Env}{ws:List (List Nat)}{e:E}(hi:i<m.length)(l:bE s)(b:uC ws)(p:env[0]?=Zz (Zz (.c i)))(f:∀s,ev (cf (n+4)) gv e env (put m i s)=.ok (.t (vD ws)) (put m i s)):
  ∃(fs:List (List Nat)) (d:List T),ev (cf (n+4)) gv (.call 37 (.cons (.var 0) (.cons e (.cons (.blt .min2 (.cons (.con (.int 6)) (.cons (.blt .len (.cons e .nil)) .nil))) .nil)))) env (put m i s)=.ok (.t (.tup (fs.map .str))) (put m i d)/\bE d/\fs.length<=6/\bO fs=true/\fs.all aJ=true:=by
 obtain⟨fs,h,o,a,q,j,g⟩:=Iv (n:=n) (ws:=ws) (most:=min 6 ws.length) hi l (by omega) (by have:=b.few;omega) b.nd;exact⟨fs,h,(eP (aa p) (f s) (qb (ae _) (aC (f s) (Nr ws)) (KZ _))).trans o,a,by omega,j,RF.mpr λw k=>RF.mp b.wd w (g w k)⟩
theorem JY(hi:i<m.length)(hs:bE s):∃(g j:List Nat) (d:List (List Nat)) (sz:List (List Nat×Int)) (k:List T),cf (n+6) 41 [.c i] (put m i s)=.ok (.t (mN g j d sz)) (put m i k)/\bE k/\GoodC g j d sz:=by
 obtain⟨g,s1,h1,hs1,w1⟩:=mH (n:=n) (ws:=[[97,110,110],[98,111,98],[99,121],[122,122,122,122,122,122,122,122],[112,114,105,99,101]]) hi hs (by decide) (by decide) (by decide);obtain⟨j,s2,h2,hs2,w2⟩:=mH (n:=n) (ws:=[[98,114,101,97,100],[119,111,111,100],[105,115,108,101]]) hi hs1 (by decide) (by decide) (by decide);obtain⟨r,s3,h3,hs3,r0,r1⟩:=aQ (n:=n+2) (many:=2) hi hs2 (by decide) (by decide);have rest:∀(a b:List (List Nat)) (s:List T),bE s->uC a->uC b->∃(d:List (List Nat)) (sz:List (List Nat×Int)) (k:List T),ex (cf (n+5)) gv (.asg 4 (.call 37 (.cons (.var 0) (.cons (.ix (.var 3) (.con (.int 0))) (.cons (.blt .min2 (.cons (.con (.int 6)) (.cons (.blt .len (.cons (.ix (.var 3) (.con (.int 0))) .nil)) .nil))) .nil)))) (.asg 5 (.blt .tuple (.cons oX .nil)) (.ret (.tup (.cons (.var 1) (.cons (.var 2) (.cons (.var 4) (.cons (.var 5) .nil))))) .done))) [Zz (.c i),Zz (.t (.str g)),Zz (.t (.str j)),Zz (.t (.lst [vD a,vD b])),Zy,Zy] (put m i s)=.ok (.ret (.t (mN g j d sz))) (put m i k)/\bE k/\GoodC g j d sz:=λa b s hs ga gb=>by
  obtain⟨d,s4,h4,hs4,l4,r4,w4⟩:=KB (n:=n+1) (env:=[Zz (.c i),Zz (.t (.str g)),Zz (.t (.str j)),Zz (.t (.lst [vD a,vD b])),Zy,Zy]) (e:=.ix (.var 3) (.con (.int 0))) hi hs ga rfl (λs=>bi (aa rfl) (ae _) (at0 _ _));rw[au h4];simp only[RD,RE];obtain⟨fs,s5,h5,hs5,l5,r5,w5⟩:=KB (n:=n+1) (env:=[Zz (.c i),Zz (.t (.str g)),Zz (.t (.str j)),Zz (.t (.lst [vD a,vD b])),Zz (.t (.tup (d.map .str))),Zy]) (e:=.ix (.var 3) (.con (.int 1))) hi hs4 gb rfl (λs=>bi (aa rfl) (ae _) (at1 _ _ _));have walk:∃(sz:List (List Nat×Int)) (k:List T),ev (cf (n+5)) gv oX [Zz (.c i),Zz (.t (.str g)),Zz (.t (.str j)),Zz (.t (.lst [vD a,vD b])),Zz (.t (.tup (d.map .str))),Zy] (put m i s4)=.ok (.t (.lst (sz.map rh))) (put m i k)/\bE k/\sz.map (·.1)=fs/\∀p∈sz,0<=p.2/\p.2<=1000000000:=by
   obtain⟨xss,m',g1,⟨s2,rfl,hs2⟩,ht⟩:=qT (f:=bA (cf (n+5)) gv .nil oG) (tg:=.nm 0) (env:=[Zy,Zz (.c i)]) (P:=λm'=>∃s,m'=put m i s/\bE s) (R:=λt xs=>∃p:List Nat×Int,(0<=p.2/\p.2<=1000000000)/\t=.str p.1/\xs=[rh p]) (fs.map .str) (put m i s5) ⟨s5,rfl,hs5⟩ (by
    rintro t ht m' ⟨s,rfl,hs⟩;obtain⟨w,_,rfl⟩:=Rb.mp ht;obtain⟨v,s3,h3,hs3,hv⟩:=uX (n:=n+1) hi hs;exact⟨[Zz (.t (.str w)),Zz (.c i)],_,_,rfl,iL (show ev (cf (n+5)) gv oG _ _=_ from cA (aV (aa rfl) ((ax (aa rfl)).trans h3))),⟨s3,rfl,hs3⟩,(w,v),hv,rfl,rfl⟩)
   have:∀(fs:List (List Nat)) (xss:List (List T)),va (λt xs=>∃p:List Nat×Int,(0<=p.2/\p.2<=1000000000)/\t=.str p.1/\xs=[rh p]) (fs.map T.str) xss->∃sz:List (List Nat×Int),xss.flatten=sz.map rh/\sz.map (·.1)=fs/\∀p∈sz,0<=p.2/\p.2<=1000000000:=λfs=>by
    induction fs with
    |nil=>intro xss h;cases h;exact⟨[],rfl,rfl,λ_ h=>by cases h⟩
    |cons f fs ih =>
     intro xss h;cases h with
     |cons h1 h2 =>
      obtain⟨p,hp,e,rfl⟩:=h1;cases e;obtain⟨sz,q1,q2,q3⟩:=ih _ h2;exact⟨p::sz,by rw[Sb,q1];rfl,by rw[R8,q2],RA.mpr ⟨hp,q3⟩⟩
   obtain⟨sz,q1,q2,q3⟩:=this _ _ ht;rw[q1]at g1;have ql:sz.length=fs.length:=by rw[<-q2,Q4]
   exact⟨sz,s2,aZ (x:=.t (.tup (fs.map .str))) h5 rfl g1 (by rw[Q4];unfold lim;omega),hs2,q2,q3⟩
  obtain⟨sz,s6,h6,hs6,e6,b6⟩:=walk;rw[au (aC h6 (i6 _))];refine⟨d,sz,s6,aj (oM (ak (aa rfl) (ak (aa rfl) (ak (aa rfl) (ak (aa rfl) aU)))) rfl bg),hs6,w1,w2,l4,r4,w4,?_,by rw[e6];exact r5,λp hp=>⟨RF.mp w5 p.1 (by rw[<-e6];exact VU hp),b6 p hp⟩⟩;have:=congrArg Rg e6;rw[Q4]at this;omega
 have key:∃(d:List (List Nat)) (sz:List (List Nat×Int)) (k:List T),ex (cf (n+5)) gv m6 [Zz (.c i),Zy,Zy,Zy,Zy,Zy] (put m i s)=.ok (.ret (.t (mN g j d sz))) (put m i k)/\bE k/\GoodC g j d sz:=by
  unfold m6;rw[au (w:=.t (.str g)) (m1:=put m i s1) ((am (aa rfl) (bw (ak (ae _) (ak (ae _) (ak (ae _) (ak (ae _) (ak (ae _) aU))))) rfl bg)).trans h1)];rw[au (w:=.t (.str j)) (m1:=put m i s2) ((am (aa rfl) (bw (ak (ae _) (ak (ae _) (ak (ae _) aU))) rfl bg)).trans h2)];rw[au (w:=.t (.lst [vD [[97],[102,114,101,115,104],[111,108,100],[114,121,101],[97,110,110],[97,110,121,120]],vD [[97],[112,114,105,99,101],[119,105,100,116,104],[111,108,100]]])) (m1:=put m i s2) (dF (bw (ak (ae _) (ak (ae _) (ak (ae _) (ak (ae _) (ak (ae _) (ak (ae _) aU)))))) rfl bg) (bw (ak (ae _) (ak (ae _) (ak (ae _) (ak (ae _) aU)))) rfl bg))];simp only[RD,RE];have c1:=λenv (h:env[0]?=Zz (Zz (.c i)))=>ar (op:=.Eq) ((am (f:=36) (call:=cf (n+5)) (gv:=gv) (env:=env) (a:=.var 0) (aa h) (ae (.int 2))).trans h3) (ae (.int 0)) (gL _ _)
  cases hr:r==0 with
  |true =>
   rw[hr]at c1;obtain⟨a,b,s4,h4,hs4,ga,gb⟩:=JW (n:=n+1) (e1:=Zz (.t (.str g))) (e2:=Zz (.t (.str j))) (e3:=Zz (.t (.lst [vD [[97],[102,114,101,115,104],[111,108,100],[114,121,101],[97,110,110],[97,110,121,120]],vD [[97],[112,114,105,99,101],[119,105,100,116,104],[111,108,100]]]))) (e4:=Zy) (e5:=Zy) hi hs3;obtain⟨d,sz,s5,h5,hs5,g5⟩:=rest a b s4 hs4 ga gb;refine⟨d,sz,s5,?_,hs5,g5⟩;rw[l0 (c1 _ rfl) (by rw[au h4,ex])];exact h5
  |false =>
   rw[hr]at c1;obtain⟨d,sz,s5,h5,hs5,g5⟩:=rest [[97],[102,114,101,115,104],[111,108,100],[114,121,101],[97,110,110],[97,110,121,120]] [[97],[112,114,105,99,101],[119,105,100,116,104],[111,108,100]] s3 hs3 ⟨by decide,by decide,by decide,by decide⟩ ⟨by decide,by decide,by decide,by decide⟩;refine⟨d,sz,s5,?_,hs5,g5⟩;rw[ay (c1 _ rfl)];exact h5
 obtain⟨d,sz,k,e,hs',h⟩:=key;exact⟨g,j,d,sz,k,aG (GE _ _ _) rfl e (aD (cell:=false) (by rw[aF,aF])),hs',h⟩
theorem B8(hi:i<m.length)(B:bE s):∃(t:T) (f:List T),cf (n+6) 42 [.c i] (put m i s)=.ok (.t t) (put m i f)/\bE f/\on t:=by
 have l:∃(t:T) (f:List T),ex (cf (n+5)) gv nW [Zz (.c i),Zy] (put m i s)=.ok (.ret (.t t)) (put m i f)/\bE f/\on t:=by
  obtain⟨r,A,q,b,D,C⟩:=aQ (many:=8) hi B (by decide) (by decide);have q:=q;unfold nW;rw[au ((am (aa rfl) (ae _)).trans q)];by_cases h2:r<2
  ·exact⟨_,A,az (ar (aa rfl) (ae _) ((ln _ _).trans (congrArg Zz (Xi h2)))) (aj (wR (ae _))),b,.any⟩
  rw[ay (ar (aa rfl) (ae _) ((ln _ _).trans (congrArg Zz (Xh h2))))];by_cases h3:r=2
  ·obtain⟨w,k,d,a,g⟩:=mH (ws:=[[97,110,110],[98,111,98],[99,121],[122,122,122,122,122,122,122,122]]) hi b (by decide) (by decide) (by decide)
   simp only[R8,T3]at d;exact⟨_,k,az (ar (aa rfl) (ae _) (by rw[gL,h3];rfl)) (aj (aV (ae _) ((am (aa rfl) (bw (ak (ae _) (ak (ae _) (ak (ae _) (ak (ae _) aU)))) rfl bg)).trans d))),a,.two (.inr rfl) g⟩
  rw[ay (ar (aa rfl) (ae _) (by rw[gL,beq_false_of_ne h3]))];by_cases h4:r<5
  ·obtain⟨w,k,d,a,g⟩:=mH (ws:=[[97],[112,114,105,99,101],[119,105,100,116,104],[111,108,100]]) hi b (by decide) (by decide) (by decide)
   simp only[R8,T3]at d;obtain⟨v,y,z,j,x,u⟩:=uX hi a;by_cases p:r%2=0
   ·exact⟨_,y,az (ar (aa rfl) (ae _) ((ln _ _).trans (congrArg Zz (Xi h4)))) (aj (wJ (bi (dF (ae _) (ae _)) (aB (aa rfl) (ae _) (lE (by decide))) (by rw[p];rfl)) ((am (aa rfl) (bw (ak (ae _) (ak (ae _) (ak (ae _) (ak (ae _) aU)))) rfl bg)).trans d) ((ax (aa rfl)).trans z))),j,.three (.inl rfl) g x u⟩
   ·have p:r%2=1:=by omega
    exact⟨_,y,az (ar (aa rfl) (ae _) ((ln _ _).trans (congrArg Zz (Xi h4)))) (aj (wJ (bi (dF (ae _) (ae _)) (aB (aa rfl) (ae _) (lE (by decide))) (by rw[p];rfl)) ((am (aa rfl) (bw (ak (ae _) (ak (ae _) (ak (ae _) (ak (ae _) aU)))) rfl bg)).trans d) ((ax (aa rfl)).trans z))),j,.three (.inr rfl) g x u⟩
  rw[ay (ar (aa rfl) (ae _) ((ln _ _).trans (congrArg Zz (Xh h4))))];obtain⟨w,k,d,a,g⟩:=mH (ws:=[[97],[102,114,101,115,104],[111,108,100],[114,121,101],[97,110,110],[119,111,111,100]]) hi b (by decide) (by decide) (by decide);simp only[R8,T3]at d;exact⟨_,k,aj (aV (ae _) ((am (aa rfl) (bw (ak (ae _) (ak (ae _) (ak (ae _) (ak (ae _) (ak (ae _) (ak (ae _) aU)))))) rfl bg)).trans d)),a,.two (.inl rfl) g⟩
 obtain⟨t,f,e,o,h⟩:=l;exact⟨t,f,aG (Hy _ _ _) rfl e (aD (by rw[aF,aF])),o,h⟩
end
theorem vT{M:Mem}{i j:Nat}{s R:List T}(a:i≠j)(b:j<M.length):(put (put M j R) i s)[j]?=Zz (Zz (false,R)):=by
 have h:=AJ (s:=R) b;unfold put at h ⊢;rw[RK a];exact h
theorem GL{M:Mem}{i j:Nat}{s R b:List T}(a:i≠j):(put (put M j R) i s).set j (Zz (false,b))=put (put M j b) i s:=by
 unfold put;rw[List.set_comm _ _ a.symm,Wx];exact List.set_comm _ _ a
theorem yi{call:Nat->List W->Mem->Res W}{env:Env}{M:Mem}{i j:Nat}{s:List T}{r:Int}{k:S}(a:i≠j)(b:j<M.length)(d:env[2]?=Zz (Zz (.c j))):
  ex call gv (.set (.var 2) (.con (.int 0)) (.bin .Sub (.ix (.var 2) (.con (.int 0))) (.con (.int 1))) k) env (put (put M j [.int r]) i s)=ex call gv k env (put (put M j [.int (r-1)]) i s):=by
 rw[wX (aB (jK d (vT a b) rfl) (ae _) (yN _ _)) (aa d) (ae _) (vT a b) rfl];show ex call gv k env ((put (put M j [.int r]) i s).set j (Zz (false,[.int (r-1)])))=_;rw[GL a]
theorem on.tot{d:Nat}{t:T}(h:on t):tot (d+1) [t]=1:=by rw[kW,h.Ks,jv]
def Drawn(N d:Nat)(M:Mem)(i j:Nat):Prop:=∀(s:List T) (r:Int),bE s->∃(t:T) (s':List T),cf N 43 [.c i,.t (.int ((d:Int)+1)),.c j] (put (put M j [.int r]) i s)=.ok (.t t) (put (put M j [.int (r-(tot (d+1) [t]:Nat))]) i s')/\bE s'/\WT (d+1) t/\(r<=3->tot (d+1) [t]=1)/\(3<r->(tot (d+1) [t]:Int)<=r-3+5*d+1)
theorem pD{N d:Nat}{M:Mem}{i j:Nat}(h:Drawn N d M i j):∀(ts:List T) (s:List T) (r:Int),bE s->∃(ws:List T) (k:List T),cb (bA (cf N) gv .nil lb) (.nm 0) ts [Zy,Zz (.c i),Zz (.c j),Zz (.t (.int ((d:Int)+1+1)))] (put (put M j [.int r]) i s)=.ok ws (put (put M j [.int (r-(tot (d+1) ws:Nat))]) i k)/\bE k/\ws.length=ts.length/\(∀w∈ws,WT (d+1) w)/\(r<=3->tot (d+1) ws=ts.length)/\(3<r->(tot (d+1) ws:Int)<=r-3+5*d+ts.length)
 |[],s,r,g=>⟨[],s,by rw[cb,jv];simp,g,rfl,λ_ h=>(by cases h),λ_=>jv _,λh=>by rw[jv];simp;omega⟩
 |t::ts,s,r,g=>by
  obtain⟨w,q,y,f,o,B,A⟩:=h s r g;obtain⟨ws,p,x,e,u,n,l,z⟩:=pD h ts q (r-(tot (d+1) [w]:Nat)) f;have b:tot (d+1) (w::ws)=tot (d+1) [w]+tot (d+1) ws:=lO (d+1) [w] ws;refine⟨w::ws,p,?_,e,by simp[u],RA.mpr ⟨o,n⟩,λh=>?_,λh=>?_⟩
  ·rw[cb]
   have v:bK (.nm 0) t [Zy,Zz (.c i),Zz (.c j),Zz (.t (.int ((d:Int)+1+1)))]=Zz [Zz (.t t),Zz (.c i),Zz (.c j),Zz (.t (.int ((d:Int)+1+1)))]:=rfl;rw[v];dsimp only;have a:=aB (call:=cf N) (gv:=gv) (env:=[Zz (.t t),Zz (.c i),Zz (.c j),Zz (.t (.int ((d:Int)+1+1)))]) (m:=put (put M j [.int r]) i s) (aa (i:=3) rfl) (ae (.int 1)) (yN ((d:Int)+1+1) 1);rw[show(d:Int)+1+1-1=(d:Int)+1 by omega]at a;rw[iL (show ev (cf N) gv lb _ _=_ from cA ((eP (aa rfl) a (aa rfl)).trans y)),ag,x,ag,show r-(tot (d+1) [w]:Nat)-(tot (d+1) ws:Nat)=r-(tot (d+1) (w::ws):Nat) by rw[b];omega];rfl
  ·have:=B h
   have:=l (by omega);rw[b,RN];omega
  ·have:=A h
   rw[b,RN];by_cases h3:r-(tot (d+1) [w]:Nat)<=3
   ·have:=l h3;omega
   ·have:=z (by omega);omega
theorem JZ:∀(d:Nat) {n:Nat}{M:Mem}{i j:Nat},i≠j->i<M.length->j<M.length->Drawn (n+(d+7)) d M i j:=by
 intro d
 induction d with
 |zero =>
  intro n M i j p hi hj s r hs;have b:i<(put M j [.int (r-1)]).length:=by rw[aF];exact hi
  obtain⟨q,f,d1,l,q0,q1⟩:=aQ (many:=6) b hs (by decide) (by decide);obtain⟨t,y,u,a,o⟩:=B8 b l;refine⟨t,y,?_,a,o.wt,λ_=>o.tot,λh=>by rw[o.tot];omega⟩;rw[o.tot];have E:ex (cf (n+6)) gv ja [Zz (.c i),Zz (.t (.int 1)),Zz (.c j),Zy,Zy] (put (put M j [.int r]) i s)=.ok (.ret (.t t)) (put (put M j [.int (r-1)]) i y):=by
   unfold ja;rw[yi p hj rfl];rw[au ((am (aa rfl) (ae _)).trans d1)];exact az (cH (ar (aa rfl) (ae _) rfl)) (aj ((ax (aa rfl)).trans u))
  exact aG (xO _ _ _) rfl E (aD (by rw[aF,aF,aF,aF]))
 |succ d ih =>
  intro n M i j p hi hj s r hs;have D:=ih (n:=n) p hi hj;have b:∀r:Int,i<(put M j [.int r]).length:=λr=>by rw[aF];exact hi
  obtain⟨q,f,d1,l,q0,q1⟩:=aQ (many:=6) (b (r-1)) hs (by decide) (by decide);have d1:cf (n+(d+7)) 36 [.c i,.t (.int 6)] (put (put M j [.int (r-1)]) i s)=.ok (.t (.int q)) (put (put M j [.int (r-1)]) i f):=d1;have E:∃(t:T) (C:List T),ex (cf (n+(d+7))) gv ja [Zz (.c i),Zz (.t (.int ((d:Int)+1+1))),Zz (.c j),Zy,Zy] (put (put M j [.int r]) i s)=.ok (.ret (.t t)) (put (put M j [.int (r-(tot (d+2) [t]:Nat))]) i C)/\bE C/\WT (d+2) t/\(r<=3->tot (d+2) [t]=1)/\(3<r->(tot (d+2) [t]:Int)<=r-3+5*(d+1)+1):=by
   unfold ja;rw[yi p hj rfl];rw[au ((am (aa rfl) (ae _)).trans d1)];simp only[RD,RE];generalize hE:([Zz (.c i),Zz (.t (.int ((d:Int)+1+1))),Zz (.c j),Zz (.t (.int q)),Zy]:Env)=env;have e0:env[0]?=Zz (Zz (.c i)):=by rw[<-hE];rfl
   have e1:env[1]?=Zz (Zz (.t (.int ((d:Int)+1+1)))):=by rw[<-hE];rfl
   have e2:env[2]?=Zz (Zz (.c j)):=by rw[<-hE];rfl
   have e3:env[3]?=Zz (Zz (.t (.int q))):=by rw[<-hE];rfl
   have c1:=ar (call:=cf (n+(d+7))) (gv:=gv) (m:=put (put M j [.int (r-1)]) i f) (aa e1) (ae (.int 2)) (ln _ _);rw[Xh (by omega)]at c1;have c2:=ar (call:=cf (n+(d+7))) (gv:=gv) (m:=put (put M j [.int (r-1)]) i f) (aa e3) (ae (.int 2)) (ln _ _);have c3:=ar (call:=cf (n+(d+7))) (gv:=gv) (jK (k:=0) e2 (vT (s:=f) (R:=[.int (r-1)]) p hj) rfl) (ae (.int 3)) (ln (r-1) 3);have g:∀k:S,ev (cf (n+(d+7))) gv (.or (.cmp .Lt (.var 1) (.con (.int 2))) (.or (.cmp .Lt (.var 3) (.con (.int 2))) (.cmp .Lt (.ix (.var 2) (.con (.int 0))) (.con (.int 3))))) env (put (put M j [.int (r-1)]) i f)=.ok (.t (.bl true)) (put (put M j [.int (r-1)]) i f)->∃(t:T) (C:List T),ex (cf (n+(d+7))) gv (.bZ (.or (.cmp .Lt (.var 1) (.con (.int 2))) (.or (.cmp .Lt (.var 3) (.con (.int 2))) (.cmp .Lt (.ix (.var 2) (.con (.int 0))) (.con (.int 3))))) (.ret (.call 42 (.cons (.var 0) .nil)) .done) .done k) env (put (put M j [.int (r-1)]) i f)=.ok (.ret (.t t)) (put (put M j [.int (r-(tot (d+2) [t]:Nat))]) i C)/\bE C/\WT (d+2) t/\(r<=3->tot (d+2) [t]=1)/\(3<r->(tot (d+2) [t]:Int)<=r-3+5*(d+1)+1):=λk hc=>by
    obtain⟨t,y,u,a,o⟩:=B8 (n:=n+(d+1)) (b (r-1)) l;have u:cf (n+(d+7)) 42 [.c i] (put (put M j [.int (r-1)]) i f)=.ok (.t t) (put (put M j [.int (r-1)]) i y):=u;have B:tot (d+2) [t]=1:=o.tot;refine⟨t,y,?_,a,o.wt,λ_=>B,λh=>by rw[B];omega⟩;rw[B];exact az hc (aj ((ax (aa e0)).trans u))
   by_cases hq:q<2
   ·rw[Xi hq]at c2
    exact g _ (by rw[aW c1,cH c2])
   rw[Xh hq]at c2;by_cases hr:r-1<3
   ·rw[Xi hr]at c3
    exact g _ (by rw[aW c1,aW c2,c3])
   rw[Xh hr]at c3;rw[ay (by rw[aW c1,aW c2,c3])];have hsub:∀m,ev (cf (n+(d+7))) gv (.bin .Sub (.var 1) (.con (.int 1))) env m=.ok (.t (.int ((d:Int)+1))) m:=λm=>by
    have:=aB (call:=cf (n+(d+7))) (gv:=gv) (m:=m) (aa e1) (ae (.int 1)) (yN ((d:Int)+1+1) 1);rw[show(d:Int)+1+1-1=(d:Int)+1 by omega]at this;exact this
   have c4:=ar (call:=cf (n+(d+7))) (gv:=gv) (m:=put (put M j [.int (r-1)]) i f) (aa e3) (ae (.int 2)) (gL _ _);cases e4:(q==2)with
   |true =>
    rw[e4]at c4;obtain⟨t,y,u,a,hw,a2,b2⟩:=D f (r-1) l;have B:tot (d+2) [.tup [.str [110,111,116],t]]=1+tot (d+1) [t]:=by rw[kW,xS]
    refine⟨_,y,az c4 (aj (aV (ae _) ((eP (aa e0) (hsub _) (aa e2)).trans ?_))),a,.nt hw,λh=>by omega,λh=>?_⟩
    ·rw[B,u,show r-1-(tot (d+1) [t]:Nat)=r-((1+tot (d+1) [t]:Nat):Int) by omega]
    ·rw[B]
     by_cases h3:r-1<=3
     ·have:=a2 h3;omega
     ·have:=b2 (by omega);omega
   |false =>
    rw[e4]at c4;rw[ay c4];obtain⟨q3,y,u,a,a0,a1⟩:=aQ (n:=n+(d+4)) (many:=3) (b (r-1)) l (by decide) (by decide);have u:cf (n+(d+7)) 36 [.c i,.t (.int 3)] (put (put M j [.int (r-1)]) i f)=.ok (.t (.int q3)) (put (put M j [.int (r-1)]) i y):=u;obtain⟨z,hz,hzm⟩:=eu (xs:=[T.int 2,.int 5]) (i:=q3 / 2) (by omega) (by simp;omega);have hz':∃v:Int,z=.int v/\2<=v/\v<=5:=by
     simp only[R6,R3,or_false]at hzm;rcases hzm with rfl|rfl<;>exact⟨_,rfl,by decide,by decide⟩
    obtain⟨v,rfl,v0,v1⟩:=hz';obtain⟨A,s3,d3,hs3,b0,b1⟩:=aQ (n:=n+(d+4)) (many:=v) (b (r-1)) a (by omega) (by omega);have d3:cf (n+(d+7)) 36 [.c i,.t (.int v)] (put (put M j [.int (r-1)]) i y)=.ok (.t (.int A)) (put (put M j [.int (r-1)]) i s3):=d3;have hz:uN (.lst [T.int 2,.int 5]) (.int (q3 / 2))=Zz (.int v):=hz;rw[au (aB (ae (.int 2)) ((am (aa e0) (bi (dF (ae _) (ae _)) (aB ((am (aa e0) (ae _)).trans u) (ae _) (zf (by decide))) hz)).trans d3) (dz _ _))];obtain⟨ws,s4,h5,hs4,l4,w4,a4,b4⟩:=pD D (rangeT 0 (2+A).toNat) s3 (r-1) hs3;have o:ws.length=(2+A).toNat:=by rw[l4];simp[rangeT]
    have hl':(rangeT 0 (2+A).toNat).length=(2+A).toNat:=by simp[rangeT]
    rw[hl']at a4 b4;have hb:∃w,uN (.lst [T.str [97,110,100],.str [111,114]]) (.int (q%2))=Zz (.str w)/\(w=[97,110,100]∨w=[111,114]):=by
     by_cases h:q%2=0
     ·exact⟨_,by rw[h];rfl,.inl rfl⟩
     ·exact⟨_,by rw[show q%2=1 by omega];rfl,.inr rfl⟩
    obtain⟨w,hb,hw⟩:=hb;have B:tot (d+2) [.tup [.str w,.tup ws]]=1+tot (d+1) ws:=by rw[kW,BQ hw (by omega) (by omega)]
    subst hE;simp only[RD,RE];have hcomp:=aZ (own:=1) (keep:=[0,2,1]) (tg:=.nm 0) (cs:=.nil) (inner:=lb) (env:=[Zz (.c i),Zz (.t (.int ((d:Int)+1+1))),Zz (.c j),Zz (.t (.int q)),Zz (.t (.int (2+A)))]) (x:=.t (.lst (rangeT 0 (2+A).toNat))) (aC (aa (i:=4) rfl) (sA (show 2+A<2^62/\-(2^62)<=2+A by omega))) rfl h5 (by rw[o];unfold lim;omega);refine⟨_,s4,aj (aV (bi (dF (ae _) (ae _)) (aB (aa rfl) (ae _) (lE (by decide))) hb) (aC (e:=uF) (hcomp.trans ?_) (i6 _))),hs4,.jn hw (by omega) (by omega) w4,λh=>by omega,λh=>?_⟩
    ·rw[B,show r-1-(tot (d+1) ws:Nat)=r-((1+tot (d+1) ws:Nat):Int) by omega]
     rfl
    ·rw[B]
     by_cases h3:r-1<=3
     ·have:=a4 h3;omega
     ·have:=b4 (by omega);omega
  obtain⟨t,C,e,hs',o⟩:=E;exact⟨t,C,aG (xO _ _ _) rfl e (aD (cell:=false) (by rw[aF,aF,aF,aF])),hs',o⟩
noncomputable def FK(side:List Nat)(card w:T)(a b c e:Int):T:=.tup [.str side,card,w,.int a,.int b,.int c,.int e]
inductive Ho:T->Prop where
 |mk {side nm kd:List Nat}{mk:List (List Nat)}{sz:List (List Nat×Int)}{d:Nat}{w:T}{a b c e:Int}:side∈sides->GoodC nm kd mk sz->d<=5->WT (d+1) w->tot (d+1) [w]<=40->1<=a->a<=1000000->1<=b->b<=a->0<=c->c<=1000->0<=e->e<=1000000000->Ho (FK side (mN nm kd mk sz) w a b c e)
theorem sQ{xs:List Int}{lo hi q:Int}(h:∀x∈xs,lo<=x/\x<=hi)(b:0<=q)(a:q<xs.length):∃v,atT (xs.map T.int) q=Zz (.int v)/\lo<=v/\v<=hi:=by
 obtain⟨x,c,e⟩:=eu (xs:=xs.map T.int) b (by rw[Q4];exact a);obtain⟨v,d,rfl⟩:=Rb.mp e;exact⟨v,c,h v d⟩
theorem yq{n:Nat}{m:Mem}{i:Nat}{s:List T}(hi:i<m.length)(hs:bE s):∃(t:T) (s':List T),cf (n+14) 44 [.c i] (put m i s)=.ok (.t t) (put m i s')/\bE s'/\Ho t:=by
 obtain⟨p1,s1,h1,hs1,p10,p11⟩:=aQ (many:=9) hi hs (by decide) (by decide);obtain⟨p2,s2,h2,hs2,p20,p21⟩:=aQ (many:=1000000) hi hs1 (by decide) (by decide);obtain⟨p3,s3,h3,hs3,p30,p31⟩:=aQ (many:=3) hi hs2 (by decide) (by decide);obtain⟨a,ha,a0,a1⟩:=sQ (xs:=[1+p1,1+p2,1000000]) (lo:=1) (hi:=1000000) (by simp;omega) p30 (by simpa using p31);obtain⟨p4,s4,h4,hs4,p40,p41⟩:=aQ (many:=a) hi hs3 (by omega) (by omega);obtain⟨p5,s5,h5,hs5,p50,p51⟩:=aQ (many:=3) hi hs4 (by decide) (by decide);obtain⟨b,hb,b0,b1⟩:=sQ (xs:=[1,1+p4,a]) (lo:=1) (hi:=a) (by simp;omega) p50 (by simpa using p51);obtain⟨p6,s6,h6,hs6,p60,p61⟩:=aQ (many:=1001) hi hs5 (by decide) (by decide);obtain⟨p7,s7,h7,hs7,p70,p71⟩:=aQ (many:=3) hi hs6 (by decide) (by decide);obtain⟨c,hc,c0,c1⟩:=sQ (xs:=[0,1000,p6]) (lo:=0) (hi:=1000) (by simp;omega) p70 (by simpa using p71);obtain⟨p8,s8,h8,hs8,p80,p81⟩:=aQ (n:=n+10) (many:=1000000001) hi hs7 (by decide) (by decide);obtain⟨p9,s9,h9,hs9,p90,p91⟩:=aQ (n:=n+10) (many:=30) hi hs8 (by decide) (by decide);obtain⟨pa,sa,hA,hsa,pa0,pa1⟩:=aQ (n:=n+10) (many:=4) hi hs9 (by decide) (by decide);obtain⟨e,he,e0,e1⟩:=sQ (xs:=[0,1000000000,p8,p9]) (lo:=0) (hi:=1000000000) (by simp;omega) pa0 (by simpa using pa1);obtain⟨nm,kd,mk,sz,sb,hB,hsb,gc⟩:=JY (n:=n+7) hi hsa;obtain⟨q,sc,hC,hsc,q0,q1⟩:=aQ (n:=n+10) (many:=6) hi hsb (by decide) (by decide);have hj:m.length<(m++[Zy]).length:=by simp
 have hi2:i<(m++[Zy]).length:=by rw[R7];omega
 obtain⟨d,hd⟩:∃d:Nat,q=(d:Int)/\d<=5:=⟨q.toNat,by omega,by omega⟩
 obtain⟨w,sd,hD,hsd,hw,_,tw⟩:=JZ d (n:=n+(6-d)) (show i≠m.length by omega) hi2 hj sc 12 hsc;rw[show n+(6-d)+(d+7)=n+13 by omega]at hD;have g:∀(z:Int) (s:List T),put (put (m++[Zy]) m.length [.int z]) i s=put m i s++[Zz (false,[T.int z])]:=λz s=>by
  have:put (m++[Zy]) m.length [T.int z]=m++[Zz (false,[T.int z])]:=by simp[put]
  rw[this,bI hi]
 rw[g,g]at hD;generalize 12-((tot (d+1) [w]:Nat):Int)=r3 at hD;have hi3:i<(m++[Zz (false,[T.int r3])]).length:=by rw[R7];omega
 obtain⟨q2,se,hE,hse,g0,g1⟩:=aQ (n:=n+10) (many:=3) hi3 hsd (by decide) (by decide);rw[bI hi,bI hi]at hE;obtain⟨y,hy,j⟩:=eu (xs:=[T.str [103,105,118,101],.str [116,97,107,101],.str [98,101,97,114]]) g0 (by simpa using g1);obtain⟨side,h,rfl⟩:∃side,side∈sides/\y=.str side:=by
  simp only[R6,R3,or_false]at j;rcases j with rfl|rfl|rfl<;>exact⟨_,by decide,rfl⟩
 refine⟨FK side (mN nm kd mk sz) w a b c e,se,?_,hse,.mk h gc hd.2 hw (by have:=tw (by decide);omega) a0 a1 b0 b1 c0 c1 e0 e1⟩;have key:ex (cf (n+13)) gv cQ [Zz (.c i),Zy,Zy,Zy,Zy,Zy,Zy] (put m i s)=.ok (.ret (.t (FK side (mN nm kd mk sz) w a b c e))) (put m i se++[Zz (false,[.int r3])]):=by
  simp only[R8,T3]at ha hb hc he;unfold cQ;rw[au (bi (bw (ak (aB (ae _) ((am (aa rfl) (ae _)).trans h1) (dz _ _)) (ak (aB (ae _) ((am (aa rfl) (aB (ae _) (ae _) rfl)).trans h2) (dz _ _)) (ak (aB (ae _) (ae _) rfl) aU))) rfl bg) ((am (aa rfl) (ae _)).trans h3) ha)];rw[au (bi (bw (ak (ae _) (ak (aB (ae _) ((am (aa rfl) (aa rfl)).trans h4) (dz _ _)) (ak (aa rfl) aU))) rfl bg) ((am (aa rfl) (ae _)).trans h5) hb)];rw[au (bi (bw (ak (ae _) (ak (ae _) (ak ((am (aa rfl) (ae _)).trans h6) aU))) rfl bg) ((am (aa rfl) (ae _)).trans h7) hc)];rw[au (bi (bw (ak (ae _) (ak (aB (ae _) (ae _) rfl) (ak ((am (aa rfl) (aB (aB (ae _) (ae _) rfl) (ae _) (dz _ _))).trans h8) (ak ((am (aa rfl) (ae _)).trans h9) aU)))) rfl bg) ((am (aa rfl) (ae _)).trans hA) he)];rw[au ((ax (aa rfl)).trans hB)];simp only[RD,RE];rw[au (w:=.t w) (m1:=put m i sd++[Zz (false,[.int r3])]) ?_]
  ·exact aj (oM (ak (bi (bw (ak (ae _) (ak (ae _) (ak (ae _) aU))) rfl bg) ((am (aa rfl) (ae _)).trans hE) hy) (ak (aa rfl) (ak (aa rfl) (ak (aa rfl) (ak (aa rfl) (ak (aa rfl) (ak (aa rfl) aU))))))) rfl bg)
  ·refine(eP (aa rfl) (aB (ae _) ((am (aa rfl) (ae _)).trans hC) (dz _ _)) (w2:=.c m.length) (m3:=put m i sc++[Zz (false,[.int 12])]) ?_).trans ?_
   ·simp[ev,evs,ag,dm,cN,lim,aF]
   ·rw[hd.1,Int.add_comm 1]
    exact hD
 exact aG (pX _ _ _) rfl key (show Res.ok _ ((put m i se++[Zz (false,[T.int r3])]).take (put m i s).length)=_ from by rw[aF];exact congrArg _ (Ui aF))
theorem eO{α:Type}{f:Env->Mem->Res (List T)}{tg:Tg}{env:Env}{m:Mem}(i o:α->T):∀(xs:List α),(∀x∈xs,∃env',bK tg (i x) env=Zz env'/\f env' m=.ok [o x] m)->cb f tg (xs.map i) env m=.ok (xs.map o) m
 |[],_=>rfl
 |x::xs,h=>by
  obtain⟨env',h1,h2⟩:=h x (by simp);rw[R8,cb,h1];dsimp only;rw[h2,ag,eO i o xs (λy hy=>h y (R5 _ hy)),ag];rfl
def Vd(cs:List Nat):Prop:=∀c∈cs,c<1114112
theorem Vd.app{a b:List Nat}(f:Vd a)(e:Vd b):Vd (a++b):=λc d=>(S1.mp d).elim (f c) (e c)
theorem Vd.join{sep:List Nat}(c:Vd sep):∀{ws:List (List Nat)},(∀w∈ws,Vd w)->Vd (aM sep ws)
 |[],_=>λ_ h=>Xk h R3
 |[x],h=>h x (by simp)
 |x::y::r,h=>((h x (by simp)).app c).app (Vd.join c λw d=>h w (R5 _ d))
theorem Vd.word{w:List Nat}(h:aJ w=true):Vd w:=λc e=>by
 unfold aJ at h;simp only[Q3]at h;have:=(by decide:∀c∈gu,c<200) c (Xl (RF.mp h.2 c e));omega
theorem Vd.dec{k:Int}(d:0<=k)(e:k<=1000000000):Vd (ft k):=λc b=>by
 have:=(cV d (by omega)).1;unfold dW at this;simp only[Q3,RF,decide_eq_true_eq]at this;have:=(by decide:∀c∈iP,c<200) c (this.1.2 c b);omega
def LX(d:Nat)(t:T)(cs:List Nat):Prop:=cs.length<=60*tot d [t]/\Vd cs/\∀n m,cf (n+2*d) 46 [.t t] m=.ok (.t (.str cs)) m
theorem rf{N:Nat}{s:List (List Nat)}{h:List Nat}{r:List T}{cs:List Nat}(j:cs.length<=3000)(c:Vd cs)(g:∀n m,cf (n+N) 46 [.t (.tup (.str h::r))] m=.ok (.t (.str cs)) m):
  ∃b:List Nat,b.length<=cs.length+4/\Vd b/\∀n m,cf (n+N+1) 45 [.t (.tup (.str h::r)),.t (.tup (s.map .str))] m=.ok (.t (.str b)) m:=by
 have f:∀n m (K:S) (R:Res Flow),ex (cf (n+N)) gv K [Zz (.t (.tup (.str h::r))),Zz (.t (.tup (s.map .str))),Zz (.t (.str cs))] m=R->ex (cf (n+N)) gv (.asg 2 (.call 46 (.cons (.var 0) .nil)) K) [Zz (.t (.tup (.str h::r))),Zz (.t (.tup (s.map .str))),Zy] m=R:=λn m K R q=>(au ((ax (aa rfl)).trans (g n m))).trans q
 have d:=λn m=>ar (call:=cf (n+N)) (gv:=gv) (env:=[Zz (.t (.tup (.str h::r))),Zz (.t (.tup (s.map .str))),Zz (.t (.str cs))]) (m:=m) (fZ (aa (i:=0) rfl)) (aa (i:=1) rfl) (AB h s).1
 cases hk:(s.any λa=>a==h)with
 |true =>
  rw[hk]at d;refine⟨[40,32]++cs++[32,41],by simp,(Vd.app (show Vd [40,32] by unfold Vd;decide) c).app (show Vd [32,41] by unfold Vd;decide),λn m=>aG (rg _ _ _) rfl (f n m _ _ (az (d n m) (aj (aB (aB (ae _) (aa rfl) (eZ (by simp[lim];omega))) (ae _) (eZ (by simp[lim];omega)))))) (aD rfl)⟩
 |false =>
  rw[hk]at d;exact⟨cs,by omega,c,λn m=>aG (rg _ _ _) rfl (f n m _ _ ((ay (d n m)).trans (aj (aa rfl)))) (aD rfl)⟩
theorem yQ{call:Nat->List W->Mem->Res W}{gv:List T}{env:Env}{m:Mem}{o:E}{ys:List (List Nat)}(h:ev call gv o env m=.ok (.t (.tup (ys.map .str))) m)(b:(ys.map Rg).sum+ys.length<=lim):ev call gv (.eA .join (.con (.str [32])) (.cons o .nil)) env m=.ok (.t (.str (aM [32] ys))) m:=by
 rw[ev,ae,ag,Xf (show o0 .join (.t (.str [32])) m=true from rfl),evs,h,ag,evs,ag,ag];show cW ((cu (ys.map T.str)).bind λa=>if(a.map Rg).sum+a.length*[32].length<=lim then Zz (T.str (aM [32] a))else Zy) m=_;rw[i8,Rw,Xf (by simpa using b)];rfl
theorem Hs{d:Nat}{t:T}(h:on t):∃cs,LX (d+1) t cs:=by
 have htot:tot (d+1) [t]=1:=by rw[kW,h.Ks,jv]
 unfold LX;rw[htot];cases h with
 |any =>
  refine⟨[97,110,121],by decide,(by unfold Vd;decide),λn m=>aG (cG _ _ _) rfl ?_ (aD rfl)⟩;unfold bL;exact(au (fZ (aa rfl))).trans ((FO (aa rfl) rfl).trans ((wV (aa rfl) rfl).trans ((wV (aa rfl) rfl).trans ((wV (aa rfl) rfl).trans (aj ((yQ (ys:=[[97,110,121]]) (aa rfl) (by simp[lim])).trans rfl))))))
 |@two w v hw hv =>
  obtain⟨_,g2,_⟩:=u9 hv;refine⟨aM [32] [w,v],by rcases hw with rfl|rfl<;>(simp[aM];omega),Vd.join (by unfold Vd;decide) (RA.mpr ⟨by rcases hw with rfl|rfl<;>(unfold Vd;decide),RA.mpr ⟨Vd.word hv,λ_ h=>Xk h R3⟩⟩),λn m=>aG (cG _ _ _) rfl ?_ (aD rfl)⟩;unfold bL;refine(au (fZ (aa rfl))).trans ?_;rw[FO (aa rfl) (by rcases hw with rfl|rfl<;>rfl),wV (aa rfl) (by rcases hw with rfl|rfl<;>rfl),wV (aa rfl) (by rcases hw with rfl|rfl<;>rfl),wV (aa rfl) (by rcases hw with rfl|rfl<;>rfl)];exact aj (yQ (aa rfl) (by rcases hw with rfl|rfl<;>(simp[lim];omega)))
 |@three w v k hw hv k0 k1 =>
  obtain⟨_,g2,_⟩:=u9 hv;obtain⟨_,_,_,f4⟩:=cV k0 (by omega);have hs:∃sg:List Nat,sg.length<=4/\Vd sg/\∀n m,ev (cf n) gv (.ix (.lst (.cons (.con (.str [32,60,61,32])) (.cons (.con (.str [32,62,61,32])) .nil))) (.blt .int (.cons (.cmp .Eq (.var 1) (.con (.str [108,101,97,115,116]))) .nil))) [Zz (.t (.tup [.str w,.str v,.int k])),Zz (.t (.str w))] m=.ok (.t (.str sg)) m:=by
   rcases hw with rfl|rfl
   ·exact⟨[32,62,61,32],by decide,(by unfold Vd;decide),λn m=>bi (dF (ae _) (ae _)) (aC (ar (aa rfl) (ae _) (jy _ _)) (uY _)) rfl⟩
   ·exact⟨[32,60,61,32],by decide,(by unfold Vd;decide),λn m=>bi (dF (ae _) (ae _)) (aC (ar (aa rfl) (ae _) (jy _ _)) (uY _)) rfl⟩
  obtain⟨sg,l4,vs,hs⟩:=hs;refine⟨v++sg++ft k,by simp;omega,((Vd.word hv).app vs).app (Vd.dec k0 k1),λn m=>aG (cG _ _ _) rfl ?_ (aD rfl)⟩;unfold bL;exact(au (fZ (aa rfl))).trans (OX (aa rfl) (by rcases hw with rfl|rfl<;>rfl) (aj (aB (aB (Ao (aa rfl)) (hs _ m) (eZ (by simp[lim];omega))) (aC (bi (aa rfl) (ae _) rfl) (zU (by omega))) (eZ (by simp[lim];omega)))))
theorem ND{α:Type}{P:T->α->Prop}[Inhabited α]{ts:List T}(h:∀t∈ts,∃b,P t b):∃f:T->α,∀t∈ts,P t (f t):=by
 classical
 refine⟨λt=>if a:t∈ts then(h t a).choose else default,λt a=>?_⟩;simp only[dif_pos a];exact(h t a).choose_spec
theorem E9:∀{d:Nat}{t:T},WT d t->60*tot d [t]<=2400->∃cs,LX d t cs:=by
 intro d t h
 induction h with
 |leaf hp _ _=>exact λ_=>Hs (IB hp)
 |@nt d a hw ih =>
  intro hz;have htot:tot (d+1) [.tup [.str [110,111,116],a]]=1+tot d [a]:=by rw[kW,xS]
  obtain⟨cs,h1,v1,h2⟩:=ih (by omega);obtain⟨w,r,rfl⟩:=Tx.cons hw;obtain⟨cs',h3,v3,h4⟩:=rf (s:=[[97,110,100],[111,114]]) (by omega) v1 h2;refine⟨[110,111,116,32]++cs',?_,Vd.app (by unfold Vd;decide) v3,λn m=>?_⟩
  ·rw[htot];simp;omega
  ·refine aG (cG (n+2*d+1) _ _) rfl ?_ (aD rfl)
   unfold bL;exact(au (fZ (aa rfl))).trans ((FO (aa rfl) rfl).trans (ML (aa rfl) rfl (aj (aB (ae _) ((am (Ao (aa rfl)) (aV (ae _) (ae _))).trans (h4 n m)) (eZ (by simp[lim];omega))))))
 |@jn d w j hw h2 h6 hts ih =>
  intro hz;have htot:tot (d+1) [.tup [.str w,.tup j]]=1+(j.map λx=>tot d [x]).sum:=by rw[kW,BQ hw h2 h6,Cc]
  have small:∀t∈j,60*tot d [t]<=2400:=λt ht=>by
   have a2:=F8 (f:=λx=>tot d [x]) ht;omega
  have each:∀S:List (List Nat),∃f:T->List Nat,∀t∈j,(f t).length<=60*tot d [t]+4/\Vd (f t)/\∀n m,cf (n+2*d+1) 45 [.t t,.t (.tup (S.map .str))] m=.ok (.t (.str (f t))) m:=λS=>ND (P:=λt b=>b.length<=60*tot d [t]+4/\Vd b/\∀n m,cf (n+2*d+1) 45 [.t t,.t (.tup (S.map .str))] m=.ok (.t (.str b)) m) λt ht=>by
   obtain⟨cs,h1,v1,h2⟩:=ih t ht (small t ht);obtain⟨a,r,rfl⟩:=Tx.cons (hts t ht);obtain⟨cs',h3,v3,h4⟩:=rf (by have:=small _ ht;omega) v1 h2;exact⟨cs',by omega,v3,h4⟩
  have comp:∀(S:List (List Nat)) (f:T->List Nat) (e:E),(∀t∈j,(f t).length<=60*tot d [t]+4/\Vd (f t)/\∀n m,cf (n+2*d+1) 45 [.t t,.t (.tup (S.map .str))] m=.ok (.t (.str (f t))) m)->(∀n env m,ev (cf n) gv e env m=.ok (.t (.tup (S.map .str))) m)->∀n m,ev (cf (n+2*d+1)) gv (.comp 1 [] (.ix (.var 0) (.con (.int 1))) (.nm 0) .nil (.emit (.call 45 (.cons (.var 0) (.cons e .nil))))) [Zz (.t (.tup [.str w,.tup j])),Zz (.t (.str w))] m=.ok (.t (.lst ((j.map f).map .str))) m:=λS f e hf he n m=>by
   have hl:=eO (f:=bA (cf (n+2*d+1)) gv .nil (.emit (.call 45 (.cons (.var 0) (.cons e .nil))))) (tg:=.nm 0) (env:=[Zy]) (λt=>t) (λt=>T.str (f t)) j (λt ht=>⟨_,rfl,iL (cA ((am (aa rfl) (he _ _ _)).trans ((hf t ht).2.2 n m)))⟩);rw[WL]at hl;rw[SJ];exact aZ (Ao (aa rfl)) rfl hl (by rw[Q4];unfold lim;omega)
  have len:∀(f:T->List Nat),(∀t∈j,(f t).length<=60*tot d [t]+4)->((j.map f).map Rg).sum+(j.map f).length*5<=60*(1+(j.map λx=>tot d [x]).sum):=λf hf=>by
   have:=E0 (g:=λt=>60*tot d [t]+4) hf;rw[CZ]at this;rw[SJ,Q4];have e3:(Ww (Rg ∘ f) j).sum=(j.map λt=>(f t).length).sum:=rfl;rw[e3];omega
  have fin:∀(S:List (List Nat)) (f:T->List Nat) (e:E) (k:List Nat),k.length<=5->Vd k->(∀t∈j,(f t).length<=60*tot d [t]+4/\Vd (f t)/\∀n m,cf (n+2*d+1) 45 [.t t,.t (.tup (S.map .str))] m=.ok (.t (.str (f t))) m)->(∀n env m,ev (cf n) gv e env m=.ok (.t (.tup (S.map .str))) m)->(aM k (j.map f)).length<=60*tot (d+1) [.tup [.str w,.tup j]]/\Vd (aM k (j.map f))/\∀n m,ev (cf (n+2*d+1)) gv (.eA .join (.con (.str k)) (.cons (.comp 1 [] (.ix (.var 0) (.con (.int 1))) (.nm 0) .nil (.emit (.call 45 (.cons (.var 0) (.cons e .nil))))) .nil)) [Zz (.t (.tup [.str w,.tup j])),Zz (.t (.str w))] m=.ok (.t (.str (aM k (j.map f)))) m:=λS f e k h5 v5 hf he=>by
   have l1:=len f λt ht=>(hf t ht).1
   have l2:=ir k (j.map f);have l3:(j.map f).length*k.length<=(j.map f).length*5:=Nat.mul_le_mul_left _ h5;rw[<-htot]at l1;exact⟨by omega,Vd.join v5 (λu hu=>by obtain⟨t,ht,rfl⟩:=Rb.mp hu;exact(hf t ht).2.1),λn m=>Cv (ae _) (comp S f e hf he n m) (by unfold lim;omega)⟩
  rcases hw with rfl|rfl
  ·obtain⟨f,hf⟩:=each [[97,110,100],[111,114]]
   obtain⟨g1,g3,g2⟩:=fin _ f (.tup (.cons (.con (.str [97,110,100])) (.cons (.con (.str [111,114])) .nil))) [32,97,110,100,32] (by decide) (by unfold Vd;decide) hf λn env m=>aV (ae _) (ae _)
   refine⟨_,g1,g3,λn m=>aG (cG (n+2*d+1) _ _) rfl ?_ (aD (cell:=false) rfl)⟩;unfold bL;exact(au (fZ (aa rfl))).trans ((FO (aa rfl) rfl).trans ((wV (aa rfl) rfl).trans (ML (aa rfl) rfl (aj (g2 n m)))))
  ·obtain⟨f,hf⟩:=each [[111,114]]
   obtain⟨g1,g3,g2⟩:=fin _ f (.tup (.cons (.con (.str [111,114])) .nil)) [32,111,114,32] (by decide) (by unfold Vd;decide) hf λn env m=>wR (ae _)
   refine⟨_,g1,g3,λn m=>aG (cG (n+2*d+1) _ _) rfl ?_ (aD (cell:=false) rfl)⟩;unfold bL;exact(au (fZ (aa rfl))).trans ((FO (aa rfl) rfl).trans ((wV (aa rfl) rfl).trans ((wV (aa rfl) rfl).trans (ML (aa rfl) rfl (aj (g2 n m))))))
noncomputable def dv(ws:List (List Nat)):List Nat:=if ws=[]then[45]else aM [44] ws
theorem yj:∀{ws:List (List Nat)}{k:Nat},(∀w∈ws,w.length<=k)->(ws.map Rg).sum<=ws.length*k
 |[],_,_=>by simp
 |a::l,k,h=>by
  have:=h a (by simp);have:=yj λw c=>h w (R5 _ c)
  rw[R8,Tp,RN,Nat.succ_mul];omega
theorem ud(sep:List Nat):∀{ws:List (List Nat)}{k:Nat},(∀w∈ws,w.length<=k)->(aM sep ws).length<=ws.length*(k+sep.length)/\(ws.map Rg).sum+ws.length*sep.length<=ws.length*(k+sep.length)
 |[],k,_=>by simp[aM]
 |x::r,k,h=>by
  have d:=ir sep (x::r);have c:=yj h;rw[X6];omega
theorem uB{n:Nat}{m:Mem}{ws:List (List Nat)}(j:ws.length<=100)(g:aw 60 (.lst (ws.map .str))=true)(c:∀w∈ws,w≠[]/\w.length<=100):cf (n+1) 47 [.t (.lst (ws.map .str))] m=.ok (.t (.str (dv ws))) m:=by
 have l:=(ud [44] (ws:=ws) (k:=100) λw h=>(c w h).2)
 have i:ws.length*(100+[44].length)<=10100:=by simp;omega
 have e:eT .join (.str [44]) [.lst (ws.map .str)]=Zz (.str (aM [44] ws)):=by
  show((cu (ws.map T.str)).bind λys=>if(ys.map Rg).sum+ys.length*[44].length<=lim then Zz (T.str (aM [44] ys))else Zy)=_;rw[i8,Rw,Xf (by unfold lim;omega)]
 have f:ev (cf n) gv (.eA .join (.con (.str [44])) (.cons (.var 0) .nil)) [Zz (.t (.lst (ws.map .str)))] m=.ok (.t (.str (aM [44] ws))) m:=by
  rw[ev,ae,ag,Xf (show o0 .join (.t (.str [44])) m=true from rfl),evs,aa rfl,ag,evs,ag,ag];show cW (eT .join (.str [44]) [.lst (ws.map .str)]) m=_;rw[e];rfl
 have d:bn .Eq (.lst (ws.map .str)) (.lst [])=Zz (decide (ws=[])):=by
  show(if lz _ _ || (aw 60 _&&aw 60 (.lst []))then _ else _)=_;rw[Xf (by rw[g];exact V2 _)];cases ws<;>rfl
 have b:ex (cf n) gv iX [Zz (.t (.lst (ws.map .str)))] m=.ok (.ret (.t (.str (dv ws)))) m:=by
  unfold iX;refine aj (bi (dF f (ae _)) (aC (ar (aa rfl) (by simp[ev,evs,ag,cN,lim]) d) (uY _)) ?_);unfold dv;by_cases h:ws=[]
  ·subst h;rfl
  ·rw[Xg h,Xh h];rfl
 exact aG (zA _ _ _) rfl b (aD (cell:=false) rfl)
theorem jo{w:List Nat}(h:aJ w=true):w≠[]/\w.length<=8/\∀c∈w,c∈gu:=by
 unfold aJ at h;simp at h;exact⟨λe=>by simp[e]at h,h.1.1.2,h.2⟩
theorem jJ{w:List Nat}{c:Nat}(h:aJ w=true)(b:c∉gu):c∉w:=λa=>b ((jo h).2.2 c a)
noncomputable def zw(p:List Nat×Int):List Nat:=p.1++([61]++ft p.2)
noncomputable def ip(side nm kd:List Nat)(mk:List (List Nat))(sz:List (List Nat×Int))(a b c e:Int):List (List Nat):=[side,nm,kd,dv mk,dv (sz.map zw),ft a,ft b,ft c,ft e]
theorem vb{ws:List (List Nat)}(hl:ws.length<=6)(h:∀w∈ws,w.length<=20):(dv ws).length<=126:=by
 unfold dv;split
 ·simp
 ·have:=(ud [44] h).1
  simp at this;omega
theorem FU{p:List Nat×Int}(a:aJ p.1=true)(b:0<=p.2)(e:p.2<=1000000000):zw p≠[]/\(zw p).length<=20:=by
 have d:=(cV b (by omega)).2.2.2;have c:=(jo a).2.1;refine⟨by simp[zw],?_⟩;simp[zw];omega
theorem dec_not{k:Int}{c:Nat}(d:0<=k)(e:k<=1000000000)(b:c∉iP):c∉ft k:=λa=>by
 have:=(cV d (by omega)).1;unfold dW at this;simp only[Q3,RF,decide_eq_true_eq]at this;exact b (this.1.2 c a)
theorem xV{c h j:List Nat}{i:List (List Nat)}{sz:List (List Nat×Int)}{a b d e:Int}(k:c∈sides)(g:GoodC h j i sz)(o:0<=a)(C:a<=1000000000)(n:0<=b)(B:b<=1000000000)(m:0<=d)(A:d<=1000000000)(e0:0<=e)(e1:e<=1000000000):((ip c h j i sz a b d e).map Rg).sum+9<=2000:=by
 have r:c.length<=4:=by
  simp only[sides,R6,R3,or_false]at k;rcases k with rfl|rfl|rfl<;>decide
 have s:=(jo g.nm).2.1;have u:=(jo g.kd).2.1;have z:=(cV o (by omega)).2.2.2;have y:=(cV n (by omega)).2.2.2;have x:=(cV m (by omega)).2.2.2;have v:=(cV e0 (by omega)).2.2.2;have t:=vb g.Qf λw f=>by have:=(jo (RF.mp g.OM w f)).2.1;omega
 have q:=vb (ws:=sz.map zw) (by rw[Q4];exact g.P0) λw f=>by
  obtain⟨p,l,rfl⟩:=Rb.mp f;have:=g.Nh p l;exact(FU this.1 this.2.1 this.2.2).2
 simp[ip];omega
theorem yS{c f i:List Nat}{g:List (List Nat)}{sz:List (List Nat×Int)}{a b d e:Int}(h:((ip c f i g sz a b d e).map Rg).sum+9<=2000):(aM [32] (ip c f i g sz a b d e)).length<=2000:=Re (ir [32] _) h
theorem CU{p:List Nat×Int}(h:aJ p.1=true/\0<=p.2/\p.2<=1000000000):∀c∈zw p,c<1114112:=λc a=>by
 refine Nat.lt_of_not_le λhz=>?_
 rcases S1.mp a with a|a
 ·exact jJ h.1 (c:=c) (λq=>Xk ((by decide:∀c∈gu,c<200) c q) (by omega)) a
 ·rcases S1.mp a with a|a
  ·simp at a;omega
  ·exact dec_not h.2.1 h.2.2 (c:=c) (λq=>Xk ((by decide:∀c∈iP,c<200) c q) (by omega)) a
theorem law_text_ok{n:Nat}{V:List Nat}{m:Mem}{d l o:List Nat}{j:List (List Nat)}{sz:List (List Nat×Int)}{w:T}{a b c e:Int}(hs:d∈sides)(g:GoodC l o j sz)(a0:0<=a)(a1:a<=1000000000)(b0:0<=b)(b1:b<=1000000000)(c0:0<=c)(c1:c<=1000000000)(e0:0<=e)(e1:e<=1000000000)(hwt:∀m,cf (n+40) 46 [.t w] m=.ok (.t (.str (V))) m)(hwl:(V).length<=2400):
  cf (n+41) 48 [.t (FK d (mN l o j sz) w a b c e)] m=.ok (.t (.str (aM [32] (ip d l o j sz a b c e)++([32,124,32]++V)))) m:=by
 have r:=xV hs g a0 a1 b0 b1 c0 c1 e0 e1;have hlen:=yS r;have hm:=λm=>uB (n:=n+39) (m:=m) (ws:=j) (by have:=g.Qf;omega) (by
  rw[aw];refine cY λt ht=>?_
  obtain⟨w,s,rfl⟩:=Rb.mp ht;exact iN (RF.mp g.OM w s)) λw s=>by
  have:=jo (RF.mp g.OM w s);exact⟨this.1,by omega⟩
 have hz:=λm=>uB (n:=n+39) (m:=m) (ws:=sz.map zw) (by rw[Q4];have:=g.P0;omega) (by
  rw[aw];refine cY λt ht=>?_
  obtain⟨w,s,rfl⟩:=Rb.mp ht;obtain⟨p,v,rfl⟩:=Rb.mp s;exact iJ (CU (g.Nh p v))) λw s=>by
  obtain⟨p,v,rfl⟩:=Rb.mp s;have q:=g.Nh p v;have:=FU q.1 q.2.1 q.2.2;exact⟨this.1,by omega⟩
 have k1:∀(M:Mem) (i:Env),i[2]?=Zz (Zz (.t (mN l o j sz)))->ev (cf (n+40)) gv jD i M=.ok (.t (.lst ((sz.map zw).map .str))) M:=λM i he=>by
  have h:=eO (f:=bA (cf (n+40)) gv .nil fc) (tg:=.tp [0,1]) (env:=[Zy,Zy]) (m:=M) rh (λp=>T.str (zw p)) sz (λp v=>by
   have q:=g.Nh p v;have q1:=(cV q.2.1 (by omega)).2.2.2;have q2:=(jo q.1).2.1;refine⟨[Zz (.t (.str p.1)),Zz (.t (.int p.2))],rfl,iL (show ev (cf (n+40)) gv fc _ _=_ from cA ((aB (aB (aa rfl) (ae _) (eZ (by simp[lim];omega))) (aC (aa rfl) (zU (by omega))) (eZ (by simp[lim];omega))).trans ?_))⟩;simp[zw])
  rw[SJ];exact aZ (x:=.t (.tup (sz.map rh))) (m0:=M) (bi (aa he) (ae _) rfl) rfl h (by rw[Q4];have:=g.P0;unfold lim;omega)
 have k0:∀(M:Mem) (i:Env),i[4]?=Zz (Zz (.t (.int a)))->i[5]?=Zz (Zz (.t (.int b)))->i[6]?=Zz (Zz (.t (.int c)))->i[7]?=Zz (Zz (.t (.int e)))->ev (cf (n+40)) gv jA i M=.ok (.t (.lst ([a,b,c,e].map λk=>T.str (ft k)))) M:=λM i h4 h5 h6 h7=>by
  have h:=eO (f:=bA (cf (n+40)) gv .nil fb) (tg:=.nm 0) (env:=[Zy]) (m:=M) T.int (λk=>T.str (ft k)) [a,b,c,e] (λk hk=>by
   have q:0<=k/\k<=1000000000:=by
    simp only[R6,R3,or_false]at hk;rcases hk with rfl|rfl|rfl|rfl<;>omega
   exact⟨_,rfl,iL (show ev (cf (n+40)) gv fb _ _=_ from cA (aC (aa rfl) (zU (by omega))))⟩)
  refine aZ (x:=.t (.lst ([a,b,c,e].map T.int))) (m0:=M) ?_ rfl h (by simp[lim]);simp[ev,evs,h4,h5,h6,h7,ag,dm,cN,lim]
 have hv:∀(M:Mem) (u:List T),view (.c M.length) (M++[Zz (false,u)])=Zz (.lst u):=λM u=>by simp[view]
 have z:ex (cf (n+40)) gv c9 [Zz (.t (FK d (mN l o j sz) w a b c e)),Zy,Zy,Zy,Zy,Zy,Zy,Zy,Zy] m=.ok (.ret (.t (.str (aM [32] (ip d l o j sz a b c e)++([32,124,32]++V))))) (m++[Zz (false,[T.str d,.str l,.str o,.str (dv j),.str (dv (sz.map zw))])]++[Zz (false,(ip d l o j sz a b c e).map .str)]):=by
  unfold c9;rw[kX (aa rfl) rfl];simp only[TW,List.zip_nil_right,Vx,U7,List.foldl_nil,RD,RE];rw[au (w:=.c m.length) (m1:=m++[Zz (false,[T.str d,.str l,.str o,.str (dv j)])]) (by
   rw[ev,ak (aa rfl) (ak (bi (aa rfl) (ae _) rfl) (ak (bi (aa rfl) (ae _) rfl) (ak ((ax (aC (bi (aa rfl) (ae _) rfl) rfl)).trans (hm m)) aU))),ag];simp[dm,cN,ag,lim])]
  simp only[RD,RE];rw[kL (w:=.t .non) (m1:=m++[Zz (false,[T.str d,.str l,.str o,.str (dv j),.str (dv (sz.map zw))])]) (by
   rw[ev,aa rfl,ag,Xf (by simp[o0]),ak ((ax (k1 _ _ rfl)).trans (hz _)) aU,ag];exact wG (by simp[lim]))]
  rw[au (w:=.c (m.length+1)) (m1:=m++[Zz (false,[T.str d,.str l,.str o,.str (dv j),.str (dv (sz.map zw))])]++[Zz (false,(ip d l o j sz a b c e).map .str)]) (by
   rw[ev,aa rfl,ag,k0 _ _ rfl rfl rfl rfl,ag];unfold Im;rw[hv];simp[view,DH,lim,ip])]
  simp only[RD,RE];refine aj (aB (aB (x:=.str (aM [32] (ip d l o j sz a b c e))) ?_ (ae _) (eZ (by simp[lim];omega))) ((ax (aa rfl)).trans (hwt _)) ((eZ (by simp[lim];omega)).trans (by rw[S3])));rw[ev,ae,ag,Xf (show o0 .join (.t (.str [32])) _=true from rfl),ak (aa rfl) aU,ag];have hl1:m.length+1=(m++[Zz (false,[T.str d,.str l,.str o,.str (dv j),.str (dv (sz.map zw))])]).length:=by simp
  show cW ((view _ _).bind λx=>(views [_] _).bind λu=>eT .join x u) _=_;rw[hl1,views,hv];show cW ((cu ((ip d l o j sz a b c e).map T.str)).bind λy=>if(y.map Rg).sum+y.length*[32].length<=lim then Zz (T.str (aM [32] y))else Zy) _=_;rw[i8,Rw,Xf (by unfold lim;exact Re r (by decide))];rfl
 exact aG (r9 _ _ _) rfl z (show Res.ok _ ((m++_++_).take m.length)=_ from by rw[S3];exact congrArg _ (Ui rfl))
theorem yA{ws:List (List Nat)}(h:∀w∈ws,Vd w):Vd (dv ws):=by
 unfold dv;split
 ·unfold Vd;decide
 ·exact Vd.join (by unfold Vd;decide) h
theorem IT{side nm kd:List Nat}{mk:List (List Nat)}{sz:List (List Nat×Int)}{a b d e:Int}(hs:side∈sides)(g:GoodC nm kd mk sz)(a0:0<=a)(a1:a<=1000000000)(b0:0<=b)(b1:b<=1000000000)(c0:0<=d)(c1:d<=1000000000)(e0:0<=e)(e1:e<=1000000000):∀w∈ip side nm kd mk sz a b d e,Vd w:=by
 have q1:Vd side:=by
  simp only[sides,R6,R3,or_false]at hs;rcases hs with rfl|rfl|rfl<;>(unfold Vd;decide)
 have q2:Vd (dv mk):=yA λw hw=>Vd.word (RF.mp g.OM w hw)
 have q3:Vd (dv (sz.map zw)):=yA λw hw=>by
  obtain⟨p,hp,rfl⟩:=Rb.mp hw;exact CU (g.Nh p hp)
 unfold ip;exact RA.mpr ⟨q1,RA.mpr ⟨Vd.word g.nm,RA.mpr ⟨Vd.word g.kd,RA.mpr ⟨q2,RA.mpr ⟨q3,RA.mpr ⟨Vd.dec a0 a1,RA.mpr ⟨Vd.dec b0 b1,RA.mpr ⟨Vd.dec c0 c1,RA.mpr ⟨Vd.dec e0 e1,λ_ h=>Xk h R3⟩⟩⟩⟩⟩⟩⟩⟩⟩
theorem qH{t:T}(h:Ho t):∃cs:List Nat,cs.length<=5000/\Vd cs/\∀n m,cf (n+41) 48 [.t t] m=.ok (.t (.str cs)) m:=by
 cases h with
 |@mk side nm kd mk sz d w a b c e hs g hd hw ht a0 a1 b0 b1 c0 c1 e0 e1 =>
  obtain⟨V,h1,v1,h2⟩:=E9 hw (by omega);have hl:=yS (xV hs g (show 0<=a by omega) (show a<=1000000000 by omega) (show 0<=b by omega) (show b<=1000000000 by omega) c0 (show c<=1000000000 by omega) e0 e1);refine⟨_,?_,(Vd.join (by unfold Vd;decide) (IT hs g (by omega) (by omega) (by omega) (by omega) c0 (by omega) e0 e1)).app (Vd.app (by unfold Vd;decide) v1),λn m=>law_text_ok (V:=V) hs g (by omega) (by omega) (by omega) (by omega) c0 (by omega) e0 e1 (λm=>by have:=h2 (n+40-2*(d+1)) m;rwa [show n+40-2*(d+1)+2*(d+1)=n+40 by omega]at this) (by omega)⟩;simp;omega
noncomputable def mn:List (List (List Nat)):=[[[],[45],[103,105,118,101],[116,97,107,101],[98,101,97,114],[71,105,118,101],[97,110,110],[105,115],[97,110,121],[110,105,110,101,115,105,103,110,115],[101,105,103,104,116,115,105,103],[97,44,98],[98,44,97]],[[97,44,97],[97,44],[44,97],[97,61,49],[97,61,49,44,98,61,50],[98,61,50,44,97,61,49],[97,61,49,44,97,61,50],[97,61],[61,49],[97,61,48,49]],[[97,61,49,48,48,48,48,48,48,48,48,48],[97,61,49,48,48,48,48,48,48,48,48,49]],[[97,61,45,49],[48],[49],[48,48],[48,49],[55],[49,48,48,48],[49,48,48,49],[49,48,48,48,48,48,48],[49,48,48,48,48,48,49],[49,48,48,48,48,48,48,48,48,48],[49,48,48,48,48,48,48,48,48,49]],[[57,57,57,57,57,57,57,57,57,57,57],[45,49],[43,49],[49,46,48],[124],[124,124],[97,61,98],[97,44,98,44,99,44,100,44,101,44,102],[97,44,98,44,99,44,100,44,101,44,102,44,103],[97,110,100]],[[114,121,101],[40]]]
noncomputable def tl(ws:List (List Nat)):Nat:=(ws.map Rg).sum+ws.length
theorem kM(w:List Nat)(ws:List (List Nat)):tl (w::ws)=w.length+1+tl ws:=by simp[tl];omega
theorem vm(a b:List (List Nat)):tl (a++b)=tl a+tl b:=by simp[tl];omega
theorem sx(c:Nat):∀cs:List Nat,tl (ap c cs)=cs.length+1
 |[]=>rfl
 |a::r=>by
  have ih:=sx c r;rw[ap];split
  ·rw[kM,ih];simp;omega
  ·split
   ·rename_i x xs e
    rw[e,kM]at ih;rw[kM];simp at ih ⊢;omega
   ·rename_i e
    exact Xk e (dw c r)
theorem wC{ws:List (List Nat)}{k:Nat}{w:List Nat}(h:ws[k]?=Zz w):tl (ws.take k)+(w.length+1)+tl (ws.drop (k+1))=tl ws:=by
 obtain⟨a,rfl⟩:=R0.mp h;have:=congrArg tl (TX k ws);rw[vm,Su a,kM]at this;omega
theorem Lj(ws:List (List Nat)):ws.length<=tl ws:=by unfold tl;omega
theorem mF(c:Nat):∀{cs:List Nat},Vd cs->∀w∈ap c cs,Vd w
 |[],_,w,f=>by
  rw[ap]at f;rw[Rp.mp f];exact λ_ h=>Xk h R3
 |a::r,h,w,f=>by
  have g:=mF c λx hx=>h x (R5 _ hx)
  rw[ap]at f;split at f
  ·rcases R6.mp f with rfl|f
   ·exact λ_ h=>Xk h R3
   ·exact g w f
  ·split at f
   ·rename_i x xs e
    rw[e]at g;rcases R6.mp f with rfl|f
    ·intro y i
     rcases R6.mp i with rfl|i
     ·exact h _ (by simp)
     ·exact g x (by simp) y i
    ·exact g w (R5 _ f)
   ·rename_i e
    exact Xk e (dw c r)
theorem Fb{x:List Nat}(h:Vd x)(lo hi:Option Int):Vd (cut x lo hi):=λc a=>by
 unfold cut at a;exact h c (UO (UP a))
theorem FW:Vd [32]:=by unfold Vd;decide
noncomputable def Bn:List (List Nat):=mn.flatten
theorem Ax:Bn.length=49/\∀w∈Bn,w.length<=13/\∀c∈w,c<1114112:=by decide +kernel
section
variable{n:Nat}{m:Mem}{i:Nat}{s:List T}
theorem om(hi:i<m.length)(L:List T):(put (m++[Zz (false,L)]) i s)[m.length]?=Zz (Zz (false,L)):=by
 rw[bI hi,RZ (by rw[aF];exact R1 _),aF,Th];rfl
theorem xa(hi:i<m.length)(L a:List T):(put (m++[Zz (false,L)]) i s).set m.length (Zz (false,a))=put (m++[Zz (false,a)]) i s:=by
 rw[bI hi,bI hi,UF _ _ (by rw[aF];exact R1 _),aF,Th];rfl
theorem rR(hi:i<m.length)(L:List T):view (.c m.length) (put (m++[Zz (false,L)]) i s)=Zz (.lst L):=by
 unfold view;dsimp only;rw[om hi]
theorem rX{env:Env}(hi:i<m.length){ws:List (List Nat)}(a:env[3]?=Zz (Zz (.c m.length))):ev (cf n) gv (.blt .len (.cons (.var 3) .nil)) env (put (m++[Zz (false,ws.map .str)]) i s)=.ok (.t (.int (ws.length:Int))) (put (m++[Zz (false,ws.map .str)]) i s):=by
 refine Ak (ak (aa a) aU) (ts:=[.lst (ws.map .str)]) ?_ (by rw[ki,Q4]);show(view (.c m.length) _).bind _=_;rw[rR hi];rfl
theorem DX{env:Env}(hi:i<m.length){ws:List (List Nat)}(e:env[3]?=Zz (Zz (.c m.length)))(d:tl ws<=900000):ev (cf n) gv (.eA .join (.con (.str [32])) (.cons (.var 3) .nil)) env (put (m++[Zz (false,ws.map .str)]) i s)=.ok (.t (.str (aM [32] ws))) (put (m++[Zz (false,ws.map .str)]) i s):=by
 rw[ev,ae,ag,Xf (show o0 .join (.t (.str [32])) _=true from rfl),ak (aa e) aU,ag];show cW ((view _ _).bind λx=>(views [_] _).bind λb=>eT .join x b) _=_;rw[views,rR hi];show cW ((cu (ws.map T.str)).bind λa=>if(a.map Rg).sum+a.length*[32].length<=lim then Zz (T.str (aM [32] a))else Zy) _=_;rw[i8,Rw,Xf (by unfold tl at d;unfold lim;simp;omega)];rfl
theorem ng(ws:List (List Nat)):(aM [32] ws).length<=tl ws:=by
 have:=ir [32] ws;unfold tl;simpa using this
theorem Kj(hi:i<m.length)(l:bE s){env:Env}(r:env[0]?=Zz (Zz (.c i)))(d:env[2]?=Zz (Zz (.t (.lst (Bn.map .str))))):∃(w:List Nat) (b:List T),ev (cf (n+3)) gv (.ix (.var 2) (.call 36 (.cons (.var 0) (.cons (.blt .len (.cons (.var 2) .nil)) .nil)))) env (put m i s)=.ok (.t (.str w)) (put m i b)/\bE b/\w.length<=13/\Vd w:=by
 obtain⟨q,e,g,a,h,f⟩:=aQ (many:=49) hi l (by decide) (by decide);obtain⟨y,j,o⟩:=eu (xs:=Bn.map T.str) h (by rw[Q4,Ax.1];exact f);obtain⟨w,k,rfl⟩:=Rb.mp o;have p:b8 .len [.lst (Bn.map T.str)]=Zz (.int 49):=by rw[ki,Q4,Ax.1];rfl
 exact⟨w,e,bi (aa d) ((am (aa r) (aC (aa d) p)).trans g) j,a,Ax.2 w k⟩
end
theorem dg{call:Nat->List W->Mem->Res W}{gv:List T}{env:Env}{m:Mem}:ex call gv .done env m=.ok (.next env) m:=by rw[ex]
section
variable{n:Nat}{m:Mem}{i:Nat}{s:List T}
theorem NX{m:Mem}{j k:Nat}{xs:List T}{t:T}(h:m[j]?=Zz (Zz (false,xs)))(d:k<=xs.length)(b:xs.length<lim):Ar .insert (.c j) [.t (.int (k:Int)),.t t] m=.ok (.t .non) (m.set j (Zz (false,xs.take k++t::xs.drop k))):=by
 have a:oQ .insert xs [.int (k:Int),t]=Zz (.non,xs.take k++t::xs.drop k):=Xf ⟨by omega,by omega,b⟩;simp[Ar,dm,cN,ag,h,a]
theorem Eg(hi:i<m.length)(hs:bE s){x:List Nat}(hx:x.length<=100000)(hvd:Vd x):∃(y:List Nat) (f:List T),cf (n+4) 49 [.c i,.t (.str x)] (put m i s)=.ok (.t (.str y)) (put m i f)/\bE f/\y.length<=2*x.length+40/\Vd y:=by
 obtain⟨ws,hws⟩:∃ws,ap 32 x=ws:=⟨_,rfl⟩
 have htl:=sx 32 x;have hne:=dw 32 x;have hwv:=mF 32 hvd;rw[hws]at htl hne hwv;have hlen:=Lj ws;have h0:=VV.mpr hne;have hi2:∀L:List T,i<(m++[Zz (false,L)]).length:=λL=>by rw[R7];omega
 obtain⟨r,s1,g1,hs1,r0,r1⟩:=aQ (many:=3) (hi2 (ws.map .str)) hs (by decide) (by decide);obtain⟨v,hv,v0,v1⟩:∃v:Int,atT [T.int ((min ws.length 11:Nat):Int),.int ((min ws.length 11:Nat):Int),.int (ws.length:Int)] r=Zz (.int v)/\0<v/\v<=(ws.length:Int):=by
  obtain⟨z,hz,hm⟩:=eu (xs:=[T.int ((min ws.length 11:Nat):Int),.int ((min ws.length 11:Nat):Int),.int (ws.length:Int)]) r0 (by simpa using r1);simp only[R6,R3,or_false]at hm;rcases hm with rfl|rfl|rfl<;>exact⟨_,hz,by omega,by omega⟩
 obtain⟨a,s2,g2,hs2,a0,a1⟩:=aQ (hi2 (ws.map .str)) hs1 (by omega) (by omega);obtain⟨y,s3,g3,hs3,y0,y1⟩:=aQ (many:=6) (hi2 (ws.map .str)) hs2 (by decide) (by decide);obtain⟨k,rfl⟩:∃k:Nat,a=(k:Int):=⟨a.toNat,by omega⟩
 have hk:k<ws.length:=by omega
 have hw:=Ra hk;have hp:=wC hw;obtain⟨w,s4,g4,hs4,w4,wv⟩:=Kj (env:=[Zz (.c i),Zz (.t (.str x)),Zz (.t (.lst (Bn.map .str))),Zz (.c m.length),Zz (.t (.int (k:Int))),Zz (.t (.int y)),Zy,Zy]) (hi2 _) hs3 rfl rfl;have hmin:b8 .min2 [.int (ws.length:Int),.int 11]=Zz (.int ((min ws.length 11:Nat):Int)):=by
  show Zz (T.int (if(11:Int)<(ws.length:Int)then 11 else(ws.length:Int)))=_;split<;>(congr 2;omega)
 have head:∀K:S,ex (cf (n+3)) gv (.asg 3 (.yG (.eA .split (.var 1) (.cons (.con (.str [32])) .nil))) (.asg 4 (.call 36 (.cons (.var 0) (.cons (.ix (.lst (.cons (.blt .min2 (.cons (.blt .len (.cons (.var 3) .nil)) (.cons (.con (.int 11)) .nil))) (.cons (.blt .min2 (.cons (.blt .len (.cons (.var 3) .nil)) (.cons (.con (.int 11)) .nil))) (.cons (.blt .len (.cons (.var 3) .nil)) .nil)))) (.call 36 (.cons (.var 0) (.cons (.con (.int 3)) .nil)))) .nil))) (.asg 5 (.call 36 (.cons (.var 0) (.cons (.con (.int 6)) .nil))) K))) [Zz (.c i),Zz (.t (.str x)),Zz (.t (.lst (Bn.map .str))),Zy,Zy,Zy,Zy,Zy] (put m i s)=ex (cf (n+3)) gv K [Zz (.c i),Zz (.t (.str x)),Zz (.t (.lst (Bn.map .str))),Zz (.c m.length),Zz (.t (.int (k:Int))),Zz (.t (.int y)),Zy,Zy] (put (m++[Zz (false,ws.map .str)]) i s3):=λK=>by
  refine(au (w:=.c m.length) (m1:=put (m++[Zz (false,ws.map .str)]) i s) ?_).trans ?_
  ·rw[ev,ev,aa rfl,ag,Xf (show o0 .split (.t (.str x)) _=true from rfl),ak (ae _) aU,ag]
   have:eT .split (.str x) [.str [32]]=Zz (.lst (ws.map .str)):=by rw[<-hws];exact Xf (by omega)
   rw[show Ar .split (.t (.str x)) [.t (.str [32])] (put m i s)=cW (eT .split (.str x) [.str [32]]) (put m i s)from rfl,this];show Res.ok (W.c (put m i s).length) (put m i s++[Zz (false,ws.map .str)])=_;rw[aF,bI hi]
  refine(au ((am (aa rfl) (bi (bw (ak (qb (rX hi rfl) (ae _) hmin) (ak (qb (rX hi rfl) (ae _) hmin) (ak (rX hi rfl) aU))) rfl bg) ((am (aa rfl) (ae _)).trans g1) hv)).trans g2)).trans ?_;exact au ((am (aa rfl) (ae _)).trans g3)
 have fin:∀(ys:List (List Nat)) (f:List T) {e5 e6 e7:Option W},tl ys<=2*x.length+40->ex (cf (n+3)) gv (.ret (.eA .join (.con (.str [32])) (.cons (.var 3) .nil)) .done) [Zz (.c i),Zz (.t (.str x)),Zz (.t (.lst (Bn.map .str))),Zz (.c m.length),Zz (.t (.int (k:Int))),e5,e6,e7] (put (m++[Zz (false,ys.map .str)]) i f)=.ok (.ret (.t (.str (aM [32] ys)))) (put (m++[Zz (false,ys.map .str)]) i f):=λys f _ _ _ h=>aj (DX hi rfl (by omega))
 have no:∀{j:Int}{M:Mem}{e2:Option W}{a:S}{K:S},(y==j)=false->ex (cf (n+3)) gv (.bZ (.cmp .Eq (.var 5) (.con (.int j))) a .done K) [Zz (.c i),Zz (.t (.str x)),e2,Zz (.c m.length),Zz (.t (.int (k:Int))),Zz (.t (.int y)),Zy,Zy] M=ex (cf (n+3)) gv K [Zz (.c i),Zz (.t (.str x)),e2,Zz (.c m.length),Zz (.t (.int (k:Int))),Zz (.t (.int y)),Zy,Zy] M:=λh=>ay (ar (k:=false) (aa rfl) (ae _) ((gL _ _).trans (by rw[h])))
 suffices main:∃(z:List Nat) (L f:List T),ex (cf (n+3)) gv iU [Zz (.c i),Zz (.t (.str x)),Zy,Zy,Zy,Zy,Zy,Zy] (put m i s)=.ok (.ret (.t (.str z))) (put (m++[Zz (false,L)]) i f)/\bE f/\z.length<=2*x.length+40/\Vd z by
  obtain⟨z,L,f,key,h1,h2⟩:=main;exact⟨z,f,aG (A4 _ _ _) rfl key (show Res.ok _ ((put (m++[_]) i _).take (put m i s).length)=_ from by rw[aF,bI hi];exact congrArg _ (Ui aF)),h1,h2⟩
 unfold iU;rw[au (w:=.t (.lst ((mn.take 1).flatten.map .str))) (m1:=put m i s) rfl,au (w:=.t (.lst ((mn.take 2).flatten.map .str))) (m1:=put m i s) rfl,au (w:=.t (.lst ((mn.take 3).flatten.map .str))) (m1:=put m i s) rfl,au (w:=.t (.lst ((mn.take 4).flatten.map .str))) (m1:=put m i s) rfl,au (w:=.t (.lst ((mn.take 5).flatten.map .str))) (m1:=put m i s) rfl,au (w:=.t (.lst (Bn.map .str))) (m1:=put m i s) rfl];simp only[RD,RE];rw[head];by_cases hy:y<2
 ·refine⟨aM [32] (ws.set k w),(ws.set k w).map .str,s4,?_,hs4,Re (ng _) ?_,Vd.join FW λu hu=>(List.mem_or_eq_of_mem_set hu).elim (hwv u) λe=>e▸wv⟩
  ·refine(l0 (ar (k:=true) (aa rfl) (ae _) ((ln _ _).trans (congrArg Zz (Xi hy)))) (env':=[Zz (.c i),Zz (.t (.str x)),Zz (.t (.lst (Bn.map .str))),Zz (.c m.length),Zz (.t (.int (k:Int))),Zz (.t (.int y)),Zy,Zy]) (m2:=put (m++[Zz (false,(ws.set k w).map .str)]) i s4) ?_).trans ?_
   ·rw[ex,g4,ag,aa rfl,ag,aa rfl,ag]
    have:setM (.c m.length) (.t (.int (k:Int))) (.t (.str w)) (put (m++[Zz (false,ws.map .str)]) i s4)=.ok () (put (m++[Zz (false,(ws.set k w).map .str)]) i s4):=by
     show(match(put (m++[Zz (false,ws.map T.str)]) i s4)[m.length]? with
      |some (Zz (false,xs))=>match iW xs.length (k:Int)with
       |some j=>Res.ok () ((put (m++[Zz (false,ws.map T.str)]) i s4).set m.length (Zz (false,xs.set j (.str w))))
       |none=>.stuck
      |_=>.stuck)=_
     rw[om hi];dsimp only;rw[nJ (by omega) (by rw[Q4];omega)];dsimp only;rw[xa hi,T6,List.map_set]
    rw[this,ag];exact dg
   ·rw[no (by rw[Xj];omega),no (by rw[Xj];omega),no (by rw[Xj];omega),no (by rw[Xj];omega)]
    exact fin _ _ (by
     have:=wC (ws:=ws.set k w) (k:=k) (w:=w) (by rw[RS hk]);rw[List.take_set_of_le (R1 _),List.drop_set_of_lt (by omega)]at this;omega)
  ·have:=wC (ws:=ws.set k w) (k:=k) (w:=w) (by rw[RS hk])
   rw[List.take_set_of_le (R1 _),List.drop_set_of_lt (by omega)]at this;omega
 rw[ay (ar (k:=false) (aa rfl) (ae _) ((ln _ _).trans (congrArg Zz (Xh hy))))];by_cases h2:y=2
 ·have hpt:tl (ws.eraseIdx k)<=tl ws:=by
   rw[List.eraseIdx_eq_take_drop_succ,vm];omega
  refine⟨aM [32] (ws.eraseIdx k),(ws.eraseIdx k).map .str,s3,?_,hs3,Re (ng _) (by omega),Vd.join FW λu hu=>hwv u (List.mem_of_mem_eraseIdx hu)⟩;refine(l0 (ar (k:=true) (aa rfl) (ae _) (by rw[gL,h2];rfl)) (env':=[Zz (.c i),Zz (.t (.str x)),Zz (.t (.lst (Bn.map .str))),Zz (.c m.length),Zz (.t (.int (k:Int))),Zz (.t (.int y)),Zy,Zy]) (m2:=put (m++[Zz (false,(ws.eraseIdx k).map .str)]) i s3) ?_).trans ?_
  ·refine(kL (w:=.t (.str ws[k])) (m1:=put (m++[Zz (false,(ws.eraseIdx k).map .str)]) i s3) ?_).trans dg
   have hm:oQ .fe (ws.map T.str) [.int (k:Int)]=Zz (.str ws[k],(ws.eraseIdx k).map .str):=by
    show(match iW (ws.map T.str).length (k:Int)with
     |some j=>((ws.map T.str)[j]?).map λt=>(t,(ws.map T.str).eraseIdx j)
     |none=>Zy)=_
    rw[nJ (by omega) (by rw[Q4];omega)];dsimp only;rw[T6,Rh,hw,og];rfl
   rw[ev,aa rfl,ag,Xf (show o0 .fe (.c m.length) _=true by unfold o0;dsimp only;rw[om hi]),ak (aa rfl) aU,ag,G6 (.inr rfl) (om hi _) hm,xa hi]
  ·rw[no (by rw[Xj];omega),no (by rw[Xj];omega),no (by rw[Xj];omega)]
   exact fin _ _ (by omega)
 rw[no (by rw[Xj];omega)];have ins:∀(j:Int) (e:E) (K:S) (u:List Nat) (f:List T),u.length<=tl ws+13->y=j->ev (cf (n+3)) gv e [Zz (.c i),Zz (.t (.str x)),Zz (.t (.lst (Bn.map .str))),Zz (.c m.length),Zz (.t (.int (k:Int))),Zz (.t (.int y)),Zy,Zy] (put (m++[Zz (false,ws.map .str)]) i s3)=.ok (.t (.str u)) (put (m++[Zz (false,ws.map .str)]) i f) ->
   ex (cf (n+3)) gv (.bZ (.cmp .Eq (.var 5) (.con (.int j))) (.expr (.eA .insert (.var 3) (.cons (.var 4) (.cons e .nil))) .done) .done K) [Zz (.c i),Zz (.t (.str x)),Zz (.t (.lst (Bn.map .str))),Zz (.c m.length),Zz (.t (.int (k:Int))),Zz (.t (.int y)),Zy,Zy] (put (m++[Zz (false,ws.map .str)]) i s3)=ex (cf (n+3)) gv K [Zz (.c i),Zz (.t (.str x)),Zz (.t (.lst (Bn.map .str))),Zz (.c m.length),Zz (.t (.int (k:Int))),Zz (.t (.int y)),Zy,Zy] (put (m++[Zz (false,(ws.take k++u::ws.drop k).map .str)]) i f):=λj e K u f _ hj he=>by
  refine l0 (ar (k:=true) (aa rfl) (ae _) (by rw[gL,hj];simp)) ((kL (w:=.t .non) ?_).trans dg);rw[ev,aa rfl,ag,Xf (show o0 .insert (.c m.length) _=true by unfold o0;dsimp only;rw[om hi]),ak (aa rfl) (ak he aU),ag,NX (om hi _) (by rw[Q4];omega) (by rw[Q4];unfold lim;omega),xa hi,Ug,R8,List.map_take,List.map_drop]
 have insv:∀u:List Nat,Vd u->Vd (aM [32] (ws.take k++u::ws.drop k)):=λu hu=>Vd.join FW λv hv=>by
  rcases S1.mp hv with hv|hv
  ·exact hwv v (UP hv)
  ·rcases R6.mp hv with rfl|hv
   ·exact hu
   ·exact hwv v (UO hv)
 have tli:∀u:List Nat,tl (ws.take k++u::ws.drop k)=tl ws+u.length+1:=λu=>by
  have:=congrArg tl (TX k ws);rw[vm]at this;rw[vm,kM];omega
 by_cases h3:y=3
 ·have hu:ws[k].length+1<=tl ws:=by omega
  refine⟨aM [32] (ws.take k++ws[k]::ws.drop k),(ws.take k++ws[k]::ws.drop k).map .str,s3,?_,hs3,Re (ng _) (by rw[tli];omega),insv _ (hwv _ (Ts hk))⟩;rw[ins 3 _ _ ws[k] s3 (by omega) h3 (by
   rw[ev,aa rfl,ag,aa rfl,ag];show cW ((view (.c m.length) _).bind λx=>_) _=_;rw[rR hi];show cW (atT (ws.map T.str) (k:Int)) _=_;unfold atT;rw[nJ (by omega) (by rw[Q4];omega)];show cW ((ws.map T.str)[(k:Int).toNat]?) _=_;rw[T6,Rh,hw];rfl),no (by rw[Xj];omega),no (by rw[Xj];omega)]
  exact fin _ _ (by rw[tli];omega)
 rw[no (by rw[Xj];omega)];by_cases h4:y=4
 ·refine⟨aM [32] (ws.take k++w::ws.drop k),(ws.take k++w::ws.drop k).map .str,s4,?_,hs4,Re (ng _) (by rw[tli];omega),insv _ wv⟩
  rw[ins 4 _ _ w s4 (by omega) h4 g4,no (by rw[Xj];omega)];exact fin _ _ (by rw[tli];omega)
 rw[no (by rw[Xj];omega)];have h5:y=5:=by omega
 obtain⟨c,s5,g5,hs5,c0,c1⟩:=aQ (n:=n) (many:=(x.length:Int)+1) (hi2 (ws.map .str)) hs3 (by omega) (by omega);obtain⟨q,s6,g6,hs6,q0,q1⟩:=aQ (n:=n) (many:=8) (hi2 (ws.map .str)) hs5 (by decide) (by decide);obtain⟨z,hz,hm⟩:=eu (xs:=[T.str [32],.str [44],.str [61],.str [10],.str [48],.str [65],.str [97],.str []]) q0 (by simpa using q1);obtain⟨u,rfl,u1,uv⟩:∃u:List Nat,z=.str u/\u.length<=1/\Vd u:=by
  simp only[R6,R3,or_false]at hm;rcases hm with rfl|rfl|rfl|rfl|rfl|rfl|rfl|rfl<;>exact⟨_,rfl,by decide,by unfold Vd;decide⟩
 have l1:=B5 x Zy (Zz c);have l2:=B5 x (Zz (c+b2i (u==[]))) Zy;refine⟨cut x Zy (Zz c)++u++cut x (Zz (c+b2i (u==[]))) Zy,ws.map .str,s6,?_,hs6,by rw[R7,R7];omega,((Fb hvd _ _).app uv).app (Fb hvd _ _)⟩;have hx1:∀lo hi,EL (.str x) lo hi=Zz (.str (cut x lo hi)):=λlo hi=>Xf (by unfold lim;omega)
 refine az (ar (k:=true) (aa rfl) (ae _) (by rw[gL,h5];rfl)) ?_;refine(au ((am (aa rfl) (aB (aC (aa rfl) (lB (by unfold lim;omega))) (ae _) (dz _ _))).trans g5)).trans ?_;refine(au (bi (bw (ak (ae _) (ak (ae _) (ak (ae _) (ak (ae _) (ak (ae _) (ak (ae _) (ak (ae _) (ak (ae _) aU)))))))) rfl bg) ((am (aa rfl) (ae _)).trans g6) hz)).trans ?_;refine aj (aB (m1:=put (m++[Zz (false,ws.map .str)]) i s6) (aB (m1:=put (m++[Zz (false,ws.map .str)]) i s6) (x:=.str (cut x Zy (Zz c))) ?_ (aa rfl) (eZ (by unfold lim;omega))) (y:=.str (cut x (Zz (c+b2i (u==[]))) Zy)) ?_ (eZ (by rw[R7];unfold lim;omega)))
 ·rw[ev,aa rfl,ag,Xf (show aA .hole=true from rfl),ag,Xg (show ¬aA (.var 6)=true from λz=>by cases z),aa rfl,ag]
  show cW (EL (.str x) Zy (Zz c)) _=_;rw[hx1];rfl
 ·rw[ev,aa rfl,ag,Xg (λz=>by cases z),aB (aa rfl) (aC (ar (aa rfl) (ae _) (jy _ _)) (uY _)) (dz _ _),ag]
  show cW (EL (.str x) (Zz (c+b2i (u==[]))) Zy) _=_;rw[hx1];rfl
end
theorem jX{α:Type}{f:Env->Mem->Res (List T)}{tg:Tg}{env:Env}{m:Mem}{emb:α->T}{g:α->List T}:∀(as:List α),(∀a∈as,∃env',bK tg (emb a) env=Zz env'/\f env' m=.ok (g a) m)->cb f tg (as.map emb) env m=.ok (as.flatMap g) m
 |[],_=>rfl
 |a::as,h=>by
  obtain⟨env',h1,h2⟩:=h a RU;rw[R8,cb,h1];show(f env' m).bind _=_;rw[h2,ag,jX as λx hx=>h x (R5 _ hx)];rfl
theorem vI{call:Nat->List W->Mem->Res W}{gv:List T}{env:Env}{m:Mem}{a b c:E}{x y:T}{o p:X5}(f:ev call gv a env m=.ok (.t x) m)(e:ev call gv b env m=.ok (.t y) m)(d:bn o x y=Zz false):ev call gv (.vO o p a b c) env m=.ok (.t (.bl false)) m:=by
 rw[ev,f,ag,e,ag];show(match bn o x y with
  |some true=>_
  |some false=>_
  |none=>_)=_
 rw[d]
theorem xo{call:Nat->List W->Mem->Res W}{gv:List T}{env:Env}{m:Mem}{a b c:E}{x y z:T}{o p:X5}{k:Bool}(h:ev call gv a env m=.ok (.t x) m)(g:ev call gv b env m=.ok (.t y) m)(f:bn o x y=Zz true)(e:ev call gv c env m=.ok (.t z) m)(d:bn p y z=Zz k):ev call gv (.vO o p a b c) env m=.ok (.t (.bl k)) m:=by
 rw[ev,h,ag,g,ag];show(match bn o x y with
  |some true=>(ev call gv c env m).bind λz m=>cW (((view (.t y) m).bind λy=>(view z m).bind λz=>bn p y z).map .bl) m
  |some false=>_
  |none=>_)=_
 rw[f];rw[e];show cW ((bn p y z).map .bl) m=_;rw[d];rfl
theorem Ic{xs:List T}(h:aL 59 xs=true):bn .Eq (.lst xs) (.lst [])=Zz xs.isEmpty/\bn .NotEq (.lst xs) (.lst [])=Zz (!xs.isEmpty):=by
 have c:aw 60 (.lst xs)=true:=by rw[aw];exact h
 have b:aw 60 (.lst [])=true:=by decide
 have a:eqT (.lst xs) (.lst [])=xs.isEmpty:=by cases xs<;>simp[eqT,o6]
 constructor
 ·show(if(lz (.lst xs) (.lst []) || (aw 60 (.lst xs)&&aw 60 (.lst [])))=true then Zz (eqT (.lst xs) (.lst []))else Zy)=_
  rw[c,b,S6,V2,Xf rfl,a]
 ·show(if(lz (.lst xs) (.lst []) || (aw 60 (.lst xs)&&aw 60 (.lst [])))=true then Zz (!eqT (.lst xs) (.lst []))else Zy)=_
  rw[c,b,S6,V2,Xf rfl,a]
theorem di{call:Nat->List W->Mem->Res W}{gv:List T}{env:Env}{m:Mem}{b:Mt}{o e:E}{x y r:T}(hb:b=.split∨b=.partition)(ho:ev call gv o env m=.ok (.t x) m)(he:ev call gv e env m=.ok (.t y) m)(hx:cJ x .str=true)(hm:eT b x [y]=Zz r):ev call gv (.eA b o (.cons e .nil)) env m=.ok (.t r) m:=by
 cases x with
 |str cs =>
  rcases hb with rfl|rfl<;>rw[ev,ho,ag,Xf (by rfl),evs,he,ag,evs,ag,ag]
  ·show cW (eT .split (.str cs) [y]) m=_
   rw[hm];rfl
  ·show cW (eT .partition (.str cs) [y]) m=_
   rw[hm];rfl
 |_=>cases hx
theorem AX(a b:Nat):bn .LtE (.str [a]) (.str [b])=Zz (decide (a<=b)):=by
 show Zz (!cO [b] [a])=_;have:cO [b] [a]=decide (b<a):=by
  unfold cO;by_cases h:b<a
  ·rw[Xf h,Xi h]
  ·rw[Xg h,Xh h]
   split<;>rfl
 rw[this];by_cases h:b<a
 ·rw[Xi h,Xh (by omega)];rfl
 ·rw[Xh h,Xi (by omega)];rfl
theorem Hr{c:Nat}:c∈gu↔97<=c/\c<=122:=by
 refine⟨λh=>(by decide:∀c∈gu,97<=c/\c<=122) c h,λh=>?_⟩;obtain⟨i,rfl⟩:∃i,c=97+i:=⟨c-97,by omega⟩
 exact(by decide:∀i<26,97+i∈gu) i (by omega)
theorem GZ{c:Nat}:c∈iP↔48<=c/\c<=57:=by
 refine⟨λh=>(by decide:∀c∈iP,48<=c/\c<=57) c h,λh=>?_⟩;obtain⟨i,rfl⟩:∃i,c=48+i:=⟨c-48,by omega⟩
 exact(by decide:∀i<10,48+i∈iP) i (by omega)
section
variable{n:Nat}{m:Mem}{w:List Nat}
theorem uu{lo hi:Nat}{c:E}(hc:c=.comp 1 [] (.var 0) (.nm 0) (.cons (.not (.vO .LtE .LtE (.con (.str [lo])) (.var 0) (.con (.str [hi])))) .nil) (.emit (.var 0)))(d:w.length<=lim):ev (cf n) gv c [Zz (.t (.str w))] m=.ok (.t (.lst (w.flatMap λx=>if(decide (lo<=x)&&decide (x<=hi))=true then[]else[T.str [x]]))) m:=by
 subst hc;refine aZ (x:=.t (.str w)) (aa rfl) (by simp[bp,n8,d]) (jX w λx _=>⟨[Zz (.t (.str [x]))],rfl,?_⟩) ?_
 ·by_cases h1:lo<=x
  ·have b:=xo (call:=cf n) (gv:=gv) (m:=m) (env:=[Zz (.t (.str [x]))]) (ae (.str [lo])) (aa (i:=0) rfl) (by rw[AX,Xi h1]) (ae (.str [hi])) (AX x hi)
   by_cases h2:x<=hi
   ·rw[Xi h2]at b
    rw[Xi h1,Xi h2];exact MS (bf b)
   ·rw[Xh h2]at b
    rw[Xi h1,Xh h2];exact E8 (bf b) (cA (aa rfl))
  ·rw[Xh h1]
   exact E8 (bf (vI (ae _) (aa rfl) (by rw[AX,Xh h1]))) (cA (aa rfl))
 ·refine Re ?_ d
  induction w with
  |nil=>simp
  |cons a r ih =>
   have:=ih (by simp at d;omega);rw[UH,R7,RN];split<;>simp at this ⊢<;>omega
theorem ya{lo hi:Nat}(d:Vd w):bn .NotEq (.lst (w.flatMap λx=>if(decide (lo<=x)&&decide (x<=hi))=true then[]else[T.str [x]])) (.lst [])=Zz (!w.all λx=>decide (lo<=x)&&decide (x<=hi)):=by
 have e:aL 59 (w.flatMap λx=>if(decide (lo<=x)&&decide (x<=hi))=true then[]else[T.str [x]])=true:=cY λt b=>by
  obtain⟨x,hx,b⟩:=V9.mp b;split at b
  ·cases b
  ·rw[Rp.mp b]
   exact iJ λc hc=>by rw[Rp.mp hc];exact d x hx
 rw[(Ic e).2]
 congr 2
 clear e d
 induction w with
 |nil=>rfl
 |cons a r ih =>
  rw[UH,Ro,<-ih];cases(decide (lo<=a)&&decide (a<=hi))<;>rfl
noncomputable def wT(w:List Nat):T:=if aJ w=true then .str w else .non
noncomputable def nT(w:List Nat):T:=if(dW w&&decide (aN w<=1000000000))=true then .int (aN w)else .non
theorem FF:(w.all λx=>decide (97<=x)&&decide (x<=122))=w.all λc=>decide (c∈gu):=by
 congr 1
 funext c
 rw[Sr,Q3,decide_eq_true_eq,decide_eq_true_eq,decide_eq_true_eq,Hr]
theorem zi:(w.all λx=>decide (48<=x)&&decide (x<=57))=w.all λc=>decide (c∈iP):=by
 congr 1
 funext c
 rw[Sr,Q3,decide_eq_true_eq,decide_eq_true_eq,decide_eq_true_eq,GZ]
theorem Lx(cs:List Nat):bn .In (.str cs) (.lst [.str [97,110,121],.str [105,115],.str [98,121],.str [110,111,116],.str [97,110,100],.str [111,114]])=Zz (jU cs):=(AB cs six).2
theorem nh(j:w.length<=100000)(g:Vd w):cf (n+1) 51 [.t (.str w)] m=.ok (.t (wT w)) m:=by
 have a:w.length<=lim:=by unfold lim;omega
 refine aG (GJ _ _ _) rfl ?_ (aD rfl);unfold qz;have e:ev (cf n) gv (.not (.vO .LtE .LtE (.con (.int 1)) (.blt .len (.cons (.var 0) .nil)) (.con (.int 8)))) [Zz (.t (.str w))] m=.ok (.t (.bl (!(decide (1<=w.length)&&decide (w.length<=8))))) m:=by
  refine bf ?_;by_cases h:1<=w.length
  ·rw[Xi h,S6]
   refine(xo (ae _) (aC (aa rfl) (lB a)) ((tj _ _).trans (by rw[Xi (by omega)])) (ae _) (tj _ _)).trans ?_
   congr 3
   rw[decide_eq_decide];omega
  ·rw[Xh h]
   exact vI (ae _) (aC (aa rfl) (lB a)) ((tj _ _).trans (by rw[Xh (by omega)]))
 have f:aJ w=(((decide (1<=w.length)&&decide (w.length<=8))&&!jU w)&&w.all λc=>decide (c∈gu)):=rfl;unfold wT;rw[f];cases q1:(decide (1<=w.length)&&decide (w.length<=8))with
 |false =>
  rw[q1]at e;exact az (cH e) (aj (ae _))
 |true =>
  rw[q1]at e;have d:=(aW e).trans (ar (aa (i:=0) rfl) (bw (ak (ae (.str [97,110,121])) (ak (ae (.str [105,115])) (ak (ae (.str [98,121])) (ak (ae (.str [110,111,116])) (ak (ae (.str [97,110,100])) (ak (ae (.str [111,114])) aU)))))) rfl bg) (Lx w));cases q2:jU w with
  |true =>
   rw[q2]at d;exact az d (aj (ae _))
  |false =>
   rw[q2]at d;refine(ay d).trans ?_;have b:=ar (uu (n:=n) (m:=m) (c:=tV) rfl a) (bw aU rfl bg) (ya g);rw[FF]at b;cases q3:w.all λc=>decide (c∈gu)with
   |true =>
    rw[q3]at b;exact(ay b).trans (aj (aa rfl))
   |false =>
    rw[q3]at b;exact az b (aj (ae _))
theorem CH(f:w.length<=100000):cf (n+3) 27 [.t (.str w)] m=.ok (.t (nT w)) m:=by
 refine aG (vW _ _ _) rfl ?_ (aD rfl);unfold gS nT;have a:=kf (n:=n+1) (m:=m) (cs:=w) (by unfold lim;omega);cases q:dW w with
 |false =>
  rw[q]at a;exact(ay (mW ((ax (aa rfl)).trans a))).trans (aj (ae _))
 |true =>
  rw[q]at a;have d:=(wh q).1;have c:=fL (n:=n) (m:=m) (x:=.int (aN w));have g:0<=aN w:=Vp _;have e:j9 (.int (aN w))=decide (aN w<=1000000000):=by
   unfold j9;rw[Sr];simp;omega
  rw[e]at c;have b:=(fz (gv:=gv) (env:=[Zz (.t (.str w))]) ((ax (aa (i:=0) rfl)).trans a)).trans ((ax (aC (aa (i:=0) rfl) d)).trans c);rw[S6];cases q2:decide (aN w<=1000000000)with
  |false =>
   rw[q2]at b;exact(ay b).trans (aj (ae _))
  |true =>
   rw[q2]at b;exact az b (aj (aC (aa rfl) d))
theorem BP{c:Nat}{r:List Nat}(h:(c::r).length<=lim):uN (.str (c::r)) (.int 0)=Zz (.str [c]):=by
 simp only[uN];rw[Xf h,at0];rfl
theorem CS(hl:w.length<=100000)(hv:Vd w):cf (n+1) 50 [.t (.str w)] m=.ok (.t (nT w)) m:=by
 have a:w.length<=lim:=by unfold lim;omega
 refine aG (sW _ _ _) rfl ?_ (aD rfl);unfold fC;cases w with
 |nil=>exact az (cH (ar (aa rfl) (ae _) rfl)) (aj (ae _))
 |cons c r =>
  have j:ev (cf n) gv (.cmp .Eq (.var 0) (.con (.str []))) [Zz (.t (.str (c::r)))] m=.ok (.t (.bl false)) m:=ar (aa rfl) (ae _) rfl;have hf:dW (c::r)=(((decide (1<=(c::r).length)&&decide ((c::r).length<=10))&&(c::r).all λc=>decide (c∈iP))&&(c::r==[48] || (c::r).head? != Zz 48)):=rfl;have f:=ar (call:=cf n) (gv:=gv) (env:=[Zz (.t (.str (c::r)))]) (m:=m) (aC (aa (i:=0) rfl) (lB a)) (ae (.int 10)) (GC _ _);unfold nT;rw[hf,Xi (show 1<=(c::r).length by simp),S6];by_cases q1:(c::r).length<=10
  ·rw[Xh (by omega)]at f
   rw[Xi q1,S6];have d:=ar (uu (n:=n) (m:=m) (c:=j7) rfl a) (bw aU rfl bg) (ya hv);rw[zi]at d;cases q2:(c::r).all λc=>decide (c∈iP)with
   |false =>
    rw[q2]at d;exact az ((aW j).trans ((aW f).trans d)) (aj (ae _))
   |true =>
    rw[q2]at d;refine(ay ((aW j).trans ((aW f).trans d))).trans ?_;have k:b8 .int [.str (c::r)]=Zz (.int (aN (c::r))):=by
     exact Xf ⟨by simp,by omega,by rw[zi];exact q2⟩
    have g:=ar (call:=cf n) (gv:=gv) (env:=[Zz (.t (.str (c::r)))]) (m:=m) (op:=.Gt) (aC (aa (i:=0) rfl) k) (aB (ae (.int 10)) (ae (.int 9)) (show iq .Pow (.int 10) (.int 9)=Zz (.int 1000000000)from rfl)) (GC _ _);have b:ev (cf n) gv (.and (.cmp .Eq (.ix (.var 0) (.con (.int 0))) (.con (.str [48]))) (.cmp .NotEq (.var 0) (.con (.str [48])))) [Zz (.t (.str (c::r)))] m=.ok (.t (.bl (!(c::r==[48] || (c::r).head? != Zz 48)))) m:=by
     have h:=ar (call:=cf n) (gv:=gv) (env:=[Zz (.t (.str (c::r)))]) (m:=m) (bi (x:=.str (c::r)) (aa (i:=0) rfl) (ae (.int 0)) (BP a)) (ae (.str [48])) (jy _ _);by_cases e:c=48
     ·subst e
      rw[show([48]==[48])=true from rfl]at h;refine(fz h).trans ((ar (aa rfl) (ae _) (rk _ _)).trans ?_);simp
     ·rw[show([c]==[48])=false by simp[e]]at h
      refine(mW h).trans ?_;simp[e]
    cases q3:(c::r==[48] || (c::r).head? != Zz 48)with
    |false =>
     rw[q3]at b;exact az (cH b) (aj (ae _))
    |true =>
     rw[q3]at b;rw[S6,S6];by_cases q4:aN (c::r)<=1000000000
     ·rw[Xh (by omega)]at g
      rw[Xi q4];exact(ay ((aW b).trans g)).trans (aj (aC (aa rfl) k))
     ·rw[Xi (by omega)]at g
      rw[Xh q4];exact az ((aW b).trans g) (aj (ae _))
  ·rw[Xi (by omega)]at f
   rw[Xh q1];exact az ((aW j).trans (cH f)) (aj (ae _))
end
noncomputable def aK(w:List Nat):List (List Nat):=if(w==[45])=true then[]else ap 44 w
noncomputable def Pa(sep s:List Nat):List Nat:=(Tr ⟨s.toArray⟩ ⟨sep.toArray⟩).1.cps.toList
noncomputable def Pb(sep s:List Nat):List Nat:=(Tr ⟨s.toArray⟩ ⟨sep.toArray⟩).2.2.cps.toList
theorem gh(sep s:List Nat):((∀c∈Pa sep s,c∈s)/\(Pa sep s).length<=s.length)/\(∀c∈Pb sep s,c∈s)/\(Pb sep s).length<=s.length:=by
 unfold Pa Pb;rcases UB ⟨s.toArray⟩ ⟨sep.toArray⟩with⟨b,_⟩|⟨i,b,_,_⟩
 ·rw[b]
  simp[show PySem.Str.empty.cps=#[]from rfl]
 ·rw[b]
  simp only[UI];refine⟨⟨λc d=>?_,?_⟩,λc d=>?_,?_⟩
  ·have:=UO (UP d)
   simpa using this
  ·rw[Rn]
   refine Re (W9 _ _) ?_;simp
  ·have:=UO (UP d)
   simpa using this
  ·rw[Rn]
   refine Re (W9 _ _) ?_;simp
noncomputable abbrev P1(s:List Nat):List Nat:=Pa [61] s
noncomputable abbrev P3(s:List Nat):List Nat:=Pb [61] s
theorem NU{sep s:List Nat}(h:Vd s):Vd (Pa sep s):=λc hc=>h c ((gh sep s).1.1 c hc)
theorem NV{sep s:List Nat}(h:Vd s):Vd (Pb sep s):=λc hc=>h c ((gh sep s).2.1 c hc)
theorem vG{sep s:List Nat}(e:sep≠[])(d:s.length<=900000):eT .partition (.str s) [.str sep]=Zz (.tup [.str (Pa sep s),.str (Tr ⟨s.toArray⟩ ⟨sep.toArray⟩).2.1.cps.toList,.str (Pb sep s)]):=by
 cases sep with
 |nil=>exact Xk rfl e
 |cons a r=>exact Xf d
theorem mJ(w:List Nat):(aK w).length<=w.length+1/\∀u∈aK w,u.length<=w.length:=by
 unfold aK;split
 ·exact⟨Ur _,λ_ h=>Xk h R3⟩
 ·exact split_len 44 w
theorem Fq{w:List Nat}(h:Vd w):∀u∈aK w,Vd u:=by
 unfold aK;split
 ·exact λ_ h=>Xk h R3
 ·exact mF 44 h
theorem zu:∀{us:List (List Nat)},us.Pairwise (λa b=>cO a b=true)->bO us=true
 |[],_=>rfl
 |[a],_=>rfl
 |a::b::r,h=>by
  obtain⟨d,c⟩:=Rx.mp h;rw[bO,d b (by simp),zu c];rfl
theorem rH:∀{us:List (List Nat)},bO us=true->bt us=us
 |[],_=>rfl
 |[a],_=>rfl
 |a::b::r,h=>by
  rw[bO,Q3]at h;show o7 a (bt (b::r))=_;rw[rH h.2,o7,Xf h.1]
theorem Ki(us:List (List Nat)):(us==bt us)=bO us:=by
 rw[Sr,beq_iff_eq];refine⟨λh=>?_,λh=>(rH h).symm⟩;rw[h];exact zu (jd us)
section
variable{n:Nat}{m:Mem}{w:List Nat}
theorem yJ(a:w.length<=100000):cf (n+1) 26 [.t (.str w)] m=.ok (.t (.lst ((aK w).map .str))) m:=by
 refine aG (wp _ _ _) rfl ?_ (aD rfl);unfold gU aK;have h:=ar (call:=cf n) (env:=[Zz (.t (.str w))]) (m:=m) (aa (i:=0) rfl) (jC wP) (jy _ _);cases q:w==[45]with
 |true =>
  rw[q]at h;exact az h (aj (bw aU rfl bg))
 |false =>
  rw[q]at h;exact(ay h).trans (aj (di (.inl rfl) (aa rfl) (ae _) rfl (Xf (by omega))))
noncomputable def xw(s:List Nat):T:=.tup [.str (P1 s),nT (P3 s)]
theorem Hu(b:w.length<=100000):cf (n+4) 28 [.t (.str w)] m=.ok (.t (xw w)) m:=by
 refine aG (Ag _ _ _) rfl ?_ (aD rfl);unfold kT;have a:=vG (sep:=[61]) (s:=w) (by simp) (by omega);refine(kX (di (.inr rfl) (aa rfl) (ae _) rfl a) rfl).trans ?_;exact aj (aV (aa rfl) ((ax (aa rfl)).trans (CH (show(Pb [61] w).length<=100000 by have:=(gh [61] w).2.2;omega))))
theorem Cm(us:List (List Nat)):bn .NotIn .non (.lst (us.map wT))=Zz (us.all aJ):=by
 have b:(us.map wT).all flat=true:=RF.mpr λt f=>by
  obtain⟨u,_,rfl⟩:=Rb.mp f;unfold wT;split<;>rfl
 show((if(flat .non&&(us.map wT).all flat)=true then Zz ((us.map wT).any λt=>eqT t .non)else _)).map (!·)=_;rw[b,Xf (show(flat .non&&true)=true from rfl)];show Zz (!(us.map wT).any λt=>eqT t .non)=_
 congr 1
 clear b
 induction us with
 |nil=>rfl
 |cons a r e =>
  rw[R8,UZ,Ro,Bool.not_or,e]
  congr 1
  unfold wT;cases aJ a<;>simp[eqT]
theorem qZ:∀{us:List (List Nat)},us.all aJ=true->us.map wT=us.map T.str
 |[],_=>rfl
 |a::r,h=>by
  rw[Ro,Q3]at h;rw[R8,R8,qZ h.2];unfold wT;rw[Xf h.1]
theorem GI{us c:List (List Nat)}(f:∀u∈us,Vd u)(hv:∀u∈c,Vd u):bn .Eq (.lst (us.map .str)) (.lst (c.map .str))=Zz (us==c):=by
 have d:∀{us:List (List Nat)},(∀u∈us,Vd u)->aw 60 (.lst (us.map .str))=true:=λ{us} h=>by
  rw[aw];exact cY λt ht=>by
   obtain⟨u,f,rfl⟩:=Rb.mp ht;exact iJ (h u f)
 show(if(lz _ _ || (aw 60 (.lst (us.map .str))&&aw 60 (.lst (c.map .str))))=true then Zz (eqT (.lst (us.map .str)) (.lst (c.map .str)))else Zy)=_;rw[d f,d hv,Xf (by simp)]
 congr 1
 show o6 _ _=_;clear d f hv
 induction us generalizing c with
 |nil=>cases c<;>rfl
 |cons a r ih =>
  cases c with
  |nil=>rfl
  |cons b q =>
   rw[R8,R8,o6,ih];simp[eqT]
theorem up{us:List (List Nat)}:cf (n+1) 52 [.t (.lst (us.map wT))] m=.ok (.t (.bl (us.all aJ&&(decide (us.length<=6)&&bO us)))) m:=by
 refine aG (Bo _ _ _) rfl (aj ?_) (aD rfl);have b:=ar (call:=cf n) (gv:=gv) (env:=[Zz (.t (.lst (us.map wT)))]) (m:=m) (ae .non) (aa (i:=0) rfl) (Cm us);cases q:us.all aJ with
 |false =>
  rw[q]at b;exact mW b
 |true =>
  rw[q]at b;rw[S6];refine(fz b).trans ?_;have a:=ar (call:=cf n) (gv:=gv) (env:=[Zz (.t (.lst (us.map wT)))]) (m:=m) (aC (aa (i:=0) rfl) ((ki _).trans (by rw[Q4]))) (ae (.int 6)) (tj _ _);by_cases h6:us.length<=6
  ·rw[Xi (by omega)]at a
   rw[Xi h6,S6,<-Ki];refine(fz a).trans ?_;have e:=λu c=>Vd.word (RF.mp q u c)
   have f:b8 .jm [.lst (us.map T.str)]=Zz (.lst ((bt us).map .str)):=by
    show((cu (us.map T.str)).bind λd=>if d.length<64 then Zz (T.lst ((bt d).map .str))else Zy)=_;rw[i8,Rw,Xf (by omega)]
   rw[qZ q];exact ar (aa rfl) (aC (aa rfl) f) (GI e λu c=>e u ((eI u us).mp c))
  ·rw[Xh (by omega)]at a
   rw[Xh h6];exact mW a
end
theorem BR{call:Nat->List W->Mem->Res W}{gv:List T}{env env':Env}{m m1:Mem}{a:List Nat}{e:E}{k:S}{ts:List T}(h:ev call gv e env m=.ok (.t (.lst ts)) m1)(b:bK (.tp a) (.tup ts) env=Zz env'):ex call gv (.Gi a e k) env m=ex call gv k env' m1:=by
 rw[ex,h,ag];dsimp only;rw[b]
theorem gt.fits{x:T}(h:gt x):My.fits x=true:=by
 induction h with
 |str h=>exact Xi h
 |int i=>rfl
 |tup _ d=>exact ml d
theorem Cr{ws:List (List Nat)}(a:Fits ws){t:T}(h:kj ws=.ok t):My.fits t=true/\cS t=true:=by
 unfold kj at h;split at h
 ·cases h
 ·rename_i p e
  split at h
  ·cases h
  ·rename_i q
   cases h;rw[Sf,not_or]at q;exact⟨(fO (by decide) (fO (by decide) (ye a 12)) 0 p e).fits,by simpa using q.2⟩
noncomputable def gZ(t:List Nat):T:=match kj (ap 32 t)with
 |.ok t=>t
 |.error _=>.non
theorem rq{x:List Nat}(h:x.length<=100000):Fits (ap 32 x):=λw a=>by
 have:=(split_len 32 x).2 w a;unfold lim;omega
section
variable{n:Nat}{m:Mem}{x:List Nat}
theorem AM(a:x.length<=100000):My.fits (gZ x)=true:=by
 unfold gZ;split
 ·rename_i e
  exact(Cr (rq a) e).1
 ·rfl
theorem EG(d:x.length<=100000):cf (n+57) 29 [.t (.str x)] m=.ok (.t (gZ x)) m:=by
 have h:=pG (n:=n) (m:=m) (cs:=x) (by omega);unfold gZ;cases q:kj (ap 32 x)with
 |ok t =>
  rw[q]at h;have h:=h;refine aG (rT _ _ _) rfl (show ex (cf (n+56)) gv d9 [Zz (.t (.str x))] m=.ok (.ret (.t t)) m from ?_) (aD rfl);unfold d9;rw[ex];have a:ex (cf (n+56)) gv ke [Zz (.t (.str x))] m=.ok (.ret (.t t)) m:=aj ((ax (aa rfl)).trans h);rw[a]
 |error e =>
  rw[q]at h;obtain⟨y,h⟩:=h;refine aG (rT _ _ _) rfl (show ex (cf (n+56)) gv d9 [Zz (.t (.str x))] m=.ok (.ret (.t .non)) (m++y)from ?_) ?_
  ·unfold d9
   rw[ex];have a:ex (cf (n+56)) gv ke [Zz (.t (.str x))] m=.exc (Ck e) (m++y):=kG ((ax (aa rfl)).trans h);rw[a];rfl
  ·show Res.ok _ ((m++y).take m.length)=_
   rw[WX]
noncomputable def b9(w0 w1 w2 w3 w4 w5 w6 w7 w8:List Nat)(wt:T):T:=.tup [.str w0,.tup [.str w1,.str w2,.tup ((aK w3).map .str),.tup ((aK w4).map xw)],wt,nT w5,nT w6,nT w7,nT w8]
theorem CN(w:List Nat):My.fits (nT w)=true:=by
 unfold nT;split<;>rfl
theorem Do{d c w2 b a p o n m:List Nat}{i:T}(h:∀w∈[d,c,w2,b,a],w.length<=100000)(q:My.fits i=true):My.fits (b9 d c w2 b a p o n m i)=true:=by
 have f:∀{w:List Nat},w.length<=100000->My.fits (.str w)=true:=λh=>Xi (by unfold lim;omega)
 have s:eY ((aK b).map .str)=true:=ml λt g=>by
  obtain⟨u,e,rfl⟩:=Rb.mp g;have:=(mJ b).2 u e;have:=h b (by simp);exact f (by omega)
 have r:eY ((aK a).map xw)=true:=ml λt g=>by
  obtain⟨u,e,rfl⟩:=Rb.mp g;have:=(mJ a).2 u e;have:=h a (by simp);have:=(gh [61] u).1.2;show eY [.str (Pa [61] u),nT (Pb [61] u)]=true;rw[eY,eY,eY,f (by omega),CN];rfl
 have l:=f (h d (by simp));have k:=f (h c (by simp));have j:=f (h w2 (by simp));simp only[b9,My.fits,eY]at l k j ⊢;simp only[l,k,j,s,r,q,CN,Bool.and_self]
theorem nine{α:Type}{l:List α}(h:l.length=9):∃a b c d e f g i j,l=[a,b,c,d,e,f,g,i,j]:=by
 obtain⟨a,l,rfl,zq1⟩:=cons_of h;obtain⟨b,l,rfl,zq2⟩:=cons_of zq1;obtain⟨c,l,rfl,zq3⟩:=cons_of zq2;obtain⟨d,l,rfl,zq4⟩:=cons_of zq3;obtain⟨e,l,rfl,zq5⟩:=cons_of zq4;obtain⟨f,l,rfl,zq6⟩:=cons_of zq5;obtain⟨g,l,rfl,zq7⟩:=cons_of zq6;obtain⟨i,l,rfl,zq8⟩:=cons_of zq7;obtain⟨j,l,rfl,zq9⟩:=cons_of zq8;obtain rfl:=SG zq9;exact⟨a,b,c,d,e,f,g,i,j,rfl⟩
noncomputable def bar:List Nat:=[32,124,32]
theorem ik(hl:x.length<=100000){j i w2 g a f e d c:List Nat}(h9:ap 32 (Pa bar x)=[j,i,w2,g,a,f,e,d,c]):
  cf (n+58) 30 [.t (.str x)] m=.ok (.t (if bz (b9 j i w2 g a f e d c (gZ (Pb bar x)))=true then b9 j i w2 g a f e d c (gZ (Pb bar x))else .non)) m:=by
 have hp:=gh bar x;have hs:=(split_len 32 (Pa bar x)).2;rw[h9]at hs;have hw:∀w∈[j,i,w2,g,a,f,e,d,c],w.length<=100000:=λw hw=>by have:=hs w hw;omega
 have hT:=xY (n:=n+51) (m:=m) (x:=b9 j i w2 g a f e d c (gZ (Pb bar x))) (Do (λw h=>hw w (by simp at h ⊢;rcases h with h|h|h|h|h<;>simp[h])) (AM (by omega)));have hwi:=EG (n:=n) (m:=m) (x:=Pb bar x) (by omega);have k1:∀b:Env,b[4]?=Zz (Zz (.t (.lst [.str j,.str i,.str w2,.str g,.str a,.str f,.str e,.str d,.str c])))->ev (cf (n+57)) gv nD b m=.ok (.t (.lst ((aK a).map xw))) m:=λb he=>by
  have hlf:=mJ a;have hw4:=hw a (by simp);refine aZ ((ax (bi (aa he) (ae _) rfl)).trans (yJ hw4)) rfl (eO (λu=>T.str u) xw (aK a) λu hu=>⟨_,rfl,iL (cA ((ax (aa rfl)).trans (Hu (by have:=hlf.2 u hu;omega))))⟩) (by rw[Q4];unfold lim;omega)
 have k0:∀b:Env,b[4]?=Zz (Zz (.t (.lst [.str j,.str i,.str w2,.str g,.str a,.str f,.str e,.str d,.str c])))->ev (cf (n+57)) gv nN b m=.ok (.t (.lst ([f,e,d,c].map nT))) m:=λb he=>by
  refine aZ (x:=.t (.lst ([f,e,d,c].map .str))) ?_ rfl (eO (λu=>T.str u) nT [f,e,d,c] λu hu=>⟨_,rfl,iL (cA ((ax (aa rfl)).trans (CH (hw u (by simp at hu ⊢;rcases hu with h|h|h|h<;>simp[h])))))⟩) (by simp[lim]);rw[ev,aa he,ag,ae];rfl
 refine aG (pK _ _ _) rfl ?_ (aD rfl);unfold gf;refine(kX (di (.inr rfl) (aa rfl) (ae _) rfl (vG (by decide) (by omega))) rfl).trans ?_;have hsp:eT .split (.str (Pa bar x)) [.str [32]]=Zz (.lst [.str j,.str i,.str w2,.str g,.str a,.str f,.str e,.str d,.str c]):=by
  show(if(Pa bar x).length<=900000 then Zz (T.lst ((ap 32 (Pa bar x)).map .str))else Zy)=_;rw[Xf (by omega),h9];rfl
 refine(au (di (.inl rfl) (aa rfl) (ae _) rfl hsp)).trans ?_;refine(ay (ar (aC (aa rfl) rfl) (ae _) rfl)).trans ?_;refine(au (aC ((ax (bi (aa rfl) (ae _) rfl)).trans (yJ (hw g (by simp)))) (i6 _))).trans ?_;refine(au (aC (k1 _ rfl) (i6 _))).trans ?_;refine(BR (k0 _ rfl) rfl).trans ?_;refine(au (oM (ak (bi (aa rfl) (ae _) rfl) (ak (oM (ak (bi (aa rfl) (ae _) rfl) (ak (bi (aa rfl) (ae _) rfl) (ak (aa rfl) (ak (aa rfl) aU)))) rfl bg) (ak ((ax (aa rfl)).trans hwi) (ak (aa rfl) (ak (aa rfl) (ak (aa rfl) (ak (aa rfl) aU))))))) rfl bg)).trans ?_;have hc:∀{E:Env},E[11]?=Zz (Zz (.t (b9 j i w2 g a f e d c (gZ (Pb bar x)))))->ev (cf (n+57)) gv (.call 17 (.cons (.var 11) .nil)) E m=.ok (.t (.bl (bz (b9 j i w2 g a f e d c (gZ (Pb bar x)))))) m:=λh=>(ax (aa h)).trans hT
 cases q:bz (b9 j i w2 g a f e d c (gZ (Pb bar x)))with
 |true =>
  rw[Xf rfl];exact az ((hc rfl).trans (by rw[q])) (aj (aa rfl))
 |false =>
  rw[Xg RG];exact(ay ((hc rfl).trans (by rw[q]))).trans (aj (ae _))
theorem jb(c:x.length<=100000)(d:(ap 32 (Pa bar x)).length≠9):cf (n+58) 30 [.t (.str x)] m=.ok (.t .non) m:=by
 have b:=gh bar x;refine aG (pK _ _ _) rfl ?_ (aD rfl);unfold gf;refine(kX (di (.inr rfl) (aa rfl) (ae _) rfl (vG (by decide) (by omega))) rfl).trans ?_;have a:eT .split (.str (Pa bar x)) [.str [32]]=Zz (.lst ((ap 32 (Pa bar x)).map .str)):=Xf (by omega);refine(au (di (.inl rfl) (aa rfl) (ae _) rfl a)).trans ?_;exact az (ar (aC (aa rfl) (ki _)) (ae _) (by rw[Kp,Q4,beq_false_of_ne (by omega)];rfl)) (aj (ae _))
end
section
variable{call:Nat->List W->Mem->Res W}{gv:List T}{env:Env}{m m1 m2:Mem}{a b:E}{w w':W}
theorem KR{α:Type}{own:Nat}{keep:List Nat}{it:E}{tg:Tg}{cs:Es}{inner:E}{j:Nat}{emb:α->T}{g:α->List T}(as:List α)(hit:ev call gv it env m=.ok (.c j) m)(hj:m[j]?=Zz (Zz (false,as.map emb)))(h:∀a∈as,∃env',bK tg (emb a) (R4 own Zy++keep.map λi=>(env[i]?).join)=Zz env'/\∀m',bA call gv cs inner env' m'=.ok (g a) m')(hz:(as.flatMap g).length<=lim):ev call gv (.comp own keep it tg cs inner) env m=.ok (.t (.lst (as.flatMap g))) m:=by
 have hb:bp (.c j) m=.ok (as.map emb) (m.set j (Zz (true,as.map emb))):=by
  unfold bp;dsimp only;rw[hj]
 have:=aZ hit hb (jX as λa ha=>let⟨e,h1,h2⟩:=h a ha;⟨e,h1,h2 _⟩) hz;rw[this];have e:giveBack (.c j) m (m.set j (Zz (true,as.map emb)))=m:=by
  unfold giveBack;dsimp only;rw[hj];show(m.set j (Zz (true,as.map emb))).set j (Zz (false,as.map emb))=m;rw[Wx];obtain⟨h1,h2⟩:=R0.mp hj;rw[<-h2];exact List.set_getElem_self h1
 rw[e]
end
noncomputable def nB(w:List Nat):Bool:=dW w&&decide (aN w<=1000000000)
theorem wc(w:List Nat):j9 (nT w)=nB w:=by
 unfold nT nB;cases h:dW w&&decide (aN w<=1000000000)with
 |false=>rfl
 |true =>
  rw[Q3]at h;have a:0<=aN w:=Vp _;show(decide (0<=aN w)&&decide (aN w<=1000000000))=true;rw[Xi a,h.2];rfl
theorem ow{w:List Nat}(h:nB w=true):nT w=.int (aN w):=Xf h
theorem rl(mk:List (List Nat)):jj (.tup (mk.map .str))=(mk.all aJ&&(decide (mk.length<=6)&&bO mk)):=by
 show(decide ((mk.map T.str).length<=6)&&((mk.map T.str).all cx&&bO ((mk.map T.str).map xW)))=_;rw[Q4,T4,SJ];have c:(mk.all (cx ∘ T.str))=mk.all aJ:=rfl;have b:mk.map (xW ∘ T.str)=mk:=WL mk;rw[c,b];cases mk.all aJ<;>simp
theorem sr(sz:List (List Nat)):kg (.tup (sz.map xw))=(((sz.map P1).all aJ&&(decide ((sz.map P1).length<=6)&&bO (sz.map P1)))&&sz.all λs=>nB (P3 s)):=by
 show(decide ((sz.map xw).length<=6)&&((sz.map xw).all ff&&bO (((sz.map xw).map wH).map xW)))=_;rw[Q4,Q4,T4,T4];have e:sz.all (ff ∘ xw)=(sz.all (aJ ∘ P1)&&sz.all λs=>nB (P3 s)):=by
  induction sz with
  |nil=>rfl
  |cons a r d =>
   rw[Ro,Ro,Ro,d];have:(ff ∘ xw) a=(aJ (P1 a)&&nB (P3 a)):=by
    show(cx (.str (P1 a))&&j9 (nT (P3 a)))=_;rw[wc];rfl
   rw[this];show(aJ (P1 a)&&nB (P3 a)&&_)=((aJ (P1 a)&&_)&&(nB (P3 a)&&_))
   cases aJ (P1 a)<;>cases nB (P3 a)<;>simp
 rw[e,show((sz.map xw).map wH).map xW=sz.map P1 by rw[SJ,SJ];rfl];cases sz.all (aJ ∘ P1)<;>cases(sz.all λs=>nB (P3 s))<;>simp
theorem xG(w:List Nat):bn .NotIn (.str w) (.lst [.str [103,105,118,101],.str [116,97,107,101],.str [98,101,97,114]])=Zz (!oneOf (.str w) sides):=by
 have h:=(AB w sides).2;have h:A5 (.str w) (.lst (sides.map .str))=Zz (sides.any λa=>a==w):=h;show(A5 (.str w) (.lst (sides.map .str))).map (!·)=_;rw[h];rfl
theorem Dw(us:List (List Nat)):bn .In .non (.lst (us.map nT))=Zz (!us.all nB):=by
 have b:(us.map nT).all flat=true:=RF.mpr λt f=>by
  obtain⟨u,_,rfl⟩:=Rb.mp f;unfold nT;split<;>rfl
 show(if(flat .non&&(us.map nT).all flat)=true then Zz ((us.map nT).any λt=>eqT t .non)else _)=_;rw[b,Xf (show(flat .non&&true)=true from rfl)]
 congr 1
 clear b
 induction us with
 |nil=>rfl
 |cons a r e =>
  rw[R8,UZ,Ro,e,Bool.not_and]
  congr 1
  unfold nT nB;cases(dW a&&decide (aN a<=1000000000))<;>simp[eqT]
theorem AD(us:List (List Nat)):bn .In .non (.lst (us.map wT))=Zz (!us.all aJ):=by
 have h:=Cm us;have h:(A5 .non (.lst (us.map wT))).map (!·)=Zz (us.all aJ):=h;show A5 .non (.lst (us.map wT))=_;cases q:A5 .non (.lst (us.map wT))with
 |none=>rw[q]at h;cases h
 |some b =>
  rw[q]at h;have:(!b)=us.all aJ:=Ri h;rw[<-this,Bool.not_not]
noncomputable def nX(s:List Nat):T:=.tup [wT (P1 s),nT (P3 s)]
theorem FT:∀{sz:List (List Nat)},(sz.map P1).all aJ=true->sz.map nX=sz.map xw
 |[],_=>rfl
 |a::r,h=>by
  rw[R8,Ro,Q3]at h;rw[R8,R8,FT h.2];unfold nX xw wT;rw[Xf h.1]
section
variable{n:Nat}{m:Mem}
theorem rY{e0 e1 e2:Option W}:∀(us:List (List Nat)) (a:List T) (e4 e5 d b:Option W),(∀u∈us,u.length<=100000/\Vd u)->a.length+us.length<=900000->∃j i g f:Option W,
  cj (ex (cf (n+1)) gv fQ) (.nm 4) (us.map .str) [e0,e1,e2,Zz (.c m.length),e4,e5,d,b,Zy,Zy,Zy,Zy,Zy,Zy] (m++[Zz (false,a)])=.ok (.next [e0,e1,e2,Zz (.c m.length),j,i,g,f,Zy,Zy,Zy,Zy,Zy,Zy]) (m++[Zz (false,a++us.map nX)])
 |[],a,e4,e5,d,b,_,_=>⟨e4,e5,d,b,by rw[T3,T3,RY];rfl⟩
 |u::us,a,e4,e5,d,b,h,k=>by
  obtain⟨p,e⟩:=h u (by simp);have q:=gh [61] u;obtain⟨j,i,g,f,o⟩:=rY us (a++[nX u]) (Zz (.t (.str u))) (Zz (.t (.str (P1 u)))) (Zz (.t (.str (Tr ⟨u.toArray⟩ ⟨[61].toArray⟩).2.1.cps.toList))) (Zz (.t (.str (P3 u)))) (λv e=>h v (R5 _ e)) (by simp at k ⊢;omega);refine⟨j,i,g,f,?_⟩;rw[R8,cj];show(ex (cf (n+1)) gv fQ [e0,e1,e2,Zz (.c m.length),Zz (.t (.str u)),e5,d,b,Zy,Zy,Zy,Zy,Zy,Zy] (m++[Zz (false,a)])).bind _=_;have l:ex (cf (n+1)) gv fQ [e0,e1,e2,Zz (.c m.length),Zz (.t (.str u)),e5,d,b,Zy,Zy,Zy,Zy,Zy,Zy] (m++[Zz (false,a)])=.ok (.next [e0,e1,e2,Zz (.c m.length),Zz (.t (.str u)),Zz (.t (.str (P1 u))),Zz (.t (.str (Tr ⟨u.toArray⟩ ⟨[61].toArray⟩).2.1.cps.toList)),Zz (.t (.str (P3 u))),Zy,Zy,Zy,Zy,Zy,Zy]) (m++[Zz (false,a++[nX u])]):=by
   unfold fQ;refine(kX (di (.inr rfl) (aa rfl) (ae _) rfl (vG (by simp) (by omega))) rfl).trans ?_;refine(kL (w:=.t .non) ?_).trans dg;rw[ev,aa rfl,ag,Xf (show o0 .append (.c m.length) _=true by unfold o0;dsimp only;rw[iH]),ak (aV ((ax (aa rfl)).trans (nh (show(Pa [61] u).length<=100000 by omega) (NU e))) ((ax (aa rfl)).trans (CS (show(Pb [61] u).length<=100000 by omega) (NV e)))) aU,ag];exact wG (by unfold lim;simp at k;omega)
  rw[l,ag];dsimp only;rw[o,S3];rfl
end
theorem Je{α:Type}{ts:List α}(h:9<=ts.length):cut ts (Zz 5) (Zz 9)=(ts.drop 5).take 4:=by
 show(ts.drop (min 5 ts.length)).take (min 9 ts.length-min 5 ts.length)=_;rw[show min 5 ts.length=5 by omega,show min 9 ts.length=9 by omega]
theorem IQ{α:Type}{ts:List α}(h:10<=ts.length):cut ts (Zz 10) Zy=ts.drop 10:=by
 show(ts.drop (min 10 ts.length)).take (ts.length-min 10 ts.length)=_;rw[show min 10 ts.length=10 by omega];exact U5 (by rw[Sh];omega)
theorem Ku{c:Nat}{w:List Nat}(h:w.length<=900000):eT .split (.str w) [.str [c]]=Zz (.lst ((ap c w).map .str)):=Xf h
theorem md(c:Nat):∀(cs:List Nat),∀w∈ap c cs,c∉w
 |[],w,f=>by
  rw[ap]at f;rw[Rp.mp f];exact R3
 |a::r,w,f=>by
  have g:=md c r;rw[ap]at f;split at f
  ·rcases R6.mp f with rfl|f
   ·exact R3
   ·exact g w f
  ·rename_i ha
   split at f
   ·rename_i x xs e
    rw[e]at g;rcases R6.mp f with rfl|f
    ·intro z
     rcases R6.mp z with z|z
     ·exact ha z.symm
     ·exact g x (by simp) z
    ·exact g w (R5 _ f)
   ·rename_i e
    exact Xk e (dw c r)
theorem Cj{n:Nat}{env:Env}{m:Mem}{e1 e2 e3:E}{i j k:Int}(b:ev (cf n) gv e1 env m=.ok (.t (.int i)) m)(a:ev (cf n) gv e2 env m=.ok (.t (.int j)) m)(c:ev (cf n) gv e3 env m=.ok (.t (.int k)) m):ev (cf n) gv (.vO .LtE .LtE e1 e2 e3) env m=.ok (.t (.bl (decide (i<=j)&&decide (j<=k)))) m:=by
 by_cases h:i<=j
 ·rw[Xi h,S6]
  exact xo b a ((tj _ _).trans (by rw[Xi h])) c (tj _ _)
 ·rw[Xh h]
  exact vI b a ((tj _ _).trans (by rw[Xh h]))
theorem Cb{a b c d e f g i j k:Bool}:((a&&(b&&(c&&(d&&e))))&&(f&&(g&&(i&&(j&&k)))))=true↔a=true/\b=true/\c=true/\d=true/\e=true/\f=true/\g=true/\i=true/\j=true/\k=true:=by
 simp[and_assoc]
theorem pc{w:List Nat}{lo hi:Int}(h:jG (nT w) lo hi=true):nB w=true:=by
 unfold nT at h;cases q:nB w with
 |true=>rfl
 |false =>
  rw[Xg (by rw[show(dW w&&decide (aN w<=1000000000))=false from q];simp)]at h;cases h
theorem eN(i h w2 g f a e d c:List Nat)(b:T):bz (b9 i h w2 g f a e d c b)=(oneOf (.str i) sides&&((aJ h&&(aJ w2&&(jj (.tup ((aK g).map .str))&&kg (.tup ((aK f).map xw)))))&&(cS b&&(jG (nT a) 1 1000000&&(oI (nT e) (nT a)&&(jG (nT d) 0 1000&&j9 (nT c))))))):=rfl
section
variable{n:Nat}{m:Mem}{x:List Nat}{w0 w1 w2 w3 w4 w5 w6 w7 w8:List Nat}{rest:List (List Nat)}
noncomputable def dN(rest:List (List Nat)):T:=match kj rest with
 |.ok t=>t
 |.error _=>.non
theorem law_read_not(e:x.length<=100000)(h:(11<=(ap 32 x).length/\(ap 32 x).getD 9 []=[124]/\oneOf (.str ((ap 32 x).getD 0 [])) sides=true)->False):cf (n+58) 53 [.t (.str x)] m=.ok (.t .non) m:=by
 refine aG (xQ _ _ _) rfl ?_ (aD rfl);unfold ky;have c:eT .split (.str x) [.str [32]]=Zz (.lst ((ap 32 x).map .str)):=Xf (by omega);refine(au (di (.inl rfl) (aa rfl) (ae _) rfl c)).trans ?_;refine az ?_ (aj (ae _));have b:=ar (call:=cf (n+57)) (gv:=gv) (env:=[Zz (.t (.str x)),Zz (.t (.lst ((ap 32 x).map .str))),Zy,Zy,Zy,Zy,Zy,Zy,Zy,Zy,Zy,Zy,Zy,Zy]) (m:=m) (aC (aa (i:=1) rfl) ((ki _).trans (by rw[Q4]))) (ae (.int 11)) (ln _ _);by_cases h1:11<=(ap 32 x).length
 ·rw[Xh (by omega)]at b
  refine(aW b).trans ?_;have a:=ar (call:=cf (n+57)) (gv:=gv) (env:=[Zz (.t (.str x)),Zz (.t (.lst ((ap 32 x).map .str))),Zy,Zy,Zy,Zy,Zy,Zy,Zy,Zy,Zy,Zy,Zy,Zy]) (m:=m) (bi (aa (i:=1) rfl) (ae (.int 9)) (jO (k:=9) (by omega))) (ae (.str [124])) (rk _ _);by_cases h2:(ap 32 x).getD 9 []=[124]
  ·rw[h2]at a
   refine(aW a).trans ?_;have d:=ar (call:=cf (n+57)) (gv:=gv) (env:=[Zz (.t (.str x)),Zz (.t (.lst ((ap 32 x).map .str))),Zy,Zy,Zy,Zy,Zy,Zy,Zy,Zy,Zy,Zy,Zy,Zy]) (m:=m) (bi (aa (i:=1) rfl) (ae (.int 0)) (jO (k:=0) (by omega))) (bw (ak (ae (.str [103,105,118,101])) (ak (ae (.str [116,97,107,101])) (ak (ae (.str [98,101,97,114])) aU))) rfl bg) (xG _);cases q:oneOf (.str ((ap 32 x).getD 0 [])) sides with
   |true=>exact Xk (h ⟨h1,h2,q⟩) id
   |false =>
    rw[q]at d;exact d
  ·rw[show((ap 32 x).getD 9 []==[124])=false by simpa using h2]at a
   exact cH a
 ·rw[Xi (by omega)]at b
  exact cH b
theorem law_read_ten(hl:x.length<=100000)(hv:Vd x)(hx:ap 32 x=w0::w1::w2::w3::w4::w5::w6::w7::w8::[124]::rest)(hr:rest≠[])(h0:oneOf (.str w0) sides=true):
  cf (n+58) 53 [.t (.str x)] m=.ok (.t (if bz (b9 w0 w1 w2 w3 w4 w5 w6 w7 w8 (dN rest))=true then b9 w0 w1 w2 w3 w4 w5 w6 w7 w8 (dN rest)else .non)) m:=by
 have hf:=split_len 32 x;have hvw:=mF 32 hv;have htl:=sx 32 x;have hrl:=VV.mpr hr;have hlen:11<=(ap 32 x).length:=by rw[hx];simp;omega
 have hgt:∀(k:Nat) (w:List Nat),k<10->(ap 32 x).getD k []=w->∀{env:Env}{M:Mem},env[1]?=Zz (Zz (.t (.lst ((ap 32 x).map .str))))->ev (cf (n+57)) gv (.ix (.var 1) (.con (.int (k:Int)))) env M=.ok (.t (.str w)) M:=λk w hk e env M h1=>by
  have:=jO (ws:=ap 32 x) (k:=k) (by omega);rw[e]at this;exact bi (aa h1) (ae _) this
 have fw:∀w∈[w0,w1,w2,w3,w4,w5,w6,w7,w8],w.length<=100000/\Vd w:=λw hw=>by
  have hm:w∈ap 32 x:=by
   rw[hx];simp only[R6,R3,or_false]at hw ⊢;rcases hw with h|h|h|h|h|h|h|h|h<;>simp[h]
  exact⟨by have:=hf.2 w hm;omega,hvw w hm⟩
 generalize hWS:(ap 32 x).map T.str=WS at hgt;have i0:∀{env:Env}{M:Mem},env[1]?=Zz (Zz (.t (.lst WS)))->ev (cf (n+57)) gv (.ix (.var 1) (.con (.int 0))) env M=.ok (.t (.str w0)) M:=λh=>hgt 0 w0 (by decide) (by rw[hx];rfl) h
 have i1:∀{env:Env}{M:Mem},env[1]?=Zz (Zz (.t (.lst WS)))->ev (cf (n+57)) gv (.ix (.var 1) (.con (.int 1))) env M=.ok (.t (.str w1)) M:=λh=>hgt 1 w1 (by decide) (by rw[hx];rfl) h
 have i2:∀{env:Env}{M:Mem},env[1]?=Zz (Zz (.t (.lst WS)))->ev (cf (n+57)) gv (.ix (.var 1) (.con (.int 2))) env M=.ok (.t (.str w2)) M:=λh=>hgt 2 w2 (by decide) (by rw[hx];rfl) h
 have i3:∀{env:Env}{M:Mem},env[1]?=Zz (Zz (.t (.lst WS)))->ev (cf (n+57)) gv (.ix (.var 1) (.con (.int 3))) env M=.ok (.t (.str w3)) M:=λh=>hgt 3 w3 (by decide) (by rw[hx];rfl) h
 have i4:∀{env:Env}{M:Mem},env[1]?=Zz (Zz (.t (.lst WS)))->ev (cf (n+57)) gv (.ix (.var 1) (.con (.int 4))) env M=.ok (.t (.str w4)) M:=λh=>hgt 4 w4 (by decide) (by rw[hx];rfl) h
 have i9:∀{env:Env}{M:Mem},env[1]?=Zz (Zz (.t (.lst WS)))->ev (cf (n+57)) gv (.ix (.var 1) (.con (.int 9))) env M=.ok (.t (.str [124])) M:=λh=>hgt 9 [124] (by decide) (by rw[hx];rfl) h
 have f3:=mJ w3;have f4:=mJ w4;have v3:=Fq (fw w3 (by simp)).2;have v4:=Fq (fw w4 (by simp)).2;have l3:=(fw w3 (by simp)).1;have l4:=(fw w4 (by simp)).1;have hO:bz (b9 w0 w1 w2 w3 w4 w5 w6 w7 w8 (dN rest))=((aJ w1&&(aJ w2&&(((aK w3).all aJ&&(decide ((aK w3).length<=6)&&bO (aK w3)))&&((((aK w4).map P1).all aJ&&(decide (((aK w4).map P1).length<=6)&&bO ((aK w4).map P1)))&&(aK w4).all λs=>nB (P3 s)))))&&(cS (dN rest)&&(jG (nT w5) 1 1000000&&(oI (nT w6) (nT w5)&&(jG (nT w7) 0 1000&&j9 (nT w8)))))):=by
  rw[eN,h0,rl,sr,S6]
 suffices key:∃y,ex (cf (n+57)) gv ky [Zz (.t (.str x)),Zy,Zy,Zy,Zy,Zy,Zy,Zy,Zy,Zy,Zy,Zy,Zy,Zy] m=.ok (.ret (.t (if bz (b9 w0 w1 w2 w3 w4 w5 w6 w7 w8 (dN rest))=true then b9 w0 w1 w2 w3 w4 w5 w6 w7 w8 (dN rest)else .non))) (m++y) by
  obtain⟨y,key⟩:=key;exact aG (xQ _ _ _) rfl key (show Res.ok _ ((m++y).take m.length)=_ from by rw[WX])
 have hsp:eT .split (.str x) [.str [32]]=Zz (.lst WS):=by rw[<-hWS];exact Xf (by omega)
 unfold ky;rw[au (di (.inl rfl) (aa rfl) (ae _) rfl hsp)];simp only[RD,RE];rw[ay ((aW (ar (aC (aa rfl) (ki _)) (ae _) ((ln _ _).trans (by rw[<-hWS,Q4,Xh (by omega)])))).trans ((aW (ar (i9 rfl) (ae _) rfl)).trans (ar (i0 rfl) (bw (ak (ae (.str [103,105,118,101])) (ak (ae (.str [116,97,107,101])) (ak (ae (.str [98,101,97,114])) aU))) rfl bg) ((xG w0).trans (by rw[h0];rfl)))))];rw[au (bw aU rfl bg),au (by rw[ev,evs];rfl)];simp only[RD,RE];have s4:∀K:S,ex (cf (n+57)) gv (.bZ (.cmp .NotEq (.ix (.var 1) (.con (.int 3))) (.con (.str [45]))) (.asg 2 uz .done) .done K) [Zz (.t (.str x)),Zz (.t (.lst WS)),Zz (.t (.lst [])),Zz (.c m.length),Zy,Zy,Zy,Zy,Zy,Zy,Zy,Zy,Zy,Zy] (m++[Zz (false,[])])=ex (cf (n+57)) gv K [Zz (.t (.str x)),Zz (.t (.lst WS)),Zz (.t (.lst ((aK w3).map wT))),Zz (.c m.length),Zy,Zy,Zy,Zy,Zy,Zy,Zy,Zy,Zy,Zy] (m++[Zz (false,[])]):=λK=>by
  have c:=ar (i3 (env:=[Zz (.t (.str x)),Zz (.t (.lst WS)),Zz (.t (.lst [])),Zz (.c m.length),Zy,Zy,Zy,Zy,Zy,Zy,Zy,Zy,Zy,Zy]) (M:=m++[Zz (false,[])]) rfl) (ae (.str [45])) (rk _ _);cases q:w3==[45]with
  |true =>
   rw[q]at c;rw[ay c,show aK w3=[] by unfold aK;rw[Xf q]];rfl
  |false =>
   rw[q]at c;have e3:aK w3=ap 44 w3:=by unfold aK;rw[Xg (by rw[q];simp)]
   rw[e3]at f3 v3 ⊢;refine l0 c ((au (aZ (x:=.t (.lst ((ap 44 w3).map .str))) (m0:=m++[Zz (false,[])]) (di (.inl rfl) (i3 rfl) (ae _) rfl (Ku (by omega))) rfl (eO (λu=>T.str u) wT (ap 44 w3) λu hu=>⟨_,rfl,iL (show ev (cf (n+57)) gv u0 _ _=_ from cA ((ax (aa rfl)).trans (nh (by have:=f3.2 u hu;omega) (v3 u hu))))⟩) (by rw[Q4];unfold lim;omega))).trans dg)
 rw[s4];have s5:∃f4 f5 f6 f7:Option W,∀K:S,ex (cf (n+57)) gv (.bZ (.cmp .NotEq (.ix (.var 1) (.con (.int 4))) (.con (.str [45]))) (.vZ (.nm 4) (.eA .split (.ix (.var 1) (.con (.int 4))) (.cons (.con (.str [44])) .nil)) fQ .done) .done K) [Zz (.t (.str x)),Zz (.t (.lst WS)),Zz (.t (.lst ((aK w3).map wT))),Zz (.c m.length),Zy,Zy,Zy,Zy,Zy,Zy,Zy,Zy,Zy,Zy] (m++[Zz (false,[])])=ex (cf (n+57)) gv K [Zz (.t (.str x)),Zz (.t (.lst WS)),Zz (.t (.lst ((aK w3).map wT))),Zz (.c m.length),f4,f5,f6,f7,Zy,Zy,Zy,Zy,Zy,Zy] (m++[Zz (false,(aK w4).map nX)]):=by
  have c:=ar (op:=.NotEq) (i4 (env:=[Zz (.t (.str x)),Zz (.t (.lst WS)),Zz (.t (.lst ((aK w3).map wT))),Zz (.c m.length),Zy,Zy,Zy,Zy,Zy,Zy,Zy,Zy,Zy,Zy]) (M:=m++[Zz (false,[])]) rfl) (ae (.str [45])) (rk _ _);cases q:w4==[45]with
  |true =>
   rw[q]at c;exact⟨Zy,Zy,Zy,Zy,λK=>by rw[ay c,show aK w4=[] by unfold aK;rw[Xf q]];rfl⟩
  |false =>
   rw[q]at c;have e4:aK w4=ap 44 w4:=by unfold aK;rw[Xg (by rw[q];simp)]
   rw[e4]at f4 v4 ⊢;obtain⟨f4',f5,f6,f7,h⟩:=rY (n:=n+56) (m:=m) (e0:=Zz (.t (.str x))) (e1:=Zz (.t (.lst WS))) (e2:=Zz (.t (.lst ((aK w3).map wT)))) (ap 44 w4) [] Zy Zy Zy Zy (λu hu=>⟨by have:=f4.2 u hu;omega,v4 u hu⟩) (by simp;omega);rw[T9]at h;exact⟨f4',f5,f6,f7,λK=>l0 c ((jL (di (.inl rfl) (i4 rfl) (ae _) rfl (Ku (by omega))) rfl h).trans dg)⟩
 obtain⟨g4,g5,g6,g7,s5⟩:=s5;rw[s5];have s8:ev (cf (n+57)) gv uQ [Zz (.t (.str x)),Zz (.t (.lst WS)),Zz (.t (.lst ((aK w3).map wT))),Zz (.c m.length),g4,g5,g6,g7,Zy,Zy,Zy,Zy,Zy,Zy] (m++[Zz (false,(aK w4).map nX)])=.ok (.t (.lst ([w5,w6,w7,w8].map nT))) (m++[Zz (false,(aK w4).map nX)]):=by
  refine aZ (x:=.t (.lst ([w5,w6,w7,w8].map .str))) (m0:=m++[Zz (false,(aK w4).map nX)]) ?_ rfl (eO (λu=>T.str u) nT [w5,w6,w7,w8] λu hu=>⟨_,rfl,iL (show ev (cf (n+57)) gv uo _ _=_ from cA ((ax (aa rfl)).trans (CS (fw u (by simp at hu ⊢;rcases hu with h|h|h|h<;>simp[h])).1 (fw u (by simp at hu ⊢;rcases hu with h|h|h|h<;>simp[h])).2)))⟩) (by simp[lim]);rw[ev,aa rfl,ag,Xg (λz=>by cases z),ae,ag];rw[show ∀M,yy (W.t (.int 5)) M=.ok (Zz 5) M from λ_=>rfl,ag,Xg (λz=>by cases z),ae,ag];show cW (Zz (T.lst (cut WS (Zz 5) (Zz 9)))) _=_;rw[Je (by rw[<-hWS,Q4];omega),<-hWS,hx];rfl
 rw[au s8];simp only[RD,RE];have hT:bz (b9 w0 w1 w2 w3 w4 w5 w6 w7 w8 (dN rest))=true->[w1,w2].all aJ=true/\((aK w3).all aJ&&(decide ((aK w3).length<=6)&&bO (aK w3)))=true/\(((aK w4).map P1).all aJ&&(decide (((aK w4).map P1).length<=6)&&bO ((aK w4).map P1)))=true/\(((aK w4).map P3)++[w5,w6,w7,w8]).all nB=true/\cS (dN rest)=true/\jG (nT w5) 1 1000000=true/\oI (nT w6) (nT w5)=true/\jG (nT w7) 0 1000=true:=λh=>by
  rw[hO,Cb]at h;obtain⟨a1,a2,a3,a4,a5,a6,a7,a8,a9,a10⟩:=h;have n5:=pc a7;have n6:nB w6=true:=by
   rw[ow n5]at a8;exact pc a8
  have n7:=pc a9;rw[wc]at a10;refine⟨by simp[a1,a2],a3,a4,?_,a6,a7,a8,a9⟩;rw[WN,T4];have:((aK w4).all (nB ∘ P3))=true:=a5;rw[this];simp[n5,n6,n7,a10]
 have no:∀{R:Res Flow}{y:List (Option (Bool×List T))},bz (b9 w0 w1 w2 w3 w4 w5 w6 w7 w8 (dN rest))≠true->R=.ok (.ret (.t .non)) (m++y)->∃y,R=.ok (.ret (.t (if bz (b9 w0 w1 w2 w3 w4 w5 w6 w7 w8 (dN rest))=true then b9 w0 w1 w2 w3 w4 w5 w6 w7 w8 (dN rest)else .non))) (m++y):=λh e=>⟨_,by rw[Xg h];exact e⟩
 have c7:=ar (call:=cf (n+57)) (gv:=gv) (op:=.In) (env:=[Zz (.t (.str x)),Zz (.t (.lst WS)),Zz (.t (.lst ((aK w3).map wT))),Zz (.c m.length),g4,g5,g6,g7,Zz (.t (.lst ([w5,w6,w7,w8].map nT))),Zy,Zy,Zy,Zy,Zy]) (m:=m++[Zz (false,(aK w4).map nX)]) (ae .non) (bw (ak ((ax (i1 rfl)).trans (nh (n:=n+56) (fw w1 (by simp)).1 (fw w1 (by simp)).2)) (ak ((ax (i2 rfl)).trans (nh (n:=n+56) (fw w2 (by simp)).1 (fw w2 (by simp)).2)) aU)) rfl bg) (AD [w1,w2]);cases qA:[w1,w2].all aJ with
 |false =>
  rw[qA]at c7;exact no (λh=>by have:=(hT h).1;rw[qA]at this;cases this) (az (cH c7) (aj (ae _)))
 |true =>
 rw[qA]at c7;have c7b:=bf ((ax (call:=cf (n+57)) (gv:=gv) (env:=[Zz (.t (.str x)),Zz (.t (.lst WS)),Zz (.t (.lst ((aK w3).map wT))),Zz (.c m.length),g4,g5,g6,g7,Zz (.t (.lst ([w5,w6,w7,w8].map nT))),Zy,Zy,Zy,Zy,Zy]) (m:=m++[Zz (false,(aK w4).map nX)]) (aa (i:=2) rfl)).trans (up (n:=n+56) (us:=aK w3)));cases qM:((aK w3).all aJ&&(decide ((aK w3).length<=6)&&bO (aK w3)))with
 |false =>
  rw[qM]at c7b;exact no (λh=>by have:=(hT h).2.1;rw[qM]at this;cases this) (az ((aW c7).trans c7b) (aj (ae _)))
 |true =>
 rw[qM]at c7b;rw[ay ((aW c7).trans c7b)];have cc1:ev (cf (n+57)) gv ui [Zz (.t (.str x)),Zz (.t (.lst WS)),Zz (.t (.lst ((aK w3).map wT))),Zz (.c m.length),g4,g5,g6,g7,Zz (.t (.lst ([w5,w6,w7,w8].map nT))),Zy,Zy,Zy,Zy,Zy] (m++[Zz (false,(aK w4).map nX)])=.ok (.t (.lst (((aK w4).map P1).map wT))) (m++[Zz (false,(aK w4).map nX)]):=by
  have:=KR (call:=cf (n+57)) (gv:=gv) (own:=2) (keep:=[]) (it:=.var 3) (tg:=.tp [0,1]) (cs:=.nil) (inner:=tU) (emb:=nX) (g:=λs=>[wT (P1 s)]) (env:=[Zz (.t (.str x)),Zz (.t (.lst WS)),Zz (.t (.lst ((aK w3).map wT))),Zz (.c m.length),g4,g5,g6,g7,Zz (.t (.lst ([w5,w6,w7,w8].map nT))),Zy,Zy,Zy,Zy,Zy]) (aK w4) (aa rfl) (iH (m:=m)) (λs _=>⟨[Zz (.t (wT (P1 s))),Zz (.t (nT (P3 s)))],rfl,λm'=>iL (cA (aa rfl))⟩) (by rw[bD,Q4];unfold lim;omega);rw[bD]at this;rw[SJ];exact this
 have cc0:ev (cf (n+57)) gv uf [Zz (.t (.str x)),Zz (.t (.lst WS)),Zz (.t (.lst ((aK w3).map wT))),Zz (.c m.length),g4,g5,g6,g7,Zz (.t (.lst ([w5,w6,w7,w8].map nT))),Zy,Zy,Zy,Zy,Zy] (m++[Zz (false,(aK w4).map nX)])=.ok (.t (.lst (((aK w4).map P3).map nT))) (m++[Zz (false,(aK w4).map nX)]):=by
  have:=KR (call:=cf (n+57)) (gv:=gv) (own:=2) (keep:=[]) (it:=.var 3) (tg:=.tp [0,1]) (cs:=.nil) (inner:=uT) (emb:=nX) (g:=λs=>[nT (P3 s)]) (env:=[Zz (.t (.str x)),Zz (.t (.lst WS)),Zz (.t (.lst ((aK w3).map wT))),Zz (.c m.length),g4,g5,g6,g7,Zz (.t (.lst ([w5,w6,w7,w8].map nT))),Zy,Zy,Zy,Zy,Zy]) (aK w4) (aa rfl) (iH (m:=m)) (λs _=>⟨[Zz (.t (wT (P1 s))),Zz (.t (nT (P3 s)))],rfl,λm'=>iL (cA (aa rfl))⟩) (by rw[bD,Q4];unfold lim;omega);rw[bD]at this;rw[SJ];exact this
 have c8a:=bf ((ax cc1).trans (up (n:=n+56) (us:=(aK w4).map P1)));cases qS:(((aK w4).map P1).all aJ&&(decide (((aK w4).map P1).length<=6)&&bO ((aK w4).map P1)))with
 |false =>
  rw[qS]at c8a;exact no (λh=>by have:=(hT h).2.2.1;rw[qS]at this;cases this) (az (cH c8a) (aj (ae _)))
 |true =>
 rw[qS]at c8a;have c8b:=ar (op:=.In) (ae .non) (aB cc0 (aa (i:=8) rfl) ((LB (by rw[Q4,Q4];simp[lim];omega)).trans (by rw[<-Ug]))) (Dw (((aK w4).map P3)++[w5,w6,w7,w8]));cases qN:(((aK w4).map P3)++[w5,w6,w7,w8]).all nB with
 |false =>
  rw[qN]at c8b;exact no (λh=>by have:=(hT h).2.2.2.1;rw[qN]at this;cases this) (az ((aW c8a).trans c8b) (aj (ae _)))
 |true =>
 rw[qN]at c8b;rw[ay ((aW c8a).trans c8b)];have hn:nB w5=true/\nB w6=true/\nB w7=true/\nB w8=true:=by
  rw[WN,Q3]at qN;simpa[and_assoc]using qN.2
 have t5:=ow hn.1;have t6:=ow hn.2.1;have t7:=ow hn.2.2.1;have t8:=ow hn.2.2.2;have e8:[w5,w6,w7,w8].map nT=[.int (aN w5),.int (aN w6),.int (aN w7),.int (aN w8)]:=by rw[<-t5,<-t6,<-t7,<-t8];rfl
 rw[e8,BR (aa rfl) rfl];simp only[TW,List.zip_nil_right,Vx,U7,List.foldl_nil,RD,RE];have c10:=bf (Cj (n:=n+57) (m:=m++[Zz (false,(aK w4).map nX)]) (env:=[Zz (.t (.str x)),Zz (.t (.lst WS)),Zz (.t (.lst ((aK w3).map wT))),Zz (.c m.length),g4,g5,g6,g7,Zz (.t (.lst [.int (aN w5),.int (aN w6),.int (aN w7),.int (aN w8)])),Zz (.t (.int (aN w5))),Zz (.t (.int (aN w6))),Zz (.t (.int (aN w7))),Zz (.t (.int (aN w8))),Zy]) (ae (.int 1)) (aa (i:=9) rfl) (aB (ae (.int 10)) (ae (.int 6)) (show iq .Pow (.int 10) (.int 6)=Zz (.int 1000000)from rfl)));have c11:=bf (Cj (n:=n+57) (m:=m++[Zz (false,(aK w4).map nX)]) (env:=[Zz (.t (.str x)),Zz (.t (.lst WS)),Zz (.t (.lst ((aK w3).map wT))),Zz (.c m.length),g4,g5,g6,g7,Zz (.t (.lst [.int (aN w5),.int (aN w6),.int (aN w7),.int (aN w8)])),Zz (.t (.int (aN w5))),Zz (.t (.int (aN w6))),Zz (.t (.int (aN w7))),Zz (.t (.int (aN w8))),Zy]) (ae (.int 1)) (aa (i:=10) rfl) (aa (i:=9) rfl));have c12:=ar (call:=cf (n+57)) (gv:=gv) (op:=.Gt) (m:=m++[Zz (false,(aK w4).map nX)]) (env:=[Zz (.t (.str x)),Zz (.t (.lst WS)),Zz (.t (.lst ((aK w3).map wT))),Zz (.c m.length),g4,g5,g6,g7,Zz (.t (.lst [.int (aN w5),.int (aN w6),.int (aN w7),.int (aN w8)])),Zz (.t (.int (aN w5))),Zz (.t (.int (aN w6))),Zz (.t (.int (aN w7))),Zz (.t (.int (aN w8))),Zy]) (aa (i:=11) rfl) (ae (.int 1000)) (GC _ _);cases q10:(decide (1<=aN w5)&&decide (aN w5<=1000000))with
 |false =>
  rw[q10]at c10;exact no (λh=>by have:=(hT h).2.2.2.2.2.1;rw[t5]at this;have:(decide (1<=aN w5)&&decide (aN w5<=1000000))=true:=this;rw[q10]at this;cases this) (az (cH c10) (aj (ae _)))
 |true =>
 rw[q10]at c10;cases q11:(decide (1<=aN w6)&&decide (aN w6<=aN w5))with
 |false =>
  rw[q11]at c11;exact no (λh=>by have:=(hT h).2.2.2.2.2.2.1;rw[t5,t6]at this;have:(decide (1<=aN w6)&&decide (aN w6<=aN w5))=true:=this;rw[q11]at this;cases this) (az ((aW c10).trans (cH c11)) (aj (ae _)))
 |true =>
 rw[q11]at c11;have p7:0<=aN w7:=Vp _;by_cases q12:aN w7<=1000
 case neg =>
  rw[Xi (by omega)]at c12;exact no (λh=>by have:=(hT h).2.2.2.2.2.2.2;rw[t7]at this;have:(decide (0<=aN w7)&&decide (aN w7<=1000))=true:=this;rw[Xh q12,Bool.and_false]at this;cases this) (az ((aW c10).trans ((aW c11).trans c12)) (aj (ae _)))
 rw[Xh (by omega)]at c12;rw[ay ((aW c10).trans ((aW c11).trans c12))];have hrt:tl rest<=x.length+1:=by
  rw[hx]at htl;simp only[kM]at htl;omega
 have hjl:=ng rest;have hsj:ap 32 (aM [32] rest)=rest:=eU hr λw hw=>md 32 x w (by rw[hx];simp[hw])
 have hrd:=pG (n:=n+1) (m:=m++[Zz (false,(aK w4).map nX)]) (cs:=aM [32] rest) (by omega);rw[hsj]at hrd;have hjn:∀{env:Env}{M:Mem},env[1]?=Zz (Zz (.t (.lst WS)))->ev (cf (n+57)) gv (.eA .join (.con (.str [32])) (.cons (.EK (.var 1) (.con (.int 10)) .hole) .nil)) env M=.ok (.t (.str (aM [32] rest))) M:=λ{env M} h=>by
  refine Cv (ae _) ?_ (by unfold tl at hrt;simp[lim];omega);rw[ev,aa h,ag,Xg (λz=>by cases z),ae,ag,show ∀M,yy (W.t (.int 10)) M=.ok (Zz 10) M from λ_=>rfl,ag,Xf (show aA .hole=true from rfl),ag];show cW (Zz (T.lst (cut WS (Zz 10) Zy))) _=_;rw[IQ (by rw[<-hWS,Q4];omega),<-hWS,hx];rfl
 cases q:kj rest with
 |error e =>
  rw[q]at hrd;obtain⟨y,hrd⟩:=hrd;have hb:ex (cf (n+57)) gv oW [Zz (.t (.str x)),Zz (.t (.lst WS)),Zz (.t (.lst ((aK w3).map wT))),Zz (.c m.length),g4,g5,g6,g7,Zz (.t (.lst [.int (aN w5),.int (aN w6),.int (aN w7),.int (aN w8)])),Zz (.t (.int (aN w5))),Zz (.t (.int (aN w6))),Zz (.t (.int (aN w7))),Zz (.t (.int (aN w8))),Zy] (m++[Zz (false,(aK w4).map nX)])=.exc (Ck e) (m++[Zz (false,(aK w4).map nX)]++y):=wL ((ax (hjn rfl)).trans hrd);refine no (y:=[Zz (false,(aK w4).map nX)]++y) (λh=>?_) ?_
  ·have:=(hT h).2.2.2.2.1
   unfold dN at this;rw[q]at this;have this:cS .non=true:=this;exact Xk this (by decide)
  ·rw[ex,hb,S3]
   rfl
 |ok t =>
  rw[q]at hrd;have hrd:_=_:=hrd;have hw:dN rest=t:=by unfold dN;rw[q]
  have hiw:cS t=true:=(Cr (λw hw=>rq hl w (by rw[hx];simp[hw])) q).2;rw[hw]at hO ⊢;have hA:=qA;have hyes:bz (b9 w0 w1 w2 w3 w4 w5 w6 w7 w8 t)=true:=by
   rw[hO,Cb];rw[Ro,Ro,Q3,Q3]at hA;have hN:((aK w4).all λs=>nB (P3 s))=true:=by
    rw[WN,Q3,T4]at qN;exact qN.1
   refine⟨hA.1,hA.2.1,qM,qS,hN,hiw,by rw[t5];exact q10,by rw[t5,t6];exact q11,?_,by rw[wc];exact hn.2.2.2⟩;rw[t7];show(decide (0<=aN w7)&&decide (aN w7<=1000))=true;rw[Xi p7,Xi q12];rfl
  rw[Xf hyes];have hmk:=qZ (us:=aK w3) (by rw[Q3]at qM;exact qM.1);have hsz:=FT (sz:=aK w4) (by rw[Q3]at qS;exact qS.1);have hb:ex (cf (n+57)) gv oW [Zz (.t (.str x)),Zz (.t (.lst WS)),Zz (.t (.lst ((aK w3).map wT))),Zz (.c m.length),g4,g5,g6,g7,Zz (.t (.lst [.int (aN w5),.int (aN w6),.int (aN w7),.int (aN w8)])),Zz (.t (.int (aN w5))),Zz (.t (.int (aN w6))),Zz (.t (.int (aN w7))),Zz (.t (.int (aN w8))),Zy] (m++[Zz (false,(aK w4).map nX)])=.ok (.next [Zz (.t (.str x)),Zz (.t (.lst WS)),Zz (.t (.lst ((aK w3).map wT))),Zz (.c m.length),g4,g5,g6,g7,Zz (.t (.lst [.int (aN w5),.int (aN w6),.int (aN w7),.int (aN w8)])),Zz (.t (.int (aN w5))),Zz (.t (.int (aN w6))),Zz (.t (.int (aN w7))),Zz (.t (.int (aN w8))),Zz (.t t)]) (m++[Zz (false,(aK w4).map nX)]):=(au ((ax (hjn rfl)).trans hrd)).trans dg;refine⟨[Zz (false,(aK w4).map nX)],?_⟩;rw[ex,hb];refine aj (oM (ak (i0 rfl) (ak (oM (ak (i1 rfl) (ak (i2 rfl) (ak (aC (aa rfl) (i6 _)) (ak (Ak (ts:=[.lst ((aK w4).map nX)]) (ak (aa rfl) aU) ?_ (i6 _)) aU)))) rfl bg) (ak (aa rfl) (ak (aa rfl) (ak (aa rfl) (ak (aa rfl) (ak (aa rfl) aU))))))) ?_ bg)
  ·show(view (.c m.length) _).bind _=_
   unfold view;dsimp only;rw[iH];rfl
  ·rw[hmk,hsz]
   rw[t5,t6,t7,t8];rfl
end
theorem u5{sep:List Nat}{c:Nat}:∀{ws:List (List Nat)},c∈aM sep ws->c∈sep∨∃w∈ws,c∈w
 |[],h=>by cases h
 |[x],h=>.inr ⟨x,by simp,h⟩
 |x::y::r,h=>by
  have h:=h;rcases S1.mp h with h|h
  ·rcases S1.mp h with h|h
   ·exact .inr ⟨x,by simp,h⟩
   ·exact .inl h
  ·rcases u5 h with h|⟨w,hw,h⟩
   ·exact .inl h
   ·exact .inr ⟨w,R5 _ hw,h⟩
theorem Ip{a sep b:List Nat}(hn:∀k<a.length,((a++(sep++b)).drop k).take sep.length≠sep):yh (a++(sep++b)) sep=.tup [.str a,.str sep,.str b]:=by
 have at_iff:∀k,VA ⟨(a++(sep++b)).toArray⟩ ⟨sep.toArray⟩ (U0 ⟨(a++(sep++b)).toArray⟩) k↔k+sep.length<=(a++(sep++b)).length/\((a++(sep++b)).drop k).take sep.length=sep:=λk=>by
  unfold VA;rw[PySem.StrLaws.subAt_eq,beq_iff_eq];simp[U0]
 have hA:((a++(sep++b)).drop a.length).take sep.length=sep:=by rw[WO,Ui]<;>rfl
 unfold yh;rcases UB ⟨(a++(sep++b)).toArray⟩ ⟨sep.toArray⟩with⟨_,hN⟩|⟨i,hp,hi,hm⟩
 ·exact Xk ((at_iff a.length).mpr ⟨by simp,hA⟩) (hN _)
 ·rw[at_iff]at hi
  have e:i=a.length:=by
   rcases Nat.lt_trichotomy i a.length with h|h|h
   ·exact Xk hi.2 (hn i h)
   ·exact h
   ·exact Xk ((at_iff a.length).mpr ⟨by simp,hA⟩) (hm _ h)
  subst e;have e3:((a++(sep++b)).drop (a.length+sep.length)).take ((a++(sep++b)).length-(a.length+sep.length))=b:=by
   rw[<-List.drop_drop,WO rfl,WO rfl,U5];simp only[R7];omega
  rw[hp];simp only[UI,U0,Q9,e3];simp
theorem Fs{a b:List Nat}(h:124∉a):yh (a++([32,124,32]++b)) [32,124,32]=.tup [.str a,.str [32,124,32],.str b]:=Ip λk hk e=>by
 rw[List.drop_append_of_le_length (by omega),Su hk]at e;by_cases h1:k+1<a.length
 ·rw[Su h1]at e
  have e:=e;exact h ((W4 (W4 e).2).1▸Ts h1)
 ·rw[List.drop_eq_nil_of_le (by omega)]at e
  have e:=e;cases(W4 (W4 e).2).1
theorem u7(c:Nat):∀x:List Nat,aM [c] (ap c x)=x
 |[]=>rfl
 |a::r=>by
  have ih:=u7 c r;rw[ap];cases e:ap c r with
  |nil=>exact Xk e (dw c r)
  |cons y ys =>
   rw[e]at ih;split
   ·rename_i h
    subst h;show[]++[a]++aM [a] (y::ys)=_;rw[ih];rfl
   ·cases ys with
    |nil=>show a::y=_;rw[show y=r from ih]
    |cons z zs =>
     have ih:=ih;rw[<-ih];rfl
theorem uP(sep s:List Nat):s=Pa sep s++(sep++Pb sep s)∨(Pa sep s=s/\Pb sep s=[]):=by
 have at_iff:∀k,VA ⟨s.toArray⟩ ⟨sep.toArray⟩ (U0 ⟨s.toArray⟩) k↔k+sep.length<=s.length/\(s.drop k).take sep.length=sep:=λk=>by
  unfold VA;rw[PySem.StrLaws.subAt_eq,beq_iff_eq];simp[U0]
 unfold Pa Pb;rcases UB ⟨s.toArray⟩ ⟨sep.toArray⟩with⟨hp,_⟩|⟨i,hp,hi,_⟩
 ·right
  rw[hp];exact⟨rfl,rfl⟩
 ·left
  rw[at_iff]at hi;rw[hp];simp only[UI,U0,Q9];have e1:List.take (i-0) (Wi 0 s)=s.take i:=by rw[Nat.sub_zero,V0]
  have e2:List.take (s.length-(i+sep.length)) (Wi (i+sep.length) s)=s.drop (i+sep.length):=U5 (by rw[Sh];omega);rw[e1,e2,<-List.drop_drop];have e3:sep++Wi sep.length (Wi i s)=Wi i s:=by
   conv=>lhs;arg 1;rw[<-hi.2]
   exact TX _ _
  rw[e3,TX]
theorem oa(c:Nat)(b:List Nat):∀a:List Nat,ap c (a++c::b)=ap c a++ap c b
 |[]=>by
  rw[ap];exact Xf rfl
 |x::r=>by
  have ih:=oa c b r;rw[V8,ap,ih,ap];split
  ·rfl
  ·cases e:ap c r with
   |nil=>exact Xk e (dw c r)
   |cons y ys=>rfl
theorem Dz(a b:List Nat):ap 32 (a++(bar++b))=ap 32 a++[124]::ap 32 b:=by
 have:a++(bar++b)=a++32::([124]++32::b):=rfl;rw[this,oa,oa];rfl
theorem oA{c sep:Nat}:∀{cs:List Nat},c∈cs->c=sep∨∃w∈ap sep cs,c∈w
 |[],h=>Xk h R3
 |a::r,h=>by
  rw[ap];split
  ·rename_i e
   rcases R6.mp h with h|h
   ·exact .inl (h.trans e)
   ·rcases oA h with h|⟨w,hw,h⟩
    ·exact .inl h
    ·exact .inr ⟨w,R5 _ hw,h⟩
  ·cases e:ap sep r with
   |nil=>exact Xk e (dw sep r)
   |cons y ys =>
    rcases R6.mp h with rfl|h
    ·exact .inr ⟨_,RU,RU⟩
    ·rcases oA h with h|⟨w,hw,h⟩
     ·exact .inl h
     ·rw[e]at hw
      rcases R6.mp hw with rfl|hw
      ·exact .inr ⟨_,RU,R5 _ h⟩
      ·exact .inr ⟨w,R5 _ hw,h⟩
theorem sk{w:List Nat}{c:Nat}(h:nB w=true)(hc:c∉iP):c∉w:=λhm=>by
 unfold nB dW at h;simp only[Q3,RF,decide_eq_true_eq]at h;exact hc (h.1.1.2 c hm)
theorem Cw{w:List Nat}(h:∀u∈aK w,124∉u):124∉w:=λhm=>by
 unfold aK at h;split at h
 ·rename_i e
  rw[eq_of_beq e]at hm;revert hm;decide
 ·rcases oA (sep:=44) hm with z|⟨u,hu,z⟩
  ·cases z
  ·exact h u hu z
theorem G5{w0 w1 w2 w3 w4 w5 w6 w7 w8:List Nat}{wt:T}(h:bz (b9 w0 w1 w2 w3 w4 w5 w6 w7 w8 wt)=true):∀w∈[w0,w1,w2,w3,w4,w5,w6,w7,w8],124∉w:=by
 rw[eN,rl,sr,Q3,Cb]at h;obtain⟨h0,a1,a2,a3,a4,a5,a6,a7,a8,a9,a10⟩:=h;have n5:=pc a7;have n6:nB w6=true:=by
  rw[ow n5]at a8;exact pc a8
 have n7:=pc a9;rw[wc]at a10;rw[Q3]at a3 a4;have nd:(124:Nat)∉iP:=by decide
 have nl:(124:Nat)∉gu:=by decide
 have q0:124∉w0:=by
  obtain⟨cs,e,hm⟩:=d0 h0;cases e;exact(by decide:∀w∈sides,124∉w) w0 hm
 have q3:=Cw λu hu=>jJ (RF.mp a3.1 u hu) nl
 have q4:=Cw λu hu hm=>by
  have m1:124∉Pa [61] u:=jJ (RF.mp a4.1 (P1 u) (VU hu)) nl;have m3:=sk (RF.mp a5 u hu) nd;rcases uP [61] u with e|⟨e,_⟩
  ·rw[e]at hm
   rcases S1.mp hm with hm|hm
   ·exact m1 hm
   ·rcases S1.mp hm with hm|hm
    ·revert hm;decide
    ·exact m3 hm
  ·rw[e]at m1
   exact m1 hm
 intro w hw;simp only[R6,R3,or_false]at hw;rcases hw with rfl|rfl|rfl|rfl|rfl|rfl|rfl|rfl|rfl
 ·exact q0
 ·exact jJ a1 nl
 ·exact jJ a2 nl
 ·exact q3
 ·exact q4
 ·exact sk n5 nd
 ·exact sk n6 nd
 ·exact sk n7 nd
 ·exact sk a10 nd
theorem Bg:gZ []=.non:=rfl
theorem ten{α:Type}{l:List α}(h:11<=l.length):∃a b c d e f g i j k r,l=a::b::c::d::e::f::g::i::j::k::r/\r≠[]:=by
 obtain⟨a,b,c,d,e,f,g,i,j,h9⟩:=nine (l:=l.take 9) (by rw[Rn];omega);have e1:=TX 9 l;cases q:l.drop 9 with
 |nil =>
  have:=congrArg Rg q;rw[Sh]at this;simp at this;omega
 |cons k r =>
  rw[h9,q]at e1;refine⟨a,b,c,d,e,f,g,i,j,k,r,e1.symm,λz=>?_⟩;rw[z]at e1;rw[<-e1]at h;simp at h
theorem GH{a b:List Nat}(h:124∉a):Pa bar (a++(bar++b))=a/\Pb bar (a++(bar++b))=b:=by
 have e:=Fs (b:=b) h;have e:T.tup [.str (Pa bar (a++(bar++b))),_,.str (Pb bar (a++(bar++b)))]=.tup [.str a,.str [32,124,32],.str b]:=e;simp only[T.tup.injEq,List.cons.injEq,T.str.injEq]at e;exact⟨e.1,e.2.2.1⟩
theorem same{x:List Nat}(hl:x.length<=100000)(hv:Vd x):∃D:T,(∀n m,cf (n+58) 53 [.t (.str x)] m=.ok (.t D) m)/\(∀n m,cf (n+58) 30 [.t (.str x)] m=.ok (.t D) m)/\(D=.non∨∃w0 w1 w2 w3 w4 w5 w6 w7 w8 wt,D=b9 w0 w1 w2 w3 w4 w5 w6 w7 w8 wt/\bz D=true):=by
 have prog:∀{v0 v1 v2 v3 v4 v5 v6 v7 v8:List Nat},ap 32 (Pa bar x)=[v0,v1,v2,v3,v4,v5,v6,v7,v8]->bz (b9 v0 v1 v2 v3 v4 v5 v6 v7 v8 (gZ (Pb bar x)))=true->ap 32 x=v0::v1::v2::v3::v4::v5::v6::v7::v8::[124]::ap 32 (Pb bar x)/\oneOf (.str v0) sides=true:=λ{v0 v1 v2 v3 v4 v5 v6 v7 v8} h9 hO=>by
  have h0:=hO;rw[eN,Q3]at h0;refine⟨?_,h0.1⟩;rcases uP bar x with e|⟨_,e⟩
  ·have:=congrArg (ap 32) e
   rw[Dz,h9]at this;exact this
  ·rw[e,Bg,eN]at hO
   simp only[Q3]at hO;exact Xk hO.2.2.1 (by decide)
 by_cases c1:11<=(ap 32 x).length/\(ap 32 x).getD 9 []=[124]/\oneOf (.str ((ap 32 x).getD 0 [])) sides=true
 ·obtain⟨c1,c2,c3⟩:=c1
  obtain⟨w0,w1,w2,w3,w4,w5,w6,w7,w8,w9,rest,hx,hr⟩:=ten c1;have e9:w9=[124]:=by rw[hx]at c2;exact c2
  have e0:oneOf (.str w0) sides=true:=by rw[hx]at c3;exact c3
  subst e9;have hlaw:=λn m=>law_read_ten (n:=n) (m:=m) hl hv hx hr e0
  have hsj:=eU hr λw hw=>md 32 x w (by rw[hx];simp[hw])
  by_cases hO:bz (b9 w0 w1 w2 w3 w4 w5 w6 w7 w8 (dN rest))=true
  ·have hno:=G5 hO
   have hsp9:∀w∈[w0,w1,w2,w3,w4,w5,w6,w7,w8],32∉w:=λw hw=>md 32 x w (by
    rw[hx];simp only[R6,R3,or_false]at hw ⊢;rcases hw with h|h|h|h|h|h|h|h|h<;>simp[h])
   have hxx:x=aM [32] [w0,w1,w2,w3,w4,w5,w6,w7,w8]++(bar++aM [32] rest):=by
    have:=u7 32 x;rw[hx]at this;rw[<-this];cases rest with
    |nil=>exact Xk rfl hr
    |cons a r=>simp[aM,bar]
   have h124:124∉aM [32] [w0,w1,w2,w3,w4,w5,w6,w7,w8]:=λhm=>by
    rcases u5 hm with hm|⟨w,hw,hm⟩
    ·simp at hm
    ·exact hno w hw hm
   obtain⟨pa,pb⟩:=GH h124;rw[<-hxx]at pa pb;have h9:ap 32 (Pa bar x)=[w0,w1,w2,w3,w4,w5,w6,w7,w8]:=by rw[pa];exact eU (by simp) hsp9
   have hw:gZ (Pb bar x)=dN rest:=by
    show dN (ap 32 (Pb bar x))=_;rw[pb,hsj]
   have hprog:=λn m=>ik (n:=n) (m:=m) hl h9
   rw[hw]at hprog;rw[Xf hO]at hlaw hprog;exact⟨_,hlaw,hprog,.inr ⟨_,_,_,_,_,_,_,_,_,_,rfl,hO⟩⟩
  ·rw[Xg hO]at hlaw
   refine⟨.non,hlaw,λn m=>?_,.inl rfl⟩;by_cases h9:(ap 32 (Pa bar x)).length=9
   ·obtain⟨v0,v1,v2,v3,v4,v5,v6,v7,v8,h9⟩:=nine h9
    rw[ik hl h9,Xg λhP=>?_];obtain⟨e,_⟩:=prog h9 hP;rw[hx]at e;simp only[List.cons.injEq]at e;obtain⟨rfl,rfl,rfl,rfl,rfl,rfl,rfl,rfl,rfl,_,e⟩:=e;have hw:gZ (Pb bar x)=dN rest:=by
     show dN (ap 32 (Pb bar x))=_;rw[e]
    rw[hw]at hP;exact hO hP
   ·exact jb hl h9
 ·refine⟨.non,λn m=>law_read_not hl c1,λn m=>?_,.inl rfl⟩
  by_cases h9:(ap 32 (Pa bar x)).length=9
  ·obtain⟨v0,v1,v2,v3,v4,v5,v6,v7,v8,h9⟩:=nine h9
   rw[ik hl h9,Xg λhP=>?_];obtain⟨e,h0⟩:=prog h9 hP;refine c1 ?_;rw[e];refine⟨?_,rfl,h0⟩;have:=VV.mpr (dw 32 (Pb bar x));simp;omega
  ·exact jb hl h9
theorem kQ{a:T}{ws:List (List Nat)}(h:oneOf a ws=true)(f:∀w∈ws,∀c∈w,c<1114112):∀k,aw k a=true:=by
 cases a with
 |str i =>
  intro k;refine iJ (f i ?_);obtain⟨b,g,e⟩:=Tv.mp h;rw[<-eq_of_beq e];exact g
 |_=>cases h
theorem tZ{a:T}(h:cx a=true):∀k,aw k a=true:=by
 cases a with
 |str c=>exact λk=>iN h
 |_=>cases h
theorem HF{a:T}(h:j9 a=true):∀k,aw k a=true:=by
 cases a with
 |int i=>intro k;cases k<;>rfl
 |_=>cases h
theorem Dm{x:T}{d:Nat}(h:eX x=true)(f:∀y∈kids x,aw d y=true/\aw (d+1) y=true):aw (d+2) x=true:=by
 have g:∀{i:List T},(∀t∈i,aw (d+1) t=true)->aw (d+2) (.tup i)=true:=λ{i} h=>by rw[aw];exact cY h
 unfold eX at h;rw[Sf]at h;rcases h with h|h
 ·unfold dj at h
  split at h
  ·rename_i a
   refine g λt e=>?_
   simp at e;subst e;exact kQ h (by decide) _
  ·rename_i a b
   rw[Q3]at h;refine g λt e=>?_
   simp at e;rcases e with rfl|rfl
   ·exact kQ h.1 (by decide) _
   ·exact tZ h.2 _
  ·rename_i a b c
   rw[Q3,Q3]at h;refine g λt e=>?_
   simp at e;rcases e with rfl|rfl|rfl
   ·exact kQ h.1.1 (by decide) _
   ·exact tZ h.1.2 _
   ·exact HF h.2 _
  ·cases h
 ·unfold My.kids at h f
  split at h
  ·rename_i a b
   dsimp only at f;split at h
   ·rename_i q
    rw[Xf q]at f;refine g λt e=>?_
    simp at e;rcases e with rfl|rfl
    ·exact kQ q (by decide) _
    ·exact(f t (by simp)).2
   ·rename_i q
    rw[Xg q]at f;split at h
    ·rename_i q2
     rw[Xf q2]at f;rw[Q3]at q2;refine g λt e=>?_
     simp at e;rcases e with rfl|rfl
     ·exact kQ q2.1 (by decide) _
     ·cases t with
      |tup i=>rw[aw];exact cY λy k=>(f y k).1
      |_=>cases q2.2
    ·simp at h
  ·simp at h
theorem rV:∀(k p:Nat) (l a:List T) (j:Nat),run k p l=Zz a->a=[]->∀y∈l,aw (j+2*k) y=true
 |0,p,l,a,j,h,e=>by
  rw[run]at h;cases h;subst e;intro y c;cases c
 |k+1,p,l,a,j,h,e=>by
  rw[run]at h;split at h
  ·cases h
  ·rename_i q
   intro y c;have f:eX y=true:=by
    cases z:l.all eX with
    |false=>exact Xk (.inr z) q
    |true=>exact RF.mp z y c
   refine Dm f λz b=>?_
   have b:=V9.mpr ⟨y,c,b⟩;have d:=rV k _ _ _ (j+1) h e z b;rw[show j+1+2*k=j+2*k+1 by omega]at d;exact⟨rV k _ _ _ j h e z b,d⟩
theorem El{t:T}(h:cS t=true):aw 58 t=true:=by
 unfold cS at h;split at h
 ·cases h
 ·rename_i l e
  exact rV 6 0 [t] l 46 e (List.isEmpty_iff.mp h) t (by simp)
section
variable{call:Nat->List W->Mem->Res W}{gv:List T}{env env':Env}{m m1 m2:Mem}{a bb k:S}{x:Exc}{yes:List Nat}{nm:Option Nat}
theorem J1(h:ex call gv a env m=.ok (.next env') m1):ex call gv (.tri a yes nm bb k) env m=ex call gv k env' m1:=by
 rw[ex,h]
theorem JL(h:ex call gv a env m=.exc x m1)(b:x.cls∈yes)(c:ex call gv bb (GO env.length nm x) m1=.ok (.next env') m2):ex call gv (.tri a yes nm bb k) env m=ex call gv k (Nb nm env') m2:=by
 rw[ex,h];dsimp only;rw[Xf b,c];rfl
end
section
variable{n:Nat}{m:Mem}
theorem ni(w:List Nat):∀k,aw k (nT w)=true:=λk=>by
 unfold nT;split<;>cases k<;>rfl
theorem AI{k c w2 b a j i g f:List Nat}{e:T}(h:bz (b9 k c w2 b a j i g f e)=true):aw 59 (b9 k c w2 b a j i g f e)=true:=by
 rw[eN,rl,sr,Q3,Cb]at h;obtain⟨s,y,x,m,l,z,v,_⟩:=h;rw[Q3]at m l;have r:aw 57 (.tup ((aK b).map .str))=true:=by
  rw[aw];refine cY λt d=>?_
  obtain⟨w,n,rfl⟩:=Rb.mp d;exact iN (RF.mp m.1 w n)
 have q:aw 57 (.tup ((aK a).map xw))=true:=by
  rw[aw];refine cY λt d=>?_
  obtain⟨u,o,rfl⟩:=Rb.mp d;rw[xw,aw,aL,aL,aL,iN (RF.mp l.1 (P1 u) (VU o)),ni];rfl
 have p:aw 58 (.tup [.str c,.str w2,.tup ((aK b).map .str),.tup ((aK a).map xw)])=true:=by
  rw[aw,aL,aL,aL,aL,aL,iN y,iN x,r,q];rfl
 rw[b9,aw,aL,aL,aL,aL,aL,aL,aL,aL,kQ s (by decide),p,El v,ni,ni,ni,ni];rfl
theorem mr{t:T}(h:cJ t .str=false):cf (n+59) 31 [.t t] m=.exc (Ck 0) m:=oZ (ib _ _ _) rfl (ee (bf (vq (aa rfl) h)) (gJ (ae _)))
theorem yf{x:List Nat}(h:cf (n+58) 30 [.t (.str x)] m=.ok (.t .non) m):cf (n+59) 31 [.t (.str x)] m=.exc (Ck 0) m:=
 oZ (ib _ _ _) rfl ((ay (bf (k:=true) (vq (aa rfl) rfl))).trans ((au ((ax (aa rfl)).trans h)).trans (ee (ar (aa rfl) (ae _) rfl) (gJ (ae _)))))
theorem DR{x:List Nat}{ts:List T}(h:cf (n+58) 30 [.t (.str x)] m=.ok (.t (.tup ts)) m):cf (n+59) 31 [.t (.str x)] m=.ok (.t (.tup ts)) m:=
 aG (ib _ _ _) rfl ((ay (bf (k:=true) (vq (aa rfl) rfl))).trans ((au ((ax (aa rfl)).trans h)).trans ((ay (ar (aa rfl) (ae _) rfl)).trans (aj (aa rfl))))) (aD rfl)
noncomputable abbrev B0:T:=.tup [.str [114,101,102,117,115,101,100],.non]
theorem Cf{t:T}(h:cf (n+59) 31 [.t t] m=.exc (Ck 0) m):cf (n+60) 54 [.t t] m=.ok (.t B0) m:=by
 refine aG (yZ _ _ _) rfl ?_ (aD rfl);unfold nu;refine(au (aV (ae _) (ae _))).trans ((JL (wL (yt (ae _) ((ax (aa rfl)).trans h))) (by decide) (show ex (cf (n+59)) gv oY _ _=.ok (.next [Zy,Zz (.t B0),Zz (.x 107 ["at"] [.int 0]),Zz (.t (.lst (R4 11 (.bl false))))]) m from ?_)).trans (aj (aa rfl)));have i:∀{a:Env}{d f:List Nat}{k:Bool},a[2]?=Zz (Zz (.x 107 ["at"] [.int 0]))->Mu d f (.x 107 ["at"] [.int 0])=Zz (.bl k)->ev (cf (n+59)) gv (.pW (.var 2) d f) a m=.ok (.t (.bl k)) m:=λ{a d f k} b h=>by
  rw[ev,aa b,ag,h];rfl
 have c:∀{a:Env},a[2]?=Zz (Zz (.x 107 ["at"] [.int 0]))->ev (cf (n+59)) gv (.pW (.var 2) [] [107]) a m=.ok (.t (.bl false)) m:=λb=>i b rfl
 have e:∀{a:Env},a[2]?=Zz (Zz (.x 107 ["at"] [.int 0]))->ev (cf (n+59)) gv (.pW (.var 2) [107] []) a m=.ok (.t (.bl true)) m:=λb=>i b rfl
 have l:∀{a:Env},a[2]?=Zz (Zz (.x 107 ["at"] [.int 0]))->ev (cf (n+59)) gv (.OI (.var 2) [107] "at") a m=.ok (.t (.int 0)) m:=λb=>by
  rw[ev,aa b,ag];rfl
 have g:∀{a:Env},a[2]?=Zz (Zz (.x 107 ["at"] [.int 0]))->ev (cf (n+59)) gv (.lst (.cons (.pW (.var 2) [] [107]) (.cons (.pW (.var 2) [] [107]) (.cons (.pW (.var 2) [] [107]) (.cons (.pW (.var 2) [] [107]) .nil))))) a m=.ok (.t (.lst (R4 4 (.bl false)))) m:=λb=>bw (ak (c b) (ak (c b) (ak (c b) (ak (c b) aU)))) rfl bg
 have j:∀{a:Env},a[2]?=Zz (Zz (.x 107 ["at"] [.int 0]))->ev (cf (n+59)) gv (.lst (.cons (.pW (.var 2) [] [107]) (.cons (.pW (.var 2) [] [107]) (.cons (.pW (.var 2) [] [107]) .nil)))) a m=.ok (.t (.lst (R4 3 (.bl false)))) m:=λb=>bw (ak (c b) (ak (c b) (ak (c b) aU))) rfl bg
 unfold oY;refine(au (g rfl)).trans ((au (aB (aa rfl) (g rfl) rfl)).trans ((au (aB (aa rfl) (j rfl) rfl)).trans ((l0 ((fz (e rfl)).trans ((fz (e rfl)).trans ((fz (ar (ae _) (aa rfl) rfl)).trans (ar (l rfl) (ae _) rfl)))) ((au (aV (ae _) (ae _))).trans dg)).trans dg)))
theorem Ez{t D:T}(h:cf (n+59) 31 [.t t] m=.ok (.t D) m):cf (n+60) 54 [.t t] m=.ok (.t (.tup [.str [116,111,108,100],D])) m:=by
 refine aG (yZ _ _ _) rfl ?_ (aD rfl);unfold nu;exact(au (aV (ae _) (ae _))).trans ((J1 ((au (aV (ae _) ((ax (aa rfl)).trans h))).trans dg)).trans (aj (aa rfl)))
end
theorem Kg{f:Env->Mem->Res Flow}{tg:Tg}{env a b:Env}{m m2:Mem}{t:T}{ts:List T}(d:bK tg t env=Zz a)(c:f a m=.ok (.next b) m2):cj f tg (t::ts) env m=cj f tg ts b m2:=by
 rw[cj,d];show(f a m).bind _=_;rw[c];rfl
theorem CB:bn .NotEq B0 B0=Zz false:=BX (by
 rw[aw,aL,aL,aL,iJ (by decide)];rfl)
theorem FJ{n i:Nat}{m:Mem}{k j e5:Option W}(hi:i<m.length):∀(ts:List T) (x:List Nat) (s:List T) (e4:Option W),bE s->Vd x->(x.length+40)*2^ts.length<=50000->∃(y:List Nat) (h:List T) (g:Option W),cj (ex (cf (n+60)) gv CK) (.nm 4) ts [k,j,Zz (.c i),Zz (.t (.str x)),e4,e5] (put m i s)=.ok (.next [k,j,Zz (.c i),Zz (.t (.str y)),g,e5]) (put m i h)/\bE h/\Vd y/\y.length<=50000
 |[],x,s,e4,f,d,a=>⟨x,s,e4,rfl,f,d,by simp at a;omega⟩
 |t::ts,x,s,e4,f,d,a=>by
  have p:1<=2^ts.length:=Nat.one_le_two_pow;rw[RN,Nat.pow_succ,VY _ 2,<-Nat.mul_assoc,VY _ 2]at a;have w:=Nat.le_mul_of_pos_right (2*(x.length+40)) p;obtain⟨y,o,v,e,q,b⟩:=Eg hi f (by omega) d;obtain⟨z,l,g,u,r⟩:=FJ hi ts y o (Zz (.t t)) e b (Re (Nat.mul_le_mul_right _ (by omega)) a);refine⟨z,l,g,(Kg rfl ?_).trans u,r⟩;exact(au ((am (aa rfl) (aa rfl)).trans v)).trans dg
theorem law_turn{n:Nat}{m:Mem}{F:List Int}{k:Int}{e2 e3 e4 e5:Option W}(R:0<=k):∃(m':Mem) (f2 f3 C f5:Option W),ex (cf (n+60)) gv wm [Zz (.t (.dG F)),Zz (.t (.int k)),e2,e3,e4,e5] m=.ok (.next [Zz (.t (.dG F)),Zz (.t (.int k)),f2,f3,C,f5]) m':=by
 obtain⟨s,B,L⟩:=JG R;have g:m.length<(m++[Zy]).length:=by simp
 generalize hM:m++[Zy]=M at B g;generalize hI:m.length=i at B g;obtain⟨t,s1,h2,A,gO⟩:=yq g L;obtain⟨x,hx,J,h3⟩:=qH gO;obtain⟨r,I,h4,z,r0,r1⟩:=aQ (many:=4) g A (by decide) (by decide);have N:(rangeT 0 r.toNat).length<=3:=by
  unfold rangeT;simp;omega
 obtain⟨y,q,C,h5,w,v,Q⟩:=FJ g (rangeT 0 r.toNat) x I e4 z J (Re (Nat.mul_le_mul (show x.length+40<=5040 by omega) (Nat.pow_le_pow_right (by decide) N)) (by decide));obtain⟨D,Z,H,Y⟩:=same (by omega) v;obtain⟨j,l,X,K,j0,j1⟩:=aQ (n:=n+57) (many:=6) g w (by decide) (by decide);have d:∀{a:T}{M:Mem},cf (n+59) 31 [.t a] M=.exc (Ck 0) M->∀{b:Env}{u:Mem}{e:E},ev (cf (n+60)) gv e b u=.ok (.t a) M->ev (cf (n+60)) gv (.cmp .NotEq (.call 54 (.cons e .nil)) (.tup (.cons (.con (.str [114,101,102,117,115,101,100])) (.cons (.con .non) .nil)))) b u=.ok (.t (.bl false)) M:=λ{a M} h {b u e} h'=>ar ((ax h').trans (Cf h)) (aV (ae _) (ae _)) CB
 have S:∀b:Env,b[3]?=Zz (Zz (.t (.str y)))->b[5]?=Zz (Zz (.t D))->ev (cf (n+60)) gv (.cmp .NotEq (.call 54 (.cons (.var 3) .nil)) (.tup (.cons (.ix (.lst (.cons (.con (.str [116,111,108,100])) (.cons (.con (.str [114,101,102,117,115,101,100])) .nil))) (.blt .int (.cons (.cmp .Is (.var 5) (.con .non)) .nil))) (.cons (.var 5) .nil)))) b (put M i q)=.ok (.t (.bl false)) (put M i q):=λb p o=>by
  rcases Y with rfl|⟨w0,w1,w2,w3,w4,w5,w6,w7,w8,wt,rfl,V⟩
  ·exact ar ((ax (aa p)).trans (Cf (yf (H n _)))) (aV (bi (dF (ae _) (ae _)) (aC (ar (aa o) (ae _) rfl) rfl) rfl) (aa o)) CB
  ·have G:=AI V
   rw[b9]at G;refine ar ((ax (aa p)).trans (Ez (DR (H n _)))) (aV (bi (dF (ae _) (ae _)) (aC (ar (aa o) (ae _) rfl) rfl) rfl) (aa o)) (BX ?_);rw[aw,aL,aL,aL,G,iJ (by decide)];rfl
 have P:eT .split (.str y) [.str [32]]=Zz (.lst ((ap 32 y).map .str)):=Xf (by omega);have f:∀b:Env,b[2]?=Zz (Zz (.c i))->b[3]?=Zz (Zz (.t (.str y)))->ev (cf (n+60)) gv (.cmp .NotEq (.call 54 (.cons (.ix (.lst (.cons (.con .non) (.cons (.con (.int 7)) (.cons (.lst (.cons (.con (.str [103,105,118,101])) .nil)) (.cons (.eA .split (.var 3) (.cons (.con (.str [32])) .nil)) (.cons (.con (.bl true)) (.cons (.con (.str [])) .nil))))))) (.call 36 (.cons (.var 2) (.cons (.con (.int 6)) .nil)))) .nil)) (.tup (.cons (.con (.str [114,101,102,117,115,101,100])) (.cons (.con .non) .nil)))) b (put M i q)=.ok (.t (.bl false)) (put M i l):=λb g2 p=>by
  obtain⟨a,U,O⟩:∃a,uN (.lst [.non,.int 7,.lst [.str [103,105,118,101]],.lst ((ap 32 y).map .str),.bl true,.str []]) (.int j)=Zz a/\cf (n+59) 31 [.t a] (put M i l)=.exc (Ck 0) (put M i l):=by
   rcases(by omega:j=0∨j=1∨j=2∨j=3∨j=4∨j=5)with rfl|rfl|rfl|rfl|rfl|rfl
   ·exact⟨_,rfl,mr rfl⟩
   ·exact⟨_,rfl,mr rfl⟩
   ·exact⟨_,rfl,mr rfl⟩
   ·exact⟨_,rfl,mr rfl⟩
   ·exact⟨_,rfl,mr rfl⟩
   ·exact⟨_,rfl,yf (jb (by simp) (by decide +kernel))⟩
  exact d O (bi (bw (ak (ae _) (ak (ae _) (ak (bw (ak (ae _) aU) rfl bg) (ak (di (.inl rfl) (aa p) (ae _) rfl P) (ak (ae _) (ak (ae _) aU)))))) rfl bg) ((am (aa g2) (ae _)).trans X) U)
 refine⟨put M i l,Zz (.c i),Zz (.t (.str y)),C,Zz (.t D),?_⟩;unfold wm;refine(au ((am (aa rfl) (aa rfl)).trans B)).trans ?_;refine(au ((ax ((ax (aa rfl)).trans h2)).trans (h3 (n+19) _))).trans ?_;refine(jL (aC ((am (aa rfl) (ae _)).trans h4) (sA ⟨by omega,by omega⟩)) rfl h5).trans ?_;refine(au ((ax (aa rfl)).trans (Z (n+2) _))).trans ?_;exact(ay (S _ rfl rfl)).trans ((ay (f _ rfl rfl)).trans dg)
theorem law_true(f:List Int)(hl:f.length<=63):∃m,fU fns gv 61 55 [.t (.dG f)] []=.ok (.t (.bl true)) m:=by
 obtain⟨j,m1,r,a1,a2,a3,a4,a5,rfl⟩:=sw (tg:=.nm 1) (P:=λg m=>∃a b c d e,g=[Zz (.t (.dG f)),a,b,c,d,e]) (rangeT 0 8) [Zz (.t (.dG f)),Zy,Zy,Zy,Zy,Zy] [] ⟨_,_,_,_,_,rfl⟩ (by
  rintro t i g m ⟨a,b,c,d,e,rfl⟩;obtain⟨x,rfl,p⟩:∃x:Int,t=.int x/\0<=x:=by
   simp[rangeT]at i;obtain⟨k,_,rfl⟩:=i;exact⟨_,rfl,by omega⟩
  obtain⟨o,f2,f3,f4,f5,q⟩:=law_turn (n:=0) p;exact⟨_,_,o,rfl,q,_,_,_,_,_,rfl⟩)
 refine⟨[],?_⟩;have h:ex (cf 60) gv ub [Zz (.t (.dG f)),Zy,Zy,Zy,Zy,Zy] []=.ok (.ret (.t (.bl true))) m1:=by
  unfold ub;exact(jL (aC (ae _) rfl) rfl r).trans (aj (ae _))
 show cf 61 55 [.t (.dG f)] []=_;rw[LW];simp[h,ag,fin]
end My
end
section
set_option maxHeartbeats 1000000
namespace My
open PySem PySem.Spec PyProof.Rows L2 Mi
noncomputable def top(i:Nat):Rv:=PySem.Challenge.pw_matepoint_k72_no_offer_text.main.body.getD i (.Pass ⟨0,0,0,0⟩)
noncomputable abbrev dC:Rv:=top 7
noncomputable abbrev kA:Rv:=top 8
noncomputable abbrev jf:Rv:=top 9
noncomputable abbrev gG:Rv:=top 10
noncomputable abbrev kn:Rv:=top 11
noncomputable abbrev vV:Rv:=top 12
noncomputable abbrev gK:Rv:=top 13
noncomputable abbrev kE:Rv:=top 14
noncomputable abbrev gF:Rv:=top 15
noncomputable abbrev kr:Rv:=top 16
noncomputable abbrev gM:Rv:=top 36
noncomputable abbrev dh:Rv:=top 37
noncomputable abbrev fB:Rv:=top 38
noncomputable abbrev gA:Rv:=top 39
noncomputable abbrev jk:Rv:=top 40
noncomputable abbrev kl:Rv:=top 41
noncomputable abbrev fh:Rv:=top 46
noncomputable abbrev jg:Rv:=top 47
noncomputable abbrev cX:Rv:=top 54
noncomputable abbrev kP:Rv:=top 55
noncomputable abbrev kJ:Rv:=top 56
noncomputable abbrev gD:Rv:=top 57
noncomputable abbrev fM:Rv:=top 58
noncomputable abbrev jr:Rv:=top 59
noncomputable abbrev er:Rv:=top 60
noncomputable abbrev gz:Rv:=top 61
noncomputable abbrev gE:Rv:=top 64
noncomputable abbrev gw:Rv:=top 65
noncomputable abbrev k6:Rv:=top 66
noncomputable abbrev kR:Rv:=top 67
noncomputable abbrev jl:Rv:=top 68
noncomputable abbrev fk:Rv:=top 69
noncomputable abbrev qe:Rv:=top 71
noncomputable abbrev mQ:Rv:=top 72
noncomputable abbrev mD:Rv:=top 73
noncomputable abbrev qh:Rv:=top 74
noncomputable abbrev qx:Rv:=top 75
noncomputable abbrev qk:Rv:=top 76
noncomputable abbrev k8:Rv:=top 77
noncomputable abbrev qB:Rv:=top 78
noncomputable abbrev g8:Rv:=top 79
noncomputable abbrev qm:Rv:=top 80
noncomputable abbrev qu:Rv:=top 81
noncomputable abbrev qa:Rv:=top 82
noncomputable abbrev dO:Rv:=top 83
noncomputable abbrev kD:Rv:=top 84
noncomputable abbrev fv:Rv:=top 85
noncomputable abbrev kq:Rv:=top 86
noncomputable abbrev ez:Rv:=top 87
noncomputable abbrev km:Rv:=top 88
noncomputable abbrev fI:Rv:=top 89
noncomputable abbrev qs:Rv:=top 90
noncomputable abbrev kZ:Rv:=top 91
noncomputable abbrev qD:Rv:=top 92
noncomputable abbrev qf:Rv:=top 93
noncomputable abbrev pE:Rv:=top 94
noncomputable abbrev dZ:Rv:=inBody (top 19) 0
set_option hygiene false
local macro_rules
 | `(tactic| wtm_at $s:str)=>do
  let q ←`(?_)
  let mut r:Array (Lean.TSyntax `tactic):=#[]
  for c in s.getString.toList do
   let t ← match c with
    | '0'=>`(tactic| exact rfl)
    | '5'=>`(tactic| exact (JO (by decide +kernel)))
    | 'a'=>`(tactic| exact (by with_unfolding_all rfl))
    | 'd'=>`(tactic| exact (fun _ _=>rfl))
    | 'i'=>`(tactic| exact (by decide))
    | 'l'=>`(tactic| exact ⟨rfl,rfl,rfl,by decide +kernel,rfl,by decide +kernel,by decide +kernel⟩)
    | 'm'=>`(tactic| intro P w K mg base k f cdv A outer s H E T0 T1 hr xe pn xr go)
    | 'n'=>`(tactic| refine ⟨?_⟩)
    | 'o'=>`(tactic| exact (fun _=>rfl))
    | 'p'=>`(tactic| exact (by kernel_rfl))
    | 'C'=>`(tactic| intro _ _ _ _ _)
    | 'D'=>`(tactic| refine ⟨?_,?_,?_⟩)
    | 'E'=>`(tactic| refine .emit ?_ ?_)
    | 'T'=>`(tactic| exact (by decide +kernel))
    | 'V'=>`(tactic| exact (fun _ h=>h))
    | 'X'=>`(tactic| exact (fun _ h=>Xk h R3))
    | ')'=>`(tactic| refine EF (kk:=k) ?_ ?_ ?_ ?_ ?_ ?_ ?_)
    | 'Ö'=>`(tactic| refine cM (N':=["size"]) ?_ ?_)
    | 'Ø'=>`(tactic| exact (bh 0 (show SY (["size"]:List Str) from by decide +kernel)))
    | 'Ü'=>`(tactic| intro xe pn xr go)
    | 'Ý'=>`(tactic| intro A2 pn2 hu2)
    | 'ã'=>`(tactic| exact (bh 0 (show SY (["_law_one"]:List Str) from by decide +kernel)))
    | 'ä'=>`(tactic| refine cM (N':=["_law_size","_law_number_here"]) ?_ ?_)
    | 'å'=>`(tactic| exact (mL 0 1 rfl (show SY (["_law_size","_law_number_here"]:List Str) from by decide +kernel)))
    | 'æ'=>`(tactic| refine cM (N':=["sign"]) ?_ ?_)
    | 'ç'=>`(tactic| exact (bh 0 (show SY (["sign"]:List Str) from by decide +kernel)))
    | 'ê'=>`(tactic| exact (mL 4 5 rfl jV.nd))
    | 'ë'=>`(tactic| exact (cI rfl rfl T0.IZ (by decide)))
    | 'ì'=>`(tactic| exact (mL 4 5 rfl gj.nd))
    | 'í'=>`(tactic| refine yD (D:=107) ?_ ?_ ?_ ?_ ?_ ?_ ?_ ?_ ?_ ?_ ?_ ?_)
    | 'î'=>`(tactic| exact (RA.mpr ⟨T0.oq,(fun _ h=>Xk h R3)⟩))
    | 'ó'=>`(tactic| refine cM (N':=["_law_one"]) ?_ ?_)
    | 'ù'=>`(tactic| refine cM (N':=["_law_sign"]) ?_ ?_)
    | 'ú'=>`(tactic| exact (bh 0 (show SY (["_law_sign"]:List Str) from by decide +kernel)))
    | 'ý'=>`(tactic| exact (Nat.lt_of_le_of_lt (Nat.le_of_eq (congrArg (· + 64) hu2)) hr.units))
    |_=>match("13xB 20CO 30J8 4v0 60hr 75Fy 80go.lk 91Gv bv1 c0hr.units e3K6 f0He g2JP hv2 j4Kb k4IK q1IP r1Kh sv3 t5IY u0T0.OA v0T1.qp w2Oe xv4 y0T0.vo z0U1 A1Jo B7Hn F2IA G2MK H1Nu I1PW.pt J0Ie Kv5 L4Jz Ms2 N1La O1Mz P0Qi Q0T0.JT R0K1 S6II Us3 W0T0.xk Ys1 Z0T0.NT !0T0.yr #0sS.nd $4GK %5FG &0T0.Ia (v6 *0T0.uM +3Bp ,2FI -5A9 .2G9 /0T0.Oj :0T1.k4 ;s4 <3HY =2Dr >2Dl ?0jY.nd @0yB.nd [5FH ]0T0.Ox ^0T1.kY _0T1.gQ `2JH {0go.po |v7 }5Kf ~0FD À1Ke Áv8 Â0ze.nd Ã0jx.nd Ä7Fo Ås5 Æ0T1.gC Ç0T1.gH È1IC É0lZ.nd Ê0T1.em Ës6 Ì2Bq Í0gP.nd Îv9 Ïv11 Ð4Fm Ñ5Fj Ò0T0.Nm Ó0T1.qd Ô0qQ.nd Õ5Ka Ù0T1.fJ Ú0lq.nd Û2Gw Þv10 ß0T0.FV à0T1.qi á5Fx â0T1.kO è0T1.dE é0T1.cZ ï4Dg ð6x8 ñ0T1.kN ò0T1.fG ôs8 õ0gk.nd ö0T1.kF ø2zV û0T1.fq ü0T1.la".splitOn " ").find? (λe=>e.toList.head?==some c) with
     |some e=>
      let d:=e.toList.tail.headD c
      let x:=String.ofList (e.toList.drop 2)
      if d=='v' then `(tactic| exact (vr $(Lean.quote x.toNat!)))
      else if d=='s' then `(tactic| refine sg (i:=$(Lean.quote x.toNat!)) ?_ ?_ ?_)
      else if d=='0' then `(tactic| exact $(Lean.mkIdent x.toName))
      else `(tactic| refine $(Lean.mkIdent x.toName) $((List.replicate (d.toNat-48) q).toArray)*)
     |_=>Lean.Macro.throwUnsupported
   r:=r.push t
  `(tactic| ($[$r:tactic];*))
theorem xL:av ["self","at"] ["self","at"] (ai dZ):=by
 wtm_at "l"
theorem pO:av ["text"] ["text"] (ai dC):=by
 wtm_at "l"
theorem zy:av ["thing"] ["thing"] (ai kA):=by
 wtm_at "l"
theorem zc:av ["thing"] ["thing"] (ai jf):=by
 wtm_at "l"
theorem wk:av ["thing"] ["thing"] (ai gG):=by
 wtm_at "l"
theorem zJ:av ["thing"] ["thing"] (ai kn):=by
 wtm_at "l"
theorem Kn:av ["words"] ["words"] (ai vV):=by
 wtm_at "l"
theorem vX:av ["thing"] ["thing"] (ai gK):=by
 wtm_at "l"
theorem Bx:av ["thing"] ["thing"] (ai kE):=by
 wtm_at "l"
theorem wu:av ["thing"] ["thing"] (ai gF):=by
 wtm_at "l"
theorem Bc:av ["thing"] ["thing"] (ai kr):=by
 wtm_at "l"
theorem wQ:av ["thing","texts"] ["thing","texts"] (ai gM):=by
 wtm_at "l"
theorem oj:av ["thing"] ["thing"] (ai dh):=by
 wtm_at "l"
theorem tf:av ["thing"] ["thing"] (ai fB):=by
 wtm_at "l"
theorem wf:av ["thing"] ["thing"] (ai gA):=by
 wtm_at "l"
theorem yd:av ["thing"] ["thing"] (ai jk):=by
 wtm_at "l"
theorem lZ:av ["thing","layer","parts","depth"] ["thing"] (ai kl):=by
 wtm_at "l"
theorem tH:av ["thing","low","high"] ["thing","low","high"] (ai fh):=by
 wtm_at "l"
theorem pI:av ["thing","side","card","wish","many","least","weight","till"] ["thing"] (ai jg):=by
 wtm_at "l"
theorem nR:av ["word"] ["word"] (ai cX):=by
 wtm_at "l"
theorem Ap:av ["words","at"] ["words","at"] (ai kP):=by
 wtm_at "l"
theorem rB:av ["words","at","word"] ["words","at"] (ai kJ):=by
 wtm_at "l"
theorem mM:av ["words","at","word"] ["words","at"] (ai gD):=by
 wtm_at "l"
theorem lq:av ["words","at","word","size","sign"] ["words","at"] (ai fM):=by
 wtm_at "l"
theorem jV:av ["words","at","within","word","wish","behind"] ["words","at","within"] (ai jr):=by
 wtm_at "l"
theorem gj:av ["words","at","within","joins","wish","behind","wishes"] ["words","at","within","joins"] (ai er):=by
 wtm_at "l"
theorem jt:av ["text","words","wish","behind"] ["text"] (ai gz):=by
 wtm_at "l"
theorem wg:av ["text"] ["text"] (ai gE):=by
 wtm_at "l"
theorem vi:av ["word"] ["word"] (ai gw):=by
 wtm_at "l"
theorem rE:av ["text","name","sign","number"] ["text"] (ai k6):=by
 wtm_at "l"
theorem rU:av ["text"] ["text"] (ai kR):=by
 wtm_at "l"
theorem gP:av ["text","head","bar","wish","words","marks","sizes","many","least","weight","till","offer"] ["text"] (ai jl):=by
 wtm_at "l"
theorem ly:av ["text","offer"] ["text"] (ai fk):=by
 wtm_at "l"
theorem Hb:av ["_law_script","_law_k"] ["_law_script","_law_k"] (ai qe):=by
 wtm_at "l"
theorem uk:av ["_law_cell_here","_law_k","_law_number_here"] ["_law_cell_here","_law_k"] (ai mQ):=by
 wtm_at "l"
theorem ut:av ["_law_cell_here","_law_k","_law_number_here"] ["_law_cell_here","_law_k"] (ai mD):=by
 wtm_at "l"
theorem xH:av ["_law_script","_law_k","_law_cell_here"] ["_law_script","_law_k"] (ai qh):=by
 wtm_at "l"
theorem zr:av ["_law_well_here","_law_most","_law_number_here"] ["_law_well_here","_law_most"] (ai qx):=by
 wtm_at "l"
theorem nq:av ["_law_well_here","_law_words","_law_most","_law_left","_law_found","_law_k"] ["_law_well_here","_law_words","_law_most"] (ai qk):=by
 wtm_at "l"
theorem Aa:av ["_law_well_here"] ["_law_well_here"] (ai k8):=by
 wtm_at "l"
theorem sN:av ["_law_well_here","_law_letters","_law_word_here"] ["_law_well_here"] (ai qB):=by
 wtm_at "l"
theorem xj:av ["_law_well_here","_law_some_here"] ["_law_well_here","_law_some_here"] (ai g8):=by
 wtm_at "l"
theorem ze:av ["_law_well_here","_law_name","_law_kind","_law_some_here","_law_marks","_law_sizes"] ["_law_well_here"] (ai qm):=by
 wtm_at "l"
theorem xD:av ["_law_well_here","_law_way"] ["_law_well_here"] (ai qu):=by
 wtm_at "l"
theorem qV:av ["_law_well_here","_law_deep","_law_room","_law_way","_law_many"] ["_law_well_here","_law_deep","_law_room"] (ai qa):=by
 wtm_at "l"
theorem jx:av ["_law_well_here","_law_many","_law_least","_law_weight","_law_till","_law_card_here","_law_wish_here"] ["_law_well_here"] (ai dO):=by
 wtm_at "l"
theorem sI:av ["_law_wish_here","_law_kinds","_law_text"] ["_law_wish_here","_law_kinds"] (ai kD):=by
 wtm_at "l"
theorem lG:av ["_law_wish_here","_law_word_here"] ["_law_wish_here"] (ai fv):=by
 wtm_at "l"
theorem AU:av ["_law_words"] ["_law_words"] (ai kq):=by
 wtm_at "l"
theorem gk:av ["_law_offer","_law_side","_law_card_here","_law_wish_here","_law_many","_law_least","_law_weight","_law_till","_law_words"] ["_law_offer"] (ai ez):=by
 wtm_at "l"
theorem sS:av ["_law_well_here","_law_text","_law_some_here","_law_words","_law_at","_law_way","_law_cut","_law_sign"] ["_law_well_here","_law_text"] (ai km):=by
 wtm_at "l"
theorem tK:av ["_law_word_here"] ["_law_word_here"] (ai fI):=by
 wtm_at "l"
theorem E7:av ["_law_word_here"] ["_law_word_here"] (ai qs):=by
 wtm_at "l"
theorem As:av ["_law_words"] ["_law_words"] (ai kZ):=by
 wtm_at "l"
theorem jY:av ["_law_text","_law_words","_law_marks","_law_sizes","_law_one","_law_size","_law_between","_law_number_here","_law_numbers","_law_many","_law_least","_law_weight","_law_till","_law_wish_here"] ["_law_text"] (ai qD):=by
 wtm_at "l"
theorem yB:av ["_law_text","_law_found","e","_law_others"] ["_law_text"] (ai qf):=by
 wtm_at "l"
theorem qQ:av ["_law_script","_law_k","_law_well_here","_law_text","_law_turn","_law_due"] ["_law_script"] (ai pE):=by
 wtm_at "l"
structure Ij (P:Rk) (w:Rz) (K:Rf) (mg:Str->Option Q2):Prop where
 vj:mg "ValueError" = Zy
 Ox:mg "all" = Zy
 Ll:mg "bool" = Zy
 NT:mg "int" = Zy
 vo:mg "isinstance" = Zy
 OA:mg "len" = Zy
 F9:mg "list" = Zy
 Nm:mg "min" = Zy
 Ia:mg "range" = Zy
 Kq:mg "set" = Zy
 FV:mg "sorted" = Zy
 Oj:mg "str" = Zy
 JT:mg "tuple" = Zy
 Ex:bP K mg "LETTERS" (.str [97,98,99,100,101,102,103,104,105,106,107,108,109,110,111,112,113,114,115,116,117,118,119,120,121,122])
 qK:bP K mg "LONGEST_WORD" (.int 8)
 v9:bP K mg "WISH_WORDS" (.tup [(.str [97,110,121]),(.str [105,115]),(.str [98,121]),(.str [110,111,116]),(.str [97,110,100]),(.str [111,114])])
 mG:bP K mg "GREATEST_NUMBER" (.int 1000000000)
 wy:bP K mg "MOST_MARKS" (.int 6)
 xu:bP K mg "MOST_SIZES" (.int 6)
 DE:bP K mg "DEEPEST" (.int 6)
 vE:bP K mg "MOST_PARTS" (.int 40)
 pT:bP K mg "FEWEST_JOINED" (.int 2)
 sY:bP K mg "MOST_JOINED" (.int 6)
 IV:bP K mg "SIDES" (.tup [(.str [103,105,118,101]),(.str [116,97,107,101]),(.str [98,101,97,114])])
 pY:bP K mg "GREATEST_MANY" (.int 1000000)
 nF:bP K mg "GREATEST_WEIGHT" (.int 1000)
 Eh:bP K mg "FIGURES" (.str [48,49,50,51,52,53,54,55,56,57])
 rn:bP K mg "MOST_FIGURES" (.int 10)
 tR:bP K mg "MOST_WITHIN" (.int 12)
 CQ:ym P w K mg "SIGNS" (Ww (λk=>.inr ⟨k.toArray⟩) [[62,61],[60,61]]) [(.str [108,101,97,115,116]),(.str [109,111,115,116])]
 IZ:bP K mg "JOINS" (.tup [(.str [111,114]),(.str [97,110,100])])
 x9:bP K mg "NONE_TEXT" (.str [45])
 yr:mg "NoText" = Zz (.ref 107)
 D1:mg "TooLate" = Zz (.ref 186)
 zO:mg "NoNumber" = Zz (.ref 222)
 HJ:mg "NoName" = Zz (.ref 174)
 Ga:mg "NoLine" = Zz (.ref 246)
 Dk:mg "HasName" = Zz (.ref 162)
 ME:mg "Full" = Zz (.ref 198)
 Dq:mg "BadTime" = Zz (.ref 150)
 Dv:mg "BadRule" = Zz (.ref 119)
 BF:mg "BadOffer" = Zz (.ref 131)
 D9:mg "BadMany" = Zz (.ref 210)
 Eu:mg "BadBook" = Zz (.ref 234)
 xI:mg "MateError" = Zz (.ref 87)
 uM:yP K 107 "at"
 oq:exmOne K (.ref 107) (.ref 107)=Zz true
 bF:ri K 107
 xk:DA K
 jP:kitOne K (.ref 107) (.type "ValueError")=Zz true
 oK:kitOne K (.ref 107) (.ref 107)=Zz true
 nj:kitOne K (.ref 107) (.ref 186)=Zz false
 l7:kitOne K (.ref 107) (.ref 222)=Zz false
 oC:kitOne K (.ref 107) (.ref 174)=Zz false
 pd:kitOne K (.ref 107) (.ref 246)=Zz false
 nv:kitOne K (.ref 107) (.ref 162)=Zz false
 qY:kitOne K (.ref 107) (.ref 198)=Zz false
 nO:kitOne K (.ref 107) (.ref 150)=Zz false
 mK:kitOne K (.ref 107) (.ref 119)=Zz false
 lQ:kitOne K (.ref 107) (.ref 131)=Zz false
 mR:kitOne K (.ref 107) (.ref 210)=Zz false
 mx:kitOne K (.ref 107) (.ref 234)=Zz false
 lj:exmOne K (.ref 107) (.ref 87)=Zz true
structure LM (P:Rk) (w:Rz) (K:Rf) (mg:Str->Option Q2) (base:Rm) (k:Nat):Prop where
 dE:dL P w K mg base fns gv k "is_long_word" 0
 kY:dL P w K mg base fns gv k "is_word" 1
 gi:dL P w K mg base fns gv k "is_whole" 2
 gH:dL P w K mg base fns gv k "is_number" 3
 kS:dL P w K mg base fns gv k "is_time" 4
 qW:dL P w K mg base fns gv k "rise" 5
 gB:dL P w K mg base fns gv k "are_marks" 6
 kI:dL P w K mg base fns gv k "is_size" 7
 gY:dL P w K mg base fns gv k "are_sizes" 8
 k7:dL P w K mg base fns gv k "is_card" 9
 gQ:dL P w K mg base fns gv k "is_one_of" 10
 df:dL P w K mg base fns gv k "is_plain_wish" 11
 fH:dL P w K mg base fns gv k "are_joined" 12
 eL:dL P w K mg base fns gv k "things_in" 13
 jw:dL P w K mg base fns gv k "has_form" 14
 iA:dL P w K mg base fns gv k "is_wish" 15
 fJ:dL P w K mg base fns gv k "is_between" 16
 iZ:dL P w K mg base fns gv k "is_offer" 17
 cZ:dL P w K mg base fns gv k "is_number_text" 18
 k4:dL P w K mg base fns gv k "word_at" 19
 iV:dL P w K mg base fns gv k "name_at" 20
 gy:dL P w K mg base fns gv k "number_at" 21
 fK:dL P w K mg base fns gv k "read_plain" 22
 fT:dL P w K mg base fns gv k "read_one" 23
 em:dL P w K mg base fns gv k "read_joined" 24
 eR:dL P w K mg base fns gv k "read_wish" 25
 eE:dL P w K mg base fns gv k "read_list" 26
 eF:dL P w K mg base fns gv k "number_in" 27
 lc:dL P w K mg base fns gv k "size_in" 28
 ko:dL P w K mg base fns gv k "wish_in" 29
 jh:dL P w K mg base fns gv k "offer_in" 30
 fj:dL P w K mg base fns gv k "read_offer" 31
 qE:dL P w K mg base fns gv k "_law_cell" 32
 nr:dL P w K mg base fns gv k "_law_mixed" 33
 nA:dL P w K mg base fns gv k "_law_twice" 34
 qc:dL P w K mg base fns gv k "_law_well" 35
 qp:dL P w K mg base fns gv k "_law_draw" 36
 ma:dL P w K mg base fns gv k "_law_some" 37
 kN:dL P w K mg base fns gv k "_law_number" 38
 m8:dL P w K mg base fns gv k "_law_free" 39
 gC:dL P w K mg base fns gv k "_law_any_word" 40
 pZ:dL P w K mg base fns gv k "_law_card" 41
 qt:dL P w K mg base fns gv k "_law_leaf" 42
 qi:dL P w K mg base fns gv k "_law_wish" 43
 dI:dL P w K mg base fns gv k "_law_great_offer" 44
 kO:dL P w K mg base fns gv k "_law_closed" 45
 fG:dL P w K mg base fns gv k "_law_wish_text" 46
 kF:dL P w K mg base fns gv k "_law_listed" 47
 eB:dL P w K mg base fns gv k "_law_offer_text" 48
 kB:dL P w K mg base fns gv k "_law_spoilt" 49
 fq:dL P w K mg base fns gv k "_law_number_of" 50
 qd:dL P w K mg base fns gv k "_law_word" 51
 la:dL P w K mg base fns gv k "_law_rising" 52
 qw:dL P w K mg base fns gv k "_law_read" 53
 m7:dL P w K mg base fns gv k "_law_told" 54
 Fu:dL P w K mg base fns gv k "law" 55
abbrev dS(ns:List Str)(x:Str)(st:Rv)(n:Nat)(b:S):Prop:=∀{P:Rk}{w:Rz}{K:Rf}{mg:Str->Option Q2}{base:Rm}{k:Nat}{f:Q8}{cdv:Q2}{A:SH}{outer:List T8}{s:Q7}{H:Hp}{E:XK},Ij P w K mg->LM P w K mg base k->iQ k (A.deeper (envOfC x (ai st) s.heap.objs.size f cdv))->∀{xe:Q2->Q7->Prop}{pn:List (Q8×Obj)}{xr:XR},Go (asX (kh (ux P w) P w K mg base ns x (ai st) f cdv A outer s H E) xe pn) xr->Bd (asX (kh (ux P w) P w K mg base ns x (ai st) f cdv A outer s H E) xe pn) (bR st) (tS K (fU fns gv k) gv xr n b)
section
variable{P:Rk}{w:Rz}{K:Rf}{mg:Str->Option Q2}{base:Rm}{k:Nat}{f:Q8}{cdv:Q2}{A:SH}{outer:List T8}{s:Q7}{H:Hp}{E:XK}
theorem pV:dS ["text"] "is_long_word" dC 1 cU:=by
 wtm_at "mn9FLt0u1420003acFL4";exact(cI rfl rfl T0.v9 (by decide));wtm_at "acO[0]1æ0BppH4oCDçzE0L4";exact(cI rfl rfl T0.Ex (by decide));wtm_at "acii2000"
theorem AK:dS ["thing"] "is_word" kA 1 d6:=by
 wtm_at "mn9FS40y0/TFLt0u142000";exact(cI rfl rfl T0.qK (by decide));wtm_at "acO78è601420"
theorem xT:dS ["thing"] "is_whole" jf 1 i7:=by
 wtm_at "mn9FS40y0ZTO";refine Kc ?_;wtm_at "S40y0";exact T0.Ll;wtm_at "T"
theorem vC:dS ["thing"] "is_number" gG 1 eQ:=by
 wtm_at "mn9F78";exact T1.gi;wtm_at "601420OÕ34";exact(cI rfl rfl T0.mG (by decide));wtm_at "ac"
theorem Br:dS ["thing"] "is_time" kn 1 kH:=by
 wtm_at "mn978Ç601420"
theorem Iw:dS ["words"] "rise" vV 1 qI:=by
 wtm_at "mn9[0]1";refine cM (N':=["at","words"]) ?_ ?_;wtm_at "0Bpp";refine AQ ?_ ?_ ?_;wtm_at "0&131t0u142000200oCD";exact(bh 0 (show SY (["at","words"]:List Str)from by decide +kernel));wtm_at "zE0Lebg43deb4dacii2000"
theorem vn:dS ["thing"] "are_marks" gK 1 eM:=by
 wtm_at "mnjIGAwS40y0QToNkt0u142000";exact(cI rfl rfl T0.wy (by decide));wtm_at "ac9Rf9F[0]1";refine cM (N':=["mark"]) ?_ ?_;wtm_at "0BppH4oCD";exact(bh 0 (show SY (["mark"]:List Str)from by decide +kernel));wtm_at "zE07P^601420ii2000O78";exact T1.qW;wtm_at "601420"
theorem Bb:dS ["thing"] "is_size" kE 1 iM:=by
 wtm_at "mn9FS40y0QTFLt0u1420003acF78^601e43d20O78Ç601e43d20"
theorem wO:dS ["thing"] "are_sizes" gF 1 eD:=by
 wtm_at "mnjIGAwS40y0QToNkt0u142000";exact(cI rfl rfl T0.xu (by decide));wtm_at "ac9Rf9F[0]1Ö0BppH4oCDØzE07P";exact T1.kI;wtm_at "601420ii2000O78";exact T1.qW;wtm_at "601Ö0BppH4oCDØzE0e43dii20"
theorem Bu:dS ["thing"] "is_card" kr 1 iS:=by
 wtm_at "mnjIGAwS40y0QToNkt0u1420003ac9Rf9F78^601e43d20F78^601e43d20F78";exact T1.gB;wtm_at "601e43d20O78";exact T1.gY;wtm_at "601e43d20"
theorem vK:dS ["thing","texts"] "is_one_of" gM 2 gR:=by
 wtm_at "mn9FS40y0/TOL4bac"
theorem oV:dS ["thing"] "is_plain_wish" dh 1 cF:=by
 wtm_at "mnjAwS40y0QTo9Rfjkt0u1420003ac978_601e43d1q1520200fjkt0u1420003ac9F78_601e43d1q1515200200O78^601e43d20fjkt0u1420003ac9F78_601e43d1q1515200200F78^601e43d20O78Ç601e43d20f9R"
theorem tN:dS ["thing"] "are_joined" fB 1 dD:=by
 wtm_at "mn9FS40y0QTOÕ";exact(cI rfl rfl T0.pT (by decide));wtm_at "t0u142000";exact(cI rfl rfl T0.sY (by decide));wtm_at "ac"
theorem vH:dS ["thing"] "things_in" gA 1 eS:=by
 wtm_at "mnjIGAwS40y0QToNkt0u1420003ac9q2fjw78_601e43d1q1520200o9q1e43d20fjI`w78_601e43d1q1515200200oÈw78";exact T1.fH;wtm_at "601e43d20o9e43df9q2"
theorem yn:dS ["thing"] "has_form" jk 1 f8:=by
 wtm_at "mn9";refine GX ?_ ?_;wtm_at "78";exact T1.df;wtm_at "601420OLt0u178";exact T1.eL;wtm_at "60142020003ac"
theorem zC:dS ["thing","layer","parts","depth"] "is_wish" kl 4 iy:=by
 wtm_at "mnYÉr1420MÉ3Ä0{+0&1";exact(cI rfl rfl T0.DE (by decide));wtm_at "20";exact(bh 3 lZ.nd);wtm_at "i";refine GU (i:=2) ?_ ?_ ?_;wtm_at "Ét0u1b2000jIGkh";exact(cI rfl rfl T0.vE (by decide));wtm_at "acNAw[0]1";refine cM (N':=["one"]) ?_ ?_;wtm_at "0BppHboCD";exact(bh 0 (show SY (["one"]:List Str)from by decide +kernel));wtm_at "zE07P";exact T1.jw;wtm_at "601420ii2000o9Rf";refine mi (N':=["one","below"]) ?_ ?_ ?_ ?_ ?_ ?_ ?_;wtm_at "0BppHboCD";exact(bh 0 (show SY (["one","below"]:List Str)from by decide +kernel));wtm_at "z";refine .more rfl ?_ (λ_=>rfl) ?_ ?_ (by decide) (show ∀i∈ll (.nm 1)++dR (.emit (.var 1)),i<2 from by decide) ?_;wtm_at "H7P";exact T1.eL;wtm_at "601420";exact(bh 1 (show SY (["one","below"]:List Str)from by decide +kernel));wtm_at "zE0biiÉ000f9Lt0u1b20003ac"
theorem tz:dS ["thing","low","high"] "is_between" fh 3 dM:=by
 wtm_at "mn9F78";exact T1.gi;wtm_at "601420OÕb4hac"
theorem yY:dS ["thing","side","card","wish","many","least","weight","till"] "is_offer" jg 8 fS:=by
 wtm_at "mnjIGAwS40y0QToNkt0u1420003ac9Rf$i4";exact(zp 1 2 3 4 5 6 7 rfl pI.nd);wtm_at "jIGAw78_601b1";exact(cI rfl rfl T0.IV (by decide));wtm_at "200oGAw78";exact T1.k7;wtm_at "601h20oNAw78";exact T1.iA;wtm_at "601s20o9RfjIGAw78Ù601x131";exact(cI rfl rfl T0.pY (by decide));wtm_at "2000oNAw78Ù601K131x2000o9Rf9F78Ù601(131";exact(cI rfl rfl T0.nF (by decide));wtm_at "2000O78";exact T1.kS;wtm_at "601|20"
theorem mq:dS ["word"] "is_number_text" cX 1 ck:=by
 wtm_at "mnjIGA}3t0u142000";exact(cI rfl rfl T0.rn (by decide));wtm_at "acNAw[0]1æ0BppH4oCDçzE0L4";exact(cI rfl rfl T0.Eh (by decide));wtm_at "acii2000o9Rf9";refine GX ?_ ?_;wtm_at "L45acOLe43d5ac"
theorem Ab:dS ["words","at"] "word_at" kP 2 iI:=by
 wtm_at "mnjkbt0u142000ac9e4bdf95"
theorem AN:dS ["words","at","word"] "name_at" kJ 3 eh:=by
 wtm_at "mnM";exact rB.nd;wtm_at "78:60141b200jAw78è601h20o)8*!006bf9h"
theorem wS:dS ["words","at","word"] "number_at" gD 3 cP:=by
 wtm_at "mnM";exact mM.nd;wtm_at "78:60141b200jAw78é601h20o)8*!006bf9%0Z1h2000"
theorem tQ:dS ["words","at","word","size","sign"] "read_plain" fM 5 fo:=by
 wtm_at "mnMÚ78:60141b200jkh5ac9q1q1h201gb3200fjkhq1515200ac9q1q1h178";exact T1.iV;wtm_at "60141gb32002001gb3200fUÚ78";exact T1.iV;wtm_at "60141b200;Ú78:60141gb3200j";refine I8 (neg:=true) (ok:=T0.CQ) ?_ ?_ ?_ ?_ ?_;wtm_at "00xia)8*!006gb3f9q1q1";refine J4 (ok:=T0.CQ) ?_ ?_ ?_ ?_ ?_;wtm_at "00xdi1s178";exact T1.gy;wtm_at "60141gb320020001gb3200"
theorem zj:dS ["words","at","within","word","wish","behind"] "read_one" jr 6 gp:=by
 wtm_at "mnU";exact jV.nd;wtm_at "78:60141b200jksq1515200ac978";exact T1.fK;wtm_at "60141b200fjkh";exact(cI rfl rfl T0.tR (by decide));wtm_at "ac)8*!006bfjks5ac$i78";exact T1.fT;wtm_at "60141gb31gh32000ê9q1q151x2001K200f$i78Ê60141gb31gh31ë20000êjk78:60141K2005ac)8*!006Kf9q1x1gK3200"
theorem sy:dS ["words","at","within","joins","wish","behind","wishes"] "read_joined" er 7 da:=by
 wtm_at "mnjkt0u1s20003ac978";exact T1.fT;wtm_at "60141b1h2000f$i78Ê60141b1h1<s,30~20000ìË";exact gj.nd;wtm_at "À1x20";refine Bz ?_ ?_ ?_ ?_;wtm_at "{k78:60141K200es3dac$i78Ê60141gK31h1<s,30~20000ì=Ì(1x20fjkt0u1(20003ac9q1x1K200f9q1q1es3d1-0Q1(20002001K200"
theorem wz:dS ["text","words","wish","behind"] "read_wish" gz 4 cr:=by
 wtm_at "mnjAwS40y0/To)8*!0063fY";exact jt.nd;wtm_at ">41520$i78Ê601b13131ë20000";exact(mL 2 3 rfl jt.nd);wtm_at "jIGkst0u1b2000acNAw78";exact T1.iA;wtm_at "601h20o)8*!006sf9h"
theorem wn:dS ["text"] "read_list" gE 1 gU:=by
 wtm_at "mnjk4";exact(cI rfl rfl T0.x9 (by decide));wtm_at "ac9r2f9>41520"
theorem vM:dS ["word"] "number_in" gw 1 gS:=by
 wtm_at "mnjI`w78é601420oÈw78Ç601%0Z14200020o9%0Z142000f9J"
theorem AE:dS ["text","name","sign","number"] "size_in" k6 4 kT:=by
 wtm_at "mn$iÛ41520";exact(sP 1 2 3 rfl rE.nd);wtm_at "9q1b178";exact T1.eF;wtm_at "601s20200"
theorem zM:dS ["text"] "wish_in" kR 1 d9:=by
 wtm_at "mní000";exact rU.nd;wtm_at "0";exact trivial;wtm_at "0!îÜ978";exact T1.eR;wtm_at "601420Ý9Jf"
theorem xZ:dS ["text","head","bar","wish","words","marks","sizes","many","least","weight","till","offer"] "offer_in" jl 12 gf:=by
 wtm_at "mn$iÛ41520";exact(sP 1 2 3 rfl gP.nd);wtm_at ";Í>b1520jkt0u1x20003ac9JfÅÍ-0Q178";exact T1.eE;wtm_at "601ex3d202000ËÍ-0Q1Ö0BppH7P";exact T1.eE;wtm_at "601ex3d20oCDØzE07P";exact T1.lc;wtm_at "601420ii2000ïi";refine cM (N':=["word"]) ?_ ?_;wtm_at "0BppH<x,30~oCD";exact(bh 0 (show SY (["word"]:List Str)from by decide +kernel));wtm_at "zE07P";exact T1.eF;wtm_at "601420ii";exact(xJ 7 8 9 10 rfl gP.nd);refine sg (i:=11) ?_ ?_ ?_;wtm_at "Íq1ex3d1q1ex3d1ex3d1K1(20000178";exact T1.ko;wtm_at "601s201|1Á1Î1Þ20000000jw78";exact T1.iZ;wtm_at "601Ï20o9Ïf9J"
theorem tJ:dS ["text","offer"] "read_offer" fk 2 i5:=by
 wtm_at "mnjAwS40y0/To)8*!0063fY";exact ly.nd;wtm_at "78";exact T1.jh;wtm_at "601420jkbJac)8*!0063f9b"
theorem Gk:dS ["_law_script","_law_k"] "_law_cell" qe 2 mh:=by
 wtm_at "mnjkbt0u142000ac9e4bdf93"
theorem C6:dS ["_law_cell_here","_law_k","_law_number_here"] "_law_mixed" mQ 3 m9:=by
 wtm_at "mnM";exact uk.nd;wtm_at "gggg4g3b3339gghggh333"
theorem Ei:dS ["_law_cell_here","_law_k","_law_number_here"] "_law_twice" mD 3 mU:=by
 wtm_at "mnM";exact ut.nd;wtm_at "gggg78";exact T1.nr;wtm_at "60141b200g3b3339gghggh333"
theorem Hz:dS ["_law_script","_law_k","_law_cell_here"] "_law_well" qh 3 mI:=by
 wtm_at "mnM";exact xH.nd;wtm_at "78";exact T1.qE;wtm_at "60141b2009À1er131h200%0Z1Lhg33ac2000d131ghb2000"
theorem Gs:dS ["_law_well_here","_law_most","_law_number_here"] "_law_draw" qx 3 mE:=by
 wtm_at "mnjke43d3acM";exact zr.nd;wtm_at "ge43dbÐge43db439hfÐge43d3439g78";exact T1.nA;wtm_at "601e43d1e43d200b"
theorem Fe:dS ["_law_well_here","_law_words","_law_most","_law_left","_law_found","_law_k"] "_law_some" qk 6 mY:=by
 wtm_at "mnU";exact nq.nd;refine GG ?_ ?_ ?_ ?_;wtm_at "0";exact T0.F9;wtm_at "1b200;";exact nq.nd;wtm_at "À2Ä0{+0&178v60141gh320020";exact(bh 5 nq.nd);wtm_at "i=Ìx1";refine Cd ?_ ?_;wtm_at "s178v60141t0u1s20002002020f9-0Q1";refine yv ?_ ?_ ?_ ?_ ?_;wtm_at "0ß1x20002000"
theorem zB:dS ["_law_well_here"] "_law_number" k8 1 iu:=by
 wtm_at "mn9er178v601413200178v6014132001gg3378v6014132002000gg78v60141320033d"
theorem FR:dS ["_law_well_here","_law_letters","_law_word_here"] "_law_free" qB 3 mj:=by
 wtm_at "mnY";exact sN.nd;wtm_at "5M";exact sN.nd;wtm_at ".51";refine cM (N':=["_law_k","_law_letters","_law_well_here"]) ?_ ?_;wtm_at "0Bpp+0&1g37Pv60141320020oCD";exact(bh 0 (show SY (["_law_k","_law_letters","_law_well_here"]:List Str)from by decide +kernel));wtm_at "zE0eb7Pv601h13200dii20jkhq1515151515152000000ac9gh5f9h"
theorem vp:dS ["_law_well_here","_law_some_here"] "_law_any_word" g8 2 eH:=by
 wtm_at "mnjk78v6014132003ac978";exact T1.m8;wtm_at "601420f9eb78v60141t0u1b2000200d"
theorem FM:dS ["_law_well_here","_law_name","_law_kind","_law_some_here","_law_marks","_law_sizes"] "_law_card" qm 6 m6:=by
 wtm_at "mnYÂ78Æ60141r1515151515200000200MÂ78Æ60141r1515152000200UÂr1r15151515151520000001r1515151520000200jk78v6014132003ac";refine mi (N':=["_law_turn","_law_well_here"]) ?_ ?_ ?_ ?_ ?_ ?_ ?_;wtm_at "0Bpp+0&1320oCD";exact(bh 0 (show SY (["_law_turn","_law_well_here"]:List Str)from by decide +kernel));wtm_at "zE0ð00ß0";exact T0.Kq;wtm_at "1g";refine cM (N':=["_law_k","_law_well_here"]) ?_ ?_;wtm_at "0Bpp+0&1320oCD";exact(bh 0 (show SY (["_law_k","_law_well_here"]:List Str)from by decide +kernel));wtm_at "zE07P";exact T1.m8;wtm_at "601b20iir152020iiÂ000ff;Â78";exact T1.ma;wtm_at "60141es3d1Ñ0Ò131t0u1es3d2000200002000ÅÂ-0Q1";refine cM (N':=["_law_word_here","_law_well_here"]) ?_ ?_;wtm_at "0BppH7P";exact T1.ma;wtm_at "60141es3d1Ñ0Ò131t0u1es3d2000200002000oCD";exact(bh 0 (show SY (["_law_word_here","_law_well_here"]:List Str)from by decide +kernel));wtm_at "zE0q1417Pñ601b20200ii20009q1b1h1x1K20000"
theorem GN:dS ["_law_well_here","_law_way"] "_law_leaf" qu 2 nW:=by
 wtm_at "mnY";exact xD.nd;wtm_at "78v601413200jkb3ac9q1520fjkb3ac9q15178Æ60141r1515151520000200200fjkb3ac9q1er1515200gb3d178Æ60141r1515151520000200178ñ6014202000f9q15178Æ60141r1515151515152000000200200"
theorem FZ:dS ["_law_well_here","_law_deep","_law_room","_law_way","_law_many"] "_law_wish" qa 5 ja:=by
 wtm_at "mnÐgeh3d3h3U";exact qV.nd;wtm_at "78v601413200jIGkb3acGks3acNkeh3d3ac978";exact T1.qt;wtm_at "601420fjks3ac9q15178à60141gb31h2000200f;";exact qV.nd;wtm_at "g378v60141er1313200g78v6014132003d2009q1er1515200gs3d1-0Q1";refine cM (N':=["_law_k","_law_well_here","_law_room","_law_deep"]) ?_ ?_;wtm_at "0Bpp+0&1x20oCD";exact(bh 0 (show SY (["_law_k","_law_well_here","_law_room","_law_deep"]:List Str)from by decide +kernel));wtm_at "zE07Pà601b1gs31h2000ii2000200"
theorem pR:dS ["_law_well_here","_law_many","_law_least","_law_weight","_law_till","_law_card_here","_law_wish_here"] "_law_great_offer" dO 7 cQ:=by
 wtm_at "mnYÃer1g378v6014132001g378v60141g332001g33200078v601413200dMÃer131g378v60141b2001b200078v601413200dUÃer1313178v601413200200078v601413200d;Ãer131g33178v60141gg333200178v6014132002000078v601413200dÅÃ78";exact T1.pZ;wtm_at "601420ËÃ78à60141g378v6014132001À132020009q1er151515200078v601413200d1K1(1b1h1s1x20000000"
theorem Bh:dS ["_law_wish_here","_law_kinds","_law_text"] "_law_closed" kD 3 ou:=by
 wtm_at "mnM";exact sI.nd;wtm_at "78ò601420jke43dbac9gg5h5f9h"
theorem sZ:dS ["_law_wish_here","_law_word_here"] "_law_wish_text" fv 2 bL:=by
 wtm_at "mnY";exact lG.nd;wtm_at "e43djkbq1515200ac9gge43der1515200%0Z1Lb5ac2000dá0/1e43d2000fjkb5ac9g578â601e43d1q1515200200fjkb5ac9.51ó0BppHe43doCDãzE07Pâ60141q1515200200ii20fjkb5ac9.51ó0BppHe43doCDãzE07Pâ60141q1520200ii20f9.51420"
theorem Ay:dS ["_law_words"] "_law_listed" kq 1 iX:=by
 wtm_at "mn9er1.5142015200%0Z1L4r2ac2000d"
theorem sB:dS ["_law_offer","_law_side","_law_card_here","_law_wish_here","_law_many","_law_least","_law_weight","_law_till","_law_words"] "_law_offer_text" ez 9 c9:=by
 wtm_at "mn$i4";exact(zp 1 2 3 4 5 6 7 rfl gk.nd);wtm_at "ôõÀ1b1eh3d1eh3d178ö601";refine DQ ?_ ?_ ?_ ?_ ?_;wtm_at "0";exact T0.F9;wtm_at "1eh3d20002020000=ÌÁ178ö601ä0BppHeh3doCDåzE0gg45á0/1b2000ii2020ôõ";refine E6 ?_ ?_;wtm_at "Á";refine cM (N':=["_law_number_here"]) ?_ ?_;wtm_at "0BppHr1x1K1(1|20000oCD";exact(bh 0 (show SY (["_law_number_here"]:List Str)from by decide +kernel));wtm_at "zE0á0/142000ii9gg.51Á20578ò601s20"
theorem zH:dS ["_law_well_here","_law_text","_law_some_here","_law_words","_law_at","_law_way","_law_cut","_law_sign"] "_law_spoilt" km 8 iU:=by
 wtm_at "mnM#r1515151515151515151515151520000000000000M#ghr1515151515151515151520000000000M#ghr1515200M#ghr1515151515151515151515152000000000000M#ghr1515151515151515151520000000000M#ghr1515200U#";refine AH ?_ ?_;wtm_at "b1520;#78v60141er1Ñ0Ò1t0u1s200013200001Ñ0Ò1t0u1s200013200001t0u1s2000200078v601413200d200Å#78v601413200jkK3acÐeh78v60141t0u1h2000200dsxffjkK3ac=";refine Cd ?_ ?_;wtm_at "s1x20ffjkK3ac=øs1x1esxd200ffjkK3ac=øs1x1eh78v60141t0u1h2000200d200ffjkK3acË#78v60141gt0u1b20003200";refine sg (i:=7) ?_ ?_ ?_;wtm_at "#er151515151515151520000000078v601413200d9gg<b~,(0|<b,g(%0Z1L|5ac20000~f9.51s20"
theorem tD:dS ["_law_word_here"] "_law_number_of" fI 1 fC:=by
 wtm_at "mnjIGk45acGkt0u1420003acNkù0BppH4oCDú";refine⟨?_,?_⟩;wtm_at "A}545aczE04iir2ac9JfjIGI`ke43d5acÈk45acNk%0Z142000g33ac9Jf9%0Z142000"
theorem Hl:dS ["_law_word_here"] "_law_word" qs 1 qz:=by
 wtm_at "mnjIGA}3t0u1420003acNk4r1515151515152000000ac9Jfjkù0BppH4oCDú";refine⟨?_,?_⟩;wtm_at "A}545aczE04iir2ac9Jf94"
theorem AS:dS ["_law_words"] "_law_rising" kZ 1 nY:=by
 wtm_at "mn9FLJ4acFLt0u1420003acOL4ð00ß0";exact T0.Kq;wtm_at "1420ac"
theorem G4:dS ["_law_text","_law_words","_law_marks","_law_sizes","_law_one","_law_size","_law_between","_law_number_here","_law_numbers","_law_many","_law_least","_law_weight","_law_till","_law_wish_here"] "_law_read" qD 14 ky:=by
 wtm_at "mnY?>41520jIGkt0u1b20003acGkeb3d5acNkeb3dr1515152000ac9JfM?r2U?À2jkeb3d5ac";refine mi (N':=["_law_one"]) ?_ ?_ ?_ ?_ ?_ ?_ ?_;wtm_at "0BppH>eb3d1520oCDãzE07PÓ601420ii?000ffjkeb3d5acÄ0{H>eb3d1520";exact(bh 4 jY.nd);wtm_at "i$iÛx1520";exact(sP 5 6 7 rfl jY.nd);wtm_at "=Ìs1q178Ó601K20178û601|2020020fff";refine mi (N':=["_law_word_here"]) ?_ ?_ ?_ ?_ ?_ ?_ ?_;wtm_at "0BppH<b,30,30oCD";exact(bh 0 (show SY (["_law_word_here"]:List Str)from by decide +kernel));wtm_at "zE07Pû601420ii?000jIGkJr178Ó601eb3d20178Ó601eb3d20200acNAw78ü601h20o9JfjIGAw78ü601ä0BppHsoCDåzE04ii20oNkJgä0BppHsoCDåzE0biiÁac9JfïiÁ";exact(xJ 9 10 11 12 rfl jY.nd);wtm_at "jIGA}3Îg33acGA}3ÞÎacNkÏ3ac9Jfí000?0";exact trivial;wtm_at "0!îÜ";refine sg (i:=13) ?_ ?_ ?_;wtm_at "?78";exact T1.eR;wtm_at "601.51<b,30~2020fÝ9J9q1eb3d1q1eb3d1eb3d1-0Q1h20001-0Q1s2000200001";exact(vr 13);wtm_at "1Î1Þ1Ï1";exact(vr 12);wtm_at "20000000"
theorem FA:dS ["_law_text","_law_found","e","_law_others"] "_law_told" qf 4 nu:=by
 wtm_at "mnY@q151J200";refine yD (D:=87) ?_ ?_ ?_ ?_ ?_ ?_ ?_ ?_ ?_ ?_ ?_ ?_;wtm_at "000@0";exact⟨rfl,rfl⟩;wtm_at "0";exact T0.xI;exact(RA.mpr ⟨T0.lj,(λ_ h=>Xk h R3)⟩);wtm_at "ÜY@q15178";exact T1.fj;wtm_at "601420200fÝU@r1";refine ci (cv:=(.ref 234)) (c:=(.ref 234)) ?_ ?_ ?_ ?_ ?_ ?_ ?_ ?_;wtm_at "h0y";exact(c5 (v:=.ref 234) rfl T0.Eu rfl);wtm_at "VWX";exact(RA.mpr ⟨⟨T0.bF,T0.mx⟩,(λ_ h=>Xk h R3)⟩);wtm_at "1";refine ci (cv:=(.ref 210)) (c:=(.ref 210)) ?_ ?_ ?_ ?_ ?_ ?_ ?_ ?_;wtm_at "h0y";exact(c5 (v:=.ref 210) rfl T0.D9 rfl);wtm_at "VWX";exact(RA.mpr ⟨⟨T0.bF,T0.mR⟩,(λ_ h=>Xk h R3)⟩);wtm_at "1";refine ci (cv:=(.ref 131)) (c:=(.ref 131)) ?_ ?_ ?_ ?_ ?_ ?_ ?_ ?_;wtm_at "h0y";exact(c5 (v:=.ref 131) rfl T0.BF rfl);wtm_at "VWX";exact(RA.mpr ⟨⟨T0.bF,T0.lQ⟩,(λ_ h=>Xk h R3)⟩);wtm_at "1";refine ci (cv:=(.ref 119)) (c:=(.ref 119)) ?_ ?_ ?_ ?_ ?_ ?_ ?_ ?_;wtm_at "h0y";exact(c5 (v:=.ref 119) rfl T0.Dv rfl);wtm_at "VWX";exact(RA.mpr ⟨⟨T0.bF,T0.mK⟩,(λ_ h=>Xk h R3)⟩);wtm_at "20000U@gsr1";refine ci (cv:=(.ref 150)) (c:=(.ref 150)) ?_ ?_ ?_ ?_ ?_ ?_ ?_ ?_;wtm_at "h0y";exact(c5 (v:=.ref 150) rfl T0.Dq rfl);wtm_at "VWX";exact(RA.mpr ⟨⟨T0.bF,T0.nO⟩,(λ_ h=>Xk h R3)⟩);wtm_at "1";refine ci (cv:=(.ref 198)) (c:=(.ref 198)) ?_ ?_ ?_ ?_ ?_ ?_ ?_ ?_;wtm_at "h0y";exact(c5 (v:=.ref 198) rfl T0.ME rfl);wtm_at "VWX";exact(RA.mpr ⟨⟨T0.bF,T0.qY⟩,(λ_ h=>Xk h R3)⟩);wtm_at "1";refine ci (cv:=(.ref 162)) (c:=(.ref 162)) ?_ ?_ ?_ ?_ ?_ ?_ ?_ ?_;wtm_at "h0y";exact(c5 (v:=.ref 162) rfl T0.Dk rfl);wtm_at "VWX";exact(RA.mpr ⟨⟨T0.bF,T0.nv⟩,(λ_ h=>Xk h R3)⟩);wtm_at "1";refine ci (cv:=(.ref 246)) (c:=(.ref 246)) ?_ ?_ ?_ ?_ ?_ ?_ ?_ ?_;wtm_at "h0y";exact(c5 (v:=.ref 246) rfl T0.Ga rfl);wtm_at "VWX";exact(RA.mpr ⟨⟨T0.bF,T0.pd⟩,(λ_ h=>Xk h R3)⟩);wtm_at "20000U@gsr1";refine ci (cv:=(.ref 174)) (c:=(.ref 174)) ?_ ?_ ?_ ?_ ?_ ?_ ?_ ?_;wtm_at "h0y";exact(c5 (v:=.ref 174) rfl T0.HJ rfl);wtm_at "VWX";exact(RA.mpr ⟨⟨T0.bF,T0.oC⟩,(λ_ h=>Xk h R3)⟩);wtm_at "1";refine ci (cv:=(.ref 222)) (c:=(.ref 222)) ?_ ?_ ?_ ?_ ?_ ?_ ?_ ?_;wtm_at "h0y";exact(c5 (v:=.ref 222) rfl T0.zO rfl);wtm_at "VWX";exact(RA.mpr ⟨⟨T0.bF,T0.l7⟩,(λ_ h=>Xk h R3)⟩);wtm_at "1";refine ci (cv:=(.ref 186)) (c:=(.ref 186)) ?_ ?_ ?_ ?_ ?_ ?_ ?_ ?_;wtm_at "h0y";exact(c5 (v:=.ref 186) rfl T0.D1 rfl);wtm_at "VWX";exact(RA.mpr ⟨⟨T0.bF,T0.nj⟩,(λ_ h=>Xk h R3)⟩);wtm_at "2000jI`w";refine ci (cv:=(.ref 107)) (c:=(.ref 107)) ?_ ?_ ?_ ?_ ?_ ?_ ?_ ?_;wtm_at "h0y";exact(c5 (v:=.ref 107) rfl T0.yr rfl);wtm_at "VW";exact(RA.mpr ⟨⟨T0.bF,T0.oK⟩,(λ_ h=>Xk h R3)⟩);wtm_at "Xo`w";refine ci (cv:=(.ty "ValueError")) (c:=(.type "ValueError")) ?_ ?_ ?_ ?_ ?_ ?_ ?_ ?_;wtm_at "h0y";exact(B4 (v:=.ty "ValueError") rfl T0.vj (by decide +kernel) rfl);wtm_at "VW";exact(RA.mpr ⟨⟨T0.bF,T0.jP⟩,(λ_ h=>Xk h R3)⟩);wtm_at "Xo`kRsaýÈk";refine IJ ?_ ?_;wtm_at "h";exact(RA.mpr ⟨⟨T0.bF,T0.uM.xs.na⟩,(λ_ h=>Xk h R3)⟩);wtm_at "3aýY@q151J200fff9b"
theorem GT:dS ["_law_script","_law_k","_law_well_here","_law_text","_law_turn","_law_due"] "law" pE 6 ub:=by
 wtm_at "mnÄ0{+0&1320";exact(bh 1 qQ.nd);wtm_at "iMÔ78";exact T1.qc;wtm_at "60141b200UÔ78";exact T1.eB;wtm_at "60178";exact T1.dI;wtm_at "601h2020Ä0{+0&178v601h1320020";exact(bh 4 qQ.nd);wtm_at "iUÔ78";exact T1.kB;wtm_at "601h1s200fÅÔ78";exact T1.qw;wtm_at "601s20jk78";exact T1.m7;wtm_at "601s20q1er1515200%0Z1LKJac2000d1K200ac9Rfjk78";exact T1.m7;wtm_at "601er1J131r15201>s15201R15200000078v601h13200d20q151J200ac9Rff9R"
end
abbrev FB(K:Rf)(mg:Str->Option Q2)(x:Str)(st:Rv)(ps:List Str):Prop:=∃f fd,HV K x x st f fd/\mg x=Zz (.ref f)/\Binds K fd ps []
structure OB (K:Rf) (mg:Str->Option Q2):Prop where
 dE:FB K mg "is_long_word" dC ["text"]
 kY:FB K mg "is_word" kA ["thing"]
 gi:FB K mg "is_whole" jf ["thing"]
 gH:FB K mg "is_number" gG ["thing"]
 kS:FB K mg "is_time" kn ["thing"]
 qW:FB K mg "rise" vV ["words"]
 gB:FB K mg "are_marks" gK ["thing"]
 kI:FB K mg "is_size" kE ["thing"]
 gY:FB K mg "are_sizes" gF ["thing"]
 k7:FB K mg "is_card" kr ["thing"]
 gQ:FB K mg "is_one_of" gM ["thing","texts"]
 df:FB K mg "is_plain_wish" dh ["thing"]
 fH:FB K mg "are_joined" fB ["thing"]
 eL:FB K mg "things_in" gA ["thing"]
 jw:FB K mg "has_form" jk ["thing"]
 iA:FB K mg "is_wish" kl ["thing"]
 fJ:FB K mg "is_between" fh ["thing","low","high"]
 iZ:FB K mg "is_offer" jg ["thing"]
 cZ:FB K mg "is_number_text" cX ["word"]
 k4:FB K mg "word_at" kP ["words","at"]
 iV:FB K mg "name_at" kJ ["words","at"]
 gy:FB K mg "number_at" gD ["words","at"]
 fK:FB K mg "read_plain" fM ["words","at"]
 fT:FB K mg "read_one" jr ["words","at","within"]
 em:FB K mg "read_joined" er ["words","at","within","joins"]
 eR:FB K mg "read_wish" gz ["text"]
 eE:FB K mg "read_list" gE ["text"]
 eF:FB K mg "number_in" gw ["word"]
 lc:FB K mg "size_in" k6 ["text"]
 ko:FB K mg "wish_in" kR ["text"]
 jh:FB K mg "offer_in" jl ["text"]
 fj:FB K mg "read_offer" fk ["text"]
 qE:FB K mg "_law_cell" qe ["_law_script","_law_k"]
 nr:FB K mg "_law_mixed" mQ ["_law_cell_here","_law_k"]
 nA:FB K mg "_law_twice" mD ["_law_cell_here","_law_k"]
 qc:FB K mg "_law_well" qh ["_law_script","_law_k"]
 qp:FB K mg "_law_draw" qx ["_law_well_here","_law_most"]
 ma:FB K mg "_law_some" qk ["_law_well_here","_law_words","_law_most"]
 kN:FB K mg "_law_number" k8 ["_law_well_here"]
 m8:FB K mg "_law_free" qB ["_law_well_here"]
 gC:FB K mg "_law_any_word" g8 ["_law_well_here","_law_some_here"]
 pZ:FB K mg "_law_card" qm ["_law_well_here"]
 qt:FB K mg "_law_leaf" qu ["_law_well_here"]
 qi:FB K mg "_law_wish" qa ["_law_well_here","_law_deep","_law_room"]
 dI:FB K mg "_law_great_offer" dO ["_law_well_here"]
 kO:FB K mg "_law_closed" kD ["_law_wish_here","_law_kinds"]
 fG:FB K mg "_law_wish_text" fv ["_law_wish_here"]
 kF:FB K mg "_law_listed" kq ["_law_words"]
 eB:FB K mg "_law_offer_text" ez ["_law_offer"]
 kB:FB K mg "_law_spoilt" km ["_law_well_here","_law_text"]
 fq:FB K mg "_law_number_of" fI ["_law_word_here"]
 qd:FB K mg "_law_word" qs ["_law_word_here"]
 la:FB K mg "_law_rising" kZ ["_law_words"]
 qw:FB K mg "_law_read" qD ["_law_text"]
 m7:FB K mg "_law_told" qf ["_law_text"]
 Fu:FB K mg "law" pE ["_law_script"]
theorem aS{x:Str}{st:Rv}{N ps:List Str}{fi np n:Nat}{b:S}{cell:Bool}(sc:av N ps (ai st))(p:dS N x st n b)(hd:fns[fi]?=Zz ⟨np,n,b,cell⟩)(hps:np=ps.length)(hn:N.length=n){P:Rk}{w:Rz}{K:Rf}{mg:Str->Option Q2}{base:Rm}{k:Nat}(T0:Ij P w K mg)(ih:LM P w K mg base k)(F:FB K mg x st ps):dL P w K mg base fns gv (k+1) x fi:=by
 obtain⟨f,fd,F,m,bb⟩:=F;exact⟨f,fd,_,m,F.kp,bb,Hm F sc hd hps hn λ_ _ _ _ _ _ hr _ _ _ go=>p T0 ih hr go⟩
theorem aT{x:Str}{st:Rv}{ps:List Str}{i:Nat}{P:Rk}{w:Rz}{K:Rf}{mg:Str->Option Q2}{base:Rm}(F:FB K mg x st ps):dL P w K mg base fns gv 0 x i:=
 let⟨_,_,F,m,b⟩:=F
 ⟨_,_,_,m,F.kp,b,Jq⟩
theorem Fp{P:Rk}{w:Rz}{K:Rf}{mg:Str->Option Q2}{base:Rm}(T0:Ij P w K mg)(TF:OB K mg):∀k:Nat,LM P w K mg base k
 |0=>⟨aT TF.dE,aT TF.kY,aT TF.gi,aT TF.gH,aT TF.kS,aT TF.qW,aT TF.gB,aT TF.kI,aT TF.gY,aT TF.k7,aT TF.gQ,aT TF.df,aT TF.fH,aT TF.eL,aT TF.jw,aT TF.iA,aT TF.fJ,aT TF.iZ,aT TF.cZ,aT TF.k4,aT TF.iV,aT TF.gy,aT TF.fK,aT TF.fT,aT TF.em,aT TF.eR,aT TF.eE,aT TF.eF,aT TF.lc,aT TF.ko,aT TF.jh,aT TF.fj,aT TF.qE,aT TF.nr,aT TF.nA,aT TF.qc,aT TF.qp,aT TF.ma,aT TF.kN,aT TF.m8,aT TF.gC,aT TF.pZ,aT TF.qt,aT TF.qi,aT TF.dI,aT TF.kO,aT TF.fG,aT TF.kF,aT TF.eB,aT TF.kB,aT TF.fq,aT TF.qd,aT TF.la,aT TF.qw,aT TF.m7,aT TF.Fu⟩
 |k+1 =>
  have ih:=Fp T0 TF k
  ⟨aS pO pV rfl rfl rfl T0 ih TF.dE,aS zy AK rfl rfl rfl T0 ih TF.kY,aS zc xT rfl rfl rfl T0 ih TF.gi,aS wk vC rfl rfl rfl T0 ih TF.gH,aS zJ Br rfl rfl rfl T0 ih TF.kS,aS Kn Iw rfl rfl rfl T0 ih TF.qW,aS vX vn rfl rfl rfl T0 ih TF.gB,aS Bx Bb rfl rfl rfl T0 ih TF.kI,aS wu wO rfl rfl rfl T0 ih TF.gY,aS Bc Bu rfl rfl rfl T0 ih TF.k7,aS wQ vK rfl rfl rfl T0 ih TF.gQ,aS oj oV rfl rfl rfl T0 ih TF.df,aS tf tN rfl rfl rfl T0 ih TF.fH,aS wf vH rfl rfl rfl T0 ih TF.eL,aS yd yn rfl rfl rfl T0 ih TF.jw,aS lZ zC rfl rfl rfl T0 ih TF.iA,aS tH tz rfl rfl rfl T0 ih TF.fJ,aS pI yY rfl rfl rfl T0 ih TF.iZ,aS nR mq rfl rfl rfl T0 ih TF.cZ,aS Ap Ab rfl rfl rfl T0 ih TF.k4,aS rB AN rfl rfl rfl T0 ih TF.iV,aS mM wS rfl rfl rfl T0 ih TF.gy,aS lq tQ rfl rfl rfl T0 ih TF.fK,aS jV zj rfl rfl rfl T0 ih TF.fT,aS gj sy rfl rfl rfl T0 ih TF.em,aS jt wz rfl rfl rfl T0 ih TF.eR,aS wg wn rfl rfl rfl T0 ih TF.eE,aS vi vM rfl rfl rfl T0 ih TF.eF,aS rE AE rfl rfl rfl T0 ih TF.lc,aS rU zM rfl rfl rfl T0 ih TF.ko,aS gP xZ rfl rfl rfl T0 ih TF.jh,aS ly tJ rfl rfl rfl T0 ih TF.fj,aS Hb Gk rfl rfl rfl T0 ih TF.qE,aS uk C6 rfl rfl rfl T0 ih TF.nr,aS ut Ei rfl rfl rfl T0 ih TF.nA,aS xH Hz rfl rfl rfl T0 ih TF.qc,aS zr Gs rfl rfl rfl T0 ih TF.qp,aS nq Fe rfl rfl rfl T0 ih TF.ma,aS Aa zB rfl rfl rfl T0 ih TF.kN,aS sN FR rfl rfl rfl T0 ih TF.m8,aS xj vp rfl rfl rfl T0 ih TF.gC,aS ze FM rfl rfl rfl T0 ih TF.pZ,aS xD GN rfl rfl rfl T0 ih TF.qt,aS qV FZ rfl rfl rfl T0 ih TF.qi,aS jx pR rfl rfl rfl T0 ih TF.dI,aS sI Bh rfl rfl rfl T0 ih TF.kO,aS lG sZ rfl rfl rfl T0 ih TF.fG,aS AU Ay rfl rfl rfl T0 ih TF.kF,aS gk sB rfl rfl rfl T0 ih TF.eB,aS sS zH rfl rfl rfl T0 ih TF.kB,aS tK tD rfl rfl rfl T0 ih TF.fq,aS E7 Hl rfl rfl rfl T0 ih TF.qd,aS As AS rfl rfl rfl T0 ih TF.la,aS jY G4 rfl rfl rfl T0 ih TF.qw,aS yB FA rfl rfl rfl T0 ih TF.m7,aS qQ GT rfl rfl rfl T0 ih TF.Fu⟩
end My
end
section
set_option maxHeartbeats 1000000
namespace My
open PySem PySem.Spec PyProof.Rows L2 Mi
theorem Pp{α:Type}{P:List α->Prop}{us:List α}(hl:us.length=1)(h:∀x0:α,P [x0]):P us:=by
 rcases us with _|⟨x0,us⟩
 ·simp at hl
 rcases us with _|⟨y,us⟩
 ·exact h x0
 ·simp at hl
theorem Oi{α:Type}{P:List α->Prop}{us:List α}(hl:us.length=2)(h:∀x0 x1:α,P [x0,x1]):P us:=by
 rcases us with _|⟨x0,us⟩
 ·simp at hl
 rcases us with _|⟨x1,us⟩
 ·simp at hl
 rcases us with _|⟨y,us⟩
 ·exact h x0 x1
 ·simp at hl
theorem O2{α:Type}{P:List α->Prop}{us:List α}(hl:us.length=3)(h:∀x0 x1 x2:α,P [x0,x1,x2]):P us:=by
 rcases us with _|⟨x0,us⟩
 ·simp at hl
 rcases us with _|⟨x1,us⟩
 ·simp at hl
 rcases us with _|⟨x2,us⟩
 ·simp at hl
 rcases us with _|⟨y,us⟩
 ·exact h x0 x1 x2
 ·simp at hl
theorem Pu{α:Type}{P:List α->Prop}{us:List α}(hl:us.length=4)(h:∀x0 x1 x2 x3:α,P [x0,x1,x2,x3]):P us:=by
 rcases us with _|⟨x0,us⟩
 ·simp at hl
 rcases us with _|⟨x1,us⟩
 ·simp at hl
 rcases us with _|⟨x2,us⟩
 ·simp at hl
 rcases us with _|⟨x3,us⟩
 ·simp at hl
 rcases us with _|⟨y,us⟩
 ·exact h x0 x1 x2 x3
 ·simp at hl
abbrev FE(K:Rf)(x:Str)(st:Rv):Prop:=∃(f:Q8) (oc kV dc pm cd ct:Q2) (od an:Option Q8) (sl:Array (Option Q2)),nsIn K R9 x=Zz (Zz (.ref f))/\K.lookup f=Zz ⟨oc,od,.func (fnOf x x (fA st) (bR st) (ai st) .none kV dc pm an cd ct),sl⟩/\codeIn K cd x=true
theorem aR{K:Rf}{tbs:List Q8}(tT:∀P∈tbs,K.lookup P=Zz (tabObj #[])){h:Rm}{mg:Str->Option Q2}{x:Str}{st:Rv}{ps:List Str}(X:K.In h)(G:h.Ns R9 mg)(e:FE K x st)(hb:∀(kV doc pm:Q2) (an:Option Q8) (cdv ct:Q2) (us:List Q2),us.length=ps.length->TQ (fnOf x x (fA st) (bR st) (ai st) .none kV doc pm an cdv ct) ⟨us,[]⟩=pure (ps.zip us)):FB (bN tbs K) mg x st ps:=by
 obtain⟨f,oc,kV,dc,pm,cd,ct,od,an,sl,a,l,c⟩:=e;have F:=zF (st:=st) (jZ tT l (λz=>by cases z)) (Cy tT c) (Ct tT l);exact⟨_,_,F,mg_of X G a,F.binds (ps:=ps) hb⟩
theorem fe_in{K:Rf}{x:Str}{st:Rv}{f:Q8}{oc kV dc pm cd ct:Q2}{od an:Option Q8}{sl:Array (Option Q2)}(a:nsIn K R9 x=Zz (Zz (.ref f)))(l:K.lookup f=Zz ⟨oc,od,.func (fnOf x x (fA st) (bR st) (ai st) .none kV dc pm an cd ct),sl⟩)(c:codeIn K cd x=true):FE K x st:=
 ⟨_,_,_,_,_,_,_,_,_,_,a,l,c⟩
theorem cD{fd:Tb}{ps:List Str}(h:∀x0:Q2,TQ fd ⟨[x0],[]⟩=pure (UC ps [x0]))(us:List Q2)(hl:us.length=1):TQ fd ⟨us,[]⟩=pure (UC ps us):=Pp (P:=λus=>TQ fd ⟨us,[]⟩=pure (UC ps us)) hl h
theorem o8{fd:Tb}{ps:List Str}(h:∀x0 x1:Q2,TQ fd ⟨[x0,x1],[]⟩=pure (UC ps [x0,x1]))(us:List Q2)(hl:us.length=2):TQ fd ⟨us,[]⟩=pure (UC ps us):=Oi (P:=λus=>TQ fd ⟨us,[]⟩=pure (UC ps us)) hl h
theorem Jn{fd:Tb}{ps:List Str}(h:∀x0 x1 x2:Q2,TQ fd ⟨[x0,x1,x2],[]⟩=pure (UC ps [x0,x1,x2]))(us:List Q2)(hl:us.length=3):TQ fd ⟨us,[]⟩=pure (UC ps us):=O2 (P:=λus=>TQ fd ⟨us,[]⟩=pure (UC ps us)) hl h
theorem Pw{fd:Tb}{ps:List Str}(h:∀x0 x1 x2 x3:Q2,TQ fd ⟨[x0,x1,x2,x3],[]⟩=pure (UC ps [x0,x1,x2,x3]))(us:List Q2)(hl:us.length=4):TQ fd ⟨us,[]⟩=pure (UC ps us):=Pu (P:=λus=>TQ fd ⟨us,[]⟩=pure (UC ps us)) hl h
theorem all_mk{l:Ws}{w:Rz}{K:Rf}{h:Rm}{mg:Str->Option Q2}{fa:Q8}(tT:∀P∈([]:List Q8),K.lookup P=Zz (tabObj #[]))(tB:IN ([]:List Q8) K=true)(X:K.In h)(G:h.Ns R9 mg)(hfa:mg "law" = Zz (.ref fa))(h0:FE K "is_long_word" dC)(h1:FE K "is_word" kA)(h2:FE K "is_whole" jf)(h3:FE K "is_number" gG)(h4:FE K "is_time" kn)(h5:FE K "rise" vV)(h6:FE K "are_marks" gK)(h7:FE K "is_size" kE)(h8:FE K "are_sizes" gF)(h9:FE K "is_card" kr)(h10:FE K "is_one_of" gM)(h11:FE K "is_plain_wish" dh)(h12:FE K "are_joined" fB)(h13:FE K "things_in" gA)(h14:FE K "has_form" jk)(h15:FE K "is_wish" kl)(h16:FE K "is_between" fh)(h17:FE K "is_offer" jg)(h18:FE K "is_number_text" cX)(h19:FE K "word_at" kP)(h20:FE K "name_at" kJ)(h21:FE K "number_at" gD)(h22:FE K "read_plain" fM)(h23:FE K "read_one" jr)(h24:FE K "read_joined" er)(h25:FE K "read_wish" gz)(h26:FE K "read_list" gE)(h27:FE K "number_in" gw)(h28:FE K "size_in" k6)(h29:FE K "wish_in" kR)(h30:FE K "offer_in" jl)(h31:FE K "read_offer" fk)(h32:FE K "_law_cell" qe)(h33:FE K "_law_mixed" mQ)(h34:FE K "_law_twice" mD)(h35:FE K "_law_well" qh)(h36:FE K "_law_draw" qx)(h37:FE K "_law_some" qk)(h38:FE K "_law_number" k8)(h39:FE K "_law_free" qB)(h40:FE K "_law_any_word" g8)(h41:FE K "_law_card" qm)(h42:FE K "_law_leaf" qu)(h43:FE K "_law_wish" qa)(h44:FE K "_law_great_offer" dO)(h45:FE K "_law_closed" kD)(h46:FE K "_law_wish_text" fv)(h47:FE K "_law_listed" kq)(h48:FE K "_law_offer_text" ez)(h49:FE K "_law_spoilt" km)(h50:FE K "_law_number_of" fI)(h51:FE K "_law_word" qs)(h52:FE K "_law_rising" kZ)(h53:FE K "_law_read" qD)(h54:FE K "_law_told" qf)(h55:FE K "law" pE){t0:Tok}(gv0:nsIn K R9 "LETTERS" = Zz (Zz (.str "abcdefghijklmnopqrstuvwxyz" t0))){t1:Tok}(gv1:nsIn K R9 "LONGEST_WORD" = Zz (Zz (.int 8 t1))){ga2:Q8}{its2:Array Q2}{gn2:Nat}{gsl2:Array (Option Q2)}(gv2:nsIn K R9 "WISH_WORDS" = Zz (Zz (.ref ga2)))(gl2:K.lookup ga2=Zz ⟨.type "tuple",Zy,.seq its2 gn2,gsl2⟩)(gz2:its2.size<=RP)(gs2:pv [[97,110,121],[105,115],[98,121],[110,111,116],[97,110,100],[111,114]] its2.toList){t3:Tok}(gv3:nsIn K R9 "GREATEST_NUMBER" = Zz (Zz (.int 1000000000 t3))){t4:Tok}(gv4:nsIn K R9 "MOST_MARKS" = Zz (Zz (.int 6 t4))){t5:Tok}(gv5:nsIn K R9 "MOST_SIZES" = Zz (Zz (.int 6 t5))){t6:Tok}(gv6:nsIn K R9 "DEEPEST" = Zz (Zz (.int 6 t6))){t7:Tok}(gv7:nsIn K R9 "MOST_PARTS" = Zz (Zz (.int 40 t7))){t8:Tok}(gv8:nsIn K R9 "FEWEST_JOINED" = Zz (Zz (.int 2 t8))){t9:Tok}(gv9:nsIn K R9 "MOST_JOINED" = Zz (Zz (.int 6 t9))){ga10:Q8}{its10:Array Q2}{gn10:Nat}{gsl10:Array (Option Q2)}(gv10:nsIn K R9 "SIDES" = Zz (Zz (.ref ga10)))(gl10:K.lookup ga10=Zz ⟨.type "tuple",Zy,.seq its10 gn10,gsl10⟩)(gz10:its10.size<=RP)(gs10:pv [[103,105,118,101],[116,97,107,101],[98,101,97,114]] its10.toList){t11:Tok}(gv11:nsIn K R9 "GREATEST_MANY" = Zz (Zz (.int 1000000 t11))){t12:Tok}(gv12:nsIn K R9 "GREATEST_WEIGHT" = Zz (Zz (.int 1000 t12))){t13:Tok}(gv13:nsIn K R9 "FIGURES" = Zz (Zz (.str "0123456789" t13))){t14:Tok}(gv14:nsIn K R9 "MOST_FIGURES" = Zz (Zz (.int 10 t14))){t15:Tok}(gv15:nsIn K R9 "MOST_WITHIN" = Zz (Zz (.int 12 t15))){ga16:Q8}{des16:Array Wh}{gn16:Nat}{dus16:List Q2}(gv16:nsIn K R9 "SIGNS" = Zz (Zz (.ref ga16)))(gl16:K.lookup ga16=Zz ⟨.type "dict",Zy,.dict des16 gn16,#[]⟩)(gz16:(ga16==Vb)=false)(ge16:pU w [[62,61],[60,61]] dus16 des16.toList)(gx16:HW (bN ([]:List Q8) K) dus16 [(.str [108,101,97,115,116]),(.str [109,111,115,116])]){ga17:Q8}{its17:Array Q2}{gn17:Nat}{gsl17:Array (Option Q2)}(gv17:nsIn K R9 "JOINS" = Zz (Zz (.ref ga17)))(gl17:K.lookup ga17=Zz ⟨.type "tuple",Zy,.seq its17 gn17,gsl17⟩)(gz17:its17.size<=RP)(gs17:pv [[111,114],[97,110,100]] its17.toList){t18:Tok}(gv18:nsIn K R9 "NONE_TEXT" = Zz (Zz (.str "-" t18)))(z0:nsIn K R9 "ValueError" = Zz Zy)(z1:nsIn K R9 "all" = Zz Zy)(z2:nsIn K R9 "bool" = Zz Zy)(z3:nsIn K R9 "int" = Zz Zy)(z4:nsIn K R9 "isinstance" = Zz Zy)(z5:nsIn K R9 "len" = Zz Zy)(z6:nsIn K R9 "list" = Zz Zy)(z7:nsIn K R9 "min" = Zz Zy)(z8:nsIn K R9 "range" = Zz Zy)(z9:nsIn K R9 "set" = Zz Zy)(z10:nsIn K R9 "sorted" = Zz Zy)(z11:nsIn K R9 "str" = Zz Zy)(z12:nsIn K R9 "tuple" = Zz Zy)(cx0:nsIn K R9 "NoText" = Zz (Zz (.ref 107)))(cx1:nsIn K R9 "TooLate" = Zz (Zz (.ref 186)))(cx2:nsIn K R9 "NoNumber" = Zz (Zz (.ref 222)))(cx3:nsIn K R9 "NoName" = Zz (Zz (.ref 174)))(cx4:nsIn K R9 "NoLine" = Zz (Zz (.ref 246)))(cx5:nsIn K R9 "HasName" = Zz (Zz (.ref 162)))(cx6:nsIn K R9 "Full" = Zz (Zz (.ref 198)))(cx7:nsIn K R9 "BadTime" = Zz (Zz (.ref 150)))(cx8:nsIn K R9 "BadRule" = Zz (Zz (.ref 119)))(cx9:nsIn K R9 "BadOffer" = Zz (Zz (.ref 131)))(cx10:nsIn K R9 "BadMany" = Zz (Zz (.ref 210)))(cx11:nsIn K R9 "BadBook" = Zz (Zz (.ref 234)))(cx12:nsIn K R9 "MateError" = Zz (Zz (.ref 87))){qf0:Q8}{qod0 qan0:Option Q8}{qsl0:Array (Option Q2)}{qoc0 qkV0 qdc0 qpm0 qcd0 qct0:Q2}(q0a:Ea K 107=true)(q0b:keepIn K (.ref 107)=true)(q0c:findIn K (.ref 107) "__setattr__" = Zz (Zz (.builtin "object.__setattr__")))(q0d:GW K 107=true)(q0e:findIn K (.ref 107) "at" = Zz Zy)(q0f:W7 K 107=true)(q0g:findIn K (.ref 107) "__init__" = Zz (Zz (.ref qf0)))(q0h:PySem.W.typeIn K (.ref qf0)=Zz (.type "function"))(q0i:K.lookup qf0=Zz ⟨qoc0,qod0,.func (fnOf "__init__" "NoText.__init__" (fA dZ) (bR dZ) (ai dZ) .none qkV0 qdc0 qpm0 qan0 qcd0 qct0),qsl0⟩)(q0j:codeIn K qcd0 "NoText.__init__" = true)(q0k:keepIn K (.ref qf0)=true)(q1:exmOne K (.ref 107) (.ref 107)=Zz true)(q2a:findIn K (.ref 107) "__getattribute__" = Zz (Zz (.builtin "BaseException.__getattribute__")))(q2b:findIn K (.ref 107) "__getattr__" = Zz Zy)(q2c:mroIn K 107 (.type "BaseException")=Zz true)(q2d:W7 K 107=true)(q2e:findIn K (.ref 107) "__class__" = Zz (Zz (.builtin "object.__class__")))(q2f:mroIn K 107 (.type "object")=Zz true)(q3a:Wb K (.builtin "object.__class__") "__get__" = Zz (Zz (.builtin "getset_descriptor.__get__")))(q3b:PySem.W.takesIn K (.builtin "object.__class__")=Zz true)(q4:kitOne K (.ref 107) (.type "ValueError")=Zz true)(q5:kitOne K (.ref 107) (.ref 107)=Zz true)(q6:kitOne K (.ref 107) (.ref 186)=Zz false)(q7:kitOne K (.ref 107) (.ref 222)=Zz false)(q8:kitOne K (.ref 107) (.ref 174)=Zz false)(q9:kitOne K (.ref 107) (.ref 246)=Zz false)(q10:kitOne K (.ref 107) (.ref 162)=Zz false)(q11:kitOne K (.ref 107) (.ref 198)=Zz false)(q12:kitOne K (.ref 107) (.ref 150)=Zz false)(q13:kitOne K (.ref 107) (.ref 119)=Zz false)(q14:kitOne K (.ref 107) (.ref 131)=Zz false)(q15:kitOne K (.ref 107) (.ref 210)=Zz false)(q16:kitOne K (.ref 107) (.ref 234)=Zz false)(q17:exmOne K (.ref 107) (.ref 87)=Zz true): ∃fd:Tb,(∀(s:Q7) (v:Q2),Wc s fd ⟨[v],[]⟩ [("_law_script",v)])/\∀base:Rm,(bN ([]:List Q8) K).In base->base.Ns R9 mg->oo l.prog w (bN ([]:List Q8) K) mg base (ux l.prog w) 61 fa fd ["_law_script"] (Hq (bN ([]:List Q8) K) fns gv 61 55):=by
 have G0:=zF (st:=dZ) q0i q0j q0k;have H0:=G0.binds (ps:=["self","at"]) λ_ _ _ _ _ _ us hl=>Oi (us:=us) (P:=λus=>TQ _ ⟨us,[]⟩=pure (UC _ us)) hl λ_ _=>rfl
 have xi0:yP K 107 "at":=⟨q0a,q0b,⟨q0c,q0d,q0e,q0f⟩,⟨_,_,_,_,dZ,"self","at",_,_,_,_,q0g,q0h,G0,xL,rfl,H0,by decide,by decide,by decide,by decide⟩⟩
 have hN:bN [] K=K:=List.filter_eq_self.mpr λ_ _=>rfl
 have y0:yP K 107 "at":=xi0;have y1:exmOne K (.ref 107) (.ref 107)=Zz true:=q1;have y2:ri K 107:=⟨q2a,q2b,q2c,q2d,q2e,q2f⟩
 have y3:DA K:=⟨q3a,q3b⟩
 have y4:kitOne K (.ref 107) (.type "ValueError")=Zz true:=q4;have y5:kitOne K (.ref 107) (.ref 107)=Zz true:=q5;have y6:kitOne K (.ref 107) (.ref 186)=Zz false:=q6;have y7:kitOne K (.ref 107) (.ref 222)=Zz false:=q7;have y8:kitOne K (.ref 107) (.ref 174)=Zz false:=q8;have y9:kitOne K (.ref 107) (.ref 246)=Zz false:=q9;have y10:kitOne K (.ref 107) (.ref 162)=Zz false:=q10;have y11:kitOne K (.ref 107) (.ref 198)=Zz false:=q11;have y12:kitOne K (.ref 107) (.ref 150)=Zz false:=q12;have y13:kitOne K (.ref 107) (.ref 119)=Zz false:=q13;have y14:kitOne K (.ref 107) (.ref 131)=Zz false:=q14;have y15:kitOne K (.ref 107) (.ref 210)=Zz false:=q15;have y16:kitOne K (.ref 107) (.ref 234)=Zz false:=q16;have y17:exmOne K (.ref 107) (.ref 87)=Zz true:=q17;have T0:Ij l.prog w (bN ([]:List Q8) K) mg:=⟨TB X G z0,TB X G z1,TB X G z2,TB X G z3,TB X G z4,TB X G z5,TB X G z6,TB X G z7,TB X G z8,TB X G z9,TB X G z10,TB X G z11,TB X G z12,qU (mg_of X G gv0) (by decide +kernel),cB (mg_of X G gv1),nZ (mg_of X G gv2) (jZ tT gl2 (λz=>by cases z)) gz2 gs2,cB (mg_of X G gv3),cB (mg_of X G gv4),cB (mg_of X G gv5),cB (mg_of X G gv6),cB (mg_of X G gv7),cB (mg_of X G gv8),cB (mg_of X G gv9),nZ (mg_of X G gv10) (jZ tT gl10 (λz=>by cases z)) gz10 gs10,cB (mg_of X G gv11),cB (mg_of X G gv12),qU (mg_of X G gv13) (by decide +kernel),cB (mg_of X G gv14),cB (mg_of X G gv15),DB (mg_of X G gv16) (jZ tT gl16 (λz=>by cases z)) gz16 ge16 (by decide) gx16,nZ (mg_of X G gv17) (jZ tT gl17 (λz=>by cases z)) gz17 gs17,qU (mg_of X G gv18) (by decide +kernel),mg_of X G cx0,mg_of X G cx1,mg_of X G cx2,mg_of X G cx3,mg_of X G cx4,mg_of X G cx5,mg_of X G cx6,mg_of X G cx7,mg_of X G cx8,mg_of X G cx9,mg_of X G cx10,mg_of X G cx11,mg_of X G cx12,(hN.symm▸y0),(hN.symm▸y1),(hN.symm▸y2),(hN.symm▸y3),(hN.symm▸y4),(hN.symm▸y5),(hN.symm▸y6),(hN.symm▸y7),(hN.symm▸y8),(hN.symm▸y9),(hN.symm▸y10),(hN.symm▸y11),(hN.symm▸y12),(hN.symm▸y13),(hN.symm▸y14),(hN.symm▸y15),(hN.symm▸y16),(hN.symm▸y17)⟩
 have TF:OB (bN ([]:List Q8) K) mg:=⟨aR tT X G h0 λ_ _ _ _ _ _ us hl=>cD (λ_=>rfl) us hl,aR tT X G h1 λ_ _ _ _ _ _ us hl=>cD (λ_=>rfl) us hl,aR tT X G h2 λ_ _ _ _ _ _ us hl=>cD (λ_=>rfl) us hl,aR tT X G h3 λ_ _ _ _ _ _ us hl=>cD (λ_=>rfl) us hl,aR tT X G h4 λ_ _ _ _ _ _ us hl=>cD (λ_=>rfl) us hl,aR tT X G h5 λ_ _ _ _ _ _ us hl=>cD (λ_=>rfl) us hl,aR tT X G h6 λ_ _ _ _ _ _ us hl=>cD (λ_=>rfl) us hl,aR tT X G h7 λ_ _ _ _ _ _ us hl=>cD (λ_=>rfl) us hl,aR tT X G h8 λ_ _ _ _ _ _ us hl=>cD (λ_=>rfl) us hl,aR tT X G h9 λ_ _ _ _ _ _ us hl=>cD (λ_=>rfl) us hl,aR tT X G h10 λ_ _ _ _ _ _ us hl=>o8 (λ_ _=>rfl) us hl,aR tT X G h11 λ_ _ _ _ _ _ us hl=>cD (λ_=>rfl) us hl,aR tT X G h12 λ_ _ _ _ _ _ us hl=>cD (λ_=>rfl) us hl,aR tT X G h13 λ_ _ _ _ _ _ us hl=>cD (λ_=>rfl) us hl,aR tT X G h14 λ_ _ _ _ _ _ us hl=>cD (λ_=>rfl) us hl,aR tT X G h15 λ_ _ _ _ _ _ us hl=>cD (λ_=>rfl) us hl,aR tT X G h16 λ_ _ _ _ _ _ us hl=>Jn (λ_ _ _=>rfl) us hl,aR tT X G h17 λ_ _ _ _ _ _ us hl=>cD (λ_=>rfl) us hl,aR tT X G h18 λ_ _ _ _ _ _ us hl=>cD (λ_=>rfl) us hl,aR tT X G h19 λ_ _ _ _ _ _ us hl=>o8 (λ_ _=>rfl) us hl,aR tT X G h20 λ_ _ _ _ _ _ us hl=>o8 (λ_ _=>rfl) us hl,aR tT X G h21 λ_ _ _ _ _ _ us hl=>o8 (λ_ _=>rfl) us hl,aR tT X G h22 λ_ _ _ _ _ _ us hl=>o8 (λ_ _=>rfl) us hl,aR tT X G h23 λ_ _ _ _ _ _ us hl=>Jn (λ_ _ _=>rfl) us hl,aR tT X G h24 λ_ _ _ _ _ _ us hl=>Pw (λ_ _ _ _=>rfl) us hl,aR tT X G h25 λ_ _ _ _ _ _ us hl=>cD (λ_=>rfl) us hl,aR tT X G h26 λ_ _ _ _ _ _ us hl=>cD (λ_=>rfl) us hl,aR tT X G h27 λ_ _ _ _ _ _ us hl=>cD (λ_=>rfl) us hl,aR tT X G h28 λ_ _ _ _ _ _ us hl=>cD (λ_=>rfl) us hl,aR tT X G h29 λ_ _ _ _ _ _ us hl=>cD (λ_=>rfl) us hl,aR tT X G h30 λ_ _ _ _ _ _ us hl=>cD (λ_=>rfl) us hl,aR tT X G h31 λ_ _ _ _ _ _ us hl=>cD (λ_=>rfl) us hl,aR tT X G h32 λ_ _ _ _ _ _ us hl=>o8 (λ_ _=>rfl) us hl,aR tT X G h33 λ_ _ _ _ _ _ us hl=>o8 (λ_ _=>rfl) us hl,aR tT X G h34 λ_ _ _ _ _ _ us hl=>o8 (λ_ _=>rfl) us hl,aR tT X G h35 λ_ _ _ _ _ _ us hl=>o8 (λ_ _=>rfl) us hl,aR tT X G h36 λ_ _ _ _ _ _ us hl=>o8 (λ_ _=>rfl) us hl,aR tT X G h37 λ_ _ _ _ _ _ us hl=>Jn (λ_ _ _=>rfl) us hl,aR tT X G h38 λ_ _ _ _ _ _ us hl=>cD (λ_=>rfl) us hl,aR tT X G h39 λ_ _ _ _ _ _ us hl=>cD (λ_=>rfl) us hl,aR tT X G h40 λ_ _ _ _ _ _ us hl=>o8 (λ_ _=>rfl) us hl,aR tT X G h41 λ_ _ _ _ _ _ us hl=>cD (λ_=>rfl) us hl,aR tT X G h42 λ_ _ _ _ _ _ us hl=>cD (λ_=>rfl) us hl,aR tT X G h43 λ_ _ _ _ _ _ us hl=>Jn (λ_ _ _=>rfl) us hl,aR tT X G h44 λ_ _ _ _ _ _ us hl=>cD (λ_=>rfl) us hl,aR tT X G h45 λ_ _ _ _ _ _ us hl=>o8 (λ_ _=>rfl) us hl,aR tT X G h46 λ_ _ _ _ _ _ us hl=>cD (λ_=>rfl) us hl,aR tT X G h47 λ_ _ _ _ _ _ us hl=>cD (λ_=>rfl) us hl,aR tT X G h48 λ_ _ _ _ _ _ us hl=>cD (λ_=>rfl) us hl,aR tT X G h49 λ_ _ _ _ _ _ us hl=>o8 (λ_ _=>rfl) us hl,aR tT X G h50 λ_ _ _ _ _ _ us hl=>cD (λ_=>rfl) us hl,aR tT X G h51 λ_ _ _ _ _ _ us hl=>cD (λ_=>rfl) us hl,aR tT X G h52 λ_ _ _ _ _ _ us hl=>cD (λ_=>rfl) us hl,aR tT X G h53 λ_ _ _ _ _ _ us hl=>cD (λ_=>rfl) us hl,aR tT X G h54 λ_ _ _ _ _ _ us hl=>cD (λ_=>rfl) us hl,aR tT X G h55 λ_ _ _ _ _ _ us hl=>cD (λ_=>rfl) us hl⟩
 obtain⟨f55,oc55,kV55,dc55,pm55,cd55,ct55,od55,an55,sl55,a55,l55,c55⟩:=h55;have e:=hfa.symm.trans (mg_of X G a55);cases e;have F55:=zF (st:=pE) (jZ tT l55 (λz=>by cases z)) (Cy tT c55) (Ct tT l55);refine⟨fnOf "law" "law" (fA pE) (bR pE) (ai pE) .none kV55 dc55 pm55 an55 cd55 ct55,λs v=>.of_eq rfl,λbase _ _=>?_⟩;refine Hm (fi:=55) (np:=1) (n:=6) (body:=ub) (cell:=false) F55 qQ ?_ ?_ ?_ ?_;exact rfl;exact rfl;exact rfl;intro _ _ _ _ _ _ hr _ _ _ go;refine GT ?_ ?_ ?_ ?_;exact T0;exact Fp T0 TF 60;exact hr;exact go
theorem No{l:Ws}{q:Rk}{loose:List Str}{XP:(Str->Option Q2)->Rm->Prop}{d:DefRec}{K:Params->Rf}{as:List Q8}{n t:Nat}(hn:l.most=Zz 63)(hdf:d.params.defaults=[])(he:∀P,as=(K P).map (·.1))(T:∀(w:Rz) P,P∈([]:List Q8)->(K w.params).lookup P=Zz (tabObj #[]))(C:∀(w:Rz) P,P∈([]:List Q8)->∃c,Xd (K w.params) c P=true)(B:∀w:Rz,IN ([]:List Q8) (K w.params)=true)(F:∀(w:Rz) (mg:Str->Option Q2) (fa:Q8) (h:Rm),(K w.params).In h->h.Ns R9 mg->mg d.name=Zz (.ref fa) ->
   ∃fd:Tb,(∀(s:Q7) (u:Q2),Wc s fd ⟨[u],[]⟩ [("_law_script",u)])/\∀base:Rm,(bN ([]:List Q8) (K w.params)).In base->base.Ns R9 mg->oo l.prog w (bN ([]:List Q8) (K w.params)) mg base (ux l.prog w) 61 fa fd ["_law_script"] (Hq (bN ([]:List Q8) (K w.params)) fns gv 61 55)):
  PySem.W.WalkX q loose XP (PySem.W.X.obsZ as) (PySem.W.X.valZ K n t) l.row.toRowW d [] (λf vs=>U3 f vs):=by
 intro w s₀ s₁ mg mb G y fa o pm cd doc dV kV ho hd hcd hD hmg hg args vals as' L;exact Mi.HL (n:=63) (k:=61) (x:="_law_script") (CX:=λw=>ux l.prog w) (sp:=λw=>Hq (bN ([]:List Q8) (K w.params)) fns gv 61 55) (YP:=λw h=>(K w.params).In h) hn (by decide) hdf ⟨rfl,by decide,by decide⟩ (λ_ _ h=>h) T C B F (λ_ _ a ns hl hO hS=>law_sp hO hS (law_true ns hl)) (λ_ _ _ _ _ z=>by obtain⟨_,_,_,_,_,_,h⟩:=z;exact h) w s₀ s₁ mg mb G (PySem.W.InK.keeps w _ _ (PySem.W.X.z_facts he y).2.1 (PySem.W.Laid.keeps L)) fa o pm cd doc dV kV ho hd hcd hD hmg hg args vals as'
end My
set_option Elab.async false
namespace PySem.W.Fast
def tw2416735054592509508:=()
def tw14441975606911979221:=()
def tw2130834737636483206:=()
def tw9369795453875999082:=()
def tw5145256168659747361:=()
def tw17806272539295577138:=()
def tw17137806052003648382:=()
def tw17595682464367824927:=()
def tw12454918761609357939:=()
def tw17583607754416328762:=()
def tw16439800895734155302:=()
def tw207954323501694451:=()
def tw12872598675590406842:=()
def tw13334530796194928926:=()
def tw3963948160693938165:=()
def tw7418893251431318853:=()
def tw2613234028920667559:=()
def tw2114126145463687345:=()
def tw12547328722754442731:=()
def tw9554307874821419706:=()
def tw13280053773502893179:=()
def tw8647977168158011711:=()
def tw10614537726235297882:=()
def tw10518016757790431109:=()
def tw4511606078862559115:=()
def tw6831634862856958077:=()
def tw10447629025705288634:=()
def tw9270857285147389557:=()
def tw17059388769140598265:=()
def tw15203693725317738439:=()
def tw7835435676997952388:=()
def tw13618702677490240214:=()
def tw17448606454602372347:=()
def tw741390448856738295:=()
def tw8162753382640372559:=()
def tw8594699259024544763:=()
def tw5770294987390462437:=()
def tw15919129020674084693:=()
def tw5976896684756919496:=()
def tw10464610505909440647:=()
def tw15878429410179722475:=()
def tw17879326508370157895:=()
def tw17565498428004749740:=()
def tw8382952646253894928:=()
def tw13620587135939714324:=()
def tw436272036203608057:=()
def tw17688477501915495573:=()
def tw15784094219823066144:=()
def tw3300763534021386024:=()
def tw6768607745304601933:=()
def tw4394519238804048735:=()
def tw17873131558608115067:=()
def tw12175589528557581831:=()
def tw14571638173189841327:=()
def tw6874125269904868129:=()
def tw11538826518448670571:=()
def tw2095628045493475404:=()
def tw5153689284919336590:=()
def tw8074150587706599479:=()
def tw11714953909203414188:=()
def tw1509685642190549723:=()
def tw3931935638477918891:=()
def tw1287770896637892893:=()
def tw1359051938351446070:=()
def tw1404604012016122773:=()
def tw5400444950612911749:=()
def tw281554371361953065:=()
def tw17658344959319078032:=()
def tw14673704631663724923:=()
def tw7070709474509325792:=()
def tw15268536923035070623:=()
def tw280683735979405767:=()
def tw11092434613891779274:=()
def tw11733242913296051972:=()
def tw10949124937035353703:=()
def tw15602498628368225603:=()
def tw10271411701875455906:=()
def tw15350002743872767965:=()
def tw16832237147650175610:=()
def tw5929985088093006291:=()
def tw15645468021526196435:=()
def tw15723186401383588867:=()
def tw4917601030889632864:=()
def tw2073478176220943913:=()
def tw6031183884087013674:=()
def tw16795499658660069028:=()
def tw2489940419462284085:=()
def tw10829062664730379525:=()
def tw190897720655357476:=()
def tw7813903691680528920:=()
def tw1794130037397763923:=()
def tw10489848013958072117:=()
def tw12913452127952258344:=()
def tw10999295321369827106:=()
def tw9213638316523678119:=()
def tw16727393044429623875:=()
def tw16170533031115643014:=()
def tw13996932925858558752:=()
def tw7632923947868718164:=()
def tw9133713702545588605:=()
def tw1342916431061708796:=()
def tw4378712865707387276:=()
def tw17141207380240331127:=()
def tw17249350533907143044:=()
def tw2459508368324877932:=()
def tw18047912775717916053:=()
def tw17402035927995985105:=()
def tw16796518861512699864:=()
def tw1487097857505119226:=()
def tw11097462462364469259:=()
def tw12314376051322797739:=()
def tw18220825469009541787:=()
def tw18353919178647957278:=()
def tw1971473856473908689:=()
def tw1526217975077051832:=()
def tw5490772528655435389:=()
def tw14782393572172953497:=()
def tw11133337393626733974:=()
def tw1774450032567672015:=()
def tw2218610488235091788:=()
def tw4410813643655095267:=()
def tw3157772723899742136:=()
def tw16266165689492326041:=()
def tw11805544029326045134:=()
def tw4221820740051781311:=()
def tw1120266086256493258:=()
def tw7243716299626215648:=()
def tw8078399163515564467:=()
def tw12820927269878026734:=()
def tw5547495905146522157:=()
def tw14554684522346093443:=()
def tw12923334458317301129:=()
def tw11171792554047089561:=()
def tw7441612791052656258:=()
def tw14560092118092859748:=()
def tw11683697541686038691:=()
def tw32301333553623066:=()
def tw17105330284046987463:=()
def tw14012869735693364439:=()
def tw4448093150090574104:=()
def tw7516731264452802498:=()
def tw10572764475307037258:=()
def tw12548095410754181677:=()
def tw1029241255367296646:=()
def tw1616986057511629189:=()
def tw14442956157706420856:=()
def tw12950842248693494917:=()
def tw6465366619404024862:=()
def tw3925722813833464462:=()
def tw6199487973180420289:=()
def tw9072586839201309603:=()
def tw9936928846907872671:=()
def tw16508320933749004876:=()
def tw16359463569325006126:=()
def tw13917140577115729185:=()
def tw8649804627710492038:=()
def tw3739834306054578971:=()
def tw2876115164806173403:=()
def tw18160549318711764041:=()
def tw13882702859166907186:=()
def tw8033892130054614438:=()
def tw2166385314733660342:=()
def tw1930877451857020951:=()
def tw13499591521016931070:=()
def tw3793840351030302679:=()
def tw12356062812980213056:=()
def tw7066077089209792302:=()
def tw1705581345105445136:=()
def tw12843679607698186319:=()
def tw11741920117260221570:=()
def tw9129093732022825839:=()
def tw12613267950009887702:=()
def tw15351564915567927522:=()
def tw14487059044234135416:=()
def tw14316948778894852705:=()
def tw17460349793484052352:=()
def tw5711999039043281087:=()
def tw2243779737743599785:=()
def tw5463381429010821295:=()
def tw9438501284165189421:=()
def tw9380414864257169000:=()
def tw4193563170367843825:=()
def tw16818270933259408613:=()
def tw18113974404335099070:=()
def tw18393275146832911914:=()
def tw17927215262034129119:=()
def tw3547980403076884692:=()
def tw17158720499240599265:=()
def tw1846563956298273940:=()
def tw11110233087105192682:=()
def tw853482367685785504:=()
def tw6306768877687671411:=()
def tw4603818628811650011:=()
def tw9170464253083923341:=()
def tw13830612576230159594:=()
def tw15877112474708029208:=()
def tw12151713890295088712:=()
def tw13301511939686514455:=()
def tw15851557341089671846:=()
def tw11368544775111309721:=()
def tw4712792940067713985:=()
def tw9643341415114837928:=()
def tw2525980058808714022:=()
def tw15694159632227617753:=()
def tw7868060867290421719:=()
def tw9173134691312130546:=()
def tw7789590755850110368:=()
def tw2167381067405557432:=()
def tw2288208232192235542:=()
def tw13609273906622520835:=()
def tw11373965415120272305:=()
def tw6269253992215161654:=()
def tw12514786551815545819:=()
def tw15515980727498292158:=()
def tw9403706687855946275:=()
def tw16597899499456732791:=()
def tw2357767628062333077:=()
def tw1470507464553328892:=()
def tw11372149794837429869:=()
def tw10566730830945105329:=()
def tw7545503700907768313:=()
def tw13265664050597319176:=()
def tw8885306159801682599:=()
def tw8653474711399275528:=()
def tw1915262568076433955:=()
def tw3565796509790249227:=()
def tw8533826614293741713:=()
def tw4865645915846782916:=()
def tw8176164165812470484:=()
def tw8739985027814651674:=()
def tw2598175514130829479:=()
def tw2892094374758719043:=()
def tw4027313179346329494:=()
def tw16717166314922459369:=()
def tw692400053316462578:=()
def tw5463867151615384969:=()
def tw12387586360444084169:=()
def tw8492199979324925585:=()
def tw8479212509891456722:=()
def tw4237098741163206432:=()
def tw12136797878877407180:=()
def tw13470368368922581578:=()
def tw1759183650612616229:=()
def tw13685773455411028895:=()
def tw18077271629229149652:=()
def tw3579591452936161799:=()
def tw9308097915876460303:=()
def tw9358954545948638919:=()
def tw10043147519615835361:=()
def tw16964916587058166792:=()
def tw14449591166184511658:=()
def tw15766522111465779630:=()
def tw5664682216889400415:=()
def tw8962914424450880198:=()
def tw7562289657387708354:=()
def tw5095497967976102878:=()
def tw3126742266121050164:=()
def tw10269938246128889444:=()
def tw3605274484137869180:=()
def tw178290628302571664:=()
def tw4609777910493490161:=()
def tw16625551283504880849:=()
def tw13784327037611948088:=()
def tw12092385577156274514:=()
def tw6593341447090620527:=()
def tw8464119461684239103:=()
def tw6239131439425969685:=()
def tw3546321898761313007:=()
def tw5099444180475919898:=()
def tw8441758324317807632:=()
def tw8530042029917530381:=()
def tw4586653218974313863:=()
def tw2339749435952067989:=()
def tw4097373571136481038:=()
def tw12454122960567119417:=()
def tw11114242613883638023:=()
def tw99665034105106349:=()
def tw9012278924435069875:=()
def tw10210439972310181721:=()
def tw6382862806501959846:=()
def tw4434356237756184385:=()
def tw10022860884628973708:=()
def tw13397788185422914879:=()
def tw17224863248455050111:=()
def tw8819309604562656441:=()
def tw18082724232326449033:=()
def tw17681999600512622014:=()
def tw341027567897272060:=()
def tw17454828561594946270:=()
def tw7054237950820779301:=()
def tw15675029599477424150:=()
def tw6804829940068973037:=()
def tw11776095995999001787:=()
def tw7534012597577585935:=()
def tw17165243174424206852:=()
def tw14825838850981842163:=()
def tw2126198805425861090:=()
def tw9032601172863810323:=()
def tw12133736213638370549:=()
def tw15533565329340560692:=()
def tw3151706689163029650:=()
def tw1559076703599549342:=()
def tw11018030769516227299:=()
def tw17667261291212643810:=()
def tw6251366693722930885:=()
def tw15808141589028322454:=()
def tw5899454483902150252:=()
def tw3233025387540606317:=()
def tw4550335258262093242:=()
def tw16700075727210817595:=()
def tw5889531949603010333:=()
def tw17529706923749236727:=()
def tw2285559942779154592:=()
def tw1451255604387304181:=()
def tw2318243354458283089:=()
def tw14266486404838095050:=()
def tw9558386056727228497:=()
def tw11074365916946199656:=()
def tw1317802733814850641:=()
def tw10747688377157657143:=()
def tw11339433521279302672:=()
def tw12135150567880535338:=()
def tw14096120243622894650:=()
def tw11296075274525720478:=()
def tw12736509352844347376:=()
def tw7871627842453182913:=()
def tw1258962545272418140:=()
def tw10598997422251467340:=()
def tw9905198978042352870:=()
def tw5910523792671198247:=()
def tw17327627898176097969:=()
def tw5057327430801618105:=()
def tw3588725779954816491:=()
def tw565276631282053722:=()
def tw4054563667438342000:=()
def tw12414857987350288336:=()
def tw15637684675822923896:=()
def tw17743365154676761937:=()
def tw5096692596745185871:=()
def tw5341312909036044530:=()
def tw15101789398160607037:=()
def tw7438401642337231865:=()
def tw12584308871362915585:=()
def tw14780889384395946612:=()
def tw622251764629567478:=()
def tw7611613418903802285:=()
def tw9535662875342135956:=()
def tw4664681356396359631:=()
def tw1118717301446921148:=()
def tw4935772309550811119:=()
def tw18400419796661063371:=()
def tw13417883806006241932:=()
def tw10366015667873686246:=()
def tw8538823333525764817:=()
def tw12604004997336013194:=()
def tw16896606139235206226:=()
def tw6740982691038111518:=()
def tw8893248534795176779:=()
def tw18377042988178109103:=()
def tw268527588944403294:=()
def tw5222063730455131296:=()
def tw4386571761097694234:=()
def tw13800257506611342474:=()
def tw18247604238077777611:=()
def tw17305151162459309813:=()
def tw4304761426366096954:=()
def tw15797349178915476126:=()
def tw10054192772151479668:=()
def tw16040060336327131929:=()
def tw15524280877499889485:=()
def tw8390922971695967572:=()
def tw4896959176300850515:=()
def tw18410681625829245303:=()
def tw4692885427915862573:=()
def tw6510567520766808323:=()
end PySem.W.Fast
noncomputable def PySem.W.Fast.tw17849101319081269068:PySem.Program:=PySem.Challenge.pw_matepoint_k72_no_offer_text
theorem PySem.W.Fast.te17849101319081269068:PySem.Challenge.pw_matepoint_k72_no_offer_text=PySem.W.Fast.tw17849101319081269068:=rfl
open PySem PySem.W PyProof.Rows
set_option maxRecDepth 100000 in
set_option maxHeartbeats 0 in
theorem PySem.Challenge.cw_matepoint_k72_no_offer_text_holds : PySem.Challenge.rw_matepoint_k72_no_offer_text.Holds := by
 w_on;o_law;z_head;(case hw=>w_witness2)
 k_fill
 refine My.No (l:=PySem.Challenge.rw_matepoint_k72_no_offer_text) rfl rfl (λ_=>rfl) ?T ?C ?B ?F
 case T=>exact λw=>(λ_ h=>Xk h R3)
 case C=>exact λw=>(λ_ h=>Xk h R3)
 case B=>exact λw=>by kernel_rfl
 case F =>
  intro w mg fa h KX G hmg
  refine' My.all_mk ?tT ?tB KX G hmg ?h0 ?h1 ?h2 ?h3 ?h4 ?h5 ?h6 ?h7 ?h8 ?h9 ?h10 ?h11 ?h12 ?h13 ?h14 ?h15 ?h16 ?h17 ?h18 ?h19 ?h20 ?h21 ?h22 ?h23 ?h24 ?h25 ?h26 ?h27 ?h28 ?h29 ?h30 ?h31 ?h32 ?h33 ?h34 ?h35 ?h36 ?h37 ?h38 ?h39 ?h40 ?h41 ?h42 ?h43 ?h44 ?h45 ?h46 ?h47 ?h48 ?h49 ?h50 ?h51 ?h52 ?h53 ?h54 ?h55 ?gv0 ?gv1 ?gv2 ?gl2 ?gz2 ?gs2 ?gv3 ?gv4 ?gv5 ?gv6 ?gv7 ?gv8 ?gv9 ?gv10 ?gl10 ?gz10 ?gs10 ?gv11 ?gv12 ?gv13 ?gv14 ?gv15 ?gv16 ?gl16 ?gz16 ?ge16 ?gx16 ?gv17 ?gl17 ?gz17 ?gs17 ?gv18 ?z0 ?z1 ?z2 ?z3 ?z4 ?z5 ?z6 ?z7 ?z8 ?z9 ?z10 ?z11 ?z12 ?cx0 ?cx1 ?cx2 ?cx3 ?cx4 ?cx5 ?cx6 ?cx7 ?cx8 ?cx9 ?cx10 ?cx11 ?cx12 ?q0a ?q0b ?q0c ?q0d ?q0e ?q0f ?q0g ?q0h ?q0i ?q0j ?q0k ?q1 ?q2a ?q2b ?q2c ?q2d ?q2e ?q2f ?q3a ?q3b ?q4 ?q5 ?q6 ?q7 ?q8 ?q9 ?q10 ?q11 ?q12 ?q13 ?q14 ?q15 ?q16 ?q17
  (case h0|h1|h2|h3|h4|h5|h6|h7|h8|h9|h10|h11|h12|h13|h14|h15|h16|h17|h18|h19|h20|h21|h22|h23|h24|h25|h26|h27|h28|h29|h30|h31|h32|h33|h34|h35|h36|h37|h38|h39|h40|h41|h42|h43|h44|h45|h46|h47|h48|h49|h50|h51|h52|h53|h54|h55=>refine' My.fe_in ?a ?l ?c;(case a=>k_is);(case l=>k_is);(case c=>k_is))
  (case tT=>exact(λ_ h=>Xk h R3))
  (case tB=>kernel_rfl)
  (case gv0|gv1|gv2|gl2=>k_is)
  (case gz2=>decide)
  (case gs2=>exact(.cons (by decide +kernel) (.cons (by decide +kernel) (.cons (by decide +kernel) (.cons (by decide +kernel) (.cons (by decide +kernel) (.cons (by decide +kernel) .nil)))))))
  (case gv3|gv4|gv5|gv6|gv7|gv8|gv9|gv10|gl10=>k_is)
  (case gz10=>decide)
  (case gs10=>exact(.cons (by decide +kernel) (.cons (by decide +kernel) (.cons (by decide +kernel) .nil))))
  (case gv11|gv12|gv13|gv14|gv15|gv16|gl16=>k_is)
  (case gz16=>decide)
  (case ge16=>exact(Mi.pU.cons (by decide +kernel) (by with_unfolding_all rfl) (Mi.pU.cons (by decide +kernel) (by with_unfolding_all rfl) Mi.pU.nil)))
  (case gx16=>exact(Mi.HW.cons (Mi.Gq (by decide +kernel)) (Mi.HW.cons (Mi.Gq (by decide +kernel)) Mi.HW.nil)))
  (case gv17|gl17=>k_is)
  (case gz17=>decide)
  (case gs17=>exact(.cons (by decide +kernel) (.cons (by decide +kernel) .nil)))
  (case gv18|z0|z1|z2|z3|z4|z5|z6|z7|z8|z9|z10|z11|z12|cx0|cx1|cx2|cx3|cx4|cx5|cx6|cx7|cx8|cx9|cx10|cx11|cx12=>k_is)
  (case q0a=>kernel_rfl)
  (case q0b|q0c=>k_is)
  (case q0d=>kernel_rfl)
  (case q0e|q0f|q0g|q0h|q0i|q0j|q0k=>k_is)
  (case q1=>kts_exm)
  (case q2a|q2b|q2c|q2d|q2e|q2f|q3a|q3b=>k_is)
  (case q4|q5|q6|q7|q8|q9|q10|q11|q12|q13|q14|q15|q16=>kit_is)
  (case q17=>kts_exm)
end
