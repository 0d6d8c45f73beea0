import PyProof.Rows.All
import Wide.All
import OpenK.AllK
import Wide.FinOn
import Lean
import PyProof.EqAt
import PyProof.EqKinds
import PyProof.TupleCall
import PyProof.ToksMono
import PyProof.StrCalls6
import PyProof.StrLawsReplace
import PyProof.DictUpdate
import PySem.Challenge.RW_matepoint_k73_books_as_texts
set_option Elab.async false
set_option linter.all false
set_option maxRecDepth 100000
noncomputable section
theorem XU{c:Prop}{h:Decidable c}(hc:c){α:Sort u}{t e:α}:ite c t e=t:=if_pos hc
theorem XV{c:Prop}{h:Decidable c}(hc:¬c){α:Sort u}{t e:α}:ite c t e=e:=if_neg hc
theorem XW{p:Prop}[Decidable p](h:¬p):decide p=false:=decide_eq_false h
theorem XX{p:Prop}[Decidable p](h:p):decide p=true:=decide_eq_true h
theorem XY{α}[BEq α][LawfulBEq α]{a b:α}:(a==b)=false↔a≠b:=beq_eq_false_iff_ne
theorem XZ{a b:Prop}(h:a)(k:¬a):b:=absurd h k
theorem Xa{p:Prop}[i:Decidable p](h:decide p=true):p:=of_decide_eq_true h
open Option renaming some->Zz,none->Zy,bind_some->SX
open PySem renaming wpAny_bind->Q6,Value->Q7,wpAny_pure->Q9,Shared->R1,Addr->R3,assignEach->RJ,wpAny->RK,mainGlobals->RQ,model->RS,sizeLine->RV,Heap->Rj,Program->Rk,Expr->Rm,compareOp->Rq,Stmt->Rt,wpAny_callSpecial?_slot->Rv,World->Rx,wpAny_call_entry->S7,starEach->S8,wpAny_newObj_type->S9,wpAny_truthy_bool->SI,wpAny_field->SL,Around->SO,binaryOp->SQ,strKind->SS,wpAny_setField->SW,wpAny_setEntries_of->SY,wpAny_setState_of->Sa,wpAny_holding->Sc,call_meets->Sg,sizeLine_eq->Sh,foldedSetIterable->Sl,Paired->Sr,wpAny_mono->Sv,bootBuiltins->Sw,wpAny_seqItems->Sz,wpAny_isNot_other->T5,Env->T6,FuncData->TK,mem_of_lookup->TL,wpAny_standAt->TR,attributeBase->TV,wpAny_passesOwn->Ti,bindArgs->Tj,behindInMarks->Tr,wpAny_rule->Tt,wpAny_askSetting->Tw,wpAny_is_other->U1,wpAny_Call_Name_kw->U4,typeIs_str->U5,call->U7,wpAny_setField_rec->U8,letOwnedTupleGo->UB,SetTable->UD,codeAny_builtin->UE,codeAny->UI,NameKind->UL,wpAny_fieldsOf->UO,codeAny_mono->UR,wpAny_attempt->Ua,sysModules->Uh,builtinsNs->Ui,cellsFrom->Um,sliceBounds->Uq,pickOrder->Ur,Scope->Uu,standAt->Uw,wpAny_pyIter_list->Uy,swapsWith->V6,IsPart->V7,scanBound->V8,getItem->VD,Comprehension->VF,Operator->VH,wpAny_execs_nil->VI,codeAny_of_tree->VM,wpAny_ite_false->VO,wpAny_loadPart'->VP,wpAny_typeOf->VW,DictEntry->VZ,relayAll->Vc,wpAny_pyIter_tuple->Ve,CmpOp->Vm,holding->Vn,fits_of_scanBound->Vq,swapsWithSole->Vt,swappedStores->Vu,call_list_seq->Vx,plainId_quiet->Vy,noFill_tuple_add->W3,slotArgs->W5,wpAny_isInstance->W6,noteFrame->W7,typeIs_int->WC,valueAt->WD,subscripted->WJ,wpAny_of_eq->WK,isSubtype_type->WL,compTurn->WN,slicePicked->WO,PassesOwn->WR,BindsTo->WS,Keyword->WU,callerA->WV,limitOf->WW,seq_tuple_add->WX,wpAny_onRaise->Wb,typeLookup->Wc,concat_meets->Wf,seqIndex_neg->Wh,setAddHashed->Wl,lastMarks->Wq,compStart->Wr,seqIndex_of->Ws,keywordEach->Wt,Model->Ww,wpAny_Name->Wx,storeName->X2,Arguments->X4,seqIndex?->X5,drawOrder->X6,IsZip->X7,clausesOf->X8,setFlight->X9,strValues->XA,setNext->XB,IsPair->XD,IntMulOk->XE,backToKw->XG,entryFor->XH,setField->XI,raiseNew->XJ,ZipApart->XM,compPost->XN,Params->XS,Meets->XT
open List renaming length_map->Q8,not_mem_nil->R4,forall_mem_cons->R5,size_toArray->R7,length_append->R8,mem_cons->R9,getElem?_eq_some_iff->RA,set_cons_succ->RB,set_cons_zero->RC,length_cons->RE,replicate->RF,mem_cons_of_mem->RG,mem_map->RI,map_cons->RN,mem_append_right->RO,all_eq_true->RP,mem_cons_self->RR,getElem?_append_left->RX,getElem?_set_ne->RY,getElem?_append_right->Ra,map_map->Re,length->Rf,getElem?_eq_getElem->Rg,length_nil->Rh,getElem?_set_self->Ri,mem_singleton->Ro,mem_append->Rp,getElem?_map->Ru,Nodup->S1,range->SA,pairwise_cons->SE,length_take->SF,lookup_cons->SG,mem_append_left->SK,eq_nil_of_length_eq_zero->SM,length_set->SR,replicate_succ->SU,append_assoc->SV,flatten_cons->SZ,forIn_cons->Sd,mem_of_getElem?->Si,nil_append->Sq,drop_eq_getElem_cons->Su,sum_cons->Sx,getElem?_replicate->T4,append_nil->T9,foldl_cons->TB,all_cons->TU,isEmpty_nil->TX,zip_cons_cons->Tb,length_replicate->Td,getElem?_eq_none->Te,map_nil->Tk,length_range->To,filterMap_cons->Tu,getElem_mem->Tv,all_map->U9,find?_cons->UC,length_singleton->UG,flatMap_cons->UJ,length_eraseIdx_of_lt->UN,zip->UP,any_eq_true->UT,getElem?_eq_none_iff->UX,map->Ud,nodup_cons->Ug,zip_nil_right->Uk,pairwise_singleton->Ut,map_id'->V1,take_of_length_le->V2,zip_nil_left->V3,contains_iff_mem->V4,set_append_right->V5,cons_append->VA,flatMap_map->VB,mem_flatMap->VC,map_append->VL,take_left'->VR,getElem_of_mem->VU,mem_range->Va,foldl->Vb,drop_zero->Vf,getElem?_take->Vh,foldl_nil->Vk,any_eq_false->Vo,any_cons->Vw,length_drop->W4,take_length->WA,of_mem_zip->WF,drop_left'->WH,forIn_nil->WM
open PySem.Heap renaming get?_push_of_some->R0,get?_push_size->RH,lt_size->RM,size_push->Rz,get?_update_other->S0,get?_update_self->S4,SameBut->U3,ExtBut->Us,get?_none_of_le->VG
open Bool renaming and_eq_true->R6,false_ne_true->RL,false_eq_true->Rb,eq_false_iff->SJ,eq_iff_iff->T7,or_eq_true->TC,not_true->TW,or_false->Vv,true_and->W1,beq_comm->W2,or_true->WE
open Nat renaming le_refl->RD,lt_of_lt_of_le->RU,le_trans->RZ,ne_of_lt->Rn,lt_irrefl->SH,lt_succ_of_lt->Sm,zero_le->Sy,lt_succ_self->Tz,sub_self->UA,le_succ->UM,ne_of_gt->UQ,toDigits->UU,le_of_lt->Uv,zero_add->V0,lt_trans->VX,add_le_add->WP,not_lt->We,mul_comm->Wi,le_of_eq->Wo,mul_add->Wu,mod_lt->Wz
open And renaming intro->Rc
open Option.some renaming inj->Rr
open PySem.W renaming Frag->Rs,mg_none_of->TJ,kia_one->Uf,cellsFrom_some->WI,OpenLaw->Wk,methodObj->X1,kitx_list->X3,codeHdIn->XO
open Array renaming length_toList->Ry,getElem?_eq_some_iff->Tc,getElem?_toList->UH,toList_push->Vp,getD->X0
open PySem.NameKind renaming free->S2,cell->Vz
open PySem.Obj renaming data_mapFields->S3,isFreed_of_fields->Sb,mapSeq->U6,mapFields->UF,cls_mapFields->Uz,putSet->Vd
open PySem.Builtin.Str renaming occurrences->S5,partsBetween->Uc
open PySem.Heap.SameBut renaming update->S6
open PySem.PyData renaming eqv->SD,canLay0->U0,depth->US,eqvAll->VE,canLayAll0->Vr,depthAll->WG
open PySem.Str renaming length->SN,length->UV,ofString->Wg,join->Wn
open ForInStep renaming yield->Se
open PySem.Value renaming bool->Sf,ref->Sn,none->TY,isStrOf->Tq,str->Ul,isStrOf_shape->VS,type->WB,int->Wp
open Ne renaming symm->Sj
open PyProof.Rows renaming callWith_type1->Sk,slot_tuple_getitem->Ss,AllBare->VV,subscriptTail->WY,IntsAre->Wj,IsTup->Wv,Subscript_->Wy,StrsAre->XC
open PySem.SetTable renaming below->T3,grown->TZ
open True renaming intro->T8
open Or renaming inr->TD,inl->TQ
open PyProof.Rows.F renaming plain_set_update_loop->TM
open PySem.F renaming plainAttrs_str->TN,slot_tuple_iterator_next->Ta,entry_str_split->Tp,slot_str_split->U2,args_tuple_add_2->UY,entry_tuple_add->Uo,slot_tuple_add->Ux,slot_int_rmul->VJ,slot_zip_next->VN,args_tuple_mul_2->Vg,args_str_split_2->Vi,args_str_split_3->Vj,entry_tuple_mul->Vs,slot_tuple_mul->W9
open PySem.Builtin.Slice renaming slicePlaces->Tf,sliceAdjust->UW
open PySem.Builtin.SmallTypes renaming nextOf->Th
open PySem.Around renaming under_plainId->Tl
open Int renaming toNat_natCast->Tn,emod_lt_of_pos->Uj,emod_nonneg->VQ
open PySem.Builtin.Tuple renaming tupleExact->Ts
open False renaming elim->UK
open PySem.Builtin.List renaming listTooLong->UZ
open PySem.AutoSeq1 renaming sub_tuple_tuple->Ub,idx_int->W8
open List.cons renaming inj->Ue
open PySem.Txt renaming split->V9,splitMax->VY,partition->Wa
open Sum renaming inr->Vl,inl->WQ
open PySem.Shared renaming TypeIs->WZ
open PySem.SeqAt renaming EqAt->Wd
open PySem.pickOrder renaming go->Wm
open Eq renaming trans->XQ
open PySem.W (Frag OpenLaw cellsFrom_some codeHdIn codeIn findIn fnOf instObj keepIn kia_one kitx_list lookIn methodObj mg_none_of mg_of nsIn tabObj)
section
set_option Elab.async false
namespace L2
open PySem PySem.Spec PyProof.Rows
noncomputable abbrev Key:=Sum Int Str
noncomputable def r6:Key->Q7->Bool
 |.inl k,v=>Value.isInt k v
 |.inr x,v=>Tq x v
noncomputable def OA(w:Rx):Key->Int
 |.inl k=>hashInt k
 |.inr x=>hashStr w x
theorem bW:∀{k:Key}{v:Q7},r6 k v=true->(∃i t,k=WQ i/\v=Wp i t)∨(∃x t,k=Vl x/\v=Ul x t)
 |.inl i,v,h=>by
  obtain⟨t,e⟩:=Value.isInt_shape (k:=i) (v:=v) h;exact .inl ⟨i,t,rfl,e⟩
 |.inr x,v,h=>by
  obtain⟨t,e⟩:=VS (x:=x) (v:=v) h;exact .inr ⟨x,t,rfl,e⟩
theorem Dz(i:Int)(t:Tok):r6 (.inl i) (.int i t)=true:=by simp[r6,Value.isInt]
theorem oV(x:Str)(t:Tok):r6 (.inr x) (.str x t)=true:=by simp[r6,Tq]
theorem Lx(a b:Int):decide ((WQ a:Key)=WQ b)=(a==b):=by
 by_cases e:a=b
 ·subst e;simp
 ·have h:¬(WQ a:Key)=WQ b:=λq=>e (Sum.inl.inj q)
  rw[XW h];exact(XY.mpr e).symm
theorem Mf(a b:Str):decide ((Vl a:Key)=Vl b)=decide (a=b):=by
 by_cases e:a=b
 ·subst e;simp
 ·have h:¬(Vl a:Key)=Vl b:=λq=>e (Sum.inr.inj q)
  rw[XW h,XW e]
theorem K8(a:Int)(b:Str):decide ((WQ a:Key)=Vl b)=false:=XW (λq=>nomatch q)
theorem K4(a:Str)(b:Int):decide ((Vl a:Key)=WQ b)=false:=XW (λq=>nomatch q)
noncomputable def dA(prog:Rk)(w:Rx):PySem.KeyKind prog w Key where
 is:=r6
 hash:=OA w
 inj:=λv a b ha hb=>by
  rcases bW ha with⟨i,t,rfl,rfl⟩|⟨x,t,rfl,rfl⟩
  ·rcases bW hb with⟨j,u,rfl,e⟩|⟨y,u,rfl,e⟩
   ·injection e with e1 _;rw[e1]
   ·exact nomatch e
  ·rcases bW hb with⟨j,u,rfl,e⟩|⟨y,u,rfl,e⟩
   ·exact nomatch e
   ·injection e with e1 _;rw[e1]
 byValue:=λk v h=>by
  rcases bW h with⟨i,t,rfl,rfl⟩|⟨x,t,rfl,rfl⟩<;>rfl
 pyHash:=λhv h=>by
  rcases bW hv with⟨i,t,rfl,rfl⟩|⟨x,t,rfl,rfl⟩
  ·exact wpAny_pyHash_int h
  ·exact wpAny_pyHash_str h
 eqBool:=λhu hv h=>by
  rcases bW hu with⟨i,t,rfl,rfl⟩|⟨x,t,rfl,rfl⟩
  ·rcases bW hv with⟨j,u,rfl,rfl⟩|⟨y,u,rfl,rfl⟩
   ·rw[Lx]at h;exact wpAny_eqBool_int h
   ·rw[K8]at h;exact SeqAt.EqAt.int_str i t y u _ _ _ _ h
  ·rcases bW hv with⟨j,u,rfl,rfl⟩|⟨y,u,rfl,rfl⟩
   ·rw[K4]at h;exact SeqAt.EqAt.str_int x t j u _ _ _ _ h
   ·rw[Mf]at h;exact wpAny_eqBool_str h
 «strs»:=λk x t v h=>by
  rcases bW h with⟨i,u,rfl,e⟩|⟨y,u,rfl,e⟩
  ·exact nomatch e
  ·injection e with e1 _
   subst e1;cases v<;>rfl
theorem yY(prog:Rk)(w:Rx)(i:Int)(t:Tok):(dA prog w).is (.inl i) (.int i t)=true:=Dz i t
theorem yL(prog:Rk)(w:Rx)(x:Str)(t:Tok):(dA prog w).is (.inr x) (.str x t)=true:=oV x t
inductive V where
 |non|bl (b:Bool)|int (i:Int)|str (x:Str)|xK (b:Array UInt8)|flt (b:UInt64)|ref (a:R3)|ty (n:String)
 deriving DecidableEq
def RelV:V->Q7->Prop
 |.non,u=>u=TY
 |.bl b,u=>u=Sf b
 |.int i,u=>∃t,u=Wp i t
 |.str x,u=>∃t,u=Ul x t
 |.xK b,u=>∃t,u=Value.bytes b t
 |.flt b,u=>∃t,u=Value.float b t
 |.ref a,u=>u=Sn a
 |.ty n,u=>u=WB n
abbrev Vals:List V->List Q7->Prop:=Sr RelV
theorem Vals.length{xs:List V}{us:List Q7}(r:Vals xs us):xs.length=us.length:=Paired.length r
theorem Vals.get:∀{xs:List V}{us:List Q7}{i:Nat}{x:V},Vals xs us->xs[i]?=Zz x->∃u,us[i]?=Zz u/\RelV x u
 |_,_,_,_,.nil,e=>by simp at e
 |_,_,0,_,.cons r _,e=>by simp at e;subst e;exact⟨_,rfl,r⟩
 |_,_,i+1,x,.cons _ t,e=>by
  obtain⟨u,h1,h2⟩:=Vals.get (i:=i) (x:=x) t (by simpa using e);exact⟨u,by simpa using h1,h2⟩
theorem Vals.set{x:V}{u:Q7}(r:RelV x u):∀{xs:List V}{us:List Q7}(i:Nat),Vals xs us->Vals (xs.set i x) (us.set i u)
 |_,_,_,.nil=>.nil
 |_,_,0,.cons _ t=>.cons r t
 |_,_,i+1,.cons q t=>.cons q (Vals.set r i t)
theorem Vals.append:∀{xs ys:List V}{us ws:List Q7},Vals xs us->Vals ys ws->Vals (xs++ys) (us++ws)
 |_,_,_,_,.nil,s=>s
 |_,_,_,_,.cons r t,s=>.cons r (Vals.append t s)
theorem Vals.take:∀{xs:List V}{us:List Q7}(n:Nat),Vals xs us->Vals (xs.take n) (us.take n)
 |_,_,0,_=>.nil
 |_,_,_+1,.nil=>.nil
 |_,_,n+1,.cons r t=>.cons r (Vals.take n t)
theorem Vals.drop:∀{xs:List V}{us:List Q7}(n:Nat),Vals xs us->Vals (xs.drop n) (us.drop n)
 |_,_,0,r=>r
 |_,_,_+1,.nil=>.nil
 |_,_,n+1,.cons _ t=>Vals.drop n t
def oJ:Option V->Option Q7->Prop
 |some v,Zz u=>RelV v u
 |none,Zy=>True
 |_,_=>False
def KV{κ:Type}:List (κ×V)->List (κ×Q7)->Prop:=Sr λ(p:κ×V) (q:κ×Q7)=>p.1=q.1/\RelV p.2 q.2
noncomputable def kV:Key->V
 |.inl i=>.int i
 |.inr x=>.str x
inductive HO where
 |lst (xs:List V)
 |tup (xs:List V)
 |dK (kvs:List (Key×V))|dT (kvs:List (List Key×V))
 |set (S:Int->Bool) (n:Nat)
 |ins (C dx:R3) (fs:List (Str×V))
 |own (x:R3)
 |xd (fs:List (Str×V))
 |met (f x:R3)
 |Hr (lo hi:Int)
 |lR (o:Obj) (u:HO)
 |zo (ps:Array Q7)
 |ext (φ:Rj->Prop)
noncomputable abbrev Hp:=R3->Option HO
noncomputable def upd(H:Hp)(a:R3)(o:HO):Hp:=λb=>if b=a then Zz o else H b
theorem fT{H:Hp}{a:R3}{o:HO}:upd H a o a=Zz o:=by unfold upd;rw[XU rfl]
theorem bh{H:Hp}{a b:R3}{o:HO}(h:b≠a):upd H a o b=H b:=by unfold upd;rw[XV h]
theorem cM{H:Hp}{a b:R3}{o:HO}(h:H a=Zz o)(h':H b=Zy):a≠b:=by
 intro e;subst e;rw[h]at h';cases h'
def sn(h:Rj)(a:R3)(items:Array Q7):Prop:=∃o,h.get? a=Zz o/\o.cls=.type "tuple"/\(∃n,o.data=.seq items n)/\o.dict=Zy
theorem sn.is{h:Rj}{a:R3}{items:Array Q7}(x:sn h a items):Wv h a items:=let⟨o,h1,h2,h3,_⟩:=x;⟨o,h1,h2,h3⟩
theorem sn.new(h:Rj)(items:Array Q7):sn (h.push { cls:=.type "tuple",data:=.seq items }) h.objs.size items:=⟨_,RH _ rfl,rfl,⟨_,rfl⟩,rfl⟩
section
variable(P:Rk) (w:Rx)
def cL(H:Hp)(h:Rj)(a:R3):HO->Prop
 |.lst xs=>xs.length<=RV/\∃(its:List Q7) (n:Nat),Vals xs its/\h.get? a=Zz { cls:=.type "list",data:=.seq its.toArray n }
 |.tup xs=>xs.length<=RV/\∃its:List Q7,Vals xs its/\sn h a its.toArray
 |.dK kvs=>kvs.length<=RV/\(a==Uh)=false/\∃vs,KV kvs vs/\h.DictOf (dA P w) a vs
 |.dT kvs=>kvs.length<=RV/\(a==Uh)=false/\∃xs:List (List Key×R3×Q7),
  Sr (λ(p:List Key×V) (q:List Key×R3×Q7)=>p.1=q.1/\H q.2.1=Zz (.tup (p.1.map kV))/\RelV p.2 q.2.2) kvs xs /\
  ∃o es ep,h.get? a=Zz o/\o.ExactDict/\o.data=.dict es ep/\es.toList=xs.map (entryOfKey (tupleKind (dA P w)))/\(xs.map (·.1)).Nodup
 |.set S n=>h.SetOf (intKind P w) a S n
 |.ins C dx fs=>H dx=Zz (.own a)/\fs.length<=1000/\dx≠a/\h.get? a=Zz (instObj C dx) /\
  ∃mA,h.Ns1 dx mA/\(∀f,oJ (fs.lookup f) (mA f))/\PySem.Within mA (fs.map (·.1))
 |.own _=>∃o,h.get? a=Zz o
 |.xd fs=>∃mA,h.Ns1 a mA/\∀f,oJ (fs.lookup f) (mA f)
 |.Hr lo hi=>∃t u v,h.get? a=Zz { cls:=.type "range",data:=.fields #[.int lo t,.int hi u,.int 1 v] }
 |.lR o u=>h.get? a=Zz o/\cL H h a u
 |.zo ps=>h.get? a=Zz { cls:=.none,data:=.fields ps }
 |.met f x=>h.get? a=Zz (X1 (.ref f) (.ref x))
 |.ext φ=>φ h/\(∃o,h.get? a=Zz o)/\∀h1 h2:Rj,φ h1->(∀o,h1.get? a=Zz o->h2.get? a=Zz o)->φ h2
def pf(H:Hp)(h:Rj):Prop:=∀a o,H a=Zz o->cL P w H h a o
end
section
variable{P:Rk}{w:Rx}{H H':Hp}{h h':Rj}{a:R3}{o:HO}
theorem cL.lt(x:cL P w H h a o):a<h.objs.size:=by
 cases o with
 |lst xs=>obtain⟨_,_,_,_,e⟩:=x;exact RM e
 |tup xs=>obtain⟨_,_,_,p⟩:=x;exact p.is.lt
 |dK kvs=>obtain⟨_,_,_,_,o,_,_,e,_⟩:=x;exact RM e
 |dT kvs=>obtain⟨_,_,_,_,o,_,_,e,_⟩:=x;exact RM e
 |set S n=>obtain⟨o,_,_,_,e,_⟩:=x;exact RM e
 |ins C dx fs=>obtain⟨_,_,_,e,_⟩:=x;exact RM e
 |own y=>obtain⟨_,e⟩:=x;exact RM e
 |xd fs=>obtain⟨_,⟨_,_,_,e,_⟩,_⟩:=x;exact RM e
 |Hr lo hi=>obtain⟨_,_,_,e⟩:=x;exact RM e
 |lR ob u=>obtain⟨e,_⟩:=x;exact RM e
 |zo ps=>exact RM (show h.get? a=Zz _ from x)
 |met f y=>exact RM (show h.get? a=Zz _ from x)
 |ext φ=>obtain⟨_,⟨_,e⟩,_⟩:=x;exact RM e
theorem Paired.L1{α β:Type}{F G:α->β->Prop}:∀{l₁:List α}{l₂:List β},Sr F l₁ l₂->(∀a b,F a b->G a b)->Sr G l₁ l₂
 |_,_,.nil,_=>.nil
 |_,_,.cons r t,f=>.cons (f _ _ r) (Paired.L1 t f)
theorem cL.stay(x:cL P w H h a o)(k:∀b u,(b=a∨H b=Zz (.own a))->h.get? b=Zz u->h'.get? b=Zz u)(ho:∀b,H b=Zz (.own a)->H' b=Zz (.own a))(ht:∀b xs,H b=Zz (.tup xs)->H' b=Zz (.tup xs)):cL P w H' h' a o:=by
 induction o with
 |lst xs=>obtain⟨z,its,n,r,e⟩:=x;exact⟨z,its,n,r,k _ _ (.inl rfl) e⟩
 |tup xs=>obtain⟨z,its,r,ob,e,c⟩:=x;exact⟨z,its,r,ob,k _ _ (.inl rfl) e,c⟩
 |dK kvs=>obtain⟨z,y,vs,r,ob,es,ep,e,c⟩:=x;exact⟨z,y,vs,r,ob,es,ep,k _ _ (.inl rfl) e,c⟩
 |dT kvs =>
  obtain⟨z,y,xs,r,ob,es,ep,e,c⟩:=x;exact⟨z,y,xs,Paired.L1 r λp q z=>⟨z.1,ht _ _ z.2.1,z.2.2⟩,ob,es,ep,k _ _ (.inl rfl) e,c⟩
 |set S n=>obtain⟨ob,es,ep,t,e,c⟩:=x;exact⟨ob,es,ep,t,k _ _ (.inl rfl) e,c⟩
 |ins C dx fs =>
  obtain⟨d,z,ne,e,mA,⟨od,es,ep,e2,c⟩,r⟩:=x;exact⟨ho _ d,z,ne,k _ _ (.inl rfl) e,mA,⟨od,es,ep,k _ _ (.inr d) e2,c⟩,r⟩
 |own y=>obtain⟨ob,e⟩:=x;exact⟨ob,k _ _ (.inl rfl) e⟩
 |xd fs=>obtain⟨mA,⟨od,es,ep,e,c⟩,r⟩:=x;exact⟨mA,⟨od,es,ep,k _ _ (.inl rfl) e,c⟩,r⟩
 |Hr lo hi=>obtain⟨t,u,v,e⟩:=x;exact⟨t,u,v,k _ _ (.inl rfl) e⟩
 |lR ob u ih=>obtain⟨e,q⟩:=x;exact⟨k _ _ (.inl rfl) e,ih q⟩
 |zo ps =>
  have e:h.get? a=Zz { cls:=.none,data:=.fields ps }:=x;show h'.get? a=Zz { cls:=.none,data:=.fields ps };exact k a _ (.inl rfl) e
 |met f y =>
  have e:h.get? a=Zz (X1 (.ref f) (.ref y)):=x;show h'.get? a=Zz (X1 (.ref f) (.ref y));exact k a _ (.inl rfl) e
 |ext φ=>obtain⟨p,⟨o,e⟩,st⟩:=x;exact⟨st _ _ p λo q=>k _ _ (.inl rfl) q,⟨o,k _ _ (.inl rfl) e⟩,st⟩
theorem pf.lt(x:pf P w H h)(e:H a=Zz o):a<h.objs.size:=(x a o e).lt
theorem pf.fresh(x:pf P w H h)(e:h.objs.size<=a):H a=Zy:=by
 cases q:H a with
 |none=>rfl
 |some u=>exact XZ (RU (x.lt q) e) (SH _)
theorem pf.kept(x:pf P w H h)(k:∀b u,h.get? b=Zz u->h'.get? b=Zz u):pf P w H h':=λa o e =>
 (x a o e).stay (λb u _ q=>k b u q) (λ_ q=>q) λ_ _ q=>q
theorem pf.laid(x:pf P w H h)(k:∀b u,h.get? b=Zz u->h'.get? b=Zz u)(hp:h.objs.size<=a)(new:cL P w (upd H a o) h' a o):pf P w (upd H a o) h':=λb u e=>by
 have hn:=x.fresh hp;by_cases hb:b=a
 ·subst hb;rw[fT]at e;cases e;exact new
 ·rw[bh hb]at e
  exact(x b u e).stay (λc v _ q=>k c v q) (λc q=>by rw[bh (cM q hn)];exact q) λc xs q=>by rw[bh (cM q hn)];exact q
end
def Rd(H:Hp)(a:R3)(u:HO):Prop:=H a=Zz u∨∃o,H a=Zz (.lR o u)
theorem Rd.ok{P:Rk}{w:Rx}{H:Hp}{h:Rj}{a:R3}{u:HO}(r:Rd H a u)(x:pf P w H h):cL P w H h a u:=by
 rcases r with r|⟨o,r⟩
 ·exact x a u r
 ·obtain⟨_,q⟩:=x a _ r
  exact q
def On:Option HO->Prop
 |some (.lst _)=>True
 |some (.dK _)=>True
 |some (.dT _)=>True
 |some (.set _ _)=>True
 |some (.ins _ _ _)=>True
 |some (.ext _)=>True
 |_=>False
section
variable{P:Rk}{w:Rx}{H:Hp}{h h':Rj}{x e:R3}{o':HO}
theorem pf.write(ok:pf P w H h)(mu:On (H x))(he:e=x∨H e=Zz (.own x))(k:∀b u,b≠e->h.get? b=Zz u->h'.get? b=Zz u)(heo:∃u,h'.get? e=Zz u)(new:cL P w (upd H x o') h' x o'):pf P w (upd H x o') h':=λb u q=>by
 have nown:∀c y,H c=Zz (.own y)->c≠x:=λc y r z=>by subst z;rw[r]at mu;exact mu
 have ntup:∀c xs,H c=Zz (.tup xs)->c≠x:=λc xs r z=>by subst z;rw[r]at mu;exact mu
 by_cases hb:b=x
 ·subst hb;rw[fT]at q;cases q;exact new
 ·rw[bh hb]at q
  by_cases hbe:b=e
  ·have q':H b=Zz (.own x):=by
    rcases he with z|z
    ·exact XZ (hbe.trans z) hb
    ·rw[hbe];exact z
   rw[q]at q';cases q';obtain⟨v,hv⟩:=heo;exact⟨v,by rw[hbe];exact hv⟩
  ·refine(ok b u q).stay (λc v hc r=>k c v ?_ r) (λc r=>by rw[bh (nown c b r)];exact r) λc xs r=>by rw[bh (ntup c xs r)];exact r
   rcases hc with rfl|hc
   ·exact hbe
   ·rintro rfl
    rcases he with z|z
    ·exact nown c b hc z
    ·rw[hc]at z;cases z;exact hb rfl
end
structure Un (fs ex:List R3) (H H':Hp) (h h':Rj):Prop where
 keep:∀b o,h.get? b=Zz o->H b=Zy->b∉fs->b∉ex->h'.get? b=Zz o
 slot:∀b o,h.get? b=Zz o->H b=Zy->b∈fs->b∉ex->∃sl,h'.get? b=Zz { o with slots:=sl }
 free:∀b o,h.get? b=Zz o->H b=Zy->b∉ex->H' b=Zy
 there:∀b o,h.get? b=Zz o->b∉ex->∃o',h'.get? b=Zz o'
 tups:∀b xs,H b=Zz (.tup xs)->H' b=Zz (.tup xs)
 cO:∀b o u,H b=Zz (.lR o u)->H' b=Zz (.lR o u)
 pb:∀b ps,H b=Zz (.zo ps)->∃more,H' b=Zz (.zo (ps++more))
section
variable{fs fs' ex ex':List R3}{H H1 H2:Hp}{h h1 h2 h':Rj}{a x e:R3}{o:HO}
theorem Un.any(u:Un fs ex H H1 h h1){b:R3}{ob:Obj}(q:h.get? b=Zz ob)(n:H b=Zy)(hx:b∉ex):∃sl,h1.get? b=Zz { ob with slots:=sl }:=by
 by_cases hb:b∈fs
 ·exact u.slot b ob q n hb hx
 ·exact⟨ob.slots,u.keep b ob q n hb hx⟩
theorem Un.kept(k:∀b u,h.get? b=Zz u->h'.get? b=Zz u):Un fs ex H H h h':=
 ⟨λb ob q _ _ _=>k b ob q,λb ob q _ _ _=>⟨ob.slots,k b ob q⟩,λ_ _ _ n _=>n,λb ob q _=>⟨ob,k b ob q⟩,λ_ _ q=>q,λ_ _ _ q=>q,λ_ ps q=>⟨#[],by rw[q];simp⟩⟩
theorem Un.refl:Un fs ex H H h h:=Un.kept λ_ _ q=>q
theorem Un.laid(k:∀b u,h.get? b=Zz u->h'.get? b=Zz u)(hp:h.objs.size<=a)(hn:H a=Zy):Un fs ex H (upd H a o) h h' where
 keep:=λb u q _ _ _=>k b u q
 slot:=λb u q _ _ _=>⟨u.slots,k b u q⟩
 free:=λb u q n _=>by rw[bh (Rn (RU (RM q) hp))];exact n
 there:=λb u q _=>⟨u,k b u q⟩
 tups:=λb xs q=>by rw[bh (cM q hn)];exact q
 cO:=λb u xs q=>by rw[bh (cM q hn)];exact q
 pb:=λb ps q=>⟨#[],by rw[bh (cM q hn),q];simp⟩
theorem Un.write(mu:On (H x))(he:e=x∨H e=Zz (.own x))(k:∀b u,b≠e->h.get? b=Zz u->h'.get? b=Zz u)(heo:∃u,h'.get? e=Zz u):Un fs ex H (upd H x o) h h':=by
 have hx:∀b,H b=Zy->b≠x:=λb n z=>by subst z;rw[n]at mu;exact mu
 have hb:∀b,H b=Zy->b≠e:=λb n z=>by
  subst z;rcases he with r|r
  ·exact hx b n r
  ·rw[n]at r;cases r
 have hm:∀b u,H b=Zz u->¬On (Zz u)->b≠x:=λb u q nm z=>by subst z;rw[q]at mu;exact nm mu
 refine⟨λb u q n _ _=>k b u (hb b n) q,λb u q n _ _=>⟨u.slots,k b u (hb b n) q⟩,λb u q n _=>by rw[bh (hx b n)];exact n,λb u q _=>?_,
  λb xs q=>by rw[bh (hm b _ q λz=>z)];exact q,λb u xs q=>by rw[bh (hm b _ q λz=>z)];exact q,λb ps q=>⟨#[],by rw[bh (hm b _ q λz=>z),q];simp⟩⟩
 by_cases hbe:b=e
 ·subst hbe;exact heo
 ·exact⟨u,k b u hbe q⟩
end
noncomputable def Ol(h:Rj)(H:Hp):List R3:=(SA h.objs.size).filter λa=>(H a).isSome
noncomputable def vE(h:Rj)(H:Hp):Rj:=PySem.W.hideAll h (Ol h H)
theorem DE(h:Rj)(H:Hp):(vE h H).objs.size=h.objs.size:=PySem.W.hideAll_size _ _
theorem Gi{h:Rj}{H:Hp}{b:R3}{o:Obj}(e:h.get? b=Zz o)(n:H b=Zy):(vE h H).get? b=Zz o:=
 PySem.W.hideAll_get _ e λhm=>by
  have q:(H b).isSome=true:=(List.mem_filter.mp hm).2;rw[n]at q;simp at q
theorem HX{h:Rj}{H:Hp}{b:R3}{o:Obj}(e:(vE h H).get? b=Zz o):h.get? b=Zz o/\H b=Zy:=by
 have e':h.get? b=Zz o:=PySem.W.of_hideAll (Ol h H) e;refine⟨e',?_⟩;cases q:H b with
 |none=>rfl
 |some x =>
  have hm:b∈Ol h H:=List.mem_filter.mpr ⟨Va.mpr (RM e'),by simp[q]⟩;have z:(vE h H).get? b=Zy:=PySem.W.hideAll_none (Ol h H) hm;rw[z]at e;cases e
noncomputable def IF(g h:Rj)(L:R3):List (R3×Obj):=(SA h.objs.size).filterMap λa=>if a=L∨(g.get? a).isSome=true then Zy else(h.get? a).map λo=>(a,o)
noncomputable def rest(g h:Rj)(L d:R3):List (R3×Obj):=(IF g h L).filter λp=>decide (p.1≠d)
structure Mod (K:Rs) (mg:Str->Option Q7) (base:Rj):Prop where
 O4:K.In base
 glob:base.Ns RQ mg
 blt:∃mb,base.Ns Ui mb/\∀x:Str,x≠"__name__"->mb x=Sw x
 nolimit:base.NoLimit
 bm:∃bm ob,mg "__builtins__" = Zz (.ref bm)/\bm≠Ui/\base.get? bm=Zz ob/\ob.cls=.type "module"/\ob.dict=Zz Ui/\ob.data=.plain
structure Cx where
 prog:Rk
 w:Rx
 K:Rs
 mg:Str->Option Q7
 base:Rj
 A:SO
 N:List Str
 s₀:R1
 H₀:Hp
 env:Env
 outer:List Env
 stack:List Env
 ex:List R3
 fn:Str->Bool
 calm:Bool
 pn:List (R3×Obj)
 xe:Q7->R1->Prop
noncomputable def frs(l:List Env):List R3:=l.filterMap (·.frame)
noncomputable abbrev Cx.fs(X:Cx):List R3:=frs X.outer
def NP(sc:Uu)(x:Str):Prop:=sc.names.lookup x=Zz .local∨sc.names.lookup x=Zz .cell∨sc.names.lookup x=Zz .free
def Loc(sc:Uu)(x:Str):Prop:=sc.names.lookup x=Zz .local∨sc.names.lookup x=Zz .cell
def Look(env:Env)(h:Rj)(m:Str->Option Q7)(x:Str)(u:Q7):Prop:=
 (env.kindOf x=Zz .local/\m x=Zz u)∨((env.kindOf x=Zz .cell∨env.kindOf x=Zz .free)/\∃c,env.cells.lookup x=Zz c/\h.IsCell c (Zz u))
structure Cx.Ok (X:Cx):Prop where
 mod:Mod X.K X.mg X.base
 kind:X.env.scope.kind=.function
 glob:X.env.globals=RQ
 blt:X.env.builtins=Ui
 above:X.s₀.heap.objs.size<=X.env.locals
 inj:∀x y c,X.env.cells.lookup x=Zz c->X.env.cells.lookup y=Zz c->x=y
 has:∀x,(X.env.kindOf x=Zz .cell∨X.env.kindOf x=Zz .free)->∃c,X.env.cells.lookup x=Zz c
 cab:∀x c,X.fn x=true->X.env.cells.lookup x=Zz c->X.s₀.heap.objs.size<=c
 hd:X.calm=true->X.A.handled=Zy
 frames:X.A.frames=Zz X.stack
 xC:X.stack=X.outer∨(X.stack=X.env::X.outer/\X.env.frame=Zz X.env.locals)
 Px:∀b∈X.ex,b≠X.env.locals/\∀x c,X.env.cells.lookup x=Zz c->c≠b
 bs:∀b o,X.base.get? b=Zz o->X.s₀.heap.get? b=Zz o/\X.H₀ b=Zy
 Kq:X.base.objs.size<=X.s₀.heap.objs.size
 GH:∀b o,X.base.get? b=Zz o->b∉X.ex
 JO:∀b∈X.ex,b∉X.fs
 sU:X.s₀.heap.FunFrames X.base X.outer
 MN:∀b∈X.fs,X.H₀ b=Zy
structure Inv (X:Cx) (pins:List (R3×Obj)) (σ:List (Option V)) (H:Hp) (s:R1):Prop where
 ok:X.Ok
 os:s.os=X.s₀.os
 bare:VV s.gens
 base:Un X.fs X.ex X.H₀ H X.s₀.heap s.heap
 loc:∃m,s.heap.Ns X.env.locals m/\∀(i:Nat) (x:Str) (v:V),X.N[i]?=Zz x->σ[i]?=Zz (Zz v)->NP X.env.scope x->∃u,RelV v u/\Look X.env s.heap m x u
 cell:∀x c,X.env.cells.lookup x=Zz c->∃v,s.heap.IsCell c v
 free:H X.env.locals=Zy
 km:∀x c,X.env.cells.lookup x=Zz c->H c=Zy
 pin:∀p∈X.pn++pins,s.heap.get? p.1=Zz p.2/\H p.1=Zy/\p.1≠X.env.locals/\p.1∉X.fs/\∀v,p.2.data≠.cell v
 hok:pf X.prog X.w H s.heap
 len:σ.length=X.N.length
section
variable{X:Cx}{pins:List (R3×Obj)}{σ:List (Option V)}{H H':Hp}{s:R1}{h':Rj}
theorem Cx.Ok.OS(ok:X.Ok){b:R3}{o:Obj}(e:X.base.get? b=Zz o):b∉X.fs:=λhb=>by
 have:=(ok.sU.mem hb).1;rw[e]at this;cases this
theorem Inv.bs(I:Inv X pins σ H s):∀b o,X.base.get? b=Zz o->s.heap.get? b=Zz o/\H b=Zy:=λb o e =>
 ⟨I.base.keep b o (I.ok.bs b o e).1 (I.ok.bs b o e).2 (I.ok.OS e) (I.ok.GH b o e),I.base.free b o (I.ok.bs b o e).1 (I.ok.bs b o e).2 (I.ok.GH b o e)⟩
theorem Inv.bk(I:Inv X pins σ H s):∀b o,X.base.get? b=Zz o->s.heap.get? b=Zz o:=λb o e=>(I.bs b o e).1
theorem Inv.mod(I:Inv X pins σ H s):Mod X.K X.mg X.base:=I.ok.mod
theorem Inv.qv(I:Inv X pins σ H s):X.K.In s.heap:=I.ok.mod.O4.keeps I.bk
theorem Inv.lt(I:Inv X pins σ H s):X.env.locals<s.heap.objs.size:=let⟨_,hn,_⟩:=I.loc;hn.lt
theorem Inv.sz(I:Inv X pins σ H s):X.s₀.heap.objs.size<=s.heap.objs.size:=RZ I.ok.above (Uv I.lt)
theorem Inv.K6(I:Inv X pins σ H s){a:R3}(h:s.heap.objs.size<=a):a∉X.fs:=λhb=>by
 obtain⟨_,o,ho,_⟩:=I.ok.sU.mem hb;exact XZ (RU (RM ho) (RZ I.sz h)) (SH _)
theorem Inv.L3(I:Inv X pins σ H s):∀x c,X.env.cells.lookup x=Zz c->c≠X.env.locals:=λx c e z=>by
 obtain⟨v,o,ho,hd⟩:=I.cell x c e;obtain⟨m,⟨o',es,ep,ho',hd',_⟩,_⟩:=I.loc;rw[z,ho']at ho;cases ho;rw[hd']at hd;cases hd
theorem Inv.sU(I:Inv X pins σ H s):s.heap.FunFrames X.base X.outer:=by
 have all:∀(l:List Env),(∀b∈frs l,b∈X.fs)->X.s₀.heap.FunFrames X.base l->s.heap.FunFrames X.base l:=by
  intro l
  induction l with
  |nil=>intro _ _;trivial
  |cons env r ih =>
   intro hs hl;obtain⟨hk,⟨L,o,hf,hn,ho,hd⟩,hr⟩:=hl;have hL:L∈X.fs:=hs L (by unfold frs;rw[Tu,hf];exact RR);obtain⟨sl,e⟩:=I.base.slot L o ho (I.ok.MN L hL) hL λz=>I.ok.JO L z hL
   exact⟨hk,⟨L,_,hf,hn,e,hd⟩,ih (λb hb=>hs b (by unfold frs;rw[Tu,hf];exact RG _ hb)) hr⟩
 exact all X.outer (λ_ hb=>hb) I.ok.sU
theorem Inv.stack(I:Inv X pins σ H s):s.heap.FunFrames X.base X.stack:=by
 rcases I.ok.xC with e|⟨e,hf⟩
 ·rw[e];exact I.sU
 ·rw[e]
  obtain⟨m,hn,_⟩:=I.loc;refine .cons (by rw[I.ok.kind];decide) hf hn ?_ I.sU;exact VG (RZ I.ok.Kq I.ok.above)
theorem Inv.rn(I:Inv X pins σ H s):∀b∈frs X.stack,b∈X.env.locals::X.fs:=λb hb=>by
 rcases I.ok.xC with e|⟨e,hf⟩
 ·rw[e]at hb;exact RG _ hb
 ·rw[e]at hb
  unfold frs at hb;rw[Tu,hf]at hb;exact hb
theorem Inv.vZ(I:Inv X pins σ H s):∀b∈frs X.stack,H b=Zy:=λb hb=>by
 rcases R9.mp (I.rn b hb)with e|hb
 ·rw[e];exact I.free
 ·obtain⟨_,o,ho,_⟩:=I.ok.sU.mem hb
  exact I.base.free b o ho (I.ok.MN b hb) λz=>I.ok.JO b z hb
theorem Inv.step{g':Array GenState}{t':Nat}{d':Drawn}{ch:List R3}(I:Inv X pins σ H s)(hch:∀b∈ch,(b∈X.ex∨X.s₀.heap.objs.size<=b)/\b≠X.env.locals/\(∀x c,X.env.cells.lookup x=Zz c->c≠b)/\∀p∈X.pn++pins,p.1≠b)(keep:∀b o,b≠X.env.locals->b∉X.fs->b∉ch->s.heap.get? b=Zz o->H b=Zy->h'.get? b=Zz o)(slot:∀b o,b≠X.env.locals->b∈X.fs->b∉ch->s.heap.get? b=Zz o->H b=Zy->∃sl,h'.get? b=Zz { o with slots:=sl })(free:∀b o,b∉ch->s.heap.get? b=Zz o->H b=Zy->H' b=Zy)(there:∀b o,b∉ch->s.heap.get? b=Zz o->∃o',h'.get? b=Zz o')(tups:∀b xs,H b=Zz (.tup xs)->H' b=Zz (.tup xs))(cO:∀b o u,H b=Zz (.lR o u)->H' b=Zz (.lR o u))(pb:∀b ps,H b=Zz (.zo ps)->∃more,H' b=Zz (.zo (ps++more)))(ns:∀m,s.heap.Ns X.env.locals m->h'.Ns X.env.locals m)(hok:pf X.prog X.w H' h')(hg:VV g'):
  Inv X pins σ H' { s with heap:=h',gens:=g',drawn:=d',toks:=t' }:=by
 have neL:∀b o,X.s₀.heap.get? b=Zz o->b≠X.env.locals:=λb o e=>Rn (RU (RM e) I.ok.above)
 have neC:∀b o,X.s₀.heap.get? b=Zz o->b∉X.ex->b∉ch:=λb o e hx hb=>by
  rcases(hch b hb).1 with z|z
  ·exact hx z
  ·exact XZ (RU (RM e) z) (SH _)
 have cellK:∀x c,X.env.cells.lookup x=Zz c->∀v,s.heap.IsCell c v->h'.IsCell c v:=λx c e v ⟨o,ho,hd⟩=>by
  have nch:c∉ch:=λz=>(hch c z).2.2.1 x c e rfl
  by_cases hc:c∈X.fs
  ·obtain⟨sl,q⟩:=slot c o (I.L3 x c e) hc nch ho (I.km x c e)
   exact⟨_,q,hd⟩
  ·exact⟨o,keep c o (I.L3 x c e) hc nch ho (I.km x c e),hd⟩
 refine⟨I.ok,I.os,hg,⟨λb o e n hb hx=>?_,λb o e n hb hx=>?_,λb o e n hx=>?_,λb o e hx=>?_,λb xs e=>tups b xs (I.base.tups b xs e),λb o xs e=>cO b o xs (I.base.cO b o xs e),λb ps e=>?_⟩,?_,λx c e=>?_,?_,λx c e=>?_,λp hp=>?_,hok,I.len⟩
 ·exact keep b o (neL b o e) hb (neC b o e hx) (I.base.keep b o e n hb hx) (I.base.free b o e n hx)
 ·obtain⟨sl,e1⟩:=I.base.slot b o e n hb hx
  obtain⟨sl',e2⟩:=slot b _ (neL b o e) hb (neC b o e hx) e1 (I.base.free b o e n hx);exact⟨sl',e2⟩
 ·obtain⟨o',e1⟩:=I.base.there b o e hx
  exact free b o' (neC b o e hx) e1 (I.base.free b o e n hx)
 ·obtain⟨o',e1⟩:=I.base.there b o e hx
  exact there b o' (neC b o e hx) e1
 ·obtain⟨m1,e1⟩:=I.base.pb b ps e
  obtain⟨m2,e2⟩:=pb b _ e1;exact⟨m1++m2,by rw[e2,Array.append_assoc]⟩
 ·obtain⟨m,hn,hl⟩:=I.loc
  refine⟨m,ns m hn,λi x v e1 e2 e3=>?_⟩;obtain⟨u,r,l⟩:=hl i x v e1 e2 e3;refine⟨u,r,?_⟩;rcases l with l|⟨k,c,e,z⟩
  ·exact .inl l
  ·exact .inr ⟨k,c,e,cellK x c e _ z⟩
 ·obtain⟨v,z⟩:=I.cell x c e
  exact⟨v,cellK x c e v z⟩
 ·obtain⟨m,⟨o,_,_,ho,_⟩,_⟩:=I.loc
  exact free _ o (λz=>(hch _ z).2.1 rfl) ho I.free
 ·obtain⟨v,o,ho,hd⟩:=I.cell x c e
  exact free c o (λz=>(hch c z).2.2.1 x c e rfl) ho (I.km x c e)
 ·obtain⟨e,n,ne,nf,d⟩:=I.pin p hp
  have nch:p.1∉ch:=λz=>(hch p.1 z).2.2.2 p hp rfl
  exact⟨keep p.1 p.2 ne nf nch e n,free p.1 p.2 nch e n,ne,nf,d⟩
theorem Inv.un{t':Nat}(I:Inv X pins σ H s)(u:Un X.fs [] H H' s.heap h')(hok:pf X.prog X.w H' h'):Inv X pins σ H' { s with heap:=h',toks:=t' }:=by
 obtain⟨m,⟨o,es,ep,ho,r⟩,_⟩:=id I.loc;obtain⟨sl,hL⟩:=u.any ho I.free (by simp);exact I.step (g':=s.gens) (d':=s.drawn) (ch:=[]) (λ_ z=>nomatch z) (λb o _ hb _ e n=>u.keep b o e n hb (by simp)) (λb o _ hb _ e n=>u.slot b o e n hb (by simp)) (λb o _ e n=>u.free b o e n (by simp)) (λb o _ e=>u.there b o e (by simp)) u.tups u.cO u.pb (λm' hm=>by
  obtain⟨o',es',ep',ho',r'⟩:=hm;rw[ho]at ho';cases ho';exact⟨_,es',ep',hL,r'⟩) hok I.bare
theorem Inv.call{g':Array GenState}{t':Nat}{d':Drawn}{ch:List R3}(I:Inv X pins σ H s)(u:Un (frs X.stack) ch H H' s.heap h')(hok:pf X.prog X.w H' h')(hg:VV g')(hch:∀b∈ch,(b∈X.ex∨X.s₀.heap.objs.size<=b)/\b≠X.env.locals/\(∀x c,X.env.cells.lookup x=Zz c->c≠b)/\∀p∈X.pn++pins,p.1≠b):
  Inv X pins σ H' { s with heap:=h',gens:=g',drawn:=d',toks:=t' }:=by
 obtain⟨m,⟨o,es,ep,ho,r⟩,_⟩:=id I.loc;obtain⟨sl,hL⟩:=u.any ho I.free λz=>(hch _ z).2.1 rfl
 exact I.step (ch:=ch) hch (λb o hL hb hc e n=>u.keep b o e n (λz=>(R9.mp (I.rn b z)).elim hL hb) hc) (λb o _ _ hc e n=>u.any e n hc) (λb o hc e n=>u.free b o e n hc) (λb o hc e=>u.there b o e hc) u.tups u.cO u.pb (λm' hm=>by
  obtain⟨o',es',ep',ho',r'⟩:=hm;rw[ho]at ho';cases ho';exact⟨_,es',ep',hL,r'⟩) hok hg
theorem Inv.turned{t':Nat}{it:R3}(I:Inv X pins σ H s)(k:∀b o,b≠it->s.heap.get? b=Zz o->h'.get? b=Zz o)(hn:H it=Zy)(hL:it≠X.env.locals)(h1:it∈X.ex∨X.s₀.heap.objs.size<=it)(h2:∀x c,X.env.cells.lookup x=Zz c->c≠it)(h3:∀p∈X.pn++pins,p.1≠it):Inv X pins σ H { s with heap:=h',toks:=t' }:=by
 have nit:∀b u,H b=Zz u->b≠it:=λb u e z=>by rw[z,hn]at e;cases e
 refine I.step (g':=s.gens) (d':=s.drawn) (ch:=[it]) (λb hb=>?_) (λb o _ _ hc e _=>k b o (λz=>hc (by simp[z])) e) (λb o _ _ hc e _=>⟨o.slots,k b o (λz=>hc (by simp[z])) e⟩) (λ_ _ _ _ n=>n)
  (λb o hc e=>⟨o,k b o (λz=>hc (by simp[z])) e⟩) (λ_ _ e=>e) (λ_ _ _ e=>e) (λb ps e=>⟨#[],by rw[e];simp⟩) (λm hm=>?_) (λb u e=>?_) I.bare
 ·have e:b=it:=by simpa using hb
  subst e;exact⟨h1,hL,h2,h3⟩
 ·obtain⟨o,es,ep,ho,r⟩:=hm
  exact⟨o,es,ep,k _ o (Sj hL) ho,r⟩
 ·refine(I.hok b u e).stay (λc v hc q=>k c v ?_ q) (λ_ q=>q) λ_ _ q=>q
  rcases hc with z|z
  ·rw[z];exact nit b u e
  ·exact nit c _ z
theorem Inv.tok(I:Inv X pins σ H s)(t:Nat):Inv X pins σ H { s with toks:=t }:=I.un (h':=s.heap) (t':=t) Un.refl I.hok
theorem Inv.kept{t':Nat}(I:Inv X pins σ H s)(k:∀b u,s.heap.get? b=Zz u->h'.get? b=Zz u):Inv X pins σ H { s with heap:=h',toks:=t' }:=I.un (Un.kept k) (I.hok.kept k)
theorem Inv.laid{a:R3}{o:HO}{t':Nat}(I:Inv X pins σ H s)(k:∀b u,s.heap.get? b=Zz u->h'.get? b=Zz u)(hp:s.heap.objs.size<=a)(new:cL X.prog X.w (upd H a o) h' a o):
 Inv X pins σ (upd H a o) { s with heap:=h',toks:=t' }:=I.un (Un.laid k hp (I.hok.fresh hp)) (I.hok.laid k hp new)
theorem Inv.write{x e:R3}{o:HO}{t':Nat}(I:Inv X pins σ H s)(mu:On (H x))(he:e=x∨H e=Zz (.own x))(k:∀b u,b≠e->s.heap.get? b=Zz u->h'.get? b=Zz u)(heo:∃u,h'.get? e=Zz u)(new:cL X.prog X.w (upd H x o) h' x o):Inv X pins σ (upd H x o) { s with heap:=h',toks:=t' }:=I.un (Un.write mu he k heo) (I.hok.write mu he k heo new)
theorem Inv.B3{pins':List (R3×Obj)}(I:Inv X pins σ H s)(h:∀p∈pins',s.heap.get? p.1=Zz p.2/\H p.1=Zy/\p.1≠X.env.locals/\p.1∉X.fs/\∀v,p.2.data≠.cell v):Inv X pins' σ H s:=
 ⟨I.ok,I.os,I.bare,I.base,I.loc,I.cell,I.free,I.km,λp hp=>(Rp.mp hp).elim (λz=>I.pin p (SK _ z)) (h p),I.hok,I.len⟩
theorem yn{N:List Str}(hN:N.Nodup){i j:Nat}{x:Str}(a:N[i]?=Zz x)(b:N[j]?=Zz x):i=j:=by
 obtain⟨h1,e1⟩:=RA.mp a;obtain⟨h2,e2⟩:=RA.mp b;exact(List.getElem_inj hN).mp (e1.trans e2.symm)
theorem u0{M:Ww}{A:SO}{E:Q7->R1->Prop}{i:Nat}{x:Str}{v:V}{u:Q7}{Q:Unit->R1->Prop}(I:Inv X pins σ H s)(hN:X.N.Nodup)(hi:X.N[i]?=Zz x)(hx:Loc X.env.scope x)(r:RelV v u)(h:∀s',Inv X pins (σ.set i (Zz v)) H s'->(∃a,U3 a s.heap s'.heap/\(a=X.env.locals∨X.env.cells.lookup x=Zz a))->Q () s')(hf:X.fn x=true∨X.env.scope.names.lookup x=Zz .local:=by first|exact .inl rfl|exact .inr rfl|assumption):RK M A (X2 X.env x u) Q E s:=by
 obtain⟨m,hn,hl⟩:=id I.loc;have hcls:(X.env.scope.kind==.class || (X.env.scope.kind==.module&&X.env.locals != X.env.globals))=false:=by rw[I.ok.kind];rfl
 have hiσ:i<σ.length:=by rw[I.len];exact(RA.mp hi).1
 have L3:=I.L3;have tracked:∀{a:R3}{h':Rj},(∃o,s.heap.get? a=Zz o/\H a=Zy)->U3 a s.heap h'->pf X.prog X.w H h':=λ{a h'} ha hs b ob e=>by
  obtain⟨_,_,hfree⟩:=ha;refine(I.hok b ob e).stay (λc w' hc q=>(hs.2 c ?_).trans q) (λ_ q=>q) λ_ _ q=>q
  rintro rfl;rcases hc with rfl|hc
  ·rw[hfree]at e;cases e
  ·rw[hfree]at hc;cases hc
 rcases hx with hk|hk
 ·refine wpAny_storeName_local hk hn (λh' hn' hs=>?_) hcls
  obtain⟨oL,_,_,hoL,_⟩:=id hn;refine h _ ⟨I.ok,I.os,I.bare,⟨λb o e n hb hx=>?_,λb o e n hb hx=>?_,I.base.free,λb o e hx=>?_,I.base.tups,I.base.cO,I.base.pb⟩,⟨_,hn',λj y v' e1 e2 e3=>?_⟩,λy c e=>?_,I.free,I.km,λp hp=>?_,tracked ⟨oL,hoL,I.free⟩ hs,by simpa using I.len⟩ ⟨_,hs,.inl rfl⟩
  ·exact(hs.2 b (Rn (RU (RM e) I.ok.above))).trans (I.base.keep b o e n hb hx)
  ·obtain⟨sl,e1⟩:=I.base.slot b o e n hb hx
   exact⟨sl,(hs.2 b (Rn (RU (RM e) I.ok.above))).trans e1⟩
  ·obtain⟨o',e1⟩:=I.base.there b o e hx
   exact⟨o',(hs.2 b (Rn (RU (RM e) I.ok.above))).trans e1⟩
  ·by_cases hj:j=i
   ·subst hj
    rw[hi]at e1;cases e1;rw[Ri hiσ]at e2;cases e2;exact⟨u,r,.inl ⟨hk,by simp⟩⟩
   ·rw[RY (Sj hj)]at e2
    obtain⟨u',r',q⟩:=hl j y v' e1 e2 e3;refine⟨u',r',?_⟩;rcases q with⟨k,e⟩|⟨k,c,e,z⟩
    ·refine .inl ⟨k,?_⟩
     have:y≠x:=λe=>hj (yn hN e1 (e▸hi))
     simp[this,e]
    ·exact .inr ⟨k,c,e,z.sameBut hs (L3 y c e)⟩
  ·obtain⟨w',z⟩:=I.cell y c e
   exact⟨w',z.sameBut hs (L3 y c e)⟩
  ·obtain⟨e,n,ne,nf,d⟩:=I.pin p hp
   exact⟨(hs.2 p.1 ne).trans e,n,ne,nf,d⟩
 ·have hfn:X.fn x=true:=by
   rcases hf with z|z
   ·exact z
   ·rw[z]at hk;cases hk
  obtain⟨c,hc⟩:=I.ok.has x (.inl hk);obtain⟨w',z⟩:=I.cell x c hc;refine wpAny_storeName_cell I.ok.kind hk hc z (λh' hc' hs=>?_);obtain⟨oc,hoc,hocd⟩:=id z;refine h { s with heap:=h' } ⟨I.ok,I.os,I.bare,⟨λb o e n hb hx=>?_,λb o e n hb hx=>?_,I.base.free,λb o e hx=>?_,I.base.tups,I.base.cO,I.base.pb⟩,⟨m,hn.sameBut hs (Sj (L3 x c hc)),λj y v' e1 e2 e3=>?_⟩,λy c' e=>?_,I.free,I.km,λp hp=>?_,tracked ⟨oc,hoc,I.km x c hc⟩ hs,by simpa using I.len⟩ ⟨c,hs,.inr hc⟩
  ·exact(hs.2 b (Rn (RU (RM e) (I.ok.cab x c hfn hc)))).trans (I.base.keep b o e n hb hx)
  ·obtain⟨sl,e1⟩:=I.base.slot b o e n hb hx
   exact⟨sl,(hs.2 b (Rn (RU (RM e) (I.ok.cab x c hfn hc)))).trans e1⟩
  ·obtain⟨o',e1⟩:=I.base.there b o e hx
   exact⟨o',(hs.2 b (Rn (RU (RM e) (I.ok.cab x c hfn hc)))).trans e1⟩
  ·by_cases hj:j=i
   ·subst hj
    rw[hi]at e1;cases e1;rw[Ri hiσ]at e2;cases e2;exact⟨u,r,.inr ⟨.inl hk,c,hc,hc'⟩⟩
   ·rw[RY (Sj hj)]at e2
    obtain⟨u',r',q⟩:=hl j y v' e1 e2 e3;refine⟨u',r',?_⟩;rcases q with q|⟨k,c',e,z'⟩
    ·exact .inl q
    ·refine .inr ⟨k,c',e,z'.sameBut hs ?_⟩
     rintro rfl;exact hj (yn hN e1 (I.ok.inj _ _ _ e hc▸hi))
  ·by_cases hcc:c'=c
   ·subst hcc;exact⟨_,hc'⟩
   ·obtain⟨w2,z2⟩:=I.cell y c' e
    exact⟨w2,z2.sameBut hs hcc⟩
  ·obtain⟨e,n,ne,nf,d⟩:=I.pin p hp
   refine⟨(hs.2 p.1 ?_).trans e,n,ne,nf,d⟩;intro q;rw[q,hoc]at e;have q':oc=p.2:=Rr e;exact d w' (by rw[<-q'];exact hocd)
theorem sX{M:Ww}{A:SO}{E:Q7->R1->Prop}{i:Nat}{x:Str}{v:V}{u:Q7}{Q:Unit->R1->Prop}(I:Inv X pins σ H s)(hN:X.N.Nodup)(hi:X.N[i]?=Zz x)(hx:Loc X.env.scope x)(r:RelV v u)(h:∀s',Inv X pins (σ.set i (Zz v)) H s'->Q () s')(hf:X.fn x=true∨X.env.scope.names.lookup x=Zz .local:=by first|exact .inl rfl|exact .inr rfl|assumption):RK M A (X2 X.env x u) Q E s:=
 u0 I hN hi hx r (λs' I' _=>h s' I') hf
theorem Inv.call'{s':R1}{ch:List R3}(I:Inv X pins σ H s)(ho:s'.os=s.os)(u:Un (frs X.stack) ch H H' s.heap s'.heap)(hok:pf X.prog X.w H' s'.heap)(hg:VV s'.gens)(hch:∀b∈ch,(b∈X.ex∨X.s₀.heap.objs.size<=b)/\b≠X.env.locals/\(∀x c,X.env.cells.lookup x=Zz c->c≠b)/\∀p∈X.pn++pins,p.1≠b):Inv X pins σ H' s':=by
 obtain⟨h',g',d',t',o'⟩:=s';have e:o'=s.os:=ho;subst e;exact I.call (g':=g') (t':=t') (d':=d') u hok hg hch
end
noncomputable abbrev XK:=Q7->Option R3->Hp->Prop
noncomputable abbrev St:=List (Option V)
noncomputable abbrev VK:=V->Hp->Prop
noncomputable abbrev TE:=St->Hp->VK->Prop
noncomputable abbrev TT:=St->Hp->(Bool->Hp->Prop)->Prop
noncomputable abbrev TA:=St->Hp->(List V->Hp->Prop)->Prop
structure Ends where
 nx:St->Hp->Prop
 rt:VK
 bk:St->Hp->Prop:=λ_ _=>False
 ct:St->Hp->Prop:=λ_ _=>False
noncomputable abbrev TS:=Ends->St->Hp->Prop
inductive EP (X:Cx) (pins:List (R3×Obj)) (σ:St) (Q:VK) (u:Q7) (s':R1)  : Prop where
 |mk (v H') (_:Inv X pins σ H' s') (_:RelV v u) (_:Q v H')
def TP(X:Cx)(pins:List (R3×Obj))(σ:St)(Q:Bool->Hp->Prop)(b:Bool)(s':R1):Prop:=∃H',Inv X pins σ H' s'/\Q b H'
inductive AP (X:Cx) (pins:List (R3×Obj)) (σ:St) (Q:List V->Hp->Prop) (us:List Q7) (s':R1)  : Prop where
 |mk (vs H') (_:Inv X pins σ H' s') (_:Vals vs us) (_:Q vs H')
def SP(X:Cx)(pins:List (R3×Obj))(D:Ends)(f:Flow)(s':R1):Prop:=
 match f with
 |.next=>∃σ' H',Inv X pins σ' H' s'/\D.nx σ' H'
 |.brk=>∃σ' H',Inv X pins σ' H' s'/\D.bk σ' H'
 |.cont=>∃σ' H',Inv X pins σ' H' s'/\D.ct σ' H'
 |.ret u=>∃v σ' H',Inv X pins σ' H' s'/\RelV v u/\D.rt v H'
def PE(X:Cx)(e:Rm)(t:TE):Prop:=
 ∀(pins:List (R3×Obj)) (s:R1) (σ:St) (H:Hp) (Q:VK),Inv X pins σ H s->t σ H Q->RK (RS X.prog X.w) X.A (eval e X.env) (EP X pins σ Q) X.xe s
def PT(X:Cx)(e:Rm)(t:TT):Prop:=
 ∀(pins:List (R3×Obj)) (s:R1) (σ:St) (H:Hp) (Q:Bool->Hp->Prop),Inv X pins σ H s->t σ H Q->RK (RS X.prog X.w) X.A (isTrue e X.env (eval e X.env)) (TP X pins σ Q) X.xe s
def PW(X:Cx)(e:Rm)(t:TT):Prop:=
 ∀(whole:Sem Q7) (pins:List (R3×Obj)) (s:R1) (σ:St) (H:Hp) (Q:Bool->Hp->Prop),Inv X pins σ H s->t σ H Q->RK (RS X.prog X.w) X.A (isTrue e X.env whole) (TP X pins σ Q) X.xe s
theorem PW.pt{X:Cx}{e:Rm}{t:TT}(h:PW X e t):PT X e t:=h _
def PA(X:Cx)(es:List Rm)(t:TA):Prop:=
 ∀(pos:Pos) (pins:List (R3×Obj)) (s:R1) (σ:St) (H:Hp) (Q:List V->Hp->Prop),Inv X pins σ H s->t σ H Q->RK (RS X.prog X.w) X.A (spliced (backTo pos (S8 es X.env))) (AP X pins σ Q) X.xe s
def PS(X:Cx)(st:Rt)(t:TS):Prop:=
 ∀(pins:List (R3×Obj)) (s:R1) (σ:St) (H:Hp) (D:Ends),Inv X pins σ H s->t D σ H->RK (RS X.prog X.w) X.A (exec st X.env) (SP X pins D) X.xe s
def dh(X:Cx)(st:List Rt)(t:TS):Prop:=
 ∀(pins:List (R3×Obj)) (s:R1) (σ:St) (H:Hp) (D:Ends),Inv X pins σ H s->t D σ H->RK (RS X.prog X.w) X.A (execs st X.env) (SP X pins D) X.xe s
theorem bR{α:Type}{t:Sem α}{Q Q':α->R1->Prop}{M:Ww}{A:SO}{E:Q7->R1->Prop}{s:R1}(h:RK M A t Q E s)(hQ:∀a s,Q a s->Q' a s):RK M A t Q' E s:=Sv h hQ λ_ _ x=>x
section
variable{X:Cx}
theorem bin{a b:Rm}{ta tb:TE}(ha:PE X a ta)(hb:PE X b tb){pins:List (R3×Obj)}{s:R1}{σ:St}{H:Hp}{R:V->V->Hp->Prop}(I:Inv X pins σ H s)(h:ta σ H λx H1=>tb σ H1 λy H2=>R x y H2){α:Type}{Q:α->R1->Prop}{f:Q7->Q7->Sem α}(hf:∀v u s2 x y H2,Inv X pins σ H2 s2->RelV x v->RelV y u->R x y H2->RK (RS X.prog X.w) X.A (f v u) Q X.xe s2):
  RK (RS X.prog X.w) X.A (eval a X.env) (λv s₁=>RK (RS X.prog X.w) X.A (eval b X.env) (λu s₂=>RK (RS X.prog X.w) X.A (f v u) Q X.xe s₂) X.xe s₁) X.xe s:=by
 refine bR (ha pins s σ H _ I h) λv s1 ⟨x,H1,I1,r1,q1⟩=>?_
 refine bR (hb pins s1 σ H1 _ I1 q1) λu s2 ⟨y,H2,I2,r2,q2⟩=>?_
 exact hf v u s2 x y H2 I2 r1 r2 q2
def O6(i:Nat):TE:=λσ H Q=>∃v,σ[i]?=Zz (Zz v)/\Q v H
def tC(v:V):TE:=λ_ H Q=>Q v H
theorem L6{i:Nat}{x:Str}{pos:Pos}(hN:X.N[i]?=Zz x)(hv:NP X.env.scope x)(hd:(x==("__debug__" : Str))=false:=by decide)(hcd:(x==("__classdict__" : Str))=false:=by decide):PE X (.Name x pos) (O6 i):=by
 intro pins s σ H Q I h;obtain⟨v,e,h⟩:=h;obtain⟨m,hn,hl⟩:=I.loc;obtain⟨u,r,l⟩:=hl i x v hN e hv;have fin:EP X pins σ Q u s:=⟨v,H,I,r,h⟩
 rcases l with⟨hk,hm⟩|⟨hk,c,hc,hcell⟩
 ·exact Wx (wpAny_loadName_local I.ok.kind hk hn hm fin) hd
 ·rcases hk with hk|hk
  ·exact Wx (wpAny_loadName_cell I.ok.kind hk hc hcell fin) hd
  ·exact Wx (wpAny_loadName_free I.ok.kind hk hc hcell fin hcd) hd
theorem G4{i j pos}:PE X (.Constant (.int i) j pos) (tC (.int i)):=λ_ _ _ H _ I h=>wpAny_Constant_int ⟨.int i,H,I.tok _,⟨_,rfl⟩,h⟩
theorem MX{b j pos}:PE X (.Constant (.bool b) j pos) (tC (.bl b)):=λ_ _ _ H _ I h=>Constant_bool ⟨.bl b,H,I,rfl,h⟩
theorem Lv{j pos}:PE X (.Constant .none j pos) (tC .non):=λ_ _ _ H _ I h=>Constant_none ⟨.non,H,I,rfl,h⟩
theorem LI{x j pos}:PE X (.Constant (.str x) j pos) (tC (.str x)):=λ_ _ _ H _ I h=>Calls.Constant_str ⟨.str x,H,I.tok _,⟨_,rfl⟩,h⟩
def Gl(X:Cx)(x:Str):Prop:=X.env.kindOf x=Zz .globalImplicit
theorem oG{E:Q7->R1->Prop}{pins:List (R3×Obj)}{s:R1}{σ:St}{H:Hp}{x:Str}{u:Q7}{pos:Pos}{Q:Q7->R1->Prop}(I:Inv X pins σ H s)(hg:Gl X x)(hm:X.mg x=Zz u)(h:Q u s)(hd:(x==("__debug__" : Str))=false:=by decide):RK (RS X.prog X.w) X.A (eval (.Name x pos) X.env) Q E s:=
 Calls.Name_function_global I.ok.kind hg (Calls.loadGlobal_global (by rw[I.ok.glob];exact I.mod.glob.keeps I.bk) hm h) hd
theorem kE{E:Q7->R1->Prop}{pins:List (R3×Obj)}{s:R1}{σ:St}{H:Hp}{x:Str}{u:Q7}{pos:Pos}{Q:Q7->R1->Prop}(I:Inv X pins σ H s)(hg:Gl X x)(hm:X.mg x=Zy)(hv:Sw x=Zz u)(h:Q u s)(hn:x≠"__name__":=by decide)(hd:(x==("__debug__" : Str))=false:=by decide):RK (RS X.prog X.w) X.A (eval (.Name x pos) X.env) Q E s:=by
 obtain⟨mb,h1,h2⟩:=I.mod.blt;exact Calls.Name_function_global I.ok.kind hg (Calls.loadGlobal_builtin (by rw[I.ok.glob];exact I.mod.glob.keeps I.bk) hm (by rw[I.ok.blt];exact h1.keeps I.bk) ((h2 x hn).trans hv) h) hd
theorem HH{x:Str}{v:V}{u:Q7}{pos:Pos}(hg:Gl X x)(hm:X.mg x=Zz u)(r:RelV v u)(hd:(x==("__debug__" : Str))=false:=by decide):PE X (.Name x pos) (tC v):=
 λ_ _ _ H _ I h=>oG I hg hm ⟨v,H,I,r,h⟩ hd
theorem Jk{x:Str}{v:V}{u:Q7}{pos:Pos}(hg:Gl X x)(hm:X.mg x=Zy)(hv:Sw x=Zz u)(r:RelV v u)(hn:x≠"__name__":=by decide)(hd:(x==("__debug__" : Str))=false:=by decide):PE X (.Name x pos) (tC v):=
 λ_ _ _ H _ I h=>kE I hg hm hv ⟨v,H,I,r,h⟩ hn hd
variable{a b:Rm}{ta tb:TE}{pos:Pos}
def PC(X:Cx)(op:Vm)(a b:Rm)(t:TE):Prop:=
 ∀(pins:List (R3×Obj)) (s:R1) (σ:St) (H:Hp) (Q:VK),Inv X pins σ H s->t σ H Q ->
  RK (RS X.prog X.w) X.A (eval a X.env) (λv s₁=>RK (RS X.prog X.w) X.A (eval b X.env) (λu s₂=>RK (RS X.prog X.w) X.A (Rq op v u) (EP X pins σ Q) X.xe s₂) X.xe s₁) X.xe s
theorem Fx(b:Rm){op:Vm}(h:op≠.In)(h2:op≠.NotIn):Tr op b=false:=by
 have e1:(op==CmpOp.In)=false:=by cases op<;>first|rfl|exact XZ rfl h
 have e2:(op==CmpOp.NotIn)=false:=by cases op<;>first|rfl|exact XZ rfl h2
 cases b<;>simp[Tr,e1,e2]
def tB(t:TE):TT:=λσ H Q=>t σ H λx H1=>∃c,x=.bl c/\Q c H1
theorem KR{op:Vm}{t:TE}(h:PC X op a b t)(h1:Tr op b=false:=by first|exact Fx _ (by decide) (by decide)|rfl):PT X (.Compare a [op] [b] pos) (tB t):=by
 intro pins s σ H Q I hw;refine wpAny_isTrue_Compare1 (bR (h pins s σ H _ I hw) λv s1 h1=>bR h1 λu s2 h2=>bR h2 λc s3 ⟨x,H1,I1,r1,q1⟩=>?_) h1;obtain⟨d,rfl,q⟩:=q1;cases r1;exact SI ⟨H1,I1,q⟩
variable{tA tB':TT}{rest:List Rm}
def Pi(t u:TT):TT:=λσ H Q=>t σ H λc H1=>if c=true then u σ H1 Q else Q false H1
def PZ(t u:TT):TT:=λσ H Q=>t σ H λc H1=>if c=true then Q true H1 else u σ H1 Q
def Ow(t:TT):TT:=λσ H Q=>t σ H λc H1=>Q (!c) H1
theorem Jl(ha:PT X a tA):PW X (.BoolOp .And [a] pos) tA:=by
 intro wh pins s σ H Q I h;refine isTrue_and (bR (ha pins s σ H Q I h) λc s1 e=>?_);cases c with
 |true=>exact isTrue_and_nil e
 |false=>exact e
theorem LB(ha:PT X a tA):PW X (.BoolOp .Or [a] pos) tA:=by
 intro wh pins s σ H Q I h;refine isTrue_or (bR (ha pins s σ H Q I h) λc s1 e=>?_);cases c with
 |false=>exact isTrue_or_nil e
 |true=>exact e
theorem Mq(ha:PT X a tA)(hb:PW X (.BoolOp .And (b::rest) pos) tB'):PW X (.BoolOp .And (a::b::rest) pos) (Pi tA tB'):=by
 intro wh pins s σ H Q I h;refine isTrue_and (bR (ha pins s σ H _ I h) λc s1 ⟨H1,I1,q1⟩=>?_);cases c with
 |true=>exact hb wh pins s1 σ H1 Q I1 q1
 |false=>exact⟨H1,I1,q1⟩
theorem NS(ha:PT X a tA)(hb:PW X (.BoolOp .Or (b::rest) pos) tB'):PW X (.BoolOp .Or (a::b::rest) pos) (PZ tA tB'):=by
 intro wh pins s σ H Q I h;refine isTrue_or (bR (ha pins s σ H _ I h) λc s1 ⟨H1,I1,q1⟩=>?_);cases c with
 |true=>exact⟨H1,I1,q1⟩
 |false=>exact hb wh pins s1 σ H1 Q I1 q1
theorem Le(ha:PT X a tA):PT X (.UnaryOp .Not a pos) (Ow tA):=by
 intro pins s σ H Q I h;exact isTrue_not (ha pins s σ H (λc H1=>Q (!c) H1) I h)
def Nr(ta tb:TE):TE:=λσ H Q=>ta σ H λx H1=>∃c,x=.bl c/\if c=true then tb σ H1 Q else Q (.bl false) H1
def OZ(ta tb:TE):TE:=λσ H Q=>ta σ H λx H1=>∃c,x=.bl c/\if c=true then Q (.bl true) H1 else tb σ H1 Q
def NQ(ta:TE):TE:=λσ H Q=>ta σ H λx H1=>∃c,x=.bl c/\Q (.bl (!c)) H1
theorem Fu{op}{t:TE}(h:PE X a t):PE X (.BoolOp op [a] pos) t:=λpins s σ H Q I hw=>BoolOp_one (h pins s σ H Q I hw)
theorem Mu(ha:PE X a ta)(hb:PE X (.BoolOp .And (b::rest) pos) tb):PE X (.BoolOp .And (a::b::rest) pos) (Nr ta tb):=by
 intro pins s σ H Q I h;refine BoolOp_and (bR (ha pins s σ H _ I h) λv s1 ⟨x,H1,I1,r1,q1⟩=>?_);obtain⟨c,rfl,q1⟩:=q1;cases r1;refine SI ?_;cases c with
 |true=>exact hb pins s1 σ H1 Q I1 q1
 |false=>exact⟨.bl false,H1,I1,rfl,q1⟩
theorem Ny(ha:PE X a ta)(hb:PE X (.BoolOp .Or (b::rest) pos) tb):PE X (.BoolOp .Or (a::b::rest) pos) (OZ ta tb):=by
 intro pins s σ H Q I h;refine BoolOp_or (bR (ha pins s σ H _ I h) λv s1 ⟨x,H1,I1,r1,q1⟩=>?_);obtain⟨c,rfl,q1⟩:=q1;cases r1;refine SI ?_;cases c with
 |false=>exact hb pins s1 σ H1 Q I1 q1
 |true=>exact⟨.bl true,H1,I1,rfl,q1⟩
theorem LN(ha:PE X a ta):PE X (.UnaryOp .Not a pos) (NQ ta):=by
 intro pins s σ H Q I h;refine UnaryOp_ (bR (ha pins s σ H _ I h) λv s1 ⟨x,H1,I1,r1,q1⟩=>?_);obtain⟨c,rfl,q1⟩:=q1;cases r1;exact not_of (SI ⟨.bl (!c),H1,I1,rfl,q1⟩)
def PX(t:TT)(ta tb:TE):TE:=λσ H Q=>t σ H λc H1=>if c=true then ta σ H1 Q else tb σ H1 Q
theorem E6{c:Rm}(hc:PT X c tA)(ha:PE X a ta)(hb:PE X b tb):PE X (.IfExp c a b pos) (PX tA ta tb):=by
 intro pins s σ H Q I h;refine wpAny_IfExp (bR (hc pins s σ H _ I h) λd s1 ⟨H1,I1,q1⟩=>?_);cases d with
 |true=>exact ha pins s1 σ H1 Q I1 q1
 |false=>exact hb pins s1 σ H1 Q I1 q1
end
def qk(K:Rs)(H:Hp)(a:R3)(xs:List V):Prop:=
 Rd H a (.lst xs) ∨
  ∃(o:Obj) (its:Array Q7) (n:Nat),K.lookup a=Zz o/\o.cls=.type "list"/\o.dict=Zy/\o.data=.seq its n/\its.size<=RV/\Vals xs its.toList
def j3(K:Rs)(H:Hp)(a:R3)(xs:List V):Prop:=
 Rd H a (.tup xs) ∨
  ∃(o:Obj) (its:Array Q7) (n:Nat),K.lookup a=Zz o/\o.cls=.type "tuple"/\o.data=.seq its n/\its.size<=RV/\Vals xs its.toList/\o.dict=Zy
noncomputable def OJ:Q7->Option V
 |.none=>Zz .non
 |.bool b=>Zz (.bl b)
 |.int i _=>Zz (.int i)
 |.str x _=>Zz (.str x)
 |.bytes b _=>Zz (.xK b)
 |.float b _=>Zz (.flt b)
 |.ref a=>Zz (.ref a)
 |.type n=>Zz (.ty n)
 |_=>Zy
theorem RelV.abs{x:V}{u:Q7}(r:RelV x u):OJ u=Zz x:=by
 cases x with
 |non=>cases r;rfl
 |bl _=>cases r;rfl
 |int _=>obtain⟨t,rfl⟩:=r;rfl
 |str _=>obtain⟨t,rfl⟩:=r;rfl
 |xK _=>obtain⟨t,rfl⟩:=r;rfl
 |flt _=>obtain⟨t,rfl⟩:=r;rfl
 |ref _=>cases r;rfl
 |ty _=>cases r;rfl
theorem RelV.inj{x y:V}{u:Q7}(r:RelV x u)(q:RelV y u):x=y:=Rr (r.abs.symm.trans q.abs)
theorem Vals.inj:∀{xs ys:List V}{us:List Q7},Vals xs us->Vals ys us->xs=ys
 |_,_,_,.nil,.nil=>rfl
 |_,_,_,.cons r t,.cons r' t'=>by rw[r.inj r',Vals.inj t t']
section
variable{X:Cx}{pins:List (R3×Obj)}{σ:St}{H:Hp}{s:R1}{a:R3}{xs ys:List V}
theorem qk.of{K:Rs}(h:H a=Zz (.lst xs)):qk K H a xs:=.inl (.inl h)
theorem j3.of{K:Rs}(h:H a=Zz (.tup xs)):j3 K H a xs:=.inl (.inl h)
theorem Inv.list(I:Inv X pins σ H s)(h:qk X.K H a xs):∃its:List Q7,Vals xs its/\PlainL s.heap a its.toArray/\xs.length<=RV:=by
 rcases h with h|⟨o,its,n,hk,hc,hd,hs,hz,r⟩
 ·obtain⟨z,its,n,r,e⟩:=h.ok I.hok
  exact⟨its,r,⟨_,n,e,rfl,rfl,rfl⟩,z⟩
 ·refine⟨its.toList,r,⟨o,n,I.qv a o hk,hc,hd,by simpa using hs⟩,?_⟩
  have e:=r.length;simp only[Ry]at e;omega
theorem Inv.tuple(I:Inv X pins σ H s)(h:j3 X.K H a xs):∃its:List Q7,Vals xs its/\Wv s.heap a its.toArray/\xs.length<=RV:=by
 rcases h with h|⟨o,its,n,hk,hc,hs,hz,r,hdn⟩
 ·obtain⟨z,its,r,p⟩:=h.ok I.hok
  exact⟨its,r,p.is,z⟩
 ·refine⟨its.toList,r,⟨o,I.qv a o hk,hc,n,by simpa using hs⟩,?_⟩
  have e:=r.length;simp only[Ry]at e;omega
theorem Inv.yS(I:Inv X pins σ H s)(h:qk X.K H a xs)(h':qk X.K H a ys):xs=ys:=by
 obtain⟨its,r,⟨o,n,e,_,_,d⟩,_⟩:=I.list h;obtain⟨its',r',⟨o',n',e',_,_,d'⟩,_⟩:=I.list h';rw[e]at e';cases e';rw[d]at d';injection d' with d1 _;have:its=its':=by simpa using congrArg Array.toList d1
 subst this;exact r.inj r'
theorem Inv.vj(I:Inv X pins σ H s)(h:j3 X.K H a xs)(h':j3 X.K H a ys):xs=ys:=by
 obtain⟨its,r,⟨o,e,_,n,d⟩,_⟩:=I.tuple h;obtain⟨its',r',⟨o',e',_,n',d'⟩,_⟩:=I.tuple h';rw[e]at e';cases e';rw[d]at d';injection d' with d1 _;have:its=its':=by simpa using congrArg Array.toList d1
 subst this;exact r.inj r'
end
section
variable{X:Cx}{st:Rt}{rest:List Rt}{t u:TS}{e:Rm}{te:TE}{pos:Pos}
def N2:TS:=λD σ H=>D.nx σ H
def OE(t u:TS):TS:=λD σ H=>t { D with nx:=u D } σ H
theorem Ja:dh X [] N2:=λ_ _ σ H _ I h=>VI ⟨σ,H,I,h⟩
theorem cz(h1:PS X st t)(h2:dh X rest u):dh X (st::rest) (OE t u):=by
 intro pins s σ H D I h;refine wpAny_execs_cons (bR (h1 pins s σ H { D with nx:=u D } I h) λf s1 q=>?_);cases f with
 |next =>
  obtain⟨σ',H',I',q⟩:=q;exact h2 pins s1 σ' H' D I' q
 |ret v=>exact q
 |brk=>exact q
 |cont=>exact q
theorem Inv.quiet{pins:List (R3×Obj)}{σ:St}{H:Hp}{s:R1}(I:Inv X pins σ H s):interactive X.env=false:=by simp[interactive,I.ok.kind]
def NH(te:TE):TS:=λD σ H=>te σ H λ_ H1=>D.nx σ H1
theorem JE(he:PE X e te)(hs:V6 e Zy pos.line X.env=pure false:=by rfl):PS X (.Expr e pos) (NH te):=by
 intro pins s σ H D I h;exact wpAny_Expr_any (bR (he pins s σ H _ I h) λv s1 ⟨x,H1,I1,r1,q1⟩=>⟨σ,H1,I1,q1⟩) I.quiet hs
def OK(te:TE):TS:=λD σ H=>te σ H D.rt
theorem Lp(he:PE X e te):PS X (.Return (Zz e) pos) (OK te):=by
 intro pins s σ H D I h;exact wpAny_Return_some (bR (he pins s σ H _ I h) λv s1 ⟨x,H1,I1,r1,q1⟩=>⟨x,σ,H1,I1,r1,q1⟩)
def Pn(c:TT)(t u:TS):TS:=λD σ H=>c σ H λb H1=>if b=true then t D σ H1 else u D σ H1
theorem NE{c:Rm}{a b:List Rt}{tc:TT}(hc:PT X c tc)(ha:dh X a t)(hb:dh X b u):PS X (.If c a b pos) (Pn tc t u):=by
 intro pins s σ H D I h;refine wpAny_If (bR (hc pins s σ H _ I h) λd s1 ⟨H1,I1,q1⟩=>?_);cases d with
 |true=>exact ha pins s1 σ H1 D I1 q1
 |false=>exact hb pins s1 σ H1 D I1 q1
def LL:TS:=λ_ _ _=>False
theorem Et{sts:List Rt}:dh X sts LL:=λ_ _ _ _ _ _ h=>h.elim
end
noncomputable abbrev TG:=V->St->Hp->(St->Hp->Prop)->Prop
noncomputable abbrev LK:=List V->St->Hp->(St->Hp->Prop)->Prop
def PG(X:Cx)(target:Rm)(t:TG):Prop:=
 ∀(pins:List (R3×Obj)) (s:R1) (σ:St) (H:Hp) (v:V) (u:Q7) (Q:St->Hp->Prop),Inv X pins σ H s->RelV v u->t v σ H Q ->
  RK (RS X.prog X.w) X.A (assign target X.env u) (λ_ s'=>∃σ' H',Inv X pins σ' H' s'/\Q σ' H') X.xe s
def MU(X:Cx)(ts:List Rm)(t:LK):Prop:=
 ∀(pins:List (R3×Obj)) (s:R1) (σ:St) (H:Hp) (vs:List V) (us:List Q7) (Q:St->Hp->Prop),Inv X pins σ H s->Vals vs us->t vs σ H Q ->
  RK (RS X.prog X.w) X.A (assignInOrder ((RJ ts X.env).map (·.2)) us) (λ_ s'=>∃σ' H',Inv X pins σ' H' s'/\Q σ' H') X.xe s
noncomputable abbrev KF:=V->V->V->Hp->(Hp->Prop)->Prop
def NW(X:Cx)(t:KF):Prop:=
 ∀(pins:List (R3×Obj)) (s:R1) (σ:St) (H:Hp) (o i v:V) (ov iv u:Q7) (Q:Hp->Prop),Inv X pins σ H s->RelV o ov->RelV i iv->RelV v u->t o i v H Q ->
  RK (RS X.prog X.w) X.A (setItem ov iv u) (λ_ s'=>∃H',Inv X pins σ H' s'/\Q H') X.xe s
noncomputable abbrev Oq:=V->V->Hp->VK->Prop
def Oj(X:Cx)(op:VH)(t:Oq):Prop:=
 ∀(pins:List (R3×Obj)) (s:R1) (σ:St) (H:Hp) (x y:V) (v u:Q7) (Q:VK),Inv X pins σ H s->RelV x v->RelV y u->t x y H Q ->
  RK (RS X.prog X.w) X.A (inplaceOp op v u) (EP X pins σ Q) X.xe s
section
variable{X:Cx}{pos:Pos}
def Gn(i:Nat):TG:=λv σ H Q=>Q (σ.set i (Zz v)) H
theorem bt{i:Nat}{x:Str}(hN:X.N.Nodup)(hi:X.N[i]?=Zz x)(hx:Loc X.env.scope x)(hf:X.fn x=true∨X.env.scope.names.lookup x=Zz .local:=by first|exact .inl rfl|exact .inr rfl|assumption):PG X (.Name x pos) (Gn i):=by
 intro pins s σ H v u Q I r h;exact wpAny_assign_Name (sX I hN hi hx r (λs' I'=>⟨_,H,I',h⟩) hf)
noncomputable def Pg:LK:=λvs σ H Q=>vs=[]/\Q σ H
noncomputable def Oa(t:TG)(u:LK):LK:=λvs σ H Q=>∃v r,vs=v::r/\t v σ H λσ' H'=>u r σ' H' Q
theorem nS:MU X [] Pg:=by
 intro pins s σ H vs us Q I r h;obtain⟨e,h⟩:=h;subst e;cases r;exact assignInOrder_nil ⟨σ,H,I,h⟩
theorem be{e:Rm}{es:List Rm}{t:TG}{u:LK}(h1:PG X e t)(h2:MU X es u)(hs:(RJ (e::es) X.env).map (·.2)=assign e X.env::(RJ es X.env).map (·.2):=by rfl):MU X (e::es) (Oa t u):=by
 intro pins s σ H vs us Q I r h;obtain⟨v,vr,e1,h⟩:=h;subst e1;cases r with
 |cons r rr =>
  rw[hs];refine assignInOrder_cons (bR (h1 pins s σ H _ _ _ I r h) λ_ s1 ⟨σ1,H1,I1,q1⟩=>?_);exact h2 pins s1 σ1 H1 _ _ Q I1 rr q1
inductive OU (K:Rs) (n:Nat) (t:LK) (v:V) (σ:L2.St) (H:Hp) (Q:L2.St->Hp->Prop):Prop where
 |mk (a xs) (_:v=.ref a) (_:j3 K H a xs) (_:xs.length=n) (_:t xs σ H Q)
theorem vS{es:List Rm}{k:Nat}{t:LK}{n:Nat}(hc:X.calm=true)(h:MU X es t)(hn:(RJ es X.env).length=n:=by rfl)(hst:(RJ es X.env).findIdx? (·.1)=Zy:=by rfl):PG X (.Tuple es k pos) (OU X.K n t):=by
 intro pins s σ H v u Q I r hw;obtain⟨a,xs,e1,hq,hl,hw⟩:=hw;subst e1;cases r;obtain⟨its,rv,ht,hz⟩:=I.tuple hq;refine assign_Tuple_tuple (I.ok.hd hc) ht (by simp[hn,<-hl,rv.length]) hst λh' hx=>?_
 have I1:Inv X pins σ H { s with heap:=h' }:=I.kept (t':=s.toks) λb o e=>hx b o (Rn (RM e)) e
 exact h pins _ σ H xs _ Q I1 (by simpa using rv) hw
def OB(to ti:TE)(t:KF):TG:=λv σ H Q=>to σ H λo H1=>ti σ H1 λi H2=>t o i v H2 λH3=>Q σ H3
theorem Ll{o i:Rm}{to ti:TE}{t:KF}(ho:PE X o to)(hi:PE X i ti)(hs:NW X t)(ha:∀v,assign (.Subscript o i pos) X.env v=(do
  let ov <-Vn [v] (eval o X.env)
  let iv <-Vn [v,ov] (eval i X.env)
  Uw pos
  Vn [v,ov,iv] (setItem ov iv v)
  release [v,ov,iv] []):=by intro _;rfl):PG X (.Subscript o i pos) (OB to ti t):=by
 intro pins s σ H v u Q I r h;rw[ha];refine Q6 (Sc (bR (ho pins s σ H _ I h) λov s1 ⟨x,H1,I1,r1,q1⟩=>?_));refine Q6 (Sc (bR (hi pins s1 σ H1 _ I1 q1) λiv s2 ⟨y,H2,I2,r2,q2⟩=>?_));refine Q6 (TR (Q6 (Sc (bR (hs pins s2 σ H2 x y v ov iv u _ I2 r1 r2 r q2) λ_ s3 ⟨H3,I3,q3⟩=>?_))));exact wpAny_release ⟨σ,H3,I3,q3⟩
def NM(te:TE)(g:TG):TS:=λD σ H=>te σ H λx H1=>g x σ H1 D.nx
theorem zF{tg e:Rm}{te:TE}{g:TG}(he:PE X e te)(hg:PG X tg g)(hs:Vt [tg] e pos.line X.env=pure false:=by rfl)(hw:Vu [tg] e X.env=pure Zy:=by rfl)(h1:(RJ [tg] X.env).map (·.2)=[assign tg X.env]:=by rfl):PS X (.Assign [tg] e pos) (NM te g):=by
 intro pins s σ H D I h;refine wpAny_Assign_stores (bR (he pins s σ H _ I h) λv s1 ⟨x,H1,I1,r1,q1⟩=>?_) hs hw;rw[h1];exact bR (hg pins s1 σ H1 x v _ I1 r1 q1) λ_ s2 q=>q
theorem Mh{i:Nat}{x:Str}{e:Rm}{te:TE}{pos':Pos}(hN:X.N.Nodup)(hi:X.N[i]?=Zz x)(hx:Loc X.env.scope x)(he:PE X e te)(hs:V6 e (Zz (.Name x pos')) pos.line X.env=pure false:=by rfl)(hf:X.fn x=true∨X.env.scope.names.lookup x=Zz .local:=by first|exact .inl rfl|exact .inr rfl|assumption):
  PS X (.Assign [.Name x pos'] e pos) (NM te (Gn i)):=by
 intro pins s σ H D I h;refine wpAny_Assign_Name (bR (he pins s σ H _ I h) λv s1 ⟨y,H1,I1,r1,q1⟩=>?_) hs;exact sX I1 hN hi hx r1 (λs2 I2=>⟨_,H1,I2,q1⟩) hf
def Pk(i:Nat)(te:TE)(ti:Oq):TS:=λD σ H=>∃x,σ[i]?=Zz (Zz x)/\te σ H λy H1=>ti x y H1 λz H2=>D.nx (σ.set i (Zz z)) H2
theorem Lu{i:Nat}{x:Str}{e:Rm}{te:TE}{op:VH}{ti:Oq}{pos':Pos}(hN:X.N.Nodup)(hi:X.N[i]?=Zz x)(hx:Loc X.env.scope x)(he:PE X e te)(ho:Oj X op ti)(hf:X.fn x=true∨X.env.scope.names.lookup x=Zz .local:=by first|exact .inl rfl|exact .inr rfl|assumption):
  PS X (.AugAssign (.Name x pos') op e pos) (Pk i te ti):=by
 intro pins s σ H D I h;obtain⟨v,e1,h⟩:=h;obtain⟨m,hn,hl⟩:=I.loc;have vis:NP X.env.scope x:=by rcases hx with k|k;exact .inl k;exact .inr (.inl k)
 obtain⟨u,r,l⟩:=hl i x v hi e1 vis;refine wpAny_AugAssign_Name ?_;have go:RK (RS X.prog X.w) X.A (eval e X.env) (λw s₂=>RK (RS X.prog X.w) X.A (inplaceOp op u w) (λr s₃=>RK (RS X.prog X.w) X.A (X2 X.env x r) (λ_=>SP X pins D .next) X.xe s₃) X.xe s₂) X.xe s:=by
  refine bR (he pins s σ H _ I h) λw s1 ⟨y,H1,I1,r1,q1⟩=>?_
  refine bR (ho pins s1 σ H1 v y u w _ I1 r r1 q1) λz s2 ⟨zv,H2,I2,r2,q2⟩=>?_
  exact sX I2 hN hi hx r2 (λs3 I3=>⟨_,H2,I3,q2⟩) hf
 rcases l with⟨hk,hm⟩|⟨hk,c,hc,hcell⟩
 ·exact wpAny_loadName_local I.ok.kind hk hn hm go
 ·rcases hk with hk|hk
  ·exact wpAny_loadName_cell I.ok.kind hk hc hcell go
  ·rcases hx with k|k
   ·have:X.env.scope.names.lookup x=Zz .free:=hk
    rw[k]at this;cases this
   ·have:X.env.scope.names.lookup x=Zz .free:=hk
    rw[k]at this;cases this
noncomputable def PD(f:Int->Int->Int):Oq:=λx y H Q=>∃i j,x=.int i/\y=.int j/\Q (.int (f i j)) H
theorem KJ:Oj X .Add (PD λi j=>i+j):=by
 intro pins s σ H x y v u Q I r1 r2 h;obtain⟨i,j,e1,e2,q⟩:=h;subst e1;subst e2;obtain⟨t,rfl⟩:=r1;obtain⟨t',rfl⟩:=r2;exact iadd_int ⟨.int _,H,I.tok _,⟨_,rfl⟩,q⟩
theorem Mn:Oj X .Sub (PD λi j=>i-j):=by
 intro pins s σ H x y v u Q I r1 r2 h;obtain⟨i,j,e1,e2,q⟩:=h;subst e1;subst e2;obtain⟨t,rfl⟩:=r1;obtain⟨t',rfl⟩:=r2;exact isub_int ⟨.int _,H,I.tok _,⟨_,rfl⟩,q⟩
def Mr(c:TT)(tb:TS):TS:=λD σ H=>∃W:Nat->St->Hp->Prop,(∃m,W m σ H)/\∀m σ H,W m σ H ->
 c σ H λb H1=>if b=true then ∃N:St->Hp->Prop,(∀σ' H',N σ' H'->∃m',m'<m/\W m' σ' H')/\tb { D with nx:=N,ct:=N,bk:=D.nx } σ H1 else D.nx σ H1
theorem Ft{c:Rm}{body:List Rt}{tc:TT}{tb:TS}(hp:WR (RS X.prog X.w) X.A X.env X.xe)(hc:PT X c tc)(hb:dh X body tb):PS X (.While c body [] pos) (Mr tc tb):=by
 intro pins s σ H D I h;obtain⟨W,⟨m0,w0⟩,turn⟩:=h;refine wpAny_While (codeAny_whileLoop (λn s'=>∃σ' H',Inv X pins σ' H' s'/\W n σ' H') ?_ m0 ⟨σ,H,I,w0⟩);rintro n s1 ⟨σ1,H1,I1,w1⟩;refine Ti hp (bR (hc pins s1 σ1 H1 _ I1 (turn n σ1 H1 w1)) λb s2 ⟨H2,I2,q2⟩=>?_);cases b with
 |true =>
  obtain⟨N,hN,q2⟩:=q2;rw[XU rfl];refine Ti hp (bR (hb pins s2 σ1 H2 _ I2 q2) λf s3 q3=>?_);cases f with
  |next =>
   obtain⟨σ3,H3,I3,n3⟩:=q3;obtain⟨m',hm,w3⟩:=hN σ3 H3 n3;exact⟨m',hm,σ3,H3,I3,w3⟩
  |cont =>
   obtain⟨σ3,H3,I3,n3⟩:=q3;obtain⟨m',hm,w3⟩:=hN σ3 H3 n3;exact⟨m',hm,σ3,H3,I3,w3⟩
  |brk=>exact q3
  |ret v=>exact q3
 |false =>
  rw[XV RL];exact VI ⟨σ1,H2,I2,q2⟩
end
structure It where
 go:Nat->Hp->Prop
 OX:Nat->Hp->V->Hp->Prop
 stop:Nat->Hp->Prop
def cZ(X:Cx)(pins:List (R3×Obj))(H:Hp)(b:R3):Prop:=
 H b=Zy/\b≠X.env.locals/\b∉X.fs/\(b∈X.ex∨X.s₀.heap.objs.size<=b)/\(∀x c,X.env.cells.lookup x=Zz c->c≠b)/\∀p∈X.pn++pins,p.1≠b
theorem Inv.D9{X:Cx}{pins:List (R3×Obj)}{σ:St}{H H':Hp}{s:R1}{b:R3}(I:Inv X pins σ H s)(hb:s.heap.objs.size<=b)(hn:H' b=Zy):cZ X pins H' b:=by
 refine⟨hn,UQ (RU I.lt hb),I.K6 hb,.inr (RZ I.sz hb),λx c e z=>?_,λp hp z=>?_⟩
 ·obtain⟨v,q⟩:=I.cell x c e
  exact XZ (RU q.lt (by rw[z];exact hb)) (SH _)
 ·exact XZ (RU (RM (I.pin p hp).1) (by rw[z];exact hb)) (SH _)
structure Turn (P:Rk) (w:Rx) (K:Rs) (tg:Rm) (J:It) (fp:List R3) (it:R3) (tn:Nat->Rj->Prop):Prop where
 mem:it∈fp
 obj:∀i h,tn i h->∀b∈fp,∃o,h.get? b=Zz o/\∀v,o.data≠.cell v
 keep:∀i h h',tn i h->(∀b∈fp,∀o,h.get? b=Zz o->h'.get? b=Zz o)->tn i h'
 item:∀(X:Cx),X.prog=P->X.w=w->X.K=K->X.calm=true->∀(i:Nat) (pins:List (R3×Obj)) (s:R1) (σ:St) (H:Hp) (E:Q7->R1->Prop),Inv X pins σ H s->(∀b∈fp,cZ X pins H b)->tn i s.heap->J.go i H ->
  RK (RS P w) X.A (pyNext (.ref it)) (λr s1=>∃u,r=Zz u /\
   RK (RS P w) X.A (UB tg (.ref it) u) (λ_ s2=>∃x H',Inv X pins σ H' s2/\RelV x u/\J.OX i H x H'/\tn (i+1) s2.heap/\∀b∈fp,H' b=Zy) E s1) E s
 done:∀(X:Cx),X.prog=P->X.w=w->X.K=K->X.calm=true->∀(i:Nat) (pins:List (R3×Obj)) (s:R1) (σ:St) (H:Hp) (E:Q7->R1->Prop),Inv X pins σ H s->(∀b∈fp,cZ X pins H b)->tn i s.heap->J.stop i H ->
  RK (RS P w) X.A (pyNext (.ref it)) (λr s1=>r=Zy/\Inv X pins σ H s1) E s
 self:∀(A:SO) (i:Nat) (s:R1) (Q:Q7->R1->Prop) (E:Q7->R1->Prop),tn i s.heap->Q (.ref it) s->RK (RS P w) A (pyIter (.ref it)) Q E s
noncomputable abbrev TI:=St->Hp->(It->Hp->Prop)->Prop
def PIE(X:Cx)(pins:List (R3×Obj))(σ:St)(tg:Rm)(R:It->Hp->Prop)(itv:Q7)(s2:R1):Prop:=
 ∃(it:R3) (fp:List R3) (tn:Nat->Rj->Prop) (J:It) (H':Hp),itv=.ref it/\Inv X pins σ H' s2/\Turn X.prog X.w X.K tg J fp it tn/\tn 0 s2.heap/\(∀b∈fp,cZ X pins H' b)/\R J H'
def PI(X:Cx)(tg iter:Rm)(wi:TI):Prop:=
 ∀(pins:List (R3×Obj)) (s:R1) (σ:St) (H:Hp) (R:It->Hp->Prop),Inv X pins σ H s->wi σ H R ->
  RK (RS X.prog X.w) X.A (eval iter X.env) (λv s1=>RK (RS X.prog X.w) X.A (pyIter v) (PIE X pins σ tg R) X.xe s1) X.xe s
theorem CB{M:Ww}{A:SO}{E:Q7->R1->Prop}{s:R1}{tg:Rm}{it:R3}{u:Q7}{o:Obj}{n:String}{vs:Array Q7}{Q:Unit->R1->Prop}(ho:s.heap.get? it=Zz o)(hc:o.cls=.type n)(hd:o.data=.fields vs)(hn:["enumerate","zip","dict_itemiterator","dict_reverseitemiterator","odict_iterator","itertools.zip_longest","itertools.pairwise"].contains n=false)(hQ:Q () s):RK M A (UB tg (.ref it) u) Q E s:=by
 unfold UB;cases tg<;>first
  |exact Q9 hQ
  |(cases u<;>first
   |exact Q9 hQ
   |(
    refine Q6 (wpAny_load ho ?_);rw[hc,hd];show RK M A (if(["enumerate","zip","dict_itemiterator","dict_reverseitemiterator","odict_iterator","itertools.zip_longest","itertools.pairwise"].contains n&&vs[0]?==Zz (rawInt _))=true then _ else _) Q E s;rw[XV (by intro h;rw[hn,Bool.false_and]at h;cases h)];exact Q9 hQ))
noncomputable def N6(K:Rs)(a:R3):It:=
 ⟨λi H=>∃xs x,qk K H a xs/\xs[i]?=Zz x,λi H x H'=>H'=H/\∀xs,qk K H a xs->xs[i]?=Zz x,λi H=>∃xs,qk K H a xs/\xs.length<=i⟩
noncomputable def Pw(K:Rs)(a:R3):It:=
 ⟨λi H=>∃xs x,j3 K H a xs/\xs[i]?=Zz x,λi H x H'=>H'=H/\∀xs,j3 K H a xs->xs[i]?=Zz x,λi H=>∃xs,j3 K H a xs/\xs.length<=i⟩
noncomputable def Nm(lo:Int)(n:Nat):It:=⟨λi _=>i<n,λi H x H'=>H'=H/\x=.int (lo+i),λi _=>n<=i⟩
theorem Dw{P:Rk}{w:Rx}{K:Rs}{tg:Rm}(a it:R3):Turn P w K tg (N6 K a) [it] it (λi h=>h.IsListIter it a i) where
 mem:=by simp
 obj:=λi h st b hb=>by
  have e:b=it:=by simpa using hb
  subst e;obtain⟨o,e,c,d⟩:=st;exact⟨o,e,λv z=>by rw[d]at z;cases z⟩
 keep:=λi h h' st k=>st.at λo e=>k it (by simp) o e
 item:=by
  intro X hP hw hK hc i pins s σ H E I hf st hg;subst hP hw hK;obtain⟨xs,x,hq,hx⟩:=hg;obtain⟨its,rv,p,hz⟩:=I.list hq;obtain⟨u,hu,ru⟩:=rv.get hx;obtain⟨f0,f1,f2,f3,f4,f5⟩:=hf it (by simp);refine wpAny_pyNext_list_item st p.isList (x:=u) (by simpa using hu) λh' st' sb=>?_
  have I1:Inv X pins σ H { s with heap:=h' }:=I.turned (t':=s.toks) (λb o hb e=>(sb.2 b hb).trans e) f0 f1 f3 f4 f5;obtain⟨o,e,c,d⟩:=id st';exact⟨u,rfl,CB (s:={ s with heap:=h' }) e c d (by decide) ⟨x,H,I1,ru,⟨rfl,λys hy=>by rw[I.yS hy hq];exact hx⟩,st',λb hb=>(hf b hb).1⟩⟩
 done:=by
  intro X hP hw hK hc i pins s σ H E I hf st hg;subst hP hw hK;obtain⟨xs,hq,hx⟩:=hg;obtain⟨its,rv,p,hz⟩:=I.list hq;obtain⟨f0,f1,f2,f3,f4,f5⟩:=hf it (by simp);have hl:=rv.length;exact wpAny_pyNext_list_end (I.ok.hd hc) st p.isList (by simp;omega) λh' eb=>⟨rfl,I.turned (t':=s.toks) (λb o hb e=>eb b o hb e) f0 f1 f3 f4 f5⟩
 self:=λ_ _ _ _ _ st h=>wpAny_pyIter_listiter st h
theorem zG{P:Rk}{w:Rx}{K:Rs}{tg:Rm}(a it:R3):Turn P w K tg (Pw K a) [it] it (λi h=>h.IsTupleIter it a i) where
 mem:=by simp
 obj:=λi h st b hb=>by
  have e:b=it:=by simpa using hb
  subst e;obtain⟨o,e,c,d⟩:=st;exact⟨o,e,λv z=>by rw[d]at z;cases z⟩
 keep:=λi h h' st k=>st.at λo e=>k it (by simp) o e
 item:=by
  intro X hP hw hK hc i pins s σ H E I hf st hg;subst hP hw hK;obtain⟨xs,x,hq,hx⟩:=hg;obtain⟨its,rv,p,hz⟩:=I.tuple hq;obtain⟨u,hu,ru⟩:=rv.get hx;obtain⟨f0,f1,f2,f3,f4,f5⟩:=hf it (by simp);refine wpAny_pyNext_tuple_item st (show s.heap.IsTuple a its.toArray from p) (x:=u) (by simpa using hu) λh' st' sb=>?_
  have I1:Inv X pins σ H { s with heap:=h' }:=I.turned (t':=s.toks) (λb o hb e=>(sb.2 b hb).trans e) f0 f1 f3 f4 f5;obtain⟨o,e,c,d⟩:=id st';exact⟨u,rfl,CB (s:={ s with heap:=h' }) e c d (by decide) ⟨x,H,I1,ru,⟨rfl,λys hy=>by rw[I.vj hy hq];exact hx⟩,st',λb hb=>(hf b hb).1⟩⟩
 done:=by
  intro X hP hw hK hc i pins s σ H E I hf st hg;subst hP hw hK;obtain⟨xs,hq,hx⟩:=hg;obtain⟨its,rv,p,hz⟩:=I.tuple hq;obtain⟨f0,f1,f2,f3,f4,f5⟩:=hf it (by simp);have hl:=rv.length;exact wpAny_pyNext_tuple_end (I.ok.hd hc) st (show s.heap.IsTuple a its.toArray from p) (by simp;omega) λh' eb=>⟨rfl,I.turned (t':=s.toks) (λb o hb e=>eb b o hb e) f0 f1 f3 f4 f5⟩
 self:=λ_ _ _ _ _ st h=>wpAny_pyIter_tupleiter st h
theorem Am{P:Rk}{w:Rx}{K:Rs}{tg:Rm}(it:R3)(lo:Int)(n:Nat):Turn P w K tg (Nm lo n) [it] it (λi h=>IsRangeIter h it (lo+(i:Nat)*1) ((n:Int)-(i:Nat)) 1) where
 mem:=by simp
 obj:=λi h st b hb=>by
  have e:b=it:=by simpa using hb
  subst e;exact⟨_,st,λv z=>by
   have z':Data.fields _=Data.cell v:=z;cases z'⟩
 keep:=λi h h' st k=>k it (by simp) _ st
 item:=by
  intro X hP hw hK hc i pins s σ H E I hf st hg;subst hP hw hK;obtain⟨f0,f1,f2,f3,f4,f5⟩:=hf it (by simp);have W:=Walks.range (prog:=X.prog) (w:=X.w) (I.ok.hd hc) it lo 1 n;refine W.item i s _ _ hg st λv h' tk hv st' kk=>?_
  obtain⟨t,rfl⟩:=hv;have I1:Inv X pins σ H { s with heap:=h',toks:=tk }:=I.turned (λb o hb e=>kk b o (by simpa using hb) e) f0 f1 f3 f4 f5;refine⟨_,rfl,CB (s:={ s with heap:=h',toks:=tk }) (n:="range_iterator") st' rfl rfl (by decide) ⟨.int (lo+i),H,I1,⟨t,?_⟩,⟨rfl,rfl⟩,st',λb hb=>(hf b hb).1⟩⟩;rw[Int.mul_one]
 done:=by
  intro X hP hw hK hc i pins s σ H E I hf st hg;subst hP hw hK;obtain⟨f0,f1,f2,f3,f4,f5⟩:=hf it (by simp);exact wpAny_pyNext_range_end (I.ok.hd hc) st (by have:n<=i:=hg;omega) λh' eb=>⟨rfl,I.turned (t':=s.toks) (λb o hb e=>eb b o hb e) f0 f1 f3 f4 f5⟩
 self:=λ_ _ _ _ _ st h=>wpAny_pyIter_rangeiter st h
section
variable{X:Cx}{tg:Rm}
theorem yH{pins:List (R3×Obj)}{σ:St}{H:Hp}{s:R1}{R:It->Hp->Prop}{E:Q7->R1->Prop}{lo hi:Int}{t u v:Tok}{tk:Nat}(I:Inv X pins σ H s)(h1:-(2^62)<=lo)(h2:lo<2^62)(h3:-(2^62)<=hi)(h4:hi<2^62)(q:R (Nm lo (hi-lo).toNat) H):RK (RS X.prog X.w) X.A (pyIter (.ref s.heap.objs.size)) (PIE X pins σ tg R) E { s with heap:=s.heap.push { cls:=.type "range",data:=.fields #[.int lo t,.int hi u,.int 1 v] },toks:=tk }:=by
 refine wpAny_pyIter_range (IsRange.new ..) (small_one h1 h2 h3 h4) ?_;have I1:Inv X pins σ H { s with heap:=s.heap.push { cls:=.type "range",data:=.fields #[.int lo t,.int hi u,.int 1 v] },toks:=tk }:=I.kept λb o e=>R0 _ e
 refine⟨(s.heap.push { cls:=.type "range",data:=.fields #[.int lo t,.int hi u,.int 1 v] }).objs.size,[(s.heap.push { cls:=.type "range",data:=.fields #[.int lo t,.int hi u,.int 1 v] }).objs.size],_,_,H,rfl,
  I1.kept (t':=tk) λb o e=>R0 _ e,Am _ lo (hi-lo).toNat,?_,λb hb=>?_,q⟩
 ·have e1:lo+((0:Nat):Int)*1=lo:=by simp
  have e2:(((hi-lo).toNat:Nat):Int)-((0:Nat):Int)=Builtin.Range.rangeSize lo hi 1:=by rw[rangeSize_one];split<;>omega
  show IsRangeIter _ _ (lo+((0:Nat):Int)*1) ((((hi-lo).toNat:Nat):Int)-((0:Nat):Int)) 1;rw[e1,e2];exact RH _ rfl
 ·have e:b=(s.heap.push { cls:=.type "range",data:=.fields #[.int lo t,.int hi u,.int 1 v] }).objs.size:=by simpa using hb
  subst e;exact I1.D9 (RD _) (I1.hok.fresh (RD _))
def NX(ta:TA):TI:=λσ H R=>ta σ H λvs H1=>∃j:Int,vs=[.int j]/\-(2^62)<=j/\j<2^62/\R (Nm 0 j.toNat) H1
def N9(ta:TA):TI:=λσ H R=>ta σ H λvs H1=>∃i j:Int,vs=[.int i,.int j]/\(-(2^62)<=i/\i<2^62/\-(2^62)<=j/\j<2^62)/\R (Nm i (j-i).toNat) H1
theorem Dg{a:Rm}{ta:TA}{p pos:Pos}(hg:Gl X "range")(hm:X.mg "range" = Zy)(ha:PA X [a] ta)(hs:S8 [a] X.env=[(false,eval a X.env)]:=by rfl):PI X tg (.Call (.Name "range" p) [a] [] pos) (NX ta):=by
 intro pins s σ H R I h;refine Call_ (kE I hg hm boot_range (Sk (bR (ha pos pins s σ H _ I h) λus s1 ⟨vs,H1,I1,r1,q1⟩=>?_) hs rfl));obtain⟨j,e,q1,q2,q⟩:=q1;subst e;cases r1 with
 |cons r rr =>
  cases rr;obtain⟨t,rfl⟩:=r;exact call_range_1 (yH I1 (by omega) (by omega) q1 q2 (by simpa using q))
theorem DD{a b:Rm}{ta:TA}{p pos:Pos}(hg:Gl X "range")(hm:X.mg "range" = Zy)(ha:PA X [a,b] ta)(hs:S8 [a,b] X.env=[(false,eval a X.env),(false,eval b X.env)]:=by rfl)(hs2:S8 [b] X.env=[(false,eval b X.env)]:=by rfl):
  PI X tg (.Call (.Name "range" p) [a,b] [] pos) (N9 ta):=by
 intro pins s σ H R I h;refine Call_ (kE I hg hm boot_range (Sk (bR (ha pos pins s σ H _ I h) λus s1 ⟨vs,H1,I1,r1,q1⟩=>?_) (by rw[hs,hs2]) (by rw[hs2];rfl)));obtain⟨i,j,e,⟨q1,q2,q3,q4⟩,q⟩:=q1;subst e;cases r1 with
 |cons r rr =>
  cases rr with
  |cons r' rr =>
   cases rr;obtain⟨t,rfl⟩:=r;obtain⟨t',rfl⟩:=r';exact call_range_2 (yH I1 q1 q2 q3 q4 q)
def Ov(wi:TI)(g:TG)(tb:TS):TS:=λD σ H=>wi σ H λJ H1=>∃W:Nat->Nat->St->Hp->Prop,(∃m,W 0 m σ H1)/\∀i m σ H,W i m σ H ->
 (J.stop i H/\D.nx σ H)∨(J.go i H/\∃N:St->Hp->Prop,(∀σ' H',N σ' H'->∃m',m'<m/\W (i+1) m' σ' H')/\∀x H',J.OX i H x H'->g x σ H' λσ2 H2=>tb { D with nx:=N,ct:=N,bk:=D.nx } σ2 H2)
noncomputable def jp(fp:List R3)(h:Rj):List (R3×Obj):=fp.filterMap λb=>(h.get? b).map λo=>(b,o)
theorem bX{fp:List R3}{h:Rj}{b:R3}{o:Obj}(hb:b∈fp)(e:h.get? b=Zz o):(b,o)∈jp fp h:=List.mem_filterMap.mpr ⟨b,hb,by rw[e];rfl⟩
theorem uK{fp:List R3}{h:Rj}{p:R3×Obj}(hp:p∈jp fp h):p.1∈fp/\h.get? p.1=Zz p.2:=by
 obtain⟨b,hb,e⟩:=List.mem_filterMap.mp hp;cases q:h.get? b with
 |none=>rw[q]at e;cases e
 |some o =>
  rw[q]at e;have e':(b,o)=p:=Rr e;subst e';exact⟨hb,q⟩
theorem Inv.pinned{pins:List (R3×Obj)}{σ:St}{H:Hp}{s:R1}{fp:List R3}(I:Inv X pins σ H s)(hf:∀b∈fp,cZ X pins H b)(ho:∀b∈fp,∃o,s.heap.get? b=Zz o/\∀v,o.data≠.cell v):Inv X (pins++jp fp s.heap) σ H s:=
 I.B3 λp hp=>(Rp.mp hp).elim (λz=>I.pin p (RO _ z)) λz=>by
  obtain⟨hb,e⟩:=uK z;obtain⟨f0,f1,f2,_⟩:=hf p.1 hb;obtain⟨o,e',d⟩:=ho p.1 hb;rw[e]at e';cases e';exact⟨e,f0,f1,f2,d⟩
theorem Inv.cS{pins pl:List (R3×Obj)}{σ:St}{H:Hp}{s:R1}(I:Inv X (pins++pl) σ H s):Inv X pins σ H s:=I.B3 λp hp=>I.pin p (RO _ (SK _ hp))
theorem Lo{iter:Rm}{body:List Rt}{wi:TI}{g:TG}{tb:TS}{pos:Pos}(hp:WR (RS X.prog X.w) X.A X.env X.xe)(hc:X.calm=true)(hi:PI X tg iter wi)(hg:PG X tg g)(hb:dh X body tb)(hs:∀x,Sl iter X.env x=pure x:=by intro _;rfl):PS X (.For tg iter body [] pos) (Ov wi g tb):=by
 intro pins s σ H D I h;refine wpAny_For (bR (hi pins s σ H _ I h) λv s1 h1=>bR h1 λitv s2 h2=>?_) hs;obtain⟨it,fp,tn,J,H2,e,I2,T,st2,f2,W,⟨m0,w0⟩,turn⟩:=h2;subst e
 -- what stays true of the iterator's objects through the loop
 have stat:∀{H':Hp},(∀b∈fp,H' b=Zy)->∀b∈fp,cZ X pins H' b:=λhn b hb=>⟨hn b hb,(f2 b hb).2⟩
 refine codeAny_forLoop_any (λn s'=>∃i σ' H',Inv X pins σ' H' s'/\tn i s'.heap/\(∀b∈fp,H' b=Zy)/\W i n σ' H') ?_ m0 ⟨0,σ,H2,I2,st2,λb hb=>(f2 b hb).1,w0⟩;rintro n s3 ⟨i,σ3,H3,I3,st3,fr3,w3⟩;rcases turn i n σ3 H3 w3 with⟨stop,qn⟩|⟨go,N,hN,step⟩
 ·refine Ti hp (bR (T.done X rfl rfl rfl hc i pins s3 σ3 H3 X.xe I3 (stat fr3) st3 stop) λr s4 ⟨hr,I4⟩=>?_)
  subst hr;exact VI ⟨σ3,H3,I4,qn⟩
 ·refine Ti hp (bR (T.item X rfl rfl rfl hc i pins s3 σ3 H3 X.xe I3 (stat fr3) st3 go) λr s4 ⟨u,hr,h4⟩=>?_)
  subst hr;refine Ti hp (bR h4 λ_ s5 ⟨x,H5,I5,r5,y5,st5,fr5⟩=>?_);have I5':=I5.pinned (stat fr5) (T.obj _ _ st5);refine Ti hp (bR (hg _ s5 σ3 H5 x u _ I5' r5 (step x H5 y5)) λ_ s6 ⟨σ6,H6,I6,q6⟩=>?_);refine Ti hp (bR (hb _ s6 σ6 H6 _ I6 q6) λf s7 q7=>?_);have again:∀{σ7:St}{H7:Hp},Inv X (pins++jp fp s5.heap) σ7 H7 s7->N σ7 H7->∃m,m<n/\∃i σ' H',Inv X pins σ' H' s7/\tn i s7.heap/\(∀b∈fp,H' b=Zy)/\W i m σ' H':=λ{σ7 H7} I7 n7=>by
   obtain⟨m',hm,w7⟩:=hN σ7 H7 n7;refine⟨m',hm,i+1,σ7,H7,I7.cS,T.keep _ _ _ st5 λb hb o e=>(I7.pin (b,o) (RO _ (RO _ (bX hb e)))).1,λb hb=>?_,w7⟩;obtain⟨o,e,d⟩:=T.obj _ _ st5 b hb;exact(I7.pin (b,o) (RO _ (RO _ (bX hb e)))).2.1
  cases f with
  |next=>obtain⟨σ7,H7,I7,n7⟩:=q7;exact again I7 n7
  |cont=>obtain⟨σ7,H7,I7,n7⟩:=q7;exact again I7 n7
  |brk=>obtain⟨σ7,H7,I7,q7⟩:=q7;exact⟨σ7,H7,I7.cS,q7⟩
  |ret v=>obtain⟨x7,σ7,H7,I7,r7,q7⟩:=q7;exact⟨x7,σ7,H7,I7.cS,r7,q7⟩
end
noncomputable abbrev R2:=V->V->Hp->VK->Prop
def dY(X:Cx)(f:Q7->Q7->Sem Q7)(r:R2):Prop:=
 ∀(pins:List (R3×Obj)) (s:R1) (σ:St) (H:Hp) (x y:V) (v u:Q7) (Q:VK),Inv X pins σ H s->RelV x v->RelV y u->r x y H Q ->
  RK (RS X.prog X.w) X.A (f v u) (EP X pins σ Q) X.xe s
def dq(X:Cx)(f:Q7)(r:List V->Hp->VK->Prop):Prop:=
 ∀(pins:List (R3×Obj)) (s:R1) (σ:St) (H:Hp) (xs:List V) (us:List Q7) (Q:VK),Inv X pins σ H s->Vals xs us->r xs H Q ->
  RK (RS X.prog X.w) X.A (call f us) (EP X pins σ Q) X.xe s
def Oy(X:Cx)(r:V->Hp->(Bool->Hp->Prop)->Prop):Prop:=
 ∀(pins:List (R3×Obj)) (s:R1) (σ:St) (H:Hp) (x:V) (v:Q7) (Q:Bool->Hp->Prop),Inv X pins σ H s->RelV x v->r x H Q ->
  RK (RS X.prog X.w) X.A (truthy v) (TP X pins σ Q) X.xe s
def NK(r:R2)(ta tb:TE):TE:=λσ H Q=>ta σ H λx H1=>tb σ H1 λy H2=>r x y H2 Q
inductive rI (C:Int->Int->Prop) (g:Int->Int->V) (x:V) (y:V) (H:Hp) (Q:VK):Prop where
 |mk (i j) (_:x=.int i) (_:y=.int j) (_:C i j) (_:Q (g i j) H)
inductive Kl (g:Int->Int->V) (x:V) (y:V) (H:Hp) (Q:VK):Prop where
 |mk (i j) (_:x=.int i) (_:y=.int j) (_:Q (g i j) H)
section
variable{X:Cx}{a b c:Rm}{ta tb tc:TE}{pos:Pos}
theorem kI(ha:PE X a ta)(hb:PE X b tb){pins:List (R3×Obj)}{s:R1}{σ:St}{H:Hp}{R:V->V->Hp->Prop}(I:Inv X pins σ H s)(h:ta σ H λx H1=>tb σ H1 λy H2=>R x y H2){Q:Q7->R1->Prop}{f:Q7->Q7->Sem Q7}(hf:∀v u s2 x y H2,Inv X pins σ H2 s2->RelV x v->RelV y u->R x y H2->RK (RS X.prog X.w) X.A (f v u) Q X.xe s2):
  RK (RS X.prog X.w) X.A (eval a X.env) (λv s₁=>RK (RS X.prog X.w) X.A (eval b X.env) (λu s₂=>RK (RS X.prog X.w) X.A (f v u) Q X.xe s₂) X.xe s₁) X.xe s:=by
 refine bR (ha pins s σ H _ I h) λv s1 ⟨x,H1,I1,r1,q1⟩=>?_
 refine bR (hb pins s1 σ H1 _ I1 q1) λu s2 ⟨y,H2,I2,r2,q2⟩=>?_
 exact hf v u s2 x y H2 I2 r1 r2 q2
theorem Kd{op:VH}{r:R2}(ho:dY X (SQ op) r)(ha:PE X a ta)(hb:PE X b tb):PE X (.BinOp a op b pos) (NK r ta tb):=by
 intro pins s σ H Q I h;exact wpAny_BinOp (kI ha hb I h λv u s2 x y H2 I2 rx ry q=>ho pins s2 σ H2 x y v u Q I2 rx ry q)
theorem Og{f:Q7->Q7->Sem Q7}{C:Int->Int->Prop}{g:Int->Int->Int}(rule:∀(i j:Int) (t u:Tok) (s:R1) (Q:Q7->R1->Prop) (E:Q7->R1->Prop),C i j->Q (.int (g i j) s.toks) { s with toks:=s.toks+1 }->RK (RS X.prog X.w) X.A (f (.int i t) (.int j u)) Q E s):
  dY X f (rI C λi j=>.int (g i j)):=by
 intro pins s σ H x y v u Q I rx ry h;obtain⟨i,j,rfl,rfl,hc,q⟩:=h;obtain⟨t,rfl⟩:=rx;obtain⟨t',rfl⟩:=ry;exact rule i j t t' s _ _ hc ⟨.int (g i j),H,I.tok _,⟨_,rfl⟩,q⟩
theorem Nq{f:Q7->Q7->Sem Q7}{g:Int->Int->Int}(rule:∀(i j:Int) (t u:Tok) (s:R1) (Q:Q7->R1->Prop) (E:Q7->R1->Prop),Q (.int (g i j) s.toks) { s with toks:=s.toks+1 }->RK (RS X.prog X.w) X.A (f (.int i t) (.int j u)) Q E s):
  dY X f (Kl λi j=>.int (g i j)):=by
 intro pins s σ H x y v u Q I rx ry h;obtain⟨i,j,rfl,rfl,q⟩:=h;obtain⟨t,rfl⟩:=rx;obtain⟨t',rfl⟩:=ry;exact rule i j t t' s _ _ ⟨.int (g i j),H,I.tok _,⟨_,rfl⟩,q⟩
theorem Iz{f:Q7->Q7->Sem Q7}{g:Int->Int->Bool}(rule:∀(i j:Int) (t u:Tok) (s:R1) (Q:Q7->R1->Prop) (E:Q7->R1->Prop),Q (.bool (g i j)) s->RK (RS X.prog X.w) X.A (f (.int i t) (.int j u)) Q E s):
  dY X f (Kl λi j=>.bl (g i j)):=by
 intro pins s σ H x y v u Q I rx ry h;obtain⟨i,j,rfl,rfl,q⟩:=h;obtain⟨t,rfl⟩:=rx;obtain⟨t',rfl⟩:=ry;exact rule i j t t' s _ _ ⟨.bl (g i j),H,I,rfl,q⟩
def OR(i j:Int):Prop:=0<j/\j<1073741824
def O5(i j:Int):Prop:=0<=j/\j<=1000000/\i.natAbs<2^64
def JM(i j:Int):Prop:=(-(2^64)<i/\i<2^64)∨(-(2^64)<j/\j<2^64)
theorem JM.ok{i j:Int}(h:JM i j):XE i j:=by
 rcases h with⟨h1,h2⟩|⟨h1,h2⟩
 ·exact .of_left (intBits_le_64 h1 h2)
 ·exact .of_right (intBits_le_64 h1 h2)
theorem Mc:dY X (SQ .Add) (Kl λi j=>.int (i+j)):=Nq λ_ _ _ _ _ _ _ q=>add_int q
theorem Me:dY X (SQ .Sub) (Kl λi j=>.int (i-j)):=Nq λ_ _ _ _ _ _ _ q=>sub_int q
theorem Jc:dY X (SQ .FloorDiv) (rI OR λi j=>.int (i / j)):=Og λi j _ _ _ _ _ hc q=>by
 have h1:(0:Int)<j:=hc.1;have h2:j<1073741824:=hc.2;exact floordiv_int (by omega) (by rw[Int.fdiv_eq_ediv_of_nonneg i (by omega)];exact q) (.inl (PyProof.noPylong_small (by omega)))
theorem K0:dY X (SQ .Mod) (rI (λ_ j=>0<j) λi j=>.int (i%j)):=Og λi j _ _ _ _ _ hc q=>by
 have h1:(0:Int)<j:=hc;exact mod_int' (by omega) (by rw[Int.fmod_eq_emod_of_nonneg i (by omega)];exact q)
theorem KD:dY X (SQ .Pow) (rI O5 λi j=>.int (i^j.toNat)):=Og λ_ _ _ _ _ _ _ hc q=>pow_int_small hc.1 hc.2.1 hc.2.2 q
end
noncomputable def KS:V->V->Bool
 |.non,.non=>true|.non,.int _=>true|.int _,.non=>true|.non,.bl _=>true|.bl _,.non=>true|.non,.str _=>true|.str _,.non=>true
 |.int _,.int _=>true|.bl _,.bl _=>true|.str _,.str _=>true|.xK _,.xK _=>true
 |.int _,.str _=>true|.str _,.int _=>true|.bl _,.str _=>true|.str _,.bl _=>true
 |_,_=>false
def P3:R2:=λx y H Q=>KS x y=true/\Q (.bl (decide (x=y))) H
def P0:R2:=λx y H Q=>KS x y=true/\Q (.bl (!decide (x=y))) H
theorem xz{i j:Int}:decide (V.int i=V.int j)=(i==j):=by
 rw[T7];simp
theorem zI{i j:Bool}:decide (V.bl i=V.bl j)=(i==j):=by
 rw[T7];simp
theorem Cf{i j:Str}:decide (V.str i=V.str j)=(i==j):=by
 rw[T7];simp
theorem CG{i j:Array UInt8}:decide (V.xK i=V.xK j)=(i.toList==j.toList):=by
 rw[T7];cases i;cases j;simp
section
variable{X:Cx}{a b c:Rm}{ta tb tc:TE}{pos:Pos}
theorem aW{pins:List (R3×Obj)}{σ:St}{H:Hp}{s:R1}{Q:VK}{k k':Bool}(I:Inv X pins σ H s)(q:Q (.bl k) H)(e:k=k'):EP X pins σ Q (.bool k') s:=by
 subst e;exact⟨.bl k,H,I,rfl,q⟩
theorem Nf:dY X (Rq .Eq) P3:=by
 intro pins s σ H x y v u Q I rx ry h;obtain⟨hs,q⟩:=h;cases x with
 |non =>
  cases rx;cases y with
  |non=>cases ry;exact PySem.EqNone.eq_none_none (aW I q (by simp))
  |bl j=>cases ry;exact PySem.EqNone.eq_none_bool (aW I q (by simp))
  |int j=>obtain⟨t',rfl⟩:=ry;exact PySem.EqNone.eq_none_int (aW I q (by simp))
  |str j=>obtain⟨t',rfl⟩:=ry;exact PySem.EqNone.eq_none_str (aW I q (by simp))
  |_=>exact XZ (show false=true from hs) RL
 |bl i =>
  cases rx;cases y with
  |non=>cases ry;exact PySem.EqNone.eq_bool_none (aW I q (by simp))
  |bl j=>cases ry;exact eq_bool (aW I q zI)
  |str j=>obtain⟨t',rfl⟩:=ry;exact PySem.EqMixed.eq_bool_str (aW I q (by simp))
  |_=>exact XZ (show false=true from hs) RL
 |int i =>
  obtain⟨t,rfl⟩:=rx;cases y with
  |non=>cases ry;exact PySem.EqNone.eq_int_none (aW I q (by simp))
  |int j=>obtain⟨t',rfl⟩:=ry;exact eq_int (aW I q xz)
  |str j=>obtain⟨t',rfl⟩:=ry;exact PySem.EqMixed.eq_int_str (aW I q (by simp))
  |_=>exact XZ (show false=true from hs) RL
 |str i =>
  obtain⟨t,rfl⟩:=rx;cases y with
  |non=>cases ry;exact PySem.EqNone.eq_str_none (aW I q (by simp))
  |bl j=>cases ry;exact PySem.EqMixed.eq_str_bool (aW I q (by simp))
  |int j=>obtain⟨t',rfl⟩:=ry;exact PySem.EqMixed.eq_str_int (aW I q (by simp))
  |str j=>obtain⟨t',rfl⟩:=ry;exact eq_str (aW I q Cf)
  |_=>exact XZ (show false=true from hs) RL
 |xK i =>
  obtain⟨t,rfl⟩:=rx;cases y with
  |xK j=>obtain⟨t',rfl⟩:=ry;exact PySem.W.eq_bytes (aW I q CG)
  |_=>exact XZ (show false=true from hs) RL
 |_=>cases y<;>exact XZ (show false=true from hs) RL
theorem MR:dY X (Rq .NotEq) P0:=by
 intro pins s σ H x y v u Q I rx ry h;obtain⟨hs,q⟩:=h;cases x with
 |non =>
  cases rx;cases y with
  |non=>cases ry;exact PySem.EqNone.ne_none_none (aW I q (by simp))
  |bl j=>cases ry;exact PySem.EqNone.ne_none_bool (aW I q (by simp))
  |int j=>obtain⟨t',rfl⟩:=ry;exact PySem.EqNone.ne_none_int (aW I q (by simp))
  |str j=>obtain⟨t',rfl⟩:=ry;exact PySem.EqNone.ne_none_str (aW I q (by simp))
  |_=>exact XZ (show false=true from hs) RL
 |bl i =>
  cases rx;cases y with
  |non=>cases ry;exact PySem.EqNone.ne_bool_none (aW I q (by simp))
  |bl j=>cases ry;exact ne_bool (aW I q (congrArg not zI))
  |str j=>obtain⟨t',rfl⟩:=ry;exact PySem.EqMixed.ne_bool_str (aW I q (by simp))
  |_=>exact XZ (show false=true from hs) RL
 |int i =>
  obtain⟨t,rfl⟩:=rx;cases y with
  |non=>cases ry;exact PySem.EqNone.ne_int_none (aW I q (by simp))
  |int j=>obtain⟨t',rfl⟩:=ry;exact ne_int (aW I q (congrArg not xz))
  |str j=>obtain⟨t',rfl⟩:=ry;exact PySem.EqMixed.ne_int_str (aW I q (by simp))
  |_=>exact XZ (show false=true from hs) RL
 |str i =>
  obtain⟨t,rfl⟩:=rx;cases y with
  |non=>cases ry;exact PySem.EqNone.ne_str_none (aW I q (by simp))
  |bl j=>cases ry;exact PySem.EqMixed.ne_str_bool (aW I q (by simp))
  |int j=>obtain⟨t',rfl⟩:=ry;exact PySem.EqMixed.ne_str_int (aW I q (by simp))
  |str j=>obtain⟨t',rfl⟩:=ry;exact ne_str (aW I q (congrArg not Cf))
  |_=>exact XZ (show false=true from hs) RL
 |xK i =>
  obtain⟨t,rfl⟩:=rx;cases y with
  |xK j=>obtain⟨t',rfl⟩:=ry;exact PySem.W.ne_bytes (aW I q (congrArg not CG))
  |_=>exact XZ (show false=true from hs) RL
 |_=>cases y<;>exact XZ (show false=true from hs) RL
theorem NA:dY X (Rq .Lt) (Kl λi j=>.bl (decide (i<j))):=Iz λ_ _ _ _ _ _ _ q=>lt_int q
theorem MT:dY X (Rq .LtE) (Kl λi j=>.bl (decide (i<=j))):=Iz λ_ _ _ _ _ _ _ q=>le_int q
theorem MY:dY X (Rq .Gt) (Kl λi j=>.bl (decide (j<i))):=Iz λ_ _ _ _ _ _ _ q=>gt_int q
theorem M9:dY X (Rq .GtE) (Kl λi j=>.bl (decide (j<=i))):=Iz λ_ _ _ _ _ _ _ q=>ge_int q
theorem CZ:dY X (Rq .Lt) (λx y H Q=>∃i j,x=.str i/\y=.str j/\Q (.bl (decide (i.cps.toList<j.cps.toList))) H):=by
 intro pins s σ H x y v u Q I rx ry h;obtain⟨i,j,rfl,rfl,q⟩:=h;obtain⟨t,rfl⟩:=rx;obtain⟨t',rfl⟩:=ry;exact lt_str (aW I q rfl)
theorem DH:dY X (Rq .In) (λx y H Q=>∃i j,x=.str i/\y=.str j/\Q (.bl (!(S5 j i 0 j.length 1).isEmpty)) H):=by
 intro pins s σ H x y v u Q I rx ry h;obtain⟨i,j,rfl,rfl,q⟩:=h;obtain⟨t,rfl⟩:=rx;obtain⟨t',rfl⟩:=ry;exact in_str (aW I q rfl)
theorem KG:dY X (Rq .Is) (λx y H Q=>y=.non/\Q (.bl (decide (x=.non))) H):=by
 intro pins s σ H x y v u Q I rx ry h;obtain⟨rfl,q⟩:=h;cases ry;refine is_none_gen (aW I q ?_);cases x<;>first
  |(cases rx;rfl)
  |(obtain⟨t,rfl⟩:=rx;rfl)
theorem JV:dY X (Rq .IsNot) (λx y H Q=>y=.non/\Q (.bl (!decide (x=.non))) H):=by
 intro pins s σ H x y v u Q I rx ry h;obtain⟨rfl,q⟩:=h;cases ry;refine isnot_none_gen (aW I q ?_);cases x<;>first
  |(cases rx;rfl)
  |(obtain⟨t,rfl⟩:=rx;rfl)
theorem wx:dY X (Rq .NotIn) (λx y H Q=>∃i j,x=.str i/\y=.str j/\Q (.bl (!(!(S5 j i 0 j.length 1).isEmpty))) H):=by
 intro pins s σ H x y v u Q I rx ry h;obtain⟨i,j,rfl,rfl,q⟩:=h;obtain⟨t,rfl⟩:=rx;obtain⟨t',rfl⟩:=ry;exact notIn_str (aW I q rfl)
theorem Jz{op:Vm}{r:R2}(ho:dY X (Rq op) r)(ha:PE X a ta)(hb:PE X b tb)(hm:Tr op b=false):PE X (.Compare a [op] [b] pos) (NK r ta tb):=by
 intro pins s σ H Q I h;exact wpAny_Compare1 (kI ha hb I h λv u s2 x y H2 I2 rx ry q=>ho pins s2 σ H2 x y v u Q I2 rx ry q) hm
def EE(t:TE):TT:=λσ H Q=>t σ H λx H'=>∃k,x=.bl k/\Q k H'
theorem Iw{op:Vm}{r:R2}(ho:dY X (Rq op) r)(ha:PE X a ta)(hb:PE X b tb)(hm:Tr op b=false):PT X (.Compare a [op] [b] pos) (EE (NK r ta tb)):=by
 intro pins s σ H Q I h;refine wpAny_isTrue_Compare1 (bR (ha pins s σ H _ I h) λv s1 ⟨x,H1,I1,r1,q1⟩=>bR (hb pins s1 σ H1 _ I1 q1) λu s2 ⟨y,H2,I2,r2,q2⟩ =>
  bR (ho pins s2 σ H2 x y v u _ I2 r1 r2 q2) λc s3 ⟨z,H3,I3,r3,k,e,q3⟩=>?_) hm
 subst e;cases r3;exact SI ⟨H3,I3,q3⟩
def Ar(r r':R2)(ta tb tc:TE):TE:=λσ H Q=>ta σ H λx H1=>tb σ H1 λy H2=>r x y H2 λz H3=>∃k,z=.bl k /\
 (if k=true then tc σ H3 λw' H4=>r' y w' H4 Q else Q (.bl false) H3)
theorem Ex{op op':Vm}{r r':R2}(ho:dY X (Rq op) r)(ho':dY X (Rq op') r')(ha:PE X a ta)(hb:PE X b tb)(hc:PE X c tc)(hm:Wq [op,op'] [b,c]=false:=by with_unfolding_all rfl):PE X (.Compare a [op,op'] [b,c] pos) (Ar r r' ta tb tc):=by
 intro pins s σ H Q I h;refine Compare_chain (bR (ha pins s σ H _ I h) λv s1 ⟨x,H1,I1,r1,q1⟩=>chain_link (bR (hb pins s1 σ H1 _ I1 q1) λu s2 ⟨y,H2,I2,r2,q2⟩ =>
  bR (ho pins s2 σ H2 x y v u _ I2 r1 r2 q2) λd s3 ⟨z,H3,I3,r3,k,e,q3⟩=>?_)) hm
 subst e;cases r3;refine SI ?_;cases k with
 |false=>exact ite_ff ⟨.bl false,H3,I3,rfl,q3⟩
 |true=>exact ite_tt (chain_last (bR (hc pins s3 σ H3 _ I3 q3) λw' s4 ⟨z',H4,I4,r4,q4⟩=>ho' pins s4 σ H4 y z' u w' Q I4 r2 r4 q4))
theorem Hf{op op':Vm}{r r':R2}(ho:dY X (Rq op) r)(ho':dY X (Rq op') r')(ha:PE X a ta)(hb:PE X b tb)(hc:PE X c tc)(hm:Wq [op,op'] [b,c]=false:=by with_unfolding_all rfl):PT X (.Compare a [op,op'] [b,c] pos) (EE (Ar r r' ta tb tc)):=by
 intro pins s σ H Q I h;refine isTrue_chain (bR (ha pins s σ H _ I h) λv s1 ⟨x,H1,I1,r1,q1⟩=>test_link (bR (hb pins s1 σ H1 _ I1 q1) λu s2 ⟨y,H2,I2,r2,q2⟩ =>
  bR (ho pins s2 σ H2 x y v u _ I2 r1 r2 q2) λd s3 ⟨z,H3,I3,r3,k,e,q3⟩=>?_)) hm
 subst e;cases r3;refine SI ?_;cases k with
 |false =>
  obtain⟨k',e',q'⟩:=q3;cases e';exact ite_ff ⟨H3,I3,q'⟩
 |true =>
  refine ite_tt (test_last (bR (hc pins s3 σ H3 _ I3 q3) λw' s4 ⟨z',H4,I4,r4,q4⟩=>bR (ho' pins s4 σ H4 y z' u w' _ I4 r2 r4 q4) λd' s5 ⟨z2,H5,I5,r5,k2,e2,q5⟩=>?_));subst e2;cases r5;exact SI ⟨H5,I5,q5⟩
def Hs(K:Rs)(x:V)(H:Hp)(k:Bool):Prop:=
 match x with
 |.non=>k=false
 |.bl b=>k=b
 |.int i=>k=(i != 0)
 |.str y=>y.length<=RV/\k=((y.length:Int) != 0)
 |.xK y=>y.size<=RV/\k=((y.size:Int) != 0)
 |.ref p=>(∃xs,qk K H p xs/\k=!xs.isEmpty)∨(∃xs,j3 K H p xs/\k=!xs.isEmpty)∨∃kvs,H p=Zz (.dK kvs)/\k=!kvs.isEmpty
 |_=>False
theorem AH{κ:Type}{kvs:List (κ×V)}{vs:List (κ×Q7)}(r:KV kvs vs):(!vs.isEmpty)=!kvs.isEmpty:=by
 cases r<;>rfl
theorem sD{xs:List V}{its:List Q7}(r:Vals xs its):(!its.toArray.isEmpty)=!xs.isEmpty:=by
 cases r<;>simp
theorem pz:(RV:Nat)<2^63:=by rw[Sh];decide
theorem Fw:Oy X (λx H Q=>∃k,Hs X.K x H k/\Q k H):=by
 intro pins s σ H x v Q I rx h;obtain⟨k,e,q⟩:=h;have hl:=pz;have hs:RV=16777216:=Sh;cases x with
 |non =>
  cases rx;have e':k=false:=e;subst e';exact truthy_none ⟨H,I,q⟩
 |bl b =>
  cases rx;have e':k=b:=e;subst e';exact SI ⟨H,I,q⟩
 |int i =>
  obtain⟨t,rfl⟩:=rx;have e':k=(i != 0):=e;subst e';exact PySem.P.truthy_int ⟨H,I,q⟩
 |str y =>
  obtain⟨t,rfl⟩:=rx;obtain⟨hy,e'⟩:y.length<=RV/\k=((y.length:Int) != 0):=e;subst e';exact PySem.P.truthy_str (by omega) ⟨H,I.tok _,q⟩
 |xK y =>
  obtain⟨t,rfl⟩:=rx;obtain⟨hy,e'⟩:y.size<=RV/\k=((y.size:Int) != 0):=e;subst e';exact PySem.W.truthy_bytes (by omega) ⟨H,I.tok _,q⟩
 |ref p =>
  cases rx;have e':(∃xs,qk X.K H p xs/\k=!xs.isEmpty)∨(∃xs,j3 X.K H p xs/\k=!xs.isEmpty)∨∃kvs,H p=Zz (.dK kvs)/\k=!kvs.isEmpty:=e;rcases e' with⟨xs,hx,e'⟩|⟨xs,hx,e'⟩|⟨kvs,hx,e'⟩
  ·subst e'
   obtain⟨its,r,pl,hz⟩:=I.list hx;have hlen:=r.length;exact wpAny_truthy_list pl.isList (by simp only[R7];omega) ⟨H,I.tok _,by rw[sD r];exact q⟩
  ·subst e'
   obtain⟨its,r,pl,hz⟩:=I.tuple hx;have hlen:=r.length;exact truthy_tuple pl (by simp only[R7];omega) ⟨H,I.tok _,by rw[sD r];exact q⟩
  ·subst e'
   obtain⟨hz,hS,vs,r,m⟩:kvs.length<=RV/\(p==Uh)=false/\∃vs,KV kvs vs/\s.heap.DictOf (dA X.prog X.w) p vs:=I.hok p _ hx;have hlen:kvs.length=vs.length:=Paired.length r;exact wpAny_truthy_dict hS m (by omega) ⟨H,I.tok _,by rw[AH r];exact q⟩
 |_=>exact(show False from e).elim
theorem Fa(ha:PE X a ta)(he:∀whole,isTrue a X.env whole=(do let v <-whole;Uw a.pos;Vn [v] (truthy v))):
  PT X a (λσ H Q=>ta σ H λx H'=>∃k,Hs X.K x H' k/\Q k H'):=by
 intro pins s σ H Q I h;exact isTrue_plain (bR (ha pins s σ H _ I h) λv s1 ⟨x,H1,I1,r1,q1⟩=>Fw pins s1 σ H1 x v Q I1 r1 q1) (he _)
theorem Bn:dY X (SQ .Add) (λx y H Q=>∃i j,x=.str i/\y=.str j/\i.length+j.length<=RV/\Q (.str (i++j)) H):=by
 intro pins s σ H x y v u Q I rx ry h;obtain⟨i,j,rfl,rfl,hz,q⟩:=h;obtain⟨t,rfl⟩:=rx;obtain⟨t',rfl⟩:=ry;exact add_str (λt' tk=>⟨.str (i++j),H,I.tok _,⟨_,rfl⟩,q⟩) hz
theorem vals1{x:V}{us:List Q7}(r:Vals [x] us):∃u,us=[u]/\RelV x u:=by
 cases r with
 |cons r1 r2=>cases r2;exact⟨_,rfl,r1⟩
theorem vals2{x y:V}{us:List Q7}(r:Vals [x,y] us):∃u w',us=[u,w']/\RelV x u/\RelV y w':=by
 cases r with
 |cons r1 r2 =>
  cases r2 with
  |cons r3 r4=>cases r4;exact⟨_,_,rfl,r1,r3⟩
theorem CP(hc:X.calm=true):dq X (.builtin "min") (λxs H Q=>∃i j,xs=[.int i,.int j]/\Q (.int (if j<i then j else i)) H):=by
 intro pins s σ H xs us Q I r h;obtain⟨i,j,rfl,q⟩:=h;obtain⟨u,w',rfl,⟨t,rfl⟩,⟨t',rfl⟩⟩:=vals2 r;refine min_two_ints (I.ok.hd hc) λh' tk k=>⟨_,H,I.kept k,?_,q⟩
 by_cases hj:j<i
 ·rw[XU hj,XU hj];exact⟨_,rfl⟩
 ·rw[XV hj,XV hj];exact⟨_,rfl⟩
theorem uY:dq X (.type "int") (λxs H Q=>(∃i,xs=[.int i]/\Q (.int i) H)∨∃k,xs=[.bl k]/\Q (.int (if k then 1 else 0)) H):=by
 intro pins s σ H xs us Q I r h;rcases h with⟨i,rfl,q⟩|⟨k,rfl,q⟩
 ·obtain⟨u,rfl,t,rfl⟩:=vals1 r
  exact call_int_int ⟨.int i,H,I,⟨_,rfl⟩,q⟩
 ·obtain⟨u,rfl,r1⟩:=vals1 r
  cases r1;exact call_int_bool ⟨.int (if k then 1 else 0),H,I.tok _,⟨_,rfl⟩,q⟩
theorem vv:dq X (.type "str") (λxs H Q=>∃i,xs=[.int i]/\i.natAbs.log2<1920/\Q (.str (toString i)) H):=by
 intro pins s σ H xs us Q I r h;obtain⟨i,rfl,hz,q⟩:=h;obtain⟨u,rfl,t,rfl⟩:=vals1 r;exact PySem.P.str_of_int hz ⟨.str _,H,I.tok _,⟨_,rfl⟩,q⟩
def OP(K:Rs)(x:V)(H:Hp)(n:Nat):Prop:=
 match x with
 |.str y=>y.length<=RV/\n=y.length
 |.xK y=>y.size<=RV/\n=y.size
 |.ref p=>(∃xs,qk K H p xs/\n=xs.length)∨∃xs,j3 K H p xs/\n=xs.length
 |_=>False
theorem oz:dq X (.builtin "len") (λxs H Q=>∃x n,xs=[x]/\OP X.K x H n/\Q (.int n) H):=by
 intro pins s σ H xs us Q I r h;obtain⟨x,n,rfl,e,q⟩:=h;obtain⟨u,rfl,rx⟩:=vals1 r;have hl:=pz;have hs:RV=16777216:=Sh;cases x with
 |str y =>
  obtain⟨t,rfl⟩:=rx;obtain⟨hy,e'⟩:y.length<=RV/\n=y.length:=e;subst e';exact len_str (by omega) ⟨.int _,H,I.tok _,⟨_,rfl⟩,q⟩
 |xK y =>
  obtain⟨t,rfl⟩:=rx;obtain⟨hy,e'⟩:y.size<=RV/\n=y.size:=e;subst e';exact PySem.W.len_bytes (by omega) ⟨.int _,H,I.tok _,⟨_,rfl⟩,q⟩
 |ref p =>
  cases rx;have e':(∃xs,qk X.K H p xs/\n=xs.length)∨∃xs,j3 X.K H p xs/\n=xs.length:=e;rcases e' with⟨xs,hx,e'⟩|⟨xs,hx,e'⟩
  ·subst e'
   obtain⟨its,r',pl,hz⟩:=I.list hx;have hlen:=r'.length;exact Calls.call_len_list pl.isList (by simp only[R7];omega) ⟨.int xs.length,H,I.tok _,⟨_,by simp only[R7];rw[hlen]⟩,q⟩
  ·subst e'
   obtain⟨its,r',pl,hz⟩:=I.tuple hx;have hlen:=r'.length;exact len_tuple pl (by simp only[R7];omega) ⟨.int xs.length,H,I.tok _,⟨_,by simp only[R7];rw[hlen]⟩,q⟩
 |_=>exact(show False from e).elim
end
structure Ly (h:Rj) (x dx C:R3) (mA:Str->Option Q7):Prop where
 obj:h.get? x=Zz (instObj C dx)
 ns:h.Ns1 dx mA
 ne:dx≠x
theorem Dl{h:Rj}{dx:R3}{mA:Str->Option Q7}(n:h.Ns1 dx mA):∃od,h.get? dx=Zz od/\∀name,lookIn name od=Zz (mA name):=by
 obtain⟨o,es,ep,ho,hd,hk,_,hm⟩:=n;refine⟨o,ho,λname=>?_⟩;have e:=hm name;unfold nsFind findBy at e;rw[<-Array.find?_toList]at e;unfold lookIn;rw[hd];dsimp only;split
 ·rename_i y q
  rw[q]at e;exact congrArg Zz e
 ·rename_i q
  rw[q]at e;have a:es.toList.any (·.refKey)=false:=by
   rw[Vo];intro y hy;obtain⟨z,t,hkey⟩:=hk y (Array.mem_toList_iff.mp hy);simp[DictEntry.refKey,hkey]
  have a':¬es.toList.any (·.refKey)=true:=by rw[a];exact RL
  rw[XV a'];exact congrArg Zz e
theorem Ly.look{h:Rj}{x dx C:R3}{mA:Str->Option Q7}(I:Ly h x dx C mA):∃od,PySem.W.InstAt h x (instObj C dx) C (Zz od)/\∀name,lookIn name od=Zz (mA name):=
 let⟨od,ho,hl⟩:=Dl I.ns
 ⟨od,⟨I.obj,rfl,rfl,ho⟩,hl⟩
theorem oJ.some_of{v:V}{o:Option Q7}(r:oJ (Zz v) o):∃u,o=Zz u/\RelV v u:=by
 cases o with
 |none=>exact(show False from r).elim
 |some u=>exact⟨u,rfl,r⟩
theorem oJ.none_of{o:Option Q7}(r:oJ Zy o):o=Zy:=by
 cases o with
 |none=>rfl
 |some u=>exact(show False from r).elim
section
variable{P:Rk}{w:Rx}{H H':Hp}{h h':Rj}{a C dx:R3}{fs fs':List (Str×V)}
theorem J8(hok:pf P w H h)(e:H a=Zz (.ins C dx fs)):∃mA,Ly h a dx C mA/\(∀f,oJ (fs.lookup f) (mA f))/\PySem.Within mA (fs.map (·.1))/\fs.length<=1000/\H dx=Zz (.own a):=by
 obtain⟨d,z,ne,ob,mA,n,r,q⟩:=(show cL P w H h a (.ins C dx fs)from hok a _ e)
 exact⟨mA,⟨ob,n,ne⟩,r,q,z,d⟩
end
structure Pc (K:Rs) (C:R3):Prop where
 pg:PySem.W.plainGet K C Str.empty=true
 hd:PySem.W.hasDictIn K C=true
 po:PySem.W.plainOver K C=true
 sa:findIn K (.ref C) "__setattr__" = Zz (Zz (.builtin "object.__setattr__"))
theorem Pc.get{K:Rs}{C:R3}(c:Pc K C)(f:Str):PySem.W.plainGet K C f=true:=c.pg
structure P7 (K:Rs) (C:R3) (f:Str) (v:V) (u:Q7):Prop where
 at_:findIn K (.ref C) f=Zz (Zz u)
 rel:RelV v u
 get:PySem.W.specialIn K u "__get__" = Zz Zy
 cp:PySem.W.copiedNames.contains f=false
structure Meth (K:Rs) (C:R3) (m:Str) (f:R3):Prop where
 at_:findIn K (.ref C) m=Zz (Zz (.ref f))
 fn:PySem.W.isFn K (.ref f)=true
 kp:keepIn K (.ref f)=true
section
variable{X:Cx}{pins:List (R3×Obj)}{σ:St}{H:Hp}{s:R1}{A:SO}{E:Q7->R1->Prop}{Q:Q7->R1->Prop}{c:Q7}{b:Bool}
inductive qt (K:Rs) (H:Hp):V->Q7->Prop where
 |non:qt K H .non (.type "NoneType")
 |bl (x:Bool):qt K H (.bl x) (.type "bool")
 |int (i:Int):qt K H (.int i) (.type "int")
 |str (x:Str):qt K H (.str x) (.type "str")
 |flt (x:UInt64):qt K H (.flt x) (.type "float")
 |lst {a:R3}{xs:List V}(e:H a=Zz (.lst xs)):qt K H (.ref a) (.type "list")
 |lR {a:R3}{o:Obj}{xs:List V}(e:H a=Zz (.lR o (.lst xs))):qt K H (.ref a) (.type "list")
 |tup {a:R3}{xs:List V}(e:H a=Zz (.tup xs)):qt K H (.ref a) (.type "tuple")
 |dK {a:R3}{kvs:List (Key×V)}(e:H a=Zz (.dK kvs)):qt K H (.ref a) (.type "dict")
 |dT {a:R3}{kvs:List (List Key×V)}(e:H a=Zz (.dT kvs)):qt K H (.ref a) (.type "dict")
 |ins {a C dx:R3}{fs:List (Str×V)}(e:H a=Zz (.ins C dx fs)) (cl:Pc K C) (ha:findIn K (.ref C) "__class__" = Zz (Zz (.builtin "object.__class__")))
  (hn:PySem.W.specialIn K (.builtin "object.__class__") "__get__" = Zz (Zz (.builtin "getset_descriptor.__get__"))) (htk:PySem.W.takesIn K (.builtin "object.__class__")=Zz true)
  (hm:PySem.W.mroIn K C (.type "object")=Zz true):qt K H (.ref a) (.ref C)
theorem i5{x:V}{u t:Q7}(I:Inv X pins σ H s)(rx:RelV x u)(ty:qt X.K H x t)(e:PySem.W.kitOne X.K t c=Zz b)(h:∀tk,Q (.bool b) { s with toks:=tk }):
  RK (RS X.prog X.w) A (call (.builtin "isinstance") [u,c]) Q E s:=by
 cases ty with
 |non=>cases(show u=TY from rx);exact Uf PySem.W.kitx_none I.qv T8 e (λz=>nomatch z) h
 |bl y=>cases(show u=Sf y from rx);exact Uf PySem.W.kitx_bool I.qv T8 e (λz=>nomatch z) h
 |int i=>obtain⟨t,q⟩:=(show ∃t,u=Wp i t from rx);cases q;exact Uf PySem.W.kitx_int I.qv T8 e (λz=>nomatch z) h
 |str y=>obtain⟨t,q⟩:=(show ∃t,u=Ul y t from rx);cases q;exact Uf PySem.W.kitx_str I.qv T8 e (λz=>nomatch z) h
 |flt y=>obtain⟨t,q⟩:=(show ∃t,u=Value.float y t from rx);cases q;exact Uf PySem.W.kitx_float I.qv T8 e (λz=>nomatch z) h
 |@lst a xs ea =>
  cases(show u=Sn a from rx);obtain⟨_,_,n,_,h1⟩:=(show cL X.prog X.w H s.heap a (.lst xs)from I.hok a _ ea)
  exact Uf X3 I.qv ⟨_,h1,rfl⟩ e (λz=>nomatch z) h
 |@lR a ob xs ea =>
  cases(show u=Sn a from rx);obtain⟨_,_,_,n,_,h1⟩:=(show cL X.prog X.w H s.heap a (.lR ob (.lst xs))from I.hok a _ ea)
  exact Uf X3 I.qv ⟨_,h1,rfl⟩ e (λz=>nomatch z) h
 |@tup a xs ea =>
  cases(show u=Sn a from rx);obtain⟨_,_,_,p⟩:=(show cL X.prog X.w H s.heap a (.tup xs)from I.hok a _ ea)
  obtain⟨o,h1,h2,_⟩:=p;exact Uf PySem.W.kitx_tuple I.qv ⟨o,h1,h2⟩ e (λz=>nomatch z) h
 |@dK a kvs ea =>
  cases(show u=Sn a from rx);obtain⟨_,_,vs,_,p⟩:=(show cL X.prog X.w H s.heap a (.dK kvs)from I.hok a _ ea)
  obtain⟨o,es,ep,h1,h2,_⟩:=p;exact Uf PySem.W.kitx_dict I.qv ⟨o,h1,h2.1⟩ e (λz=>nomatch z) h
 |@dT a kvs ea =>
  cases(show u=Sn a from rx);obtain⟨_,_,xs,_,o,es,ep,h1,h2,_⟩:=(show cL X.prog X.w H s.heap a (.dT kvs)from I.hok a _ ea)
  exact Uf PySem.W.kitx_dict I.qv ⟨o,h1,h2.1⟩ e (λz=>nomatch z) h
 |@ins a C dx fs ea cl ha hn htk hm =>
  cases(show u=Sn a from rx);obtain⟨mA,O,_⟩:=J8 I.hok ea;obtain⟨od,J,_⟩:=O.look;exact Uf (PySem.W.kitx_own (cl.get _) cl.hd ha hn htk hm) I.qv J e (λz=>nomatch z) h
end
structure jF (k:Nat) (A:SO):Prop where
 hd:A.handled=Zy
 dp:A.depth+3*k+5<recursionLimit
 un:A.units+16*k+200<cLine
theorem jF.deeper{k:Nat}{A:SO}(r:jF (k+1) A)(env:Env):jF k (A.deeper env):=
 ⟨r.hd,by have:=r.dp;show A.depth+1+3*k+5<_;omega,by have:=r.un;show A.units+3+16*k+200<_;omega⟩
theorem jF.depth{k:Nat}{A:SO}(r:jF k A):A.depth<recursionLimit:=by have:=r.dp;omega
theorem jF.units{k:Nat}{A:SO}(r:jF k A):A.units+64<cLine:=by have:=r.un;omega
def Pf:TA:=λ_ H Q=>Q [] H
def Nw(ta:TE)(tr:TA):TA:=λσ H Q=>ta σ H λx H1=>tr σ H1 λxs H2=>Q (x::xs) H2
section
variable{X:Cx}{e:Rm}{es:List Rm}{te:TE}{t:TA}{pos:Pos}
theorem Aa:PA X [] Pf:=λ_ _ _ _ H Q I h=>Calls.spliced_nil ⟨[],H,I,.nil,h⟩
theorem qW(ha:PE X e te)(hr:PA X es t)(hs:S8 (e::es) X.env=(false,eval e X.env)::S8 es X.env:=by rfl):PA X (e::es) (Nw te t):=by
 intro pos pins s σ H Q I h;rw[hs];show RK _ _ (spliced ((false,eval e X.env)::backTo pos (S8 es X.env))) _ _ s;refine Calls.spliced_cons (bR (ha pins s σ H _ I h) λu s1 ⟨x,H1,I1,r1,q1⟩=>?_);exact bR (hr pos pins s1 σ H1 _ I1 q1) λus s2 ⟨xs,H2,I2,r2,q2⟩=>⟨x::xs,H2,I2,.cons r1 r2,q2⟩
def Pj(t:TA):TE:=λσ H Q=>t σ H λxs H1=>xs.length<=RV/\∀p,H1 p=Zy->Q (.ref p) (upd H1 p (.tup xs))
def OD(t:TA):TE:=λσ H Q=>t σ H λxs H1=>xs.length<=RV/\∀p,H1 p=Zy->Q (.ref p) (upd H1 p (.lst xs))
theorem LJ{x1}(h:PA X es t):PE X (.Tuple es x1 pos) (Pj t):=by
 intro pins s σ H Q I hq;refine wpAny_Tuple_spliced (bR (h pos pins s σ H _ I hq) λus s1 ⟨xs,H1,I1,r,z,q⟩=>⟨by rw[<-r.length];exact z,?_⟩);have hf:H1 s1.heap.objs.size=Zy:=I1.hok.fresh (RD _);refine⟨.ref s1.heap.objs.size,upd H1 s1.heap.objs.size (.tup xs),I1.laid (t':=s1.toks) (λb u e=>R0 _ e) (RD _) ?_,rfl,q _ hf⟩;exact⟨z,us,r,⟨_,RH _ rfl,rfl,⟨_,rfl⟩,rfl⟩⟩
theorem Ls(h:PA X es t):PE X (.List es pos) (OD t):=by
 intro pins s σ H Q I hq;refine wpAny_List_spliced (bR (h pos pins s σ H _ I hq) λus s1 ⟨xs,H1,I1,r,z,q⟩=>⟨by rw[<-r.length];exact z,?_⟩);have hf:H1 s1.heap.objs.size=Zy:=I1.hok.fresh (RD _);refine⟨.ref s1.heap.objs.size,upd H1 s1.heap.objs.size (.lst xs),I1.laid (t':=s1.toks) (λb u e=>R0 _ e) (RD _) ?_,rfl,q _ hf⟩;exact⟨z,us,0,r,RH _ rfl⟩
end
noncomputable abbrev Sp:=List V->Hp->VK->XK->Prop
noncomputable abbrev Js:=List Env->Hp->R1->XK->Q7->R1->Prop
structure J4 (P:Rk) (w:Rx) (K:Rs) (mg:Str->Option Q7) (base:Rj) (A:SO) (outer:List Env) (s:R1) (H:Hp):Prop where
 frames:A.frames=Zz outer
 mod:Mod K mg base
 bs:∀b o,base.get? b=Zz o->s.heap.get? b=Zz o/\H b=Zy
 Kq:base.objs.size<=s.heap.objs.size
 sU:s.heap.FunFrames base outer
 MN:∀b∈frs outer,H b=Zy
 hok:pf P w H s.heap
 bare:VV s.gens
def CE(outer:List Env)(P:Rk)(w:Rx)(H:Hp)(s:R1)(Q:VK)(u:Q7)(s':R1):Prop:=
 ∃v H',s'.os=s.os/\VV s'.gens/\Un (frs outer) [] H H' s.heap s'.heap/\pf P w H' s'.heap/\RelV v u/\Q v H'
def CR(CX:Js)(outer:List Env)(P:Rk)(w:Rx)(H:Hp)(s:R1)(Q:VK)(E:XK)(r:Result)(s':R1):Prop:=
 match r with
 |.ok (.ret u)=>CE outer P w H s Q u s'
 |.ok _=>False
 |.error e=>CX outer H s E e s'
structure oQ (P:Rk) (w:Rx) (K:Rs) (mg:Str->Option Q7) (base:Rj) (CX:Js) (k:Nat) (f:R3) (fd:TK) (ps:List Str) (sp:Sp):Prop where
 len:∀vs H Q E,sp vs H Q E->vs.length=ps.length
 run:∀(A:SO) (outer:List Env) (s:R1) (H:Hp) (args:Args) (us:List Q7) (vs:List V) (Q:VK) (E:XK),jF k A->J4 P w K mg base A outer s H->WS s fd args (ps.zip us)->Vals vs us->sp vs H Q E ->
  UI (RS P w) A (.call (.ref f) args) (CR CX outer P w H s Q E) s
section
variable{X:Cx}{pins:List (R3×Obj)}{σ:St}{H:Hp}{s s':R1}
theorem Inv.env0(I:Inv X pins σ H s):J4 X.prog X.w X.K X.mg X.base X.A X.stack s H:=
 ⟨I.ok.frames,I.ok.mod,I.bs,RZ I.ok.Kq I.sz,I.stack,I.vZ,I.hok,I.bare⟩
theorem Inv.after{Q:VK}{u:Q7}(I:Inv X pins σ H s)(h:CE X.stack X.prog X.w H s Q u s'):EP X pins σ Q u s':=by
 obtain⟨v,H',os,bare,un,hok,r,q⟩:=h;obtain⟨hh,g,d,t,os'⟩:=s';obtain rfl:os'=s.os:=os;exact⟨v,H',I.call (h':=hh) (g':=g) (d':=d) (t':=t) (ch:=[]) un hok bare (λb z=>XZ z (by simp)),r,q⟩
end
def N4(sp:Sp)(dvs:List V)(E:XK)(t:TA):TE:=λσ H Q=>t σ H λvs H1=>sp (vs++dvs) H1 Q E
def Binds(K:Rs)(fd:TK)(ps:List Str)(ds:List Q7):Prop:=
 ∀(s:R1) (us:List Q7),K.In s.heap->(us++ds).length=ps.length->WS s fd ⟨us,[]⟩ (ps.zip (us++ds))
theorem Binds.all{K:Rs}{fd:TK}{ps:List Str}(h:∀us:List Q7,us.length=ps.length->Tj fd ⟨us,[]⟩=pure (ps.zip us)):Binds K fd ps []:=λs us _ hl=>by
 rw[T9]at hl ⊢;exact .of_eq (h us hl)
def Ba(CX:Js)(X:Cx)(E:XK):Prop:=∀(pins:List (R3×Obj)) (σ:St) (H:Hp) (s:R1) (e:Q7) (s':R1),Inv X pins σ H s->CX X.stack H s E e s'->X.xe e s'
section
variable{X:Cx}{CX:Js}{k:Nat}{f C:R3}{fd:TK}{ps:List Str}{sp:Sp}{dvs:List V}{ds:List Q7}{E:XK}{x m:Str}{p pos apos:Pos}{e o:Rm}{es:List Rm}{ta:TE}{t:TA}
theorem MD{pins:List (R3×Obj)}{σ:St}{H:Hp}{s:R1}{Q:VK}{us:List Q7}{vs:List V}(F:oQ X.prog X.w X.K X.mg X.base CX k f fd ps sp)(hr:jF k X.A)(hb:Binds X.K fd ps ds)(hd:Vals dvs ds)(hx:Ba CX X E)(I:Inv X pins σ H s)(r:Vals vs us)(h:sp (vs++dvs) H Q E):RK (RS X.prog X.w) X.A (call (.ref f) us) (EP X pins σ Q) X.xe s:=by
 have r2:Vals (vs++dvs) (us++ds):=r.append hd;have hl:(us++ds).length=ps.length:=by rw[<-r2.length];exact F.len _ _ _ _ h
 refine wpAny_call (UR (F.run X.A X.stack s H ⟨us,[]⟩ (us++ds) (vs++dvs) Q E hr I.env0 (hb s us I.qv hl) r2 h) λr s' hq=>?_);cases r with
 |error e=>exact hx pins σ H s e s' I hq
 |ok fl =>
  cases fl with
  |ret u=>exact I.after hq
  |next=>exact UK hq
  |brk=>exact UK hq
  |cont=>exact UK hq
theorem JR(F:oQ X.prog X.w X.K X.mg X.base CX k f fd ps sp)(hr:jF k X.A)(hg:Gl X x)(hm:X.mg x=Zz (.ref f))(hk:keepIn X.K (.ref f)=true)(hb:Binds X.K fd ps ds)(hd:Vals dvs ds)(hx:Ba CX X E)(ha:PA X (e::es) t)(hdb:(x==("__debug__" : Str))=false:=by decide)(he:S8 (e::es) X.env=(false,eval e X.env)::S8 es X.env:=by rfl)(hpl:(backTo pos (S8 es X.env)).any (·.1)=false:=by rfl):
  PE X (.Call (.Name x p) (e::es) [] pos) (N4 sp dvs E t):=by
 intro pins s σ H Q I h;refine U4 (oG I hg hm ?_ hdb);refine PySem.W.callWith_K (h₀:=X.base) I.ok.mod.O4 hk (bR (ha pos pins s σ H _ I h) λus s1 ⟨vs,H1,I1,r,q⟩=>⟨I1.qv,?_⟩) he hpl;exact MD F hr hb hd hx I1 r q
structure Mk (K:Rs) (C f:R3):Prop where
 makes:PySem.W.makesIn K C=true
 init:findIn K (.ref C) "__init__" = Zz (Zz (.ref f))
 fn:PySem.W.isFn K (.ref f)=true
 kp:keepIn K (.ref C)=true
end
section
variable{X:Cx}{CX:Js}{k:Nat}{f C:R3}{fd:TK}{ps ks:List Str}{sp:Sp}{E:XK}{x m:Str}{p pos apos kpos:Pos}{e o:Rm}{es:List Rm}{kws:List WU}{te ta:TE}{t tk:TA}{nm:Option Str}
structure O9 (K:Rs) (fd:TK) (ps ks:List Str) (g:List Q7->List Q7->List Q7) (gV:List V->List V->List V):Prop where
 to:∀(s:R1) (us ws:List Q7),K.In s.heap->(g us ws).length=ps.length->WS s fd ⟨us,ks.zip ws⟩ (ps.zip (g us ws))
 rel:∀{vs:List V}{us:List Q7}{zs:List V}{ws:List Q7},Vals vs us->Vals zs ws->Vals (gV vs zs) (g us ws)
variable{g:List Q7->List Q7->List Q7}{gV:List V->List V->List V}
end
structure ao (N P:List Str) (sc:Uu):Prop where
 kind:sc.kind=.function
 co:sc.isCoroutine=false
 gen:sc.isGenerator=false
 nd:N.Nodup
 pre:N.take P.length=P
 O0:∀x∈P,sc.names.lookup x=Zz .local∨sc.names.lookup x=Zz .cell
 Lc:∀y∈sc.names,y.2≠.free
theorem uz{kindOf:Str->Option UL}{x:Str}:∀{binds:List (Str×Q7)}{m:Str->Option Q7},(∀v,(x,v)∉binds)->bindL kindOf binds m x=m x
 |[],_,_=>rfl
 |(n,v)::r,m,h=>by
  unfold bindL;rw[uz λw hw=>h w (RG _ hw)];split
  ·have:x≠n:=by rintro rfl;exact h v RR
   simp[this]
  ·rfl
theorem uV{kindOf:Str->Option UL}{x:Str}:∀{binds:List (Str×Q7)}{m:Str->Option Q7},(∀v,(x,v)∉binds)->bindC kindOf binds m x=m x
 |[],_,_=>rfl
 |(n,v)::r,m,h=>by
  unfold bindC;rw[uV λw hw=>h w (RG _ hw)];split
  ·rfl
  ·have:x≠n:=by rintro rfl;exact h v RR
   simp[this]
theorem uD{kindOf:Str->Option UL}{x:Str}{v:Q7}:∀{P:List Str}{vs:List Q7}{i:Nat}{m:Str->Option Q7},P.Nodup->P[i]?=Zz x->vs[i]?=Zz v->kindOf x=Zz .local ->
  bindL kindOf (P.zip vs) m x=Zz v
 |[],_,_,_,_,h,_,_=>by simp at h
 |_::_,[],_,_,_,_,h,_=>by simp at h
 |p::P,w::vs,0,m,nd,h1,h2,hk=>by
  simp at h1 h2;subst h1;subst h2;show bindL kindOf ((p,w)::P.zip vs) m p=_;unfold bindL;rw[uz λv hv=>(Ug.mp nd).1 (WF hv).1,XU hk];simp
 |p::P,w::vs,i+1,m,nd,h1,h2,hk=>by
  show bindL kindOf ((p,w)::P.zip vs) m x=_;unfold bindL;exact uD (i:=i) (Ug.mp nd).2 (by simpa using h1) (by simpa using h2) hk
theorem uL{kindOf:Str->Option UL}{x:Str}{v:Q7}:∀{P:List Str}{vs:List Q7}{i:Nat}{m:Str->Option Q7},P.Nodup->P[i]?=Zz x->vs[i]?=Zz v->kindOf x≠Zz .local ->
  bindC kindOf (P.zip vs) m x=Zz v
 |[],_,_,_,_,h,_,_=>by simp at h
 |_::_,[],_,_,_,_,h,_=>by simp at h
 |p::P,w::vs,0,m,nd,h1,h2,hk=>by
  simp at h1 h2;subst h1;subst h2;show bindC kindOf ((p,w)::P.zip vs) m p=_;unfold bindC;rw[uV λv hv=>(Ug.mp nd).1 (WF hv).1,XV hk];simp
 |p::P,w::vs,i+1,m,nd,h1,h2,hk=>by
  show bindC kindOf ((p,w)::P.zip vs) m x=_;unfold bindC;exact uL (i:=i) (Ug.mp nd).2 (by simpa using h1) (by simpa using h2) hk
noncomputable def start(N:List Str)(vs:List V):St:=vs.map Zz++RF (N.length-vs.length) Zy
noncomputable def mi(CX:Js)(P:Rk)(w:Rx)(K:Rs)(mg:Str->Option Q7)(base:Rj)(N:List Str)(qual:Str)(scope:Uu)(f:R3)(cd:Q7)(A:SO)(outer:List Env)(s:R1)(H:Hp)(E:XK):Cx where
 prog:=P
 w:=w
 K:=K
 mg:=mg
 base:=base
 A:=A.deeper (envOfC qual scope s.heap.objs.size f cd)
 N:=N
 s₀:=s
 H₀:=H
 env:=envOfC qual scope s.heap.objs.size f cd
 outer:=outer
 stack:=envOfC qual scope s.heap.objs.size f cd::outer
 ex:=[]
 calm:=true
 fn:=λ_=>true
 pn:=[]
 xe:=λe s'=>RK (RS P w) (A.deeper (envOfC qual scope s.heap.objs.size f cd)) (leaving (envOfC qual scope s.heap.objs.size f cd) e) (λ_ s''=>CX outer H s E e s'') (λe' s''=>CX outer H s E e' s'') s'
theorem yD{sc:Uu}{n:Nat}{x:Str}(h:sc.names.lookup x=Zz .cell):∃c,(Um n sc.names []).lookup x=Zz c:=by
 have q:=WI sc.names n [] (.inl h);exact Option.isSome_iff_exists.mp q
theorem DT{CX:Js}{P:Rk}{w:Rx}{K:Rs}{mg:Str->Option Q7}{base:Rj}{N ps:List Str}{qual:Str}{scope:Uu}{f:R3}{cd:Q7}{A:SO}{outer:List Env}{s s1:R1}{H:Hp}{E:XK}{us:List Q7}{vs:List V}(S:ao N ps scope)(hd:A.handled=Zy)(e0:J4 P w K mg base A outer s H)(hl:vs.length=ps.length)(r:Vals vs us)(x:InCallC s s.heap.objs.size (bindL (envOfC qual scope s.heap.objs.size f cd).kindOf (ps.zip us) λ_=>Zy) (Um (s.heap.objs.size+1) scope.names []) (bindC (envOfC qual scope s.heap.objs.size f cd).kindOf (ps.zip us) λ_=>Zy) s1):
  Inv (mi CX P w K mg base N qual scope f cd A outer s H E) [] (start N vs) H s1:=by
 have hpl:ps.length<=N.length:=by have:=congrArg Rf S.pre;rw[SF]at this;omega
 obtain⟨h1,tk,rfl,hk⟩:=x.done;have noA:∀b:R3,b∉(mi CX P w K mg base N qual scope f cd A outer s H E).ex:=λb z=>XZ (show b∈([]:List R3)from z) (by simp)
 refine⟨⟨e0.mod,S.kind,rfl,rfl,RD _,λy z c h1 h2=>?_,λy hy=>?_,λy c _ h=>?_,λ_=>hd,Around.frames_deeper e0.frames,.inr ⟨rfl,rfl⟩,λb z=>XZ z (noA b),e0.bs,e0.Kq,λb _ _=>noA b,λb z=>XZ z (noA b),e0.sU,e0.MN⟩,
  rfl,e0.bare,Un.kept hk,⟨_,x.toInCall.ns,λi y v h1 h2 h3=>?_⟩,λy c h=>⟨_,x.cell y c h⟩,e0.hok.fresh (RD _),λy c h=>?_,λp hp=>XZ (show p∈([]:List (R3×Obj))from hp) (by simp),e0.hok.kept hk,?_⟩
 ·exact name_of_addr x.apart (TL h1) (TL h2)
 ·have hy:scope.names.lookup y=Zz .cell∨scope.names.lookup y=Zz .free:=hy
  rcases hy with hy|hy
  ·exact yD hy
  ·exact XZ rfl (S.Lc _ (TL hy))
 ·exact Uv (x.above y c (TL h))
 ·have hi:i<vs.length:=by
   unfold start at h2;by_cases hi:i<vs.length
   ·exact hi
   ·rw[Ra (by simpa using hi)]at h2
    rw[T4]at h2;split at h2<;>cases h2
  have ha:vs[i]?=Zz v:=by
   unfold start at h2;rw[RX (by simpa using hi),Ru]at h2;cases e:vs[i]? with
   |none=>rw[e]at h2;cases h2
   |some a=>rw[e]at h2;cases h2;rfl
  obtain⟨u,hu,rv⟩:=r.get ha;have hp:ps[i]?=Zz y:=by
   rw[<-S.pre,List.getElem?_take_of_lt (by omega)];exact h1
  have ndP:ps.Nodup:=by rw[<-S.pre];exact S.nd.sublist (List.take_sublist _ _)
  refine⟨u,rv,?_⟩;rcases S.O0 y (Si hp)with k|k
  ·exact .inl ⟨k,uD ndP hp hu k⟩
  ·obtain⟨c,e⟩:=yD (n:=s.heap.objs.size+1) k
   refine .inr ⟨.inl k,c,e,?_⟩;have q:=x.cell y c e;rw[uL ndP hp hu (by show scope.names.lookup y≠_;rw[k];decide)]at q;exact q
 ·exact e0.hok.fresh (Uv (x.above y c (TL h)))
 ·unfold start
  show _=N.length;rw[R8,Q8,Td];omega
theorem MV{CX:Js}{P:Rk}{w:Rx}{K:Rs}{mg:Str->Option Q7}{base:Rj}{k:Nat}{f:R3}{name qual:Str}{params:X4}{body:List Rt}{scope:Uu}{dV kV doc pm cdv ct oc:Q7}{an od:Option R3}{osl:Array (Option Q7)}{N ps:List Str}{sp:Sp}(lk:K.lookup f=Zz ⟨oc,od,.func (fnOf name qual params body scope dV kV doc pm an cdv ct),osl⟩)(hcd:codeIn K cdv qual=true)(S:ao N ps scope)(len:∀vs H Q E,sp vs H Q E->vs.length=ps.length)(hbody:∀(A:SO) (outer:List Env) (s:R1) (H:Hp) (vs:List V) (Q:VK) (E:XK),jF (k+1) A->pf P w H s.heap->sp vs H Q E ->
   ∃t,dh (mi CX P w K mg base N qual scope f cdv A outer s H E) body t/\t { nx:=λ_ H'=>Q .non H',rt:=Q } (start N vs) H):
  oQ P w K mg base CX (k+1) f (fnOf name qual params body scope dV kV doc pm an cdv ct) ps sp:=by
 refine⟨len,λA outer s H args us vs Q E hr e0 hb r hsp=>?_⟩;have hl:=len _ _ _ _ hsp;have KX:K.In s.heap:=e0.mod.O4.keeps λb o e=>(e0.bs b o e).1
 have lim:s.heap.NoLimit:=e0.mod.nolimit.keeps λb o e=>(e0.bs b o e).1
 have hkind:∀y∈ps.zip us,scope.names.lookup y.1=Zz .local∨(scope.names.lookup y.1=Zz .cell/\((Um (s.heap.objs.size+1) scope.names []).lookup y.1).isSome=true):=λ⟨n,v⟩ hy=>by
  rcases S.O0 n (WF hy).1 with q|q
  ·exact .inl q
  ·exact .inr ⟨q,WI _ _ _ (.inl q)⟩
 refine codeAny_call_function hr.depth (KX _ _ lk) rfl S.co S.gen rfl (PySem.W.codeRec_of KX hcd) (hb _ _ _ _ ?_)
 refine wpAny_newFunctionEnv_cells S.kind hkind λenv he s1 x=>?_
 subst he;refine⟨lim.keeps x.toInCall.keep,codeAny_func ?_⟩;obtain⟨t,ht,hq⟩:=hbody A outer s H vs Q E hr e0.hok hsp;have I:Inv (mi CX P w K mg base N qual scope f cdv A outer s H E) [] (start N vs) H s1:=DT S hr.hd e0 hl r x;refine Sv (ht [] s1 (start N vs) H _ I hq) (λfl s' hs=>?_) λe s' hs=>hs
 have fin:∀{σ':St}{H':Hp}{v:V}{u:Q7},Inv (mi CX P w K mg base N qual scope f cdv A outer s H E) [] σ' H' s'->RelV v u->Q v H'->CE outer P w H s Q u s':=
  λ{σ' H' v u} J rv q=>⟨v,H',J.os,J.bare,J.base,J.hok,rv,q⟩
 cases fl with
 |ret u =>
  obtain⟨v,σ',H',J,rv,q⟩:=hs;exact fin J rv q
 |next =>
  obtain⟨σ',H',J,q⟩:=hs;exact fin (v:=V.non) (u:=TY) J rfl q
 |brk =>
  obtain⟨_,_,_,q⟩:=hs;exact UK q
 |cont =>
  obtain⟨_,_,_,q⟩:=hs;exact UK q
section
variable{X:Cx}{x:Str}{p pos:Pos}{e:Rm}{es:List Rm}{t:TA}{id T:String}{r:List V->Hp->VK->Prop}
def OT(r:List V->Hp->VK->Prop)(t:TA):TE:=λσ H Q=>t σ H λvs H1=>r vs H1 Q
theorem xL(hc:dq X (.builtin id) r)(hg:Gl X x)(hm:X.mg x=Zy)(hv:Sw x=Zz (.builtin id))(ha:PA X (e::es) t)(hn:x≠"__name__":=by decide)(hdb:(x==("__debug__" : Str))=false:=by decide)(he:S8 (e::es) X.env=(false,eval e X.env)::S8 es X.env:=by rfl)(hpl:(backTo pos (S8 es X.env)).any (·.1)=false:=by rfl):PE X (.Call (.Name x p) (e::es) [] pos) (OT r t):=by
 intro pins s σ H Q I h;refine U4 (kE I hg hm hv ?_ hn hdb);exact PyProof.Rows.callWith_builtin1 (bR (ha pos pins s σ H _ I h) λus s1 ⟨vs,H1,I1,r1,q1⟩=>hc pins s1 σ H1 vs us Q I1 r1 q1) he hpl
theorem uH(hc:dq X (.type T) r)(hg:Gl X x)(hm:X.mg x=Zy)(hv:Sw x=Zz (.type T))(ha:PA X (e::es) t)(hn:x≠"__name__":=by decide)(hdb:(x==("__debug__" : Str))=false:=by decide)(he:S8 (e::es) X.env=(false,eval e X.env)::S8 es X.env:=by rfl)(hpl:(backTo pos (S8 es X.env)).any (·.1)=false:=by rfl):PE X (.Call (.Name x p) (e::es) [] pos) (OT r t):=by
 intro pins s σ H Q I h;refine U4 (kE I hg hm hv ?_ hn hdb);exact Sk (bR (ha pos pins s σ H _ I h) λus s1 ⟨vs,H1,I1,r1,q1⟩=>hc pins s1 σ H1 vs us Q I1 r1 q1) he hpl
end
end L2
namespace HT
open PySem PyProof.Rows
section
variable{prog:Rk}{w:Rx}{A:SO}{E:Q7->R1->Prop}{s:R1}
theorem IH{t b:R3}{vs ws:List Q7}{Q:Q7->R1->Prop}(ht:Wv s.heap t vs.toArray)(hb:Wv s.heap b ws.toArray)(hv:vs≠[])(h1:ws=[]->Q (.ref t) s)(h2:ws≠[]->Q (.ref s.heap.objs.size) { s with heap:=s.heap.push { cls:=.type "tuple",data:=.seq (vs++ws).toArray } })(hsz:vs.length+ws.length<=RV):RK (RS prog w) A (SQ .Add (.ref t) (.ref b)) Q E s:=by
 obtain⟨⟨cls,dd,data,sl⟩,ho,hc,n,hd⟩:=id ht;obtain⟨⟨cls2,dd2,data2,sl2⟩,ho2,hc2,n2,hd2⟩:=id hb;simp only at hc hd hc2 hd2;subst hc hd hc2 hd2;have e:vs.toArray++ws.toArray=(vs++ws).toArray:=by simp
 by_cases hw:ws=[]
 ·exact Wf ⟨_,ho,rfl⟩ ⟨_,ho2,rfl⟩ W3 WX Ux Uo (UY _ _)
   (tuple_addW1 t b vs.toArray ws.toArray n n2 dd dd2 sl sl2 (by simpa using hv) (by simp[hw])) ⟨ho,ho2,h1 hw⟩
 ·refine Wf ⟨_,ho,rfl⟩ ⟨_,ho2,rfl⟩ W3 WX Ux Uo (UY _ _)
   (tuple_addW2 t b vs.toArray ws.toArray n n2 dd dd2 sl sl2 (by simpa using hv) (by simpa using hw) (by rw[R7,R7];exact hsz)) ⟨ho,ho2,?_⟩
  rw[e];exact h2 hw
noncomputable def cb(n d:Nat):Option Int->Nat
 |none=>d
 |some v=>if v<0 then(v+(n:Int)).toNat else min v.toNat n
theorem FH(n d:Nat)(hd:d<=n)(o:Option Int):cb n d o<=n:=by
 cases o with
 |none=>exact hd
 |some v =>
  show(if v<0 then(v+(n:Int)).toNat else min v.toNat n)<=n;by_cases hv:v<0
  ·rw[XU hv];omega
  ·rw[XV hv];exact Nat.min_le_right _ _
theorem B5(v:Int)(n d:Nat):(if v<0 then max (v+(n:Int)) 0 else min v (n:Int))=((cb n d (Zz v):Nat):Int):=by
 show(if v<0 then max (v+(n:Int)) 0 else min v (n:Int))=(((if v<0 then(v+(n:Int)).toNat else min v.toNat n):Nat):Int)
 by_cases hv:v<0
 ·simp only[XU hv];omega
 ·simp only[XV hv];omega
theorem A3(lo hi:Option Int)(n:Nat):UW lo hi 1 (n:Int)=(((cb n 0 lo:Nat):Int),((cb n n hi:Nat):Int)):=by
 have h1:¬((1:Int)<0):=by omega
 unfold UW;simp only[h1,if_false];refine Prod.ext ?_ ?_
 ·cases lo with
  |none=>rfl
  |some v=>exact B5 v n 0
 ·cases hi with
  |none=>rfl
  |some v=>exact B5 v n n
theorem Bv(i j:Nat):Tf (i:Int) (j:Int) 1=j-i:=by
 unfold Tf;have h1:(1:Int)>0:=by omega
 simp only[h1,if_true,Int.ediv_one];split<;>omega
theorem rF{v:Q7}{o:Option Int}{Q:Option Int->R1->Prop}(p:V7 v o)(h:Q o s):RK (RS prog w) A (Builtin.Slice.slicePartIndex v) Q E s:=by
 cases p with
 |none=>exact slicePart_none h
 |int i t=>exact slicePart_int h
theorem iE{sl:R3}{vl vu:Q7}{lo hi:Option Int}{n:Nat}{Q:Int×Int×Nat->R1->Prop}(hs:s.heap.IsSliceOf sl vl vu .none)(pl:V7 vl lo)(pu:V7 vu hi)(h:Q (((cb n 0 lo:Nat):Int),1,cb n n hi-cb n 0 lo) s):RK (RS prog w) A (Builtin.Slice.sliceApplied (.ref sl) (pure (n:Int))) Q E s:=by
 obtain⟨os,hos,hcs,hds⟩:=id hs;unfold Builtin.Slice.sliceApplied Builtin.Slice.sliceFields;refine Q6 (Q6 (SL hos hds (x:=vl) rfl (Q6 (SL hos hds (x:=vu) rfl (Q6 (SL hos hds (x:=.none) rfl (Q9 ?_)))))));refine Q6 (slicePart_none ?_);show RK _ _ (if((1:Int)==0)=true then _ else _) _ _ s;rw[XV (by decide)];refine Q6 (rF pl (Q6 (rF pu (Q6 (Q9 ?_)))));show RK _ _ (match UW lo hi 1 (n:Int)with|(lo,hi)=>pure (lo,(1:Int),Tf lo hi 1)) _ _ s;rw[A3 lo hi n];show RK _ _ (pure (((cb n 0 lo:Nat):Int),(1:Int),Tf ((cb n 0 lo:Nat):Int) ((cb n n hi:Nat):Int) 1)) _ _ s;rw[Bv];exact Q9 h
theorem EG(xs:Array Q7)(i k:Nat):((SA k).filterMap λ(m:Nat)=>xs[((i:Int)+(m:Int)*1).toNat]?).toArray=((xs.toList.drop i).take k).toArray:=by
 have e:(λ(m:Nat)=>xs[((i:Int)+(m:Int)*1).toNat]?)=λm=>xs[i+m]?:=by
  funext m
  have:((i:Int)+(m:Int)*1).toNat=i+m:=by omega
  rw[this]
 rw[e];have:=pick_run xs i k;rw[List.filterMap_map]at this;have e2:((λx=>xs[x]?) ∘ λx=>i+x)=λm=>xs[i+m]?:=rfl
 rw[e2]at this;rw[this]
theorem n8{t sl:R3}{items:Array Q7}{vl vu:Q7}{lo hi:Option Int}{Q:Q7->R1->Prop}(ht:Wv s.heap t items)(hs:s.heap.IsSliceOf sl vl vu .none)(pl:V7 vl lo)(pu:V7 vu hi)(hw:¬(cb items.size 0 lo=0/\cb items.size items.size hi=items.size))(h:Q (.ref s.heap.objs.size) { s with heap:=s.heap.push { cls:=.type "tuple",data:=.seq ((items.toList.drop (cb items.size 0 lo)).take (cb items.size items.size hi-cb items.size 0 lo)).toArray } })(hsz:items.size<=RV):RK (RS prog w) A (VD (.ref t) (.ref sl)) Q E s:=by
 have htake:sizeOk (.seq ((items.toList.drop (cb items.size 0 lo)).take (cb items.size items.size hi-cb items.size 0 lo)).toArray):=by
  show((items.toList.drop (cb items.size 0 lo)).take (cb items.size items.size hi-cb items.size 0 lo)).toArray.size<=RV;rw[R7,SF,W4,Ry];omega
 have hj:cb items.size items.size hi<=items.size:=FH _ _ (RD _) hi;obtain⟨os,hos,hcs,hds⟩:=id hs;have hTs:s.TypeIs (.ref sl) "slice":=⟨os,hos,hcs⟩
 unfold VD
 try with_reducible refine Sc ?_
 first|refine Q6 (Q9 ?_)|skip
 refine Q6 (wpAny_sequenceKey ht.typeIs (by decide) ?_);refine Q6 (Rv (name:=Wg "__getitem__") ht.typeIs Ss
  (S7 Ss ht.typeIs entry_tuple_getitem ?_ (args_tuple_getitem _ _)))
 show RK _ _ (Builtin.Tuple.tupleItemsOf (.ref t) >>= _) _ _ s;refine Q6 (tupleItemsOf_ ht ?_);refine Q6 (VW hTs ?_);rw[XU (by decide)];refine Q6 (iE hs pl pu ?_);have hno:¬((((cb items.size 0 lo:Nat):Int)==0&&(1:Int)==1&&(cb items.size items.size hi-cb items.size 0 lo)==items.size)=true):=by
  intro q;rw[R6,R6]at q;have q1:((cb items.size 0 lo:Nat):Int)=0:=eq_of_beq q.1.1;have q2:cb items.size items.size hi-cb items.size 0 lo=items.size:=eq_of_beq q.2;exact hw ⟨by omega,by omega⟩
 show RK _ _ (if(((cb items.size 0 lo:Nat):Int)==0&&(1:Int)==1&&(cb items.size items.size hi-cb items.size 0 lo)==items.size)=true then _ else _) _ _ s;rw[XV hno,EG]
 first
  |exact Q6 (m:=Ts _) (S9 (Q9 ⟨_,rfl,Q9 h⟩) htake)
  |exact Q6 (m:=Ts _) (S9 (Q6 (Q9 (Q9 ⟨_,rfl,Q9 h⟩))) htake)
  |exact Q6 (Q6 (m:=Ts _) (S9 (Q9 (Q9 ⟨_,rfl,Q9 h⟩)) htake))
  |exact Q6 (Q6 (m:=Ts _) (S9 (Q9 ⟨_,rfl,Q9 h⟩) htake))
end
end HT
namespace L2
open PySem PySem.Spec PyProof.Rows
noncomputable abbrev TO:=St->Hp->(Option Int->Hp->Prop)->Prop
def PO(X:Cx)(e:Option Rm)(t:TO):Prop:=
 ∀(pins:List (R3×Obj)) (s:R1) (σ:St) (H:Hp) (Q:Option Int->Hp->Prop),Inv X pins σ H s->t σ H Q ->
  RK (RS X.prog X.w) X.A (evalPart e X.env) (λu s'=>∃o H',Inv X pins σ H' s'/\V7 u o/\Q o H') X.xe s
def JJ:TO:=λ_ H Q=>Q Zy H
def MZ(t:TE):TO:=λσ H Q=>t σ H λx H1=>∃i,x=.int i/\Q (Zz i) H1
section
variable{X:Cx}{e:Rm}{te:TE}{lo hi:Option Rm}{tl th:TO}{pos p2:Pos}
theorem Jr:PO X Zy JJ:=by
 intro pins s σ H Q I h;rw[evalPart_none];exact Q9 ⟨Zy,H,I,.none,h⟩
theorem Iu(h:PE X e te):PO X (Zz e) (MZ te):=by
 intro pins s σ H Q I hw;rw[evalPart_some];refine bR (h pins s σ H _ I hw) λu s1 ⟨x,H1,I1,r1,q1⟩=>?_
 obtain⟨i,rfl,q⟩:=q1;obtain⟨t,rfl⟩:=r1;exact⟨Zz i,H1,I1,.int i t,q⟩
def Oh(X:Cx)(r:V->Option Int->Option Int->Hp->VK->Prop):Prop:=
 ∀(pins:List (R3×Obj)) (s:R1) (σ:St) (H:Hp) (x:V) (v vl vu:Q7) (lo hi:Option Int) (sl:R3) (Q:VK),Inv X pins σ H s->RelV x v->s.heap.IsSliceOf sl vl vu .none->V7 vl lo->V7 vu hi->r x lo hi H Q ->
  ∃T id,Wc (.type T) "__getitem__" = pure (Zz (.builtin id))/\s.TypeIs v T/\RK (RS X.prog X.w) X.A (VD v (.ref sl)) (EP X pins σ Q) X.xe s
def P4(r:V->Option Int->Option Int->Hp->VK->Prop)(te:TE)(tl th:TO):TE:=λσ H Q=>te σ H λx H1=>tl σ H1 λl H2=>th σ H2 λu H3=>r x l u H3 Q
theorem GL{r:V->Option Int->Option Int->Hp->VK->Prop}(hr:Oh X r)(he:PE X e te)(hl:PO X lo tl)(hu:PO X hi th):PE X (.Subscript e (.Slice lo hi Zy p2) pos) (P4 r te tl th):=by
 intro pins s σ H Q I h;refine Wy (bR (he pins s σ H _ I h) λv s1 ⟨x,H1,I1,r1,q1⟩=>?_);refine wpAny_Slice (bR (hl pins s1 σ H1 _ I1 q1) λvl s2 ⟨l,H2,I2,pl,q2⟩=>bR (hu pins s2 σ H2 _ I2 q2) λvu s3 ⟨u,H3,I3,pu,q3⟩=>?_);rw[evalPart_none];refine Q9 ?_;have I4:Inv X pins σ H3 { s3 with heap:=s3.heap.push { cls:=.type "slice",data:=.fields #[vl,vu,.none] } }:=I3.kept (t':=s3.toks) λb ob q=>R0 _ q
 obtain⟨T,id,hT,ht,hg⟩:=hr pins { s3 with heap:=s3.heap.push { cls:=.type "slice",data:=.fields #[vl,vu,.none] } } σ H3 x v vl vu l u s3.heap.objs.size Q I4 r1 (Heap.IsSliceOf.new ..) pl pu q3;show RK (RS X.prog X.w) X.A (WY e (.Slice lo hi Zy p2) v (.ref s3.heap.objs.size)) (EP X pins σ Q) X.xe { s3 with heap:=s3.heap.push { cls:=.type "slice",data:=.fields #[vl,vu,.none] } };exact tail_any (ops:=[.ref s3.heap.objs.size,v]) ht hT hg (by with_unfolding_all rfl)
noncomputable def Aq(xs:List V)(lo hi:Option Int):List V:=(xs.drop (HT.cb xs.length 0 lo)).take (HT.cb xs.length xs.length hi-HT.cb xs.length 0 lo)
theorem pU(xs:List V)(lo hi:Option Int):(Aq xs lo hi).length<=xs.length:=by
 unfold Aq;rw[SF,W4];omega
def O7(K:Rs):V->Option Int->Option Int->Hp->VK->Prop:=λx lo hi H Q=>∃a xs,x=.ref a/\j3 K H a xs /\
 ¬(HT.cb xs.length 0 lo=0/\HT.cb xs.length xs.length hi=xs.length)/\∀p,H p=Zy->Q (.ref p) (upd H p (.tup (Aq xs lo hi)))
theorem Lg:Oh X (O7 X.K):=by
 intro pins s σ H x v vl vu lo hi sl Q I rx hs pl pu h;obtain⟨a,xs,rfl,hx,hw,q⟩:=h;cases rx;obtain⟨its,r,ht,hz⟩:=I.tuple hx;have hlen:its.toArray.size=xs.length:=by rw[R7];exact r.length.symm
 refine⟨"tuple",_,PyProof.Rows.slot_tuple_getitem.lookup,ht.typeIs,?_⟩;refine HT.n8 ht hs pl pu (by rw[hlen];exact hw) ?_ (by rw[hlen];exact hz);rw[hlen];refine⟨.ref s.heap.objs.size,_,I.laid (t':=s.toks) (o:=.tup (Aq xs lo hi)) (λb ob q=>R0 _ q) (RD _) ?_,rfl,q _ (I.hok.fresh (RD _))⟩;exact⟨RZ (pU xs lo hi) hz,_,(r.drop (HT.cb xs.length 0 lo)).take (HT.cb xs.length xs.length hi-HT.cb xs.length 0 lo),sn.new _ _⟩
def Ng(K:Rs):R2:=λx y H Q=>∃a b xs ys,x=.ref a/\y=.ref b/\j3 K H a xs/\j3 K H b ys/\xs≠[]/\xs.length+ys.length<=RV /\
 (ys=[]->Q (.ref a) H)/\(ys≠[]->∀p,H p=Zy->Q (.ref p) (upd H p (.tup (xs++ys))))
theorem Vals.jo{xs:List V}{us:List Q7}(r:Vals xs us):us=[]↔xs=[]:=by
 cases r with
 |nil=>simp
 |cons _ _=>simp
theorem JT:dY X (SQ .Add) (Ng X.K):=by
 intro pins s σ H x y v u Q I rx ry h;obtain⟨a,b,xs,ys,rfl,rfl,ha,hb,hx,hz,q1,q2⟩:=h;cases rx;cases ry;obtain⟨its,r1,p1,_⟩:=I.tuple ha;obtain⟨its2,r2,p2,_⟩:=I.tuple hb;refine HT.IH p1 p2 (λz=>hx (r1.jo.mp z)) (λz=>⟨.ref a,H,I,rfl,q1 (r2.jo.mp z)⟩) (λz=>?_) (by rw[<-r1.length,<-r2.length];exact hz);refine⟨.ref s.heap.objs.size,_,I.laid (t':=s.toks) (o:=.tup (xs++ys)) (λb ob q=>R0 _ q) (RD _) ?_,rfl,q2 (λw=>z (r2.jo.mpr w)) _ (I.hok.fresh (RD _))⟩;exact⟨by rw[R8];exact hz,_,r1.append r2,sn.new _ _⟩
end
noncomputable def KU(n:Nat)(i:Int):Option Nat:=if 0<=i then(if i<n then Zz i.toNat else Zy)else if -(n:Int)<=i then Zz (i+n).toNat else Zy
noncomputable def K5{α:Type}(xs:List α)(i:Int):Option α:=(KU xs.length i).bind λj=>xs[j]?
theorem wL{n:Nat}{i:Int}{j:Nat}(h:KU n i=Zz j):X5 i n=Zz j/\j<n/\-(n:Int)<=i/\i<n:=by
 unfold KU at h;by_cases h0:0<=i
 ·rw[XU h0]at h
  by_cases h1:i<n
  ·rw[XU h1]at h
   have e:i.toNat=j:=Rr h;exact⟨by rw[Ws h0 h1,e],by omega,by omega,h1⟩
  ·rw[XV h1]at h;cases h
 ·rw[XV h0]at h
  by_cases h1:-(n:Int)<=i
  ·rw[XU h1]at h
   have e:(i+n).toNat=j:=Rr h;exact⟨by rw[Wh (by omega) h1,e],by omega,h1,by omega⟩
  ·rw[XV h1]at h;cases h
theorem vT{α:Type}{xs:List α}{i:Int}{v:α}(h:K5 xs i=Zz v):∃j,X5 i xs.length=Zz j/\xs[j]?=Zz v/\j<xs.length/\-(xs.length:Int)<=i/\i<xs.length:=by
 unfold K5 at h;cases e:KU xs.length i with
 |none=>rw[e]at h;cases h
 |some j =>
  rw[e]at h;obtain⟨h1,h2,h3,h4⟩:=wL e;exact⟨j,h1,h,h2,h3,h4⟩
def B4(b:Rm):Prop:=∀o i,WJ b false o i=operate [o,i] (VD o i)
def No(X:Cx)(r:R2):Prop:=
 ∀(value slice:Rm) (pins:List (R3×Obj)) (s:R1) (σ:St) (H:Hp) (x y:V) (v u:Q7) (Q:VK),Inv X pins σ H s->RelV x v->RelV y u->r x y H Q ->
  WJ slice false v u=operate [v,u] (VD v u)->RK (RS X.prog X.w) X.A (WY value slice v u) (EP X pins σ Q) X.xe s
def KA(X:Cx)(id:String)(r:V->List V->Hp->VK->Prop):Prop:=
 ∀(pins:List (R3×Obj)) (s:R1) (σ:St) (H:Hp) (x:V) (xs:List V) (v:Q7) (us:List Q7) (Q:VK),Inv X pins σ H s->RelV x v->Vals xs us->r x xs H Q ->
  RK (RS X.prog X.w) X.A (call (.builtin id) (v::us)) (EP X pins σ Q) X.xe s
section
variable{X:Cx}{a b:Rm}{ta tb:TE}{pos:Pos}
theorem Nv{r:R2}(hr:No X r)(ha:PE X a ta)(hb:PE X b tb)(hs:B4 b):PE X (.Subscript a b pos) (NK r ta tb):=by
 intro pins s σ H Q I h;exact Wy (kI ha hb I h λv u s2 x y H2 I2 rx ry q=>hr a b pins s2 σ H2 x y v u Q I2 rx ry q (hs _ _))
inductive OW (K:Rs) (x:V) (y:V) (H:Hp) (Q:VK):Prop where
 |mk (p xs i v) (_:x=.ref p) (_:y=.int i) (_:qk K H p xs) (_:K5 xs i=Zz v) (_:Q v H)
inductive Ps (K:Rs) (x:V) (y:V) (H:Hp) (Q:VK):Prop where
 |mk (p xs i v) (_:x=.ref p) (_:y=.int i) (_:j3 K H p xs) (_:K5 xs i=Zz v) (_:Q v H)
inductive ON  (x:V) (y:V) (H:Hp) (Q:VK):Prop where
 |mk (z i c) (_:x=.str z) (_:y=.int i) (_:z.length<=RV) (_:K5 z.cps.toList i=Zz c) (_:Q (.str ⟨#[c]⟩) H)
theorem Ct:No X (OW X.K):=by
 intro value slice pins s σ H x y v u Q I rx ry h hs;obtain⟨p,xs,i,z,rfl,rfl,hq,he,q⟩:=h;cases rx;obtain⟨t,rfl⟩:=ry;obtain⟨its,r,pl,hz⟩:=I.list hq;obtain⟨j,h1,h2,h3,h4,h5⟩:=vT he;obtain⟨w,ew,rw'⟩:=r.get h2;have hl:=r.length;have hn:=pz;have fin:EP X pins σ Q w s:=⟨z,H,I,rw',q⟩
 by_cases h0:0<=i
 ·have hj:i.toNat=j:=by
   rw[Ws h0 h5]at h1;exact Rr h1
  exact item_listR pl.isList h0 (by omega) (by rw[hj];simpa using ew) fin hs
 ·have hj:(i+(its.toArray.size:Int)).toNat=j:=by
   rw[Wh (by omega) h4]at h1;rw[R7,<-hl];exact Rr h1
  exact subscriptTail_builtinR (x:=w) pl.isList.typeIs slot_list_getitem.lookup
   (wpAny_getItem_list_neg (Q:=λr s'=>r=w/\EP X pins σ Q r s') pl.isList (by omega) (by rw[R7]<;>omega) (by omega) (by rw[hj];simpa using ew) ⟨rfl,fin⟩) hs
theorem Mw:No X (Ps X.K):=by
 intro value slice pins s σ H x y v u Q I rx ry h hs;obtain⟨p,xs,i,z,rfl,rfl,hq,he,q⟩:=h;cases rx;obtain⟨t,rfl⟩:=ry;obtain⟨its,r,pl,hz⟩:=I.tuple hq;obtain⟨j,h1,h2,h3,h4,h5⟩:=vT he;obtain⟨w,ew,rw'⟩:=r.get h2;have hl:=r.length;have hn:=pz;have fin:EP X pins σ Q w s:=⟨z,H,I,rw',q⟩
 exact subscriptTail_builtinR (x:=w) pl.typeIs slot_tuple_getitem.lookup
  (getItem_tuple (j:=j) (Q:=λr s'=>r=w/\EP X pins σ Q r s') pl (by omega) (by omega) (by rw[R7,<-hl];exact h1) (by simpa using ew) ⟨rfl,fin⟩) hs
theorem Mj:No X ON:=by
 intro value slice pins s σ H x y v u Q I rx ry h hs;obtain⟨z,i,c,rfl,rfl,hz,he,q⟩:=h;obtain⟨t,rfl⟩:=rx;obtain⟨t',rfl⟩:=ry;obtain⟨j,h1,h2,h3,h4,h5⟩:=vT he;have hl:z.cps.toList.length=z.length:=by simp[SN]
 rw[hl]at h1 h4 h5;have hn:=pz;exact tail_any (U5 s z t) slot_str_getitem.lookup (getItem_str (c:=c) (by
  have e1:decide (i < -(2^63:Int))=false:=XW (by omega);have e2:decide (i ≥ 2^63)=false:=XW (by omega);rw[e1,e2,Vv]) (by rw[h1];simpa using h2) ⟨.str ⟨#[c]⟩,H,I.tok _,⟨_,rfl⟩,q⟩) hs
theorem Bg(its:List Q7)(n j:Nat)(u:Q7):U6 (·.setIfInBounds j u) { cls:=.type "list",data:=.seq its.toArray n }={ cls:=.type "list",data:=.seq (its.set j u).toArray n }:=by
 simp[U6]
theorem Inv.lst{pins:List (R3×Obj)}{σ:St}{H:Hp}{s:R1}{p:R3}{xs:List V}(I:Inv X pins σ H s)(h:H p=Zz (.lst xs)):
  ∃(its:List Q7) (n:Nat),Vals xs its/\s.heap.get? p=Zz { cls:=.type "list",data:=.seq its.toArray n }/\xs.length<=RV:=by
 obtain⟨z,its,n,r,e⟩:=I.hok p _ h;exact⟨its,n,r,e,z⟩
theorem Inv.LV{pins:List (R3×Obj)}{σ:St}{H:Hp}{s:R1}{p:R3}{xs ys:List V}{its its':List Q7}{n n':Nat}{f:Obj->Obj}(I:Inv X pins σ H s)(h:H p=Zz (.lst xs))(ho:s.heap.get? p=Zz { cls:=.type "list",data:=.seq its.toArray n })(hf:f { cls:=.type "list",data:=.seq its.toArray n }={ cls:=.type "list",data:=.seq its'.toArray n' })(r:Vals ys its')(hz:ys.length<=RV)(t:Nat):
  Inv X pins σ (upd H p (.lst ys)) { s with heap:=s.heap.update p f,toks:=t }:=by
 have e:(s.heap.update p f).get? p=Zz { cls:=.type "list",data:=.seq its'.toArray n' }:=by
  rw[S4 f ho (by rw[hf]<;>rfl),hf]
 refine I.write (x:=p) (e:=p) (by rw[h];trivial) (.inl rfl) (λb u hb q=>(S0 _ _ (Sj hb)).trans q) ⟨_,e⟩ ?_;exact⟨hz,its',n',r,e⟩
inductive MP  (o:V) (i:V) (v:V) (H:Hp) (Q:(Hp->Prop)):Prop where
 |mk (p xs k j) (_:o=.ref p) (_:i=.int k) (_:H p=Zz (.lst xs)) (_:KU xs.length k=Zz j) (_:Q (upd H p (.lst (xs.set j v))))
theorem set_list:NW X MP:=by
 intro pins s σ H o i v ov iv u Q I ro ri rv h;obtain⟨p,xs,k,j,rfl,rfl,hp,hj,q⟩:=h;cases ro;obtain⟨t,rfl⟩:=ri;obtain⟨its,n,r,ho,hz⟩:=I.lst hp;obtain⟨h1,h2,h3,h4⟩:=wL hj;have hl:=r.length;have hn:=pz;have I':Inv X pins σ (upd H p (.lst (xs.set j v))) { s with heap:=s.heap.update p (U6 (·.setIfInBounds j u)) }:=
  I.LV hp ho (Bg its n j u) (r.set rv j) (by rw[SR];exact hz) s.toks
 by_cases h0:0<=k
 ·have hk:k.toNat=j:=by
   rw[Ws h0 h4]at h1;exact Rr h1
  exact PySem.W.ki_setAt ho h0 (by omega) (by rw[R7,<-hl];exact h4) (by rw[hk];exact⟨_,I',q⟩)
 ·have hk:(k+(its.toArray.size:Int)).toNat=j:=by
   rw[Wh (by omega) h3]at h1;rw[R7,<-hl];exact Rr h1
  exact PySem.W.ki_setBack ho (by omega) (by rw[R7,<-hl];exact h3) (by omega) (by rw[hk];exact⟨_,I',q⟩)
theorem xA(lo hi:Option Int)(n:Nat):(Uq lo hi Zy n).1=((HT.cb n 0 lo:Nat):Int)/\(Uq lo hi Zy n).2.1=((HT.cb n n hi:Nat):Int)/\(Uq lo hi Zy n).2.2=1:=by
 refine⟨?_,?_,rfl⟩
 ·cases lo with
  |none=>simp[Uq,HT.cb]
  |some i =>
   simp only[Uq,HT.cb,Option.getD_none,show(1:Int)>0 by decide,if_true];by_cases h:i<0
   ·simp only[h,if_true]<;>omega
   ·simp only[h,if_false]<;>omega
 ·cases hi with
  |none=>simp[Uq,HT.cb]
  |some i =>
   simp only[Uq,HT.cb,Option.getD_none,show(1:Int)>0 by decide,if_true];by_cases h:i<0
   ·simp only[h,if_true]<;>omega
   ·simp only[h,if_false]<;>omega
theorem ur(its:List Q7)(lo hi:Option Int):slicePick its.toArray lo hi Zy=((its.drop (HT.cb its.length 0 lo)).take (HT.cb its.length its.length hi-HT.cb its.length 0 lo)).toArray:=by
 obtain⟨h1,h2,h3⟩:=xA lo hi its.toArray.size;unfold slicePick;rw[h1,h2,h3];simp only[sliceRange_one,pick_run,R7]<;>rfl
def OQ(K:Rs):V->Option Int->Option Int->Hp->VK->Prop:=λx lo hi H Q=>∃a xs,x=.ref a/\qk K H a xs/\∀p,H p=Zy->Q (.ref p) (upd H p (.lst (Aq xs lo hi)))
theorem Cz:Oh X (OQ X.K):=by
 intro pins s σ H x v vl vu lo hi sl Q I rx hs pl pu h;obtain⟨a,xs,rfl,hx,q⟩:=h;cases rx;obtain⟨its,r,ht,hz⟩:=I.list hx;have hlen:=r.length;refine⟨"list",_,slot_list_getitem.lookup,ht.isList.typeIs,?_⟩;refine wpAny_getItem_list_slice ht.isList hs pl pu .none (by simp) ?_ (by rw[R7]<;>omega);rw[ur,<-hlen];refine⟨.ref s.heap.objs.size,_,I.laid (t':=s.toks) (o:=.lst (Aq xs lo hi)) (λb ob q=>R0 _ q) (RD _) ?_,rfl,q _ (I.hok.fresh (RD _))⟩;exact⟨RZ (pU xs lo hi) hz,_,0,(r.drop (HT.cb xs.length 0 lo)).take (HT.cb xs.length xs.length hi-HT.cb xs.length 0 lo),RH _ rfl⟩
noncomputable def jX:V->Bool
 |.non=>true
 |.bl _=>true
 |.int _=>true
 |.str _=>true
 |_=>false
noncomputable def Hn:V->V->Bool
 |.non,.non=>true
 |.bl a,.bl b=>a==b
 |.bl a,.int b=>(if a then 1 else 0)==b
 |.int a,.bl b=>a==(if b then 1 else 0)
 |.int a,.int b=>a==b
 |.str a,.str b=>a==b
 |_,_=>false
theorem LW{A:SO}{s:R1}{y x:V}{u v:Q7}(ry:RelV y u)(rx:RelV x v)(fy:jX y=true)(fx:jX x=true):Wd A s u v (Hn y x):=by
 cases y with
 |non =>
  cases ry;cases x with
  |non=>cases rx;exact SeqAt.EqAt.same _
  |bl b=>cases rx;exact SeqAt.EqAt.none_bool b
  |int b=>obtain⟨t,rfl⟩:=rx;exact SeqAt.EqAt.none_int b t
  |str b=>obtain⟨t,rfl⟩:=rx;exact SeqAt.EqAt.none_str b t
  |_=>exact XZ (show false=true from fx) RL
 |bl a =>
  cases ry;cases x with
  |non=>cases rx;exact SeqAt.EqAt.bool_none a
  |bl b=>cases rx;exact SeqAt.EqAt.bool_bool a b
  |int b=>obtain⟨t,rfl⟩:=rx;exact SeqAt.EqAt.bool_int a b t
  |str b=>obtain⟨t,rfl⟩:=rx;exact SeqAt.EqAt.bool_str a b t
  |_=>exact XZ (show false=true from fx) RL
 |int a =>
  obtain⟨t',rfl⟩:=ry;cases x with
  |non=>cases rx;exact SeqAt.EqAt.int_none a t'
  |bl b=>cases rx;exact SeqAt.EqAt.int_bool a t' b
  |int b=>obtain⟨t,rfl⟩:=rx;exact SeqAt.EqAt.int_int a t' b t
  |str b=>obtain⟨t,rfl⟩:=rx;exact SeqAt.EqAt.int_str a t' b t
  |_=>exact XZ (show false=true from fx) RL
 |str a =>
  obtain⟨t',rfl⟩:=ry;cases x with
  |non=>cases rx;exact SeqAt.EqAt.str_none a t'
  |bl b=>cases rx;exact SeqAt.EqAt.str_bool a t' b
  |int b=>obtain⟨t,rfl⟩:=rx;exact SeqAt.EqAt.str_int a t' b t
  |str b=>obtain⟨t,rfl⟩:=rx;exact SeqAt.EqAt.str_str a t' b t
  |_=>exact XZ (show false=true from fx) RL
 |_=>exact XZ (show false=true from fy) RL
noncomputable def zT(x:V)(u:Q7):Bool:=match u with
 |.none=>Hn .non x
 |.bool b=>Hn (.bl b) x
 |.int i _=>Hn (.int i) x
 |.str z _=>Hn (.str z) x
 |_=>false
theorem FQ{x y:V}{u:Q7}(r:RelV y u)(f:jX y=true):zT x u=Hn y x:=by
 cases y with
 |non=>cases r;rfl
 |bl b=>cases r;rfl
 |int i=>obtain⟨t,rfl⟩:=r;rfl
 |str z=>obtain⟨t,rfl⟩:=r;rfl
 |_=>exact XZ (show false=true from f) RL
theorem nq{x:V}:∀{xs:List V}{us:List Q7},Vals xs us->xs.all jX=true->us.any (zT x)=xs.any λy=>Hn y x
 |_,_,.nil,_=>rfl
 |y::xs,u::us,.cons r t,f=>by
  rw[TU,R6]at f;rw[Vw,Vw,FQ r f.1,nq t f.2]
theorem kj{A:SO}{s:R1}{x:V}{v:Q7}(rx:RelV x v)(fx:jX x=true):∀{xs:List V}{us:List Q7},Vals xs us->xs.all jX=true->∀u∈us,Wd A s u v (zT x u)
 |_,_,.nil,_=>λu hu=>by cases hu
 |y::xs,u::us,.cons r t,f=>λu' hu=>by
  rw[TU,R6]at f;rcases R9.mp hu with rfl|hu
  ·rw[FQ r f.1];exact LW r rx f.1 fx
  ·exact kj rx fx t f.2 u' hu
noncomputable def inV(x:V)(xs:List V):Bool:=xs.any λy=>Hn y x
inductive Pv (K:Rs) (neg:Bool) (x:V) (y:V) (H:Hp) (Q:VK):Prop where
 |mk (p xs) (_:y=.ref p) (_:(qk K H p xs∨j3 K H p xs)) (_:jX x=true) (_:xs.all jX=true) (_:Q (.bl (if neg then !inV x xs else inV x xs)) H)
theorem u3:dY X (Rq .In) (Pv X.K false):=by
 intro pins s σ H x y v u Q I rx ry h;obtain⟨p,xs,rfl,hq,fx,fs,q⟩:=h;cases ry;rcases hq with hq|hq
 ·obtain⟨its,r,pl,hz⟩:=I.list hq
  refine SeqAt.in_listAt (zT x) pl.isList (λw hw=>kj rx fx r fs w (by simpa using hw)) ⟨.bl _,H,I,rfl,?_⟩;rw[show its.toArray.any (zT x)=its.any (zT x) by simp,nq r fs];exact q
 ·obtain⟨its,r,pl,hz⟩:=I.tuple hq
  refine SeqAt.in_tupleAt (zT x) pl (λw hw=>kj rx fx r fs w (by simpa using hw)) ⟨.bl _,H,I,rfl,?_⟩;rw[show its.toArray.any (zT x)=its.any (zT x) by simp,nq r fs];exact q
theorem oC:dY X (Rq .NotIn) (Pv X.K true):=by
 intro pins s σ H x y v u Q I rx ry h;obtain⟨p,xs,rfl,hq,fx,fs,q⟩:=h;cases ry;rcases hq with hq|hq
 ·obtain⟨its,r,pl,hz⟩:=I.list hq
  refine SeqAt.notIn_listAt (zT x) pl.isList (λw hw=>kj rx fx r fs w (by simpa using hw)) ⟨.bl _,H,I,rfl,?_⟩;rw[show its.toArray.any (zT x)=its.any (zT x) by simp,nq r fs];exact q
 ·obtain⟨its,r,pl,hz⟩:=I.tuple hq
  refine SeqAt.notIn_tupleAt (zT x) pl (λw hw=>kj rx fx r fs w (by simpa using hw)) ⟨.bl _,H,I,rfl,?_⟩;rw[show its.toArray.any (zT x)=its.any (zT x) by simp,nq r fs];exact q
theorem ng:dq X (.type "list") (λxs H Q=>∃p ys,xs=[.ref p]/\(qk X.K H p ys∨j3 X.K H p ys)/\∀l,H l=Zy->Q (.ref l) (upd H l (.lst ys))):=by
 intro pins s σ H xs us Q I r h;obtain⟨p,ys,rfl,hq,q⟩:=h;obtain⟨u,rfl,rx⟩:=vals1 r;cases rx;have fin:∀(its:List Q7),Vals ys its->ys.length<=RV->∀(h':Rj) (c':Nat),(∀b o',s.heap.get? b=Zz o'->h'.get? b=Zz o') ->
   h'.get? s.heap.objs.size=Zz { cls:=.type "list",dict:=Zy,data:=.seq its.toArray c',slots:=#[] }->EP X pins σ Q (.ref s.heap.objs.size) { s with heap:=h' }:=λits r' hz h' c' kp e =>
  ⟨.ref s.heap.objs.size,_,I.laid (t':=s.toks) kp (RD _) (show cL X.prog X.w _ h' _ (.lst ys)from⟨hz,its,c',r',e⟩),rfl,q _ (I.hok.fresh (RD _))⟩
 rcases hq with hq|hq
 ·obtain⟨its,r',pl,hz⟩:=I.list hq
  have hlen:=r'.length;obtain⟨o,ho,hc,n,hd⟩:=pl.isList;exact Vx p (.inl rfl) ho hc hd (λh' c' kp e=>fin its r' hz h' c' kp e) (by simp only[R7]<;>omega)
 ·obtain⟨its,r',pl,hz⟩:=I.tuple hq
  have hlen:=r'.length;obtain⟨o,ho,hc,n,hd⟩:=pl;exact Vx p (.inr rfl) ho hc hd (λh' c' kp e=>fin its r' hz h' c' kp e) (by simp only[R7]<;>omega)
theorem lV:dq X (.type "tuple") (λxs H Q=>∃p ys,xs=[.ref p]/\((qk X.K H p ys/\∀l,H l=Zy->Q (.ref l) (upd H l (.tup ys)))∨(j3 X.K H p ys/\Q (.ref p) H))):=by
 intro pins s σ H xs us Q I r h;obtain⟨p,ys,rfl,h⟩:=h;obtain⟨u,rfl,rx⟩:=vals1 r;cases rx;rcases h with⟨hq,q⟩|⟨hq,q⟩
 ·obtain⟨its,r',pl,hz⟩:=I.list hq
  have hlen:=r'.length;refine call_tuple_list pl.isList (λh' kp=>?_) (by simp only[R7]<;>omega);have I1:Inv X pins σ H { s with heap:=h' }:=I.kept (t':=s.toks) kp;have I2:Inv X pins σ (upd H h'.objs.size (.tup ys)) { s with heap:=h'.push { cls:=.type "tuple",data:=.seq its.toArray } }:=
   I1.laid (t':=s.toks) (λb o e=>R0 _ e) (RD _) (show cL X.prog X.w _ _ _ (.tup ys)from⟨hz,its,r',sn.new _ _⟩)
  exact⟨.ref h'.objs.size,_,I2,rfl,q _ (I1.hok.fresh (RD _))⟩
 ·obtain⟨its,r',pl,hz⟩:=I.tuple hq
  exact call_tuple_same pl ⟨.ref p,H,I,rfl,q⟩
def ML(K:Rs)(T:String)(x:V)(H:Hp):Prop:=match x with
 |.str _=>T = "str"
 |.int _=>T = "int"
 |.ref p=>(T = "list"/\∃xs,qk K H p xs)∨(T = "tuple"/\∃o,K.lookup p=Zz o/\o.cls=.type "tuple"/\o.dict=Zy) ∨
  (T = "dict"/\((∃kvs,H p=Zz (.dK kvs))∨∃kvs,H p=Zz (.dT kvs)))∨(T = "set"/\∃S n,H p=Zz (.set S n))
 |_=>False
theorem LZ{pins:List (R3×Obj)}{σ:St}{H:Hp}{s:R1}{T:String}{x:V}{v:Q7}(I:Inv X pins σ H s)(r:RelV x v)(ty:ML X.K T x H):
  s.TypeIs v T/\∀a,v=.ref a->∃ob,s.heap.get? a=Zz ob/\ob.dict=Zy:=by
 cases x with
 |str z =>
  obtain⟨t,rfl⟩:=r;cases(show T = "str" from ty);exact⟨U5 s z t,λ_ e=>nomatch e⟩
 |int i =>
  obtain⟨t,rfl⟩:=r;cases(show T = "int" from ty);exact⟨WC s i t,λ_ e=>nomatch e⟩
 |ref p =>
  cases r;rcases ty with⟨rfl,xs,hq⟩|⟨rfl,o,hk,hc,hd⟩|⟨rfl,hk⟩|⟨rfl,S,n,hk⟩
  ·obtain⟨its,_,pl,_⟩:=I.list hq
   refine⟨pl.isList.typeIs,λa e=>?_⟩;cases e;obtain⟨o,n,e,c,hd,_⟩:=pl;exact⟨o,e,hd⟩
  ·refine⟨⟨o,I.qv p o hk,hc⟩,λa e=>?_⟩
   cases e;exact⟨o,I.qv _ o hk,hd⟩
  ·have z:∃o,s.heap.get? p=Zz o/\o.ExactDict:=by
    rcases hk with⟨kvs,hk⟩|⟨kvs,hk⟩
    ·obtain⟨_,_,_,_,o,_,_,e,ex,_⟩:=I.hok p _ hk
     exact⟨o,e,ex⟩
    ·obtain⟨_,_,_,_,o,_,_,e,ex,_⟩:=I.hok p _ hk
     exact⟨o,e,ex⟩
   obtain⟨o,e,ex⟩:=z;refine⟨⟨o,e,ex.1⟩,λa e2=>?_⟩;cases e2;exact⟨o,e,ex.2.1⟩
  ·obtain⟨o,_,_,_,e,ex,_⟩:=I.hok p _ hk
   refine⟨⟨o,e,ex.1⟩,λa e2=>?_⟩;cases e2;exact⟨o,e,ex.2.1⟩
 |_=>exact UK ty
def PF(K:Rs)(T:String)(r:V->List V->Hp->VK->Prop)(to:TE)(t:TA):TE:=λσ H Q=>to σ H λx H1=>ML K T x H1/\t σ H1 λxs H2=>r x xs H2 Q
variable{o e:Rm}{es:List Rm}{to:TE}{t:TA}{name:Str}{apos cpos:Pos}{T id:String}{r:V->List V->Hp->VK->Prop}
theorem sO(pa:PlainAttrs T)(slot:Slot T name id)(hty:typeOf (.builtin id)=pure (.type "method_descriptor"))(hm:KA X id r)(ho:PE X o to)(ha:PA X (e::es) t)(hbase:TV o name X.env (eval o X.env)=eval o X.env:=by rfl)(hfew:((backTo cpos (S8 (e::es) X.env)).all (λx=>!x.1)&&(XG cpos (Wt [] X.env)).all (λx=>x.1.isSome)
   && decide ((e::es).length+([]:List WU).length+(if([]:List WU).isEmpty then 0 else 1)<30))=true:=by rfl)(hline:(apos.endLine==cpos.line)=true:=by rfl)(hs:S8 (e::es) X.env=(false,eval e X.env)::S8 es X.env:=by rfl)(hplain:(backTo cpos (S8 es X.env)).any (·.1)=false:=by rfl):
  PE X (.Call (.Attribute o name apos) (e::es) [] cpos) (PF X.K T r to t):=by
 intro pins s σ H Q I h;refine wpAny_Call_method_late hbase hfew hline rfl (bR (ho pins s σ H _ I h) λv s1 ⟨x,H1,I1,r1,ty,q1⟩=>?_);obtain⟨h1,h2⟩:=LZ I1 r1 ty;refine⟨T,id,pa,slot,hty,h1,h2,?_⟩;have hA:=ha cpos pins s1 σ H1 _ I1 q1;rw[hs]at hA ⊢;refine Calls.callWith_builtin (by show(false || (backTo cpos (S8 es X.env)).any (·.1))=false;rw[hplain]<;>rfl) (Calls.evalArgs_plain ?_);exact bR hA λus s2 ⟨vs,H2,I2,r2,q2⟩=>hm pins s2 σ H2 x vs v us Q I2 r1 r2 q2
end
def Py(X:Cx)(id:String)(r:V->List V->Hp->VK->Prop):Prop:=
 ∀(pins:List (R3×Obj)) (s:R1) (σ:St) (H:Hp) (x:V) (xs:List V) (v:Q7) (us:List Q7) (Q:VK),Inv X pins σ H s->RelV x v->Vals xs us->r x xs H Q ->
  RK (RS X.prog X.w) X.A (call (.builtin id) (v::us)) (EP X pins σ Q) X.xe s
theorem Vals.one:∀{x:V}{us:List Q7},Vals [x] us->∃u,us=[u]/\RelV x u
 |_,_,.cons r .nil=>⟨_,rfl,r⟩
theorem Vals.eraseIdx:∀{xs:List V}{us:List Q7}(i:Nat),Vals xs us->Vals (xs.eraseIdx i) (us.eraseIdx i)
 |_,_,_,.nil=>.nil
 |_,_,0,.cons _ t=>t
 |_,_,i+1,.cons r t=>.cons r (Vals.eraseIdx i t)
theorem Vals.rep{xs:List V}{us:List Q7}(h:Vals xs us):∀k:Nat,Vals (RF k xs).flatten (RF k us).flatten
 |0=>.nil
 |k+1=>by
  rw[SU,SU,SZ,SZ];exact Vals.append h (Vals.rep h k)
theorem uJ{α:Type}:∀(l:List α) (i:Nat),(l.eraseIdx i).length<=l.length
 |[],_=>RD _
 |_::_,0=>UM _
 |_::r,i+1=>Nat.succ_le_succ (uJ r i)
theorem foldl_rep(its:List Q7):∀(k:Nat) (acc:List Q7),
  Vb (λx1 x2=>x1++x2) acc.toArray (RF k its.toArray)=(acc++(RF k its).flatten).toArray
 |0,acc=>by simp
 |k+1,acc=>by
  have e:acc.toArray++its.toArray=(acc++its).toArray:=by simp
  have e2:(acc++its)++(RF k its).flatten=acc++(RF (k+1) its).flatten:=by
   rw[SU,SZ,SV]
  rw[<-e2,<-foldl_rep its k (acc++its),<-e,SU,TB]
section
variable{X:Cx}{pins:List (R3×Obj)}{σ:St}{H:Hp}{s:R1}{l b:R3}{xs ys zs:List V}
theorem Inv.NJ{its its':List Q7}{n:Nat}{f:Array Q7->Array Q7}{t':Nat}(I:Inv X pins σ H s)(hH:H l=Zz (.lst xs))(e:s.heap.get? l=Zz { cls:=.type "list",data:=.seq its.toArray n })(hf:f its.toArray=its'.toArray)(hv:Vals ys its')(hz:ys.length<=RV):
  Inv X pins σ (upd H l (.lst ys)) { s with heap:=s.heap.update l (U6 f),toks:=t' }:=by
 have q:=PySem.IsL.update e f;rw[hf]at q;refine I.write (x:=l) (e:=l) (by rw[hH];exact trivial) (.inl rfl) (λb' u hb hu=>(S0 s.heap (U6 f) (Sj hb)).trans hu) ⟨_,q⟩ ?_;exact⟨hz,its',_,hv,q⟩
theorem Inv.Gm{its:List Q7}{t':Nat}(I:Inv X pins σ H s)(hv:Vals ys its)(hz:ys.length<=RV):
  Inv X pins σ (upd H s.heap.objs.size (.lst ys)) { s with heap:=s.heap.push { cls:=.type "list",data:=.seq its.toArray },toks:=t' }:=
 I.laid (λ_ _ q=>R0 _ q) (RD _) ⟨hz,its,0,hv,RH _ rfl⟩
theorem Inv.fresh(I:Inv X pins σ H s):H s.heap.objs.size=Zy:=I.hok.fresh (RD _)
theorem Inv.zt(I:Inv X pins σ H s)(hH:H l=Zz (.lst xs)):xs.length<=RV/\∃(its:List Q7) (n:Nat),Vals xs its/\xs.length=its.length/\s.heap.get? l=Zz { cls:=.type "list",data:=.seq its.toArray n }:=by
 obtain⟨z,its,n,r,e⟩:=I.hok l _ hH;exact⟨z,its,n,r,r.length,e⟩
theorem Fh{n:Nat}(h:n<=RV):UZ n=false:=by
 unfold UZ;exact XW (by omega)
end
section
variable{X:Cx}
inductive Ik  (x:V) (vs:List V) (H:Hp) (Q:VK):Prop where
 |mk (l xs y) (_:x=.ref l) (_:vs=[y]) (_:H l=Zz (.lst xs)) (_:xs.length<RV) (_:Q .non (upd H l (.lst (xs++[y]))))
theorem Dc:Py X "list.append" Ik:=by
 intro pins s σ H x vs v us Q I rx rv h;obtain⟨l,xs,y,rfl,rfl,hH,hz,q⟩:=h;cases rx;obtain⟨u,rfl,ru⟩:=rv.one;obtain⟨z,its,n,r,hl,e⟩:=I.zt hH;refine Sg F.slot_list_append ⟨_,e,rfl⟩ F.entry_list_append (F.args_list_append_2 _ _) (PySem.list_append l its.toArray n u (by rw[R7];omega)) ⟨e,?_⟩;refine⟨.non,_,I.NJ (its':=its++[u]) hH e (by simp) (r.append (.cons ru .nil)) ?_,rfl,q⟩;rw[R8,UG];omega
inductive Ml  (x:V) (vs:List V) (H:Hp) (Q:VK):Prop where
 |mk (l xs i k y) (_:x=.ref l) (_:vs=[.int i]) (_:H l=Zz (.lst xs)) (_:-(2^63)<=i) (_:i<2^63) (_:X5 i xs.length=Zz k) (_:xs[k]?=Zz y) (_:Q y (upd H l (.lst (xs.eraseIdx k))))
theorem F5:Py X "list.pop" Ml:=by
 intro pins s σ H x vs v us Q I rx rv h;obtain⟨l,xs,i,k,y,rfl,rfl,hH,h1,h2,hk,hy,q⟩:=h;cases rx;obtain⟨u,rfl,ru⟩:=rv.one;obtain⟨t,rfl⟩:=ru;obtain⟨z,its,n,r,hl,e⟩:=I.zt hH;obtain⟨w,hw,rw'⟩:=r.get hy;refine Sg F.slot_list_pop ⟨_,e,rfl⟩ F.entry_list_pop (F.args_list_pop_2 _ _)
  (MeetsSeq.list_pop_at l its.toArray n i t k w (fitsIndex_both h1 h2) (by rw[R7,<-hl];exact hk) (by rw[<-UH];exact hw) (by rw[R7];omega)) ⟨e,?_⟩
 refine⟨y,_,I.NJ (its':=its.eraseIdx k) hH e ?_ (r.eraseIdx k) ?_,rw',q⟩
 ·show its.toArray.eraseIdxIfInBounds k=(its.eraseIdx k).toArray
  rw[List.eraseIdxIfInBounds_toArray]
 ·have:=uJ xs k
  omega
inductive OG  (x:V) (y:V) (H:Hp) (Q:VK):Prop where
 |mk (l b xs zs) (_:x=.ref l) (_:y=.ref b) (_:H l=Zz (.lst xs)) (_:H b=Zz (.lst zs)) (_:xs.length+zs.length<=RV) (_:∀p,H p=Zy->Q (.ref p) (upd H p (.lst (xs++zs))))
theorem LU:dY X (SQ .Add) OG:=by
 intro pins s σ H x y v u Q I rx ry h;obtain⟨l,b,xs,zs,rfl,rfl,hH,hB,hz,q⟩:=h;cases rx;cases ry;obtain⟨z,its,n,r,hl,e⟩:=I.zt hH;obtain⟨z2,its2,n2,r2,hl2,e2⟩:=I.zt hB;refine PySem.P.add_list e e2 ?_ (by rw[R7,R7];omega);have ea:its.toArray++its2.toArray=(its++its2).toArray:=by simp
 rw[ea];exact⟨.ref _,_,I.Gm (t':=s.toks) (r.append r2) (by rw[R8];omega),rfl,q _ I.fresh⟩
def O3:R2:=λx y H Q=>∃l k xs,x=.ref l/\y=.int k/\H l=Zz (.lst xs)/\-(2^63)<=k/\k<2^63/\xs.length*k.toNat<=RV /\
 ∀p,H p=Zy->Q (.ref p) (upd H p (.lst (RF k.toNat xs).flatten))
theorem len_rep{α:Type}(xs:List α)(k:Nat):(RF k xs).flatten.length=k*xs.length:=by
 induction k with
 |zero=>simp
 |succ k ih=>rw[SU,SZ,R8,ih,Nat.succ_mul,Nat.add_comm]
theorem L9:dY X (SQ .Mult) O3:=by
 intro pins s σ H x y v u Q I rx ry h;obtain⟨l,k,xs,rfl,rfl,hH,h1,h2,hz,q⟩:=h;cases rx;obtain⟨t,rfl⟩:=ry;obtain⟨z,its,n,r,hl,e⟩:=I.zt hH;have hlen:its.toArray.size*k.toNat<=RV:=by rw[R7,<-hl];exact hz
 have hcap:¬its.toArray.size*k.toNat>(2^63-1) / 8:=by
  have:(RV:Nat)<=(2^63-1) / 8:=by decide
  omega
 have hfit:¬(!Builtin.List.listFitsIndex k)=true:=by
  rw[fitsIndex_both h1 h2];exact RL
 have hlong:¬UZ (its.toArray.size*k.toNat)=true:=by
  rw[Fh hlen];exact RL
 have hnew:Vb (λx1 x2=>x1++x2) #[] (RF (if its.toArray.isEmpty=true then 0 else k.toNat) its.toArray)=(RF k.toNat its).flatten.toArray:=by
  have f0:∀m:Nat,Vb (λx1 x2=>x1++x2) #[] (RF m its.toArray)=(RF m its).flatten.toArray:=λm=>by
   have:=foldl_rep its m [];rw[Sq]at this;exact this
  rw[f0];cases its with
  |nil=>simp
  |cons a r'=>rw[XV (by simp)]
 refine wpAny_binaryOp_repeat_ref (T:="list") (U:="int") (by decide) ⟨_,e,rfl⟩ (λs'=>WC s' k t) noFill_list_mul F.fills_int_mul VJ repeat_list F.slot_int_index.lookup
  (Sg VJ (WC s k t) F.entry_int_rmul (F.args_int_rmul_2 _ _) (int___rmul___int_list k t l its.toArray n)
   ⟨e,rfl,⟨_,e,rfl⟩,Sg F.slot_list_mul ⟨_,e,rfl⟩ F.entry_list_mul (F.args_list_mul_2 _ _) (AutoListH.list___mul___list_int_3 l its.toArray n k t hfit hcap hlong) ⟨e,?_⟩⟩)
 rw[hnew];exact⟨.ref _,_,I.Gm (t':=s.toks) (r.rep k.toNat) (by rw[len_rep,Wi];exact hz),rfl,q _ I.fresh⟩
end
section
variable{prog:Rk}{w:Rx}{A:SO}{E:Q7->R1->Prop}{s:R1}
set_option maxRecDepth 100000 in
end
end L2
namespace Att
open PySem PySem.W PySem.Calls PyProof.Rows
theorem qB{P:XS}{h:Rj}:∀(ns:List Int) (vs:List Q7),WellAll P h vs (ns.map WData.int)->Wj vs ns:=by
 intro ns
 induction ns with
 |nil =>
  intro vs w;rw[Tk]at w;cases w;exact .nil
 |cons n ns ih =>
  intro vs w;rw[RN]at w;cases w with
  |cons a b =>
   cases a;exact .cons _ _ (ih _ b)
theorem DS{l:Wk}{n:Nat}(hn:l.most=Zz n){P:XS}{h:Rj}{args:List WData}{vals:List Q7}(hpre:l.row.toRowW.claim.pre args=true)(hwl:WellAll P h vals args):
  ∃a vs ns,vals=[Sn a]/\args=[WData.list (ns.map WData.int)]/\h.get? a=Zz { cls:=.type "list",data:=.seq vs.toArray }/\Wj vs ns/\ns.length<=n:=by
 have hsh:WShape.hasAll [] args [.list .int]=true:=(pre_splitW hpre).1;have hc:l.pre.holds [] { args:=args }=true:=(pre_splitW hpre).2;obtain⟨d,r,rfl,h1,h2⟩:=hasAllW_cons hsh;obtain rfl:=hasAllW_nil h2;obtain⟨xs,rfl,h3⟩:=hasW_list h1;obtain⟨ns,rfl⟩:=items_int h3;have hlen:ns.length<=n:=by
  unfold OpenLaw.pre at hc;have h4:(WTm.not (.lt (.lit (.int (n:Int))) (.len (.arg 0)))).holds [] { args:=[.list (ns.map .int)] }=true:=by
   have h4:=(holds_andW hc).1;rw[hn]at h4;exact h4
  have h5:=condW_of h4 (w_not (w_lt w_lit (w_len_list (w_arg rfl))));rw[Q8]at h5;refine Nat.le_of_not_lt λq=>?_
  have q':(n:Int)<((ns.length:Nat):Int):=by omega
  first
   |(rw[XX q']at h5;exact XZ h5 (by decide))
   |(simp at h5;omega)
 cases hwl with
 |cons w1 w2 =>
  cases w2;cases w1 with
  |list ho hall=>exact⟨_,_,ns,rfl,rfl,ho,qB ns _ hall,hlen⟩
theorem Do(l:Wk)(args:List WData):l.row.toRowW.claim.post args (.bool true) args=true:=
 postW_of (r:=l.row.toRowW) (X:=(true==true))
  (show WShape.has [] (.bool true) .bool=true by first|rfl|decide|simp[WShape.has,WShape.arms,WShape.armsAll])
  (show(WTm.eq .res (.lit (.bool true))).value [] { args:=args,res:=Zz (.bool true),after:=args }=Zz (.bool (true==true))from w_eq_bool (w_res rfl) w_lit) rfl
theorem y4{l:Wk}{n:Nat}{q:Rk}{loose:List Str}{XP:(Str->Option Q7)->Rj->Prop}{YP:Rx->Rj->Prop}{d:DefRec}(hn:l.most=Zz n)(hdf:d.params.defaults=[])(call:∀(w:Rx) (s₀ s₁:R1) (mg mb:Str->Option Q7) (fa:R3) (o:Obj) (pm cd doc:Q7) (a:R3) (vs:List Q7) (ns:List Int),
   Ground q loose [] XP w s₀ mg mb s₁.heap->YP w s₁.heap ->
   s₁.heap.get? fa=Zz o->o.data=.func (docDef d.name d.params d.body d.scope pm cd doc)->s₁.heap.CodeRec cd d.name->mg d.name=Zz (.ref fa) ->
   s₁.heap.get? a=Zz { cls:=.type "list",data:=.seq vs.toArray }->Wj vs ns->ns.length<=n->s₁.gens=#[] ->
   UI (RS l.prog w) WV (.call (.ref fa) ⟨[.ref a],[]⟩) (λr s'=>r=.ok (.ret (.bool true))/\OldK s₁.heap s'.heap/\s'.os=s₁.os/\VV s'.gens) s₁):
  WalkO q loose XP YP l.row.toRowW d [] (λf vs=>U7 f vs):=by
 intro w s₀ s₁ mg mb G Y fa o pm cd doc dV kV ho hd hcd hD hmg hg args vals as hpre hlay hrd hwl hlo;obtain rfl:dV=.none:=Dflts.none hD hdf;obtain rfl:kV=.none:=Dflts.noKw hD;obtain⟨a,vs,ns,rfl,rfl,hobj,hints,hlen⟩:=DS hn hpre hwl;refine enter_call (UR (call w s₀ s₁ mg mb fa o pm cd doc a vs ns G Y ho (fd_plain hd) hcd hmg hobj hints hlen hg) λr s' hq=>?_);obtain⟨rfl,h2,h3,h4⟩:=hq;exact⟨.inl ⟨.bool true,.bool true,[],rfl,λ_=>rfl,.bool true,Do l _,λ_=>⟨List.Pairwise.nil,λ_ hm=>(nomatch hm)⟩⟩,h2,h3,h4⟩
end Att
namespace L2
open PySem PySem.Spec PyProof.Rows
theorem uR:∀{vs:List Q7}{ns:List Int},Wj vs ns->Vals (ns.map V.int) vs
 |_,_,.nil=>.nil
 |_,_,.cons n t h=>.cons ⟨t,rfl⟩ (uR h)
noncomputable def gG(s:Rt):X4:=match s with
 |.FunctionDef _ a _ _ _ _ _ _ _ _=>a
 |_=>{ posonlyargs:=[],args:=[],vararg:=Zy,kwonlyargs:=[],kw_defaults:=[],kwarg:=Zy,defaults:=[] }
noncomputable def cW(s:Rt):List Rt:=match s with
 |.FunctionDef _ _ b _ _ _ _ _ _ _=>b
 |_=>[]
noncomputable def ag(s:Rt):Uu:=match s with
 |.FunctionDef _ _ _ _ _ _ sc _ _ _=>sc
 |_=>{ kind:=.function,names:=[],isGenerator:=false,isCoroutine:=false }
structure Kz (K:Rs) (x qual:Str) (st:Rt) (f:R3) (fd:TK):Prop where
 ex:∃(oc:Q7) (od:Option R3) (kV doc pm:Q7) (an:Option R3) (cdv ct:Q7) (osl:Array (Option Q7)),
  fd=fnOf x qual (gG st) (cW st) (ag st) .none kV doc pm an cdv ct/\K.lookup f=Zz ⟨oc,od,.func fd,osl⟩/\codeIn K cdv qual=true
 kp:keepIn K (.ref f)=true
section
variable{P:Rk}{w:Rx}{K:Rs}{mg:Str->Option Q7}{base:Rj}
theorem Kz.binds{x qual:Str}{st:Rt}{f:R3}{fd:TK}{ps:List Str}(F:Kz K x qual st f fd)(h:∀(kV doc pm:Q7) (an:Option R3) (cdv ct:Q7) (us:List Q7),us.length=ps.length->Tj (fnOf x qual (gG st) (cW st) (ag st) .none kV doc pm an cdv ct) ⟨us,[]⟩=pure (ps.zip us)):Binds K fd ps []:=by
 obtain⟨oc,od,kV,doc,pm,an,cdv,ct,osl,rfl,lk,hcd⟩:=F.ex;exact .all (h kV doc pm an cdv ct)
theorem Hd{x qual:Str}{st:Rt}{f:R3}{oc:Q7}{od an:Option R3}{osl:Array (Option Q7)}{kV doc pm cdv ct:Q7}(l:K.lookup f=Zz ⟨oc,od,.func (fnOf x qual (gG st) (cW st) (ag st) .none kV doc pm an cdv ct),osl⟩)(c:codeIn K cdv qual=true)(k:keepIn K (.ref f)=true):Kz K x qual st f (fnOf x qual (gG st) (cW st) (ag st) .none kV doc pm an cdv ct):=⟨⟨oc,od,kV,doc,pm,an,cdv,ct,osl,rfl,l,c⟩,k⟩
end
theorem xW{A B:Prop}(h:B):if false=true then A else B:=by
 rw[XV RL];exact h
theorem yf{A B:Prop}(h:A):if true=true then A else B:=by
 rw[XU rfl];exact h
end L2
end
namespace L2
open PySem PySem.Spec PyProof.Rows
section
variable{κ:Type}[DecidableEq κ]
noncomputable def mI(kvs:List (κ×V))(k:κ):Option V:=(kvs.find? λkv=>decide (kv.1=k)).map (·.2)
theorem Ev{p:κ×V}{r:List (κ×V)}{k:κ}(e:p.1=k):mI (p::r) k=Zz p.2:=by simp[mI,UC,e]
theorem GT{p:κ×V}{r:List (κ×V)}{k:κ}(e:¬p.1=k):mI (p::r) k=mI r k:=by simp[mI,UC,e]
theorem oJ.getD{o:Option V}{u:Option Q7}{d:V}{d':Q7}(r:oJ o u)(rd:RelV d d'):RelV (o.getD d) (u.getD d'):=by
 cases o with
 |none=>cases u with
  |none=>exact rd
  |some _=>exact(show False from r).elim
 |some _=>cases u with
  |none=>exact(show False from r).elim
  |some _=>exact r
theorem KV.val{kvs:List (κ×V)}{vs:List (κ×Q7)}(r:KV kvs vs)(k:κ):oJ (mI kvs k) (WD vs k):=by
 unfold KV at r
 induction r with
 |nil=>exact T8
 |@cons p q ps qs h t ih =>
  obtain⟨h1,h2⟩:=h;by_cases e:p.1=k
  ·have e':q.1=k:=h1.symm.trans e
   have b:WD (q::qs) k=Zz q.2:=by simp[WD,UC,e']
   rw[Ev e,b];exact h2
  ·have e':¬q.1=k:=λz=>e (h1.trans z)
   have b:WD (q::qs) k=WD qs k:=by simp[WD,UC,e']
   rw[GT e,b];exact ih
end
theorem Cc{P:Rk}{w:Rx}{k:Key}{u:Q7}(r:RelV (kV k) u):(dA P w).is k u=true:=by
 cases k with
 |inl i=>obtain⟨t,e⟩:=(show ∃t,u=Wp i t from r);subst e;exact yY P w i t
 |inr x=>obtain⟨t,e⟩:=(show ∃t,u=Ul x t from r);subst e;exact yL P w x t
abbrev KT(H:Hp):List (List Key×V)->List (List Key×R3×Q7)->Prop:=Sr λp q=>p.1=q.1/\H q.2.1=Zz (.tup (p.1.map kV))/\RelV p.2 q.2.2
def NL(i:Rm):Prop:=∀ov iv,WJ i false ov iv=operate [ov,iv] (VD ov iv)
theorem Hy{prog:Rk}{w:Rx}{A:SO}{E:Q7->R1->Prop}{s:R1}{env:Env}{value slice:Rm}{pos:Pos}{T id:String}{Q:Q7->R1->Prop}(hl:Wc (.type T) "__getitem__" = pure (Zz (.builtin id)))(hs:NL slice)(h:RK (RS prog w) A (eval value env) (λo s₁=>RK (RS prog w) A (eval slice env) (λi s₂=>s₂.TypeIs o T/\RK (RS prog w) A (VD o i) Q E s₂) E s₁) E s):
  RK (RS prog w) A (eval (.Subscript value slice pos) env) Q E s:=by
 refine Wy (Sv h (λo s₁ h₁=>Sv h₁ (λi s₂ h₂=>?_) λ_ _ x=>x) λ_ _ x=>x);obtain⟨hT,h₂⟩:=h₂;unfold WY;refine Q6 ?_;rw[getitemInPython_of_ne hT.not_modules];refine Q6 (wpAny_specialOf hT hl ?_);have fin:RK (RS prog w) A (WJ slice false o i) (λr s₃=>RK (RS prog w) A (letTemporaryGo value o r >>= λ_=>pure r) Q E s₃) E s₂:=by
  rw[hs o i];exact wpAny_operating (Sv h₂ (λr s₃ h₃=>Q6 (wpAny_letTemporaryGo (Q9 h₃))) λ_ _ x=>x)
 first
  |exact Q9 (Q6 fin)
  |exact Q6 (Q9 (Q6 fin))
  |exact Q6 fin
end L2
section
set_option backward.eqns.nonrecursive false
set_option backward.eqns.deepRecursiveSplit false
namespace Mi
open PySem PySem.Spec PyProof.Rows L2
theorem ub(t:UD)(n:Nat):(t.orStandIn n).led=t.led:=by unfold SetTable.orStandIn;split<;>rfl
theorem qu(t:UD)(n:Nat)(h:t.plain=false):(t.orStandIn n).plain=false:=by unfold SetTable.orStandIn;split<;>first|exact h|rfl
theorem zK(t:UD)(es:Array (Int×Q7))(h:Int)(x:Q7):(layNew t es h x).2.1.led=t.led:=by
 unfold layNew;split
 ·exact ub _ _
 ·rfl
theorem wD(t:UD)(es:Array (Int×Q7))(h:Int)(x:Q7)(hp:t.plain=false):(layNew t es h x).2.1.plain=false:=by
 unfold layNew;split
 ·exact qu _ _ hp
 ·rfl
theorem rC{t t':UD}(h:t.relaid hs n=Zz (t',o)):t'.led=t.led/\t'.plain=t.plain:=by
 unfold SetTable.relaid SetTable.laid at h;simp only[Option.bind_eq_bind]at h;obtain⟨w,_,h2⟩:=Option.bind_eq_some_iff.mp h;cases h2;exact⟨rfl,rfl⟩
theorem w8(t:UD)(es:Array (Int×Q7))(n:Nat):(Vc t es n).2.1.led=t.led:=by
 unfold Vc;split
 ·rename_i t' o h
  dsimp only;split
  ·exact(rC h).1
  ·rfl
 ·rfl
theorem tH(t:UD)(es:Array (Int×Q7))(n:Nat)(hp:t.plain=false):(Vc t es n).2.1.plain=false:=by
 unfold Vc;split
 ·rename_i t' o h
  dsimp only;split
  ·exact(rC h).2.trans hp
  ·rfl
 ·rfl
structure Od (prog:Rk) (w:Rx) (led:Bool) (o:Obj) (D:List Str) (es:Array (Int×Q7)) (ep:Nat) (t:UD):Prop where
 ex:o.ExactSet
 data:o.data=.set es ep t
 el:ElemsOf (SS prog w) es.toList
 NO:(es.toList.map λe=>strOf e.2).Perm D
 nd:D.Nodup
 room:es.size<V8
 fits:t.fits es.size=true
 led:t.led=led
 plain:es.size≠0->t.plain=false
inductive nE (prog:Rk) (w:Rx) (led:Bool) (h:Rj) (a:R3) (D:List Str)  : Prop where
 |mk (o es ep t) (_:h.get? a=Zz o) (_:Od prog w led o D es ep t)
theorem pK(h:Tq x v=true):strOf v=x:=by
 obtain⟨t,rfl⟩:=VS h;rfl
section
variable{prog:Rk}{w:Rx}{A:SO}{E:Q7->R1->Prop}{s:R1}{led:Bool}
theorem Gz(h:∃k,(SS prog w).is k v=true):Tq (strOf v) v=true:=by
 obtain⟨k,hk⟩:=h;have hk:=hk;rw[pK hk];exact hk
theorem zb(he:ElemsOf (SS prog w) es)(k:Str):(∃e∈es,(SS prog w).is k e.2=true)↔k∈es.map λe=>strOf e.2:=by
 constructor
 ·rintro ⟨e,he,hk⟩
  exact RI.mpr ⟨e,he,pK hk⟩
 ·intro h
  obtain⟨e,hm,rfl⟩:=RI.mp h;obtain⟨⟨k,hk,_⟩,_⟩:=he e hm;exact⟨e,hm,Gz ⟨k,hk⟩⟩
theorem add_str(hS:nE prog w led s.heap a D)(hroom:D.length+1<V8)(h:∀h' b,U3 a s.heap h'->nE prog w led h' a (if x∈D then D else D++[x])->Q b { s with heap:=h' }):
  RK (RS prog w) A (Wl a (.str x tk) (hashStr w x)) Q E s:=by
 obtain⟨o,es,ep,t,ho,hE⟩:=hS;have hex:=hE.ex;have hd:=hE.data;have hel:=hE.el;have hf:=hE.fits;have hkey:(SS prog w).is x (.str x tk)=true:=by show Tq x (.str x tk)=true;simp[Tq]
 have hsc:(Ul x tk).scannable=true:=rfl;have hlen:es.size=D.length:=by rw[<-hE.NO.length_eq,Q8,Ry]
 show RK (RS prog w) A (Wl a (.str x tk) ((SS prog w).hash x)) Q E s;unfold Wl setAddHashedIn;refine Sc (Q6 (Sa ho hd hf ?_));dsimp only;rw[byScan_of hsc hE.room hel];simp only[↓reduceIte];unfold setAddByScan;refine Q6 ?_;refine Q6 (Tt ?_);refine Q6 (wpAny_setScan_of hkey ho hd hf hel ?_);cases hr:List.findIdx? (λe=>(SS prog w).is x e.2) es.toList with
 |some j =>
  obtain⟨hj,hpj,_⟩:=List.findIdx?_eq_some_iff_getElem.mp hr;have hm:=hE.NO.mem_iff.mp ((zb hel x).mp ⟨_,Tv hj,hpj⟩);refine Q9 (Q9 ?_);have:=h s.heap false (Heap.SameBut.refl a s.heap) (by rw[XU hm];exact⟨o,es,ep,t,ho,hE⟩);exact this
 |none =>
  have hm:x∉D:=λhx=>by
   obtain⟨e,he,hp⟩:=(zb hel x).mpr (hE.NO.mem_iff.mpr hx);have:=List.findIdx?_eq_none_iff.mp hr e he;rw[hp]at this;exact Bool.noConfusion this
  have hgw:∀(b:Bool) (s₁:R1) (Q':Unit->R1->Prop),Q' () s₁->RK (RS prog w) A (match b with|true=>rule "set.scan.the-table-gave-way" | false=>pure ()) Q' E s₁:=
   λb s₁ Q' hq=>by cases b<;>first|exact Q9 hq|exact Tt hq
  have hperm:=layNew_perm t es ((SS prog w).hash x) (.str x tk);have hfits:=layNew_fits t es ((SS prog w).hash x) (.str x tk);have hled:=zK t es ((SS prog w).hash x) (.str x tk);have hplain:=wD t es ((SS prog w).hash x) (.str x tk);generalize hL:layNew t es ((SS prog w).hash x) (.str x tk)=L at hperm hfits hled hplain ⊢;obtain⟨es1,t1,wasDummy,gave⟩:=L;dsimp only at hperm hfits hled hplain ⊢;rw[Vp]at hperm;have hel1:=(hel.push hkey hsc).perm hperm;have hsz1:es1.size=es.size+1:=by rw[<-Ry,hperm.length_eq,R8,Ry];rfl
  have hb1:es1.size<V8:=by omega
  have hst1:(es1.toList.map λe=>strOf e.2).Perm (D++[x]):=by
   refine(hperm.map _).trans ?_;rw[VL];exact hE.NO.append_right _
  have hnd:(D++[x]).Nodup:=by
   rw[List.nodup_append];refine⟨hE.nd,by simp,λy hy z hz=>?_⟩;rw[Ro.mp hz];exact λe=>hm (e▸hy)
  -- the end,at a table that is plain no more
  have fin:∀t2:UD,t2.led=led->t2.plain=false->t2.fits es1.size=true->RK (RS prog w) A (do
    storeSet a es1 t2
    if(!wasDummy&&t2.tooFull)=true then do
      (match(Vc t2 es1 (TZ es1.size)).2.2 with|true=>rule "set.scan.the-table-gave-way" | false=>pure ())
      storeSet a (Vc t2 es1 (TZ es1.size)).1 (Vc t2 es1 (TZ es1.size)).2.1
      pure (Zz true)
     else pure (Zz true)) (λr s'=>match r with
      |some b=>Q b s'
      |none=>False) E s:=λt2 hl2 hp2 hf2=>by
   have hg1:(s.heap.update a (Vd es1 t2)).get? a=Zz { o with data:=.set es1 (ep+1) t2 }:=by
    have:=S4 (Vd es1 t2) ho (by rw[putSet_of es1 t2 hd];rfl);rw[putSet_of es1 t2 hd]at this;exact this
   have hsb1:=S6 s.heap a (Vd es1 t2);refine Q6 (wpAny_storeSet_of ho hd ?_ (Vq hb1));split
   ·have hp:=relayAll_perm t2 es1 (TZ es1.size)
    have hfr:=relayAll_fits t2 es1 (TZ es1.size);have hrl:=w8 t2 es1 (TZ es1.size);have hrp:=tH t2 es1 (TZ es1.size) hp2;generalize Vc t2 es1 (TZ es1.size)=Rl at hp hfr hrl hrp ⊢;obtain⟨es2,t3,gave2⟩:=Rl;dsimp only at hp hfr hrl hrp ⊢;have hsz:es2.size=es1.size:=by rw[<-Ry,hp.length_eq,Ry]
    refine Q6 (hgw _ _ _ ?_);refine Q6 (wpAny_storeSet_of hg1 rfl ?_ (Vq (by omega)));have hg2:((s.heap.update a (Vd es1 t2)).update a (Vd es2 t3)).get? a=Zz { o with data:=.set es2 (ep+1+1) t3 }:=
     S4 (Vd es2 t3) hg1 rfl
    refine Q9 (h _ true (hsb1.trans (S6 _ a _)) ?_);rw[XV hm];exact⟨_,es2,_,t3,hg2,⟨hex,rfl,hel1.perm hp,(hp.map _).trans hst1,hnd,by omega,hfr,hrl.trans hl2,λ_=>hrp⟩⟩
   ·refine Q9 (h _ true hsb1 ?_)
    rw[XV hm];exact⟨_,es1,_,t2,hg1,⟨hex,rfl,hel1,hst1,hnd,hb1,hf2,hl2,λ_=>hp2⟩⟩
  refine Q6 (hgw _ _ _ ?_);have done:∀{r:Option Bool}{s':R1},(match r with
    |some b=>Q b s'
    |none=>False)->RK (RS prog w) A (match r with
     |some added=>pure added
     |none=>setAddHashedIn a (.str x tk) ((SS prog w).hash x) 99999) Q E s':=λ{r s'} hr=>by
   cases r with
   |none=>exact hr.elim
   |some b=>exact Q9 hr
  split
  ·refine Q6 ?_
   rw[hashByValue_scannable 8 hsc];refine Q9 ?_;exact Sv (fin { t1 with plain:=false } (hled.trans hE.led) rfl (SetTable.fits_plain_off hfits)) (λr s' hr=>done hr) λ_ _ e=>e
  ·rename_i hpl
   refine Q6 (Q9 ?_);simp only[↓reduceIte];exact Sv (fin t1 (hled.trans hE.led) (by simpa using hpl) hfits) (λr s' hr=>done hr) λ_ _ e=>e
noncomputable def dd(val:Nat->Str):Nat->List Str
 |0=>[]
 |i+1=>if val i∈dd val i then dd val i else dd val i++[val i]
theorem Aw(val:Nat->Str):∀i,(dd val i).length<=i
 |0=>RD _
 |i+1=>by
  have:=Aw val i;unfold dd;split
  ·omega
  ·rw[R8,UG];omega
noncomputable abbrev eO(w:Rx):Bool:=!w.params.followText "set-order"
theorem nE.at'(hS:nE prog w led h a D)(k:∀o,h.get? a=Zz o->h'.get? a=Zz o):nE prog w led h' a D:=by
 obtain⟨o,es,ep,t,ho,hE⟩:=hS;exact⟨o,es,ep,t,k o ho,hE⟩
theorem GM{St:Nat->R1->Prop}(W:WalksS prog w A.in1 I fp wr G n P St)(S:R3)(hSf:S∉fp)(val:Nat->Str)(hval:∀i v,P i v->∃t,v=.str (val i) t)(hb:n+1<V8):∀(k i:Nat) (s:R1),n-i=k->i<=n->St i s->nE prog w led s.heap S (dd val i) ->
   (∀s',Moved (S::wr) G s s'->nE prog w led s'.heap S (dd val n)->R (.ok (.ret .none)) s')->UI (RS prog w) A (.builtin "set.update.loop" ⟨[.ref S,.ref I],[]⟩) R s:=by
 have hSw:=λh=>hSf (W.sub _ h)
 have hsub:∀b∈wr,b∈S::wr:=λb hb=>RG _ hb
 intro k
 induction k with
 |zero =>
  intro i s hk hi hst hS hR;have hin:i=n:=by omega
  subst hin;refine UE PyProof.Rows.F.entry_set_update_loop ?_;rw[Tl TM _];refine Q6 (W.done s _ _ hst λs' hm=>?_);exact Q9 (hR s' (hm.mono hsub) (hS.at' λo ho=>hm.heap S _ hSw ho))
 |succ k ih =>
  intro i s hk hi hst hS hR;have hlt:i<n:=by omega
  refine UE PyProof.Rows.F.entry_set_update_loop ?_;rw[Tl TM _];refine Q6 (W.item i s _ _ hlt hst λv s' hP hst' hm=>?_);obtain⟨t,rfl⟩:=hval i v hP;have hS':=hS.at' λo ho=>hm.heap S _ hSw ho
  refine Q6 (Sc ?_);unfold setAdd;refine Sc ?_;refine Q6 ((SS prog w).pyHash (by show Tq (val i) (.str (val i) t)=true;simp[Tq]) ?_);have hroom:(dd val i).length+1<V8:=by have:=Aw val i;omega
  refine add_str hS' hroom λh' b hsb hS2=>?_
  refine Q9 ⟨Vy TM _,ih (i+1) _ (by omega) hlt (W.frame _ s' _ _ hst' (UM _) λb hb o e=>?_) hS2 λs'' hm'' hS''=>?_⟩
  ·rw[hsb.2 b (λh:b=S=>hSf (by rw[<-h];exact hb))];exact e
  ·refine hR s'' (Moved.trans W.gtrans ((hm.mono hsub).then_heap (UM _) λb o hb e=>?_) hm'') hS''
   rw[hsb.2 b (λh:b=S=>hb (by rw[h];exact RR))];exact e
theorem G6(a:Q7)(h:Q₁ (.ref s.heap.objs.size) { s with heap:=s.heap.push { cls:=.type "set",dict:=Zy,data:=.set #[] 0 (.fresh 0 0 (eO w)) } }):
  UI (RS prog w) A (.call (.builtin "set.__new__") ⟨[.type "set",a],[]⟩) (wants Q₁ E) s:=by
 refine VM ?_;refine Q6 (WK (PySem.F.newCall_set_1 a) (Q9 ⟨Vy PySem.F.plain_set_new _,UE PySem.F.entry_set_new ?_⟩));rw[Tl PySem.F.plain_set_new _];unfold Builtin.«set.__new__» Builtin.Frozenset.newClass;have hsub:=sub_set_self;obtain⟨hp,g,d,tk,os⟩:=s
 wp_walk
 refine Tw (Q9 ?_);simp only[newObj];refine Q6 (wpAny_alloc (Q9 ?_));exact Q9 h
theorem D6(ha:h.get? a=Zz { cls:=.type "set",dict:=Zy,data:=.set #[] 0 (.fresh 0 0 led) }):nE prog w led h a []:=
 ⟨_,#[],0,_,ha,⟨⟨rfl,rfl,rfl⟩,rfl,λe he=>by simp at he,List.Perm.nil,List.nodup_nil,by unfold V8;decide,rfl,rfl,λh=>XZ rfl h⟩⟩
set_option maxHeartbeats 3200000 in
theorem ui(hh:A.handled=Zy)(hl:s.heap.IsList l items)(hv:∀(i:Nat) v,items[i]?=Zz v->∃t,v=.str (val i) t)(hb:items.size+1<V8)(h:∀(h':Rj) (tk:Nat),nE prog w (eO w) h' s.heap.objs.size (dd val items.size)->(∀b o,s.heap.get? b=Zz o->h'.get? b=Zz o)->Q (.ref s.heap.objs.size) { s with heap:=h',toks:=tk }):
  RK (RS prog w) A (U7 (.type "set") [.ref l]) Q E s:=by
 obtain⟨c,tl,hmro⟩:=PySem.F.called_set.mro;have hmade:=PySem.F.called_set.made;have hsub:=PySem.F.called_set.sub;refine wpAny_call (VM ?_);refine Q9 ⟨Code.quiet_builtin _ (by decide +kernel),UE PySem.F.entry_type_call ?_⟩;rw[Around.under_plain (weight_type_call_type "set" [.ref l] []) rfl];have h1:=PySem.F.called_set.notType;have h2:=PySem.F.called_set.canCreate;have hct:=PySem.F.typeCall_set_1 (.ref l)
 repeat (any_goals (first|assumption|wp_step))
 refine UR (G6 (.ref l) (E:=E) (Q₁:=λobj s₁=>obj=.ref s.heap.objs.size/\s₁={ s with heap:=s.heap.push { cls:=.type "set",dict:=Zy,data:=.set #[] 0 (.fresh 0 0 (eO w)) } }) ⟨rfl,rfl⟩) λr s₁ hr=>?_
 cases r with
 |error e=>exact hr
 |ok fl =>
  cases fl with
  |ret obj =>
   obtain⟨rfl,rfl⟩:=hr;have hS:(s.heap.push { cls:=.type "set",dict:=Zy,data:=.set #[] 0 (.fresh 0 0 (eO w)) }).get? s.heap.objs.size=Zz { cls:=.type "set",dict:=Zy,data:=.set #[] 0 (.fresh 0 0 (eO w)) }:=RH _ rfl;have hT:WZ { s with heap:=s.heap.push { cls:=.type "set",dict:=Zy,data:=.set #[] 0 (.fresh 0 0 (eO w)) } } (.ref s.heap.objs.size) "set":=⟨_,hS,rfl⟩
   have hli:=PySem.F.called_set.init.lookup;have hbi:=PySem.F.called_set.init.bind (.ref s.heap.objs.size)
   repeat (any_goals (first|assumption|wp_step))
   refine UR (codeAny_call_builtin (R:=wants (λr s₂=>r=.none/\∃h' tk,s₂={ s with heap:=h',toks:=tk }/\nE prog w (eO w) h' s.heap.objs.size (dd val items.size)/\(∀b o,s.heap.get? b=Zz o->h'.get? b=Zz o)) E) PySem.F.called_set.init.plain PySem.F.entry_set_init (check_set_init_1 hT ?_)) λr₂ s₂ hr₂=>?_
   ·obtain⟨ol,hol,hcl,nl,hdl⟩:=hl
    obtain⟨ocls,odict,odata,oslots⟩:=ol;simp only at hcl hdl;subst hcl;subst hdl;have hol':(s.heap.push { cls:=.type "set",dict:=Zy,data:=.set #[] 0 (.fresh 0 0 (eO w)) }).get? l=Zz { cls:=.type "list",dict:=odict,data:=.seq items nl,slots:=oslots }:=R0 _ hol;have hsls:=PySem.F.sub_list_set;have hslf:=PySem.F.sub_list_frozenset;have hne:(WB "list" == WB "dict")=false:=by decide
    have hl1:(s.heap.push { cls:=.type "set",dict:=Zy,data:=.set #[] 0 (.fresh 0 0 (eO w)) }).IsList l items:=⟨_,hol',rfl,nl,rfl⟩
    unfold Builtin.«set.__init__» noKeywords Builtin.Frozenset.updateFrom;generalize hPI:pyIter=PI
    wp_walk
    subst hPI;refine Uy hl1 ?_;refine Q6 (wpAny_runValue ?_);have hlS:=RM hol;have hh3:A.in1.in1.in1.handled=Zy:=by simp[hh]
    have hneI:l≠(s.heap.push { cls:=.type "set",dict:=Zy,data:=.set #[] 0 (.fresh 0 0 (eO w)) }).objs.size:=by
     rw[Rz];exact Rn (Sm hlS)
    have hSf:s.heap.objs.size∉[(s.heap.push { cls:=.type "set",dict:=Zy,data:=.set #[] 0 (.fresh 0 0 (eO w)) }).objs.size,l]:=by
     rw[Rz];simp only[R9,Ro,R4,or_false,not_or];exact⟨Rn (Tz _),UQ hlS⟩
    refine GM (led:=eO w) ((Walks.list hh3 _ l hneI items).toS) s.heap.objs.size hSf val hv hb (items.size-0) 0 _ (by omega) (Sy _)
     ⟨⟨_,RH _ rfl,rfl,rfl⟩,(hl1.push _)⟩ ?hS0 ?hR
    case hS0 =>
     exact D6 (R0 _ hS)
    case hR =>
     intro s' hm hS';obtain⟨h',g',d',tk',os'⟩:=s';have eg:=hm.gens;have ed:=hm.drawn;have eo:=hm.os;subst eg;subst ed;subst eo;refine Q9 ?_;refine Q9 ⟨rfl,h',tk',rfl,hS',λb o e=>?_⟩;have hb:=RM e;have hb1:=Rn hb;have hb2:b≠(s.heap.push { cls:=.type "set",dict:=Zy,data:=.set #[] 0 (.fresh 0 0 (eO w)) }).objs.size:=by
      rw[Rz];exact Rn (Sm hb)
     exact hm.heap b o (by simp only[R9,Ro,R4,or_false,not_or];exact⟨hb1,hb2⟩) (R0 _ (R0 _ e))
   ·cases r₂ with
    |error e=>exact hr₂
    |ok fl₂ =>
     cases fl₂ with
     |ret r =>
      obtain⟨rfl,h',tk,rfl,hS',hk'⟩:=hr₂
      repeat (any_goals (first|assumption|wp_step))
      exact h _ _ hS' hk'
     |_=>exact hr₂.elim
  |_=>exact hr.elim
end
end Mi
namespace PySem.F
theorem i7:Manifest.owners.lookup (String.ofList ['r','o','t','a','r','e','t','i','_','t','e','s'].reverse)=Zz Manifest.sig_set_iterator:=by kernel_rfl
theorem aE:Slot "set_iterator" "__next__" "set_iterator.__next__" :=
 .of (owner:="set_iterator") (n:="__next__") (by rw[typeLookup_type,builtinLookup_eq_fast];kernel_rfl) (by decide +kernel) (by decide +kernel) (by decide +kernel)
  (by first|exact .inl (by decide +kernel)|exact .inr (by decide +kernel)) (by rw[WL];kernel_rfl)
theorem bz:XH table "set_iterator.__next__" = Zz Builtin.«set_iterator.__next__»:=entryFor_of_tree (by kernel_rfl)
theorem bu(a:Q7):argsOk "set_iterator.__next__" ⟨[a],[]⟩:=by
 unfold argsOk;rw[signature?_of (n:=['_','_','t','x','e','n','_','_']) (by kernel_rfl) i7];kernel_rfl
theorem lS:XH table "set.__iter__" = Zz Builtin.«frozenset.__iter__»:=entryFor_alias (id':="frozenset.__iter__") (by kernel_rfl) rfl (by decide +kernel) (by kernel_rfl)
end PySem.F
namespace Mi
open PySem PySem.Spec PyProof.Rows L2
section
variable{M:Ww}{A:SO}{E:Q7->R1->Prop}{s:R1}
theorem wp_choose'(b:n≠0)(h:∀i d,i<n->Q i { s with drawn:=d }):RK M A (choose src n) Q E s:=
 λΓ p c=>⟨b,h _ _ (Wz _ (Nat.pos_of_ne_zero b))⟩
theorem mH{α:Type}:∀(l:List α) (i:Nat) (h:i<l.length),(l[i]::l.eraseIdx i).Perm l
 |_::_,0,_=>.refl _
 |x::l,i+1,h=>by
  have a:i<l.length:=by simpa using h
  exact(List.Perm.swap ..).trans ((mH l i a).cons x)
theorem pQ{α:Type}:∀(n:Nat) (xs:List α) {s:R1}{Q:List α->R1->Prop},xs.length=n->(∀ys d,ys.Perm xs->Q ys { s with drawn:=d })->RK M A (X6 n xs) Q E s
 |0,xs,s,Q,hl,h=>by
  have e:=SM hl;subst e;unfold X6;exact Q9 (h [] s.drawn .nil)
 |n+1,[],s,Q,hl,h=>by simp at hl
 |n+1,x::xs,s,Q,hl,h=>by
  unfold X6;refine Q6 (wp_choose' (by simp) λi d hi=>?_);have e:=Rg hi;rw[e];refine Q6 (pQ n ((x::xs).eraseIdx i) (by rw[UN hi,hl];rfl) λys d' hp=>?_);exact Q9 (h _ d' ((hp.cons _).trans (mH _ _ hi)))
theorem uP{α:Type}(next:Nat->Nat):∀(a k:Nat) (left:List α) (b:Array α),left.length=a->(Wm next a k left b).toList.Perm (b.toList++left)
 |0,k,left,b,h=>by
  have e:=SM h;subst e;unfold Wm;rw[T9]
 |a+1,k,left,b,h=>by
  unfold Wm;have c:next k%left.length<left.length:=Wz _ (by omega)
  rw[Rg c];refine(uP next a (k+1) _ _ (by rw[UN c];omega)).trans ?_;rw[Vp,SV];exact(mH left _ c).append_left _
theorem picked{α:Type}(next:Nat->Nat)(xs:Array α):(Ur next xs).toList.Perm xs.toList:=by
 unfold Ur;exact uP next xs.size 0 xs.toList #[] (by simp)
end
section
variable{prog:Rk}{w:Rx}{A:SO}{E:Q7->R1->Prop}{s:R1}
def c7(h:Rj)(it a:R3)(first:Q7)(i n ep:Nat):Prop:=∃o,h.get? it=Zz o/\o.cls=.type "set_iterator"/\o.data=.fields #[first,.int i 0,.ref a,.int n 0,.int ep 0]
theorem c7.typeIs(h:c7 s.heap it a first i n ep):s.TypeIs (.ref it) "set_iterator":=let⟨o,b,c,_⟩:=h;⟨o,b,c⟩
theorem zX{pp:Nat}(h:c7 s.heap it a (.ref tp) i es.size ep)(ha:s.heap.get? a=Zz o)(hd:o.data=.set es ep t)(hf:t.fits es.size=true)(htp:s.heap.IsTuple tp pl)(hp:pl[i]?=Zz (.int pp 0))(he:es[pp]?=Zz e)(q:∀h',c7 h' it a (.ref tp) (i+1) es.size ep->U3 it s.heap h'->Q (Zz e.2) { s with heap:=h' }):RK (RS prog w) A (pyNext (.ref it)) Q E s:=by
 obtain⟨oi,d,hci,b⟩:=id h;obtain⟨ot,hot,_,nt,hdt⟩:=htp;unfold pyNext;refine Q6 (Ua (Rv h.typeIs PySem.F.aE (S7 PySem.F.aE h.typeIs PySem.F.bz ?_ (PySem.F.bu _))));unfold Builtin.«set_iterator.__next__» W5;simp only[TX,TW,Rb,↓reduceIte,bind_assoc,Rh,bne_self_eq_false];refine Q6 (Q9 ?_);refine Q6 (UO d b ?_);refine Q6 (SY ha hd hf ?_);simp only[bne_self_eq_false,Rb,↓reduceIte];refine Q6 (Sz hot hdt ?_);simp only[Tn,hp];refine Q6 ?_;unfold setNextDrawn;refine Q6 (Sa ha hd hf ?_);simp only[bne_self_eq_false,Rb,↓reduceIte,he];refine Q9 ?_;refine Q6 (SW d b (by simp) (Q9 ⟨_,rfl,Q9 (q _ ⟨_,S4 _ d (Sb (S3 b _)),(Uz ..).trans hci,?_⟩ (S6 ..))⟩));rw[S3 b];simp[rawInt]
theorem d0(h:Q (M.w.params.followText "set-order") s):RK M A setsByText Q E s:=by
 unfold setsByText;exact Q6 (Tw (Q9 h))
theorem rB{Q:Q7->R1->Prop}(h:c7 s.heap it a f0 i n ep)(q:∀h',c7 h' it a c (i+1) n ep->U3 it s.heap h'->Q v { s with heap:=h' }):
  RK (RS prog w) A (do XI (.ref it) 0 c;XI (.ref it) 1 (rawInt ((i:Int)+1));ret v) (λfin s'=>∃r,fin=.done (.ret r)/\Q r s') E s:=by
 obtain⟨oi,hoi,hci,d⟩:=id h;refine Q6 (SW hoi d (by simp) ?_);have h1:(s.heap.update it (UF λx=>x.setIfInBounds 0 c)).get? it=Zz (UF (λx=>x.setIfInBounds 0 c) oi):=S4 _ hoi (Sb (S3 d _));have e:(UF (λx=>x.setIfInBounds 0 c) oi).data=.fields #[c,.int i 0,.ref a,.int n 0,.int ep 0]:=by rw[S3 d];simp
 refine Q6 (SW h1 e (by simp) (Q9 ⟨_,rfl,q _ ⟨_,S4 _ h1 (Sb (S3 e _)),(Uz ..).trans ((Uz ..).trans hci),?_⟩ ((S6 ..).trans (S6 ..))⟩));rw[S3 e];simp[rawInt]
theorem DX{i sl:Nat}(hb:w.params.followText "set-order" = true)(h:c7 s.heap it a (.int sl 0) i d.size ep)(ha:s.heap.get? a=Zz o)(hd:o.data=.set d ep t)(hf:t.fits d.size=true)(he:(Ur (w.params.setOrder a ep) d)[i]?=Zz e)(q:∀h',c7 h' it a (.int sl 0) (i+1) d.size ep->U3 it s.heap h'->Q (Zz e.2) { s with heap:=h' }):RK (RS prog w) A (pyNext (.ref it)) Q E s:=by
 obtain⟨oi,hoi,hci,hdi⟩:=id h;unfold pyNext;refine Q6 (Ua (Rv h.typeIs PySem.F.aE (S7 PySem.F.aE h.typeIs PySem.F.bz ?_ (PySem.F.bu _))));unfold Builtin.«set_iterator.__next__» W5;simp only[TX,TW,Rb,↓reduceIte,bind_assoc,Rh,bne_self_eq_false];refine Q6 (Q9 ?_);refine Q6 (UO hoi hdi ?_);refine Q6 (SY ha hd hf ?_);simp only[bne_self_eq_false,Rb,↓reduceIte];refine Q6 ?_;unfold XB;refine Q6 (Sa ha hd hf ?_);refine Q6 (d0 ?_);show RK _ _ (if w.params.followText "set-order" = true then _ else _) _ _ _;rw[XU hb];simp only[Tn,bne_self_eq_false,Rb,↓reduceIte];refine Q6 ?_;unfold setWalk;refine Q6 (Sa ha hd hf ?_);refine Q6 (d0 ?_);show RK _ _ (if w.params.followText "set-order" = true then _ else _) _ _ _;rw[XU hb];refine Q6 (Tw (Q9 ?_));refine Q9 ?_;show RK _ _ (match((Ur (w.params.setOrder a ep) d)[i]?).map λe=>(e.2,sl)with
  |some (x,next)=>_
  |none=>_) _ _ _
 rw[he];exact rB h λh' h1 h2=>Q9 (q h' h1 h2)
theorem L4(j:Nat):T3 #[j] 0=0:=by simp[T3,SetTable.below.go]
theorem KY(j:Nat):T3 #[j] (j+1)=1:=by simp[T3,SetTable.below.go]
theorem mR{α:Type}{Q:α->R1->Prop}(d:A.handled=Zy)(q:∀g e,(∀c o,s.heap.get? c=Zz o->g.get? c=Zz o)->(∃o,g.get? e=Zz o/\o.cls=.type "StopIteration")->E (.ref e) { s with heap:=g }):RK (RS prog w) A (newExc (.type "StopIteration") [] >>= λe=>(XJ e:Sem α)) Q E s:=by
 refine Q6 ?_;simp only[newExc,newTuple];refine Q6 (S9 ?_ (by size_fits));refine Q6 (WK (by first|rfl|(simp only[firstArgMember];rfl)) (S9 ?_ (by size_fits)));simp only[XJ];refine Q6 (wpAny_handled ?_);rw[d];exact Q6 (Q9 (wpAny_throw (q _ _ (λc o e=>R0 _ (R0 _ e)) ⟨_,RH _ rfl,rfl⟩)))
theorem GY(hb:w.params.followText "set-order" = false)(d:t.led=true)(hpl:t.place=#[j])(h:c7 s.heap it a (.int 0 0) 0 1 ep)(ha:s.heap.get? a=Zz o)(hd:o.data=.set #[e] ep t)(hf:t.fits 1=true)(q:∀h',c7 h' it a (.int (j+1:Nat) 0) 1 1 ep->U3 it s.heap h'->Q (Zz e.2) { s with heap:=h' }):RK (RS prog w) A (pyNext (.ref it)) Q E s:=by
 obtain⟨oi,hoi,hci,hdi⟩:=id h;unfold pyNext;refine Q6 (Ua (Rv h.typeIs PySem.F.aE (S7 PySem.F.aE h.typeIs PySem.F.bz ?_ (PySem.F.bu _))));unfold Builtin.«set_iterator.__next__» W5;simp only[TX,TW,Rb,↓reduceIte,bind_assoc,Rh,bne_self_eq_false];refine Q6 (Q9 ?_);refine Q6 (UO hoi hdi ?_);refine Q6 (SY ha hd hf ?_);rw[XV (by simp)];refine Q6 ?_;unfold XB;refine Q6 (Sa ha hd hf ?_);refine Q6 (d0 ?_);show RK _ _ (if w.params.followText "set-order" = true then _ else _) _ _ _;rw[XV (by rw[hb];decide)];split
 ·rename_i b
  have b:(!t.plain&&decide (1>1))=true:=b;simp at b
 ·refine Q6 ?_
  show RK _ _ (if(!t.led&&!(#[e]:Array (Int×Q7)).isEmpty)=true then _ else _) _ _ _;rw[XV (by rw[d];simp)];refine Q9 ?_;rw[hpl];show RK _ _ (pure (match(#[e]:Array (Int×Q7))[T3 #[j] 0]?,(#[j]:Array Nat)[T3 #[j] 0]? with
   |some (_,x),Zz j=>Zz (x,j+1)
   |_,_=>Zy)) _ _ _
  rw[L4];refine Q9 ?_;exact rB h λh' h1 h2=>Q9 (q h' h1 h2)
theorem AD(hA:A.handled=Zy)(h:c7 s.heap it a f0 i n ep)(b:∀{Q':Fin->R1->Prop}{E':Q7->R1->Prop},(∀g e,Us it s.heap g->(∃o,g.get? e=Zz o/\o.cls=.type "StopIteration")->E' (.ref e) { s with heap:=g })->RK (RS prog w) A.in1 (Builtin.«set_iterator.__next__» ⟨[.ref it],[]⟩) Q' E' s)(q:∀g,Us it s.heap g->Q Zy { s with heap:=g }):RK (RS prog w) A (pyNext (.ref it)) Q E s:=by
 unfold pyNext;refine Q6 (Ua (Rv h.typeIs PySem.F.aE (S7 PySem.F.aE h.typeIs PySem.F.bz (b λg e k he=>?_) (PySem.F.bu _))));obtain⟨o,ho,hc⟩:=he;exact Q6 (W6 ⟨o,ho,hc⟩ isSubtype_stop (Q9 (q g k)))
theorem C4(hA:A.handled=Zy)(h:c7 s.heap it a (.ref tp) i es.size ep)(ha:s.heap.get? a=Zz o)(hd:o.data=.set es ep t)(hf:t.fits es.size=true)(htp:s.heap.IsTuple tp pl)(hp:pl[i]?=Zy)(q:∀g,Us it s.heap g->Q Zy { s with heap:=g }):RK (RS prog w) A (pyNext (.ref it)) Q E s:=by
 refine AD hA h (λ{Q' E'} r=>?_) q;obtain⟨oi,hoi,hci,hdi⟩:=id h;obtain⟨ot,hot,_,nt,hdt⟩:=htp;unfold Builtin.«set_iterator.__next__» W5;simp only[TX,TW,Rb,↓reduceIte,bind_assoc,Rh,bne_self_eq_false];refine Q6 (Q9 ?_);refine Q6 (UO hoi hdi ?_);refine Q6 (SY ha hd hf ?_);simp only[bne_self_eq_false,Rb,↓reduceIte];refine Q6 (Sz hot hdt ?_);simp only[Tn,hp];refine Q6 (SW hoi hdi (by simp) ?_);have h1:(s.heap.update it (UF λx=>x.setIfInBounds 0 (rawInt 0))).get? it=Zz (UF (λx=>x.setIfInBounds 0 (rawInt 0)) oi):=S4 _ hoi (Sb (S3 hdi _));have hd1:(UF (λx=>x.setIfInBounds 0 (rawInt 0)) oi).data=.fields #[rawInt 0,.int i 0,.ref a,.int es.size 0,.int ep 0]:=by rw[S3 hdi];simp
 refine Q6 (SW h1 hd1 (by simp) (mR (by simp[hA]) λg e k he=>r g e (λc o n x=>?_) he));exact k c o (((S6 ..).trans (S6 ..)).extBut c o n x)
theorem FM{i u:Nat}(hA:A.handled=Zy)(hb:w.params.followText "set-order" = true)(h:c7 s.heap it a (.int u 0) i es.size ep)(p:s.heap.get? a=Zz o)(m:o.data=.set es ep t)(j:t.fits es.size=true)(l:(Ur (w.params.setOrder a ep) es)[i]?=Zy)(q:∀g,Us it s.heap g->Q Zy { s with heap:=g }):RK (RS prog w) A (pyNext (.ref it)) Q E s:=by
 refine AD hA h (λ{Q' E'} r=>?_) q;obtain⟨oi,b,hci,d⟩:=id h;unfold Builtin.«set_iterator.__next__» W5;simp only[TX,TW,Rb,↓reduceIte,bind_assoc,Rh,bne_self_eq_false];refine Q6 (Q9 ?_);refine Q6 (UO b d ?_);refine Q6 (SY p m j ?_);simp only[bne_self_eq_false,Rb,↓reduceIte];refine Q6 ?_;unfold XB;refine Q6 (Sa p m j ?_);refine Q6 (d0 ?_);show RK _ _ (if w.params.followText "set-order" = true then _ else _) _ _ _;rw[XU hb];simp only[Tn,bne_self_eq_false,Rb,↓reduceIte];refine Q6 ?_;unfold setWalk;refine Q6 (Sa p m j ?_);refine Q6 (d0 ?_);show RK _ _ (if w.params.followText "set-order" = true then _ else _) _ _ _;rw[XU hb];refine Q6 (Tw (Q9 ?_));refine Q9 ?_;show RK _ _ (match((Ur (w.params.setOrder a ep) es)[i]?).map λe=>(e.2,u)with
  |some (x,next)=>_
  |none=>_) _ _ _
 rw[l];refine Q6 (SW b d (by simp) (mR (by simp[hA]) λg e k l=>r g e (λc o n x=>?_) l));exact k c o ((S6 ..).extBut c o n x)
theorem Jo{i sl:Nat}(hA:A.handled=Zy)(hb:w.params.followText "set-order" = false)(f:t.led=true)(h:c7 s.heap it a (.int sl 0) i es.size ep)(ha:s.heap.get? a=Zz o)(hd:o.data=.set es ep t)(hf:t.fits es.size=true)(hs:es.size<=1)(he:es[T3 t.place sl]?=Zy)(q:∀g,Us it s.heap g->Q Zy { s with heap:=g }):RK (RS prog w) A (pyNext (.ref it)) Q E s:=by
 refine AD hA h (λ{Q' E'} r=>?_) q;obtain⟨oi,d,hci,l⟩:=id h;unfold Builtin.«set_iterator.__next__» W5;simp only[TX,TW,Rb,↓reduceIte,bind_assoc,Rh,bne_self_eq_false];refine Q6 (Q9 ?_);refine Q6 (UO d l ?_);refine Q6 (SY ha hd hf ?_);simp only[bne_self_eq_false,Rb,↓reduceIte];refine Q6 ?_;unfold XB;refine Q6 (Sa ha hd hf ?_);refine Q6 (d0 ?_);show RK _ _ (if w.params.followText "set-order" = true then _ else _) _ _ _;rw[XV (by rw[hb];decide)];split
 ·rename_i b
  have b:(!t.plain&&decide (es.size>1))=true:=b;simp at b;omega
 ·refine Q6 ?_
  show RK _ _ (if(!t.led&&!es.isEmpty)=true then _ else _) _ _ _;rw[XV (by rw[f];simp)];refine Q9 ?_;show RK _ _ (pure (match es[T3 t.place sl]?,t.place[T3 t.place sl]? with
   |some (_,x),Zz j=>Zz (x,j+1)
   |_,_=>Zy)) _ _ _
  rw[he];refine Q9 ?_;refine Q6 (SW d l (by simp) (mR (by simp[hA]) λg e k he=>r g e (λc o n x=>?_) he));exact k c o ((S6 ..).extBut c o n x)
end
end Mi
namespace PySem.F
theorem dC:Slot "set_iterator" "__iter__" "set_iterator.__iter__" :=
 .of (owner:="set_iterator") (n:="__iter__") (by rw[typeLookup_type,builtinLookup_eq_fast];kernel_rfl) (by decide +kernel) (by decide +kernel) (by decide +kernel)
  (by first|exact .inl (by decide +kernel)|exact .inr (by decide +kernel)) (by rw[WL];kernel_rfl)
theorem iH:XH table "set_iterator.__iter__" = Zz Builtin.«dict_keyiterator.__iter__»:=entryFor_alias (id':="dict_keyiterator.__iter__") (by kernel_rfl) rfl (by decide +kernel) (by kernel_rfl)
theorem im(a:Q7):argsOk "set_iterator.__iter__" ⟨[a],[]⟩:=by
 unfold argsOk;rw[signature?_of (n:=['_','_','r','e','t','i','_','_']) (by kernel_rfl) i7];kernel_rfl
end PySem.F
namespace Mi
open PySem PySem.Spec PyProof.Rows L2
section
variable{prog:Rk}{w:Rx}{A:SO}{E:Q7->R1->Prop}{s:R1}
theorem c7.at'(x:c7 h it a f0 i n ep)(k:∀o,h.get? it=Zz o->h'.get? it=Zz o):c7 h' it a f0 i n ep:=let⟨o,b,r⟩:=x;⟨o,k o b,r⟩
inductive oq (w:Rx) (h:Rj) (it a tp:R3) (vs:List Q7) (i:Nat):Prop where
 |drawn {o:Obj}{es:Array (Int×Q7)}{ep:Nat}{t:UD}{pl:Array Q7}:c7 h it a (.ref tp) i es.size ep->h.get? a=Zz o->o.data=.set es ep t->t.fits es.size=true->h.IsTuple tp pl ->
  (∀(k:Nat) v,vs[k]?=Zz v->∃(pp:Nat) (e:Int×Q7),pl[k]?=Zz (.int pp 0)/\es[pp]?=Zz e/\e.2=v)->pl.size=vs.length->oq w h it a tp vs i
 |text {o:Obj}{es:Array (Int×Q7)}{ep:Nat}{t:UD}:w.params.followText "set-order" = true->c7 h it a (.int (0:Nat) 0) i es.size ep->h.get? a=Zz o->o.data=.set es ep t->t.fits es.size=true ->
  vs=(Ur (w.params.setOrder a ep) es).toList.map (·.2)->oq w h it a tp vs i
 |few {o:Obj}{es:Array (Int×Q7)}{ep:Nat}{t:UD}{sl:Nat}:w.params.followText "set-order" = false->t.led=true->c7 h it a (.int sl 0) i es.size ep->h.get? a=Zz o->o.data=.set es ep t->t.fits es.size=true->es.size<=1 ->
  vs=es.toList.map (·.2)->(i=0/\sl=0∨i=1/\es.size=1/\∃j,t.place=#[j]/\sl=j+1)->oq w h it a tp vs i
theorem oq.at'(x:oq w h it a tp vs i)(k:∀b∈[it,a,tp],∀o,h.get? b=Zz o->h'.get? b=Zz o):oq w h' it a tp vs i:=by
 cases x with
 |drawn g f e d c l j=>exact .drawn (g.at' (k it (by simp))) (k a (by simp) _ f) e d (let⟨o,ho,r⟩:=c;⟨o,k tp (by simp) o ho,r⟩) l j
 |text m g f e d c=>exact .text m (g.at' (k it (by simp))) (k a (by simp) _ f) e d c
 |few m hl g f e d c l j=>exact .few m hl (g.at' (k it (by simp))) (k a (by simp) _ f) e d c l j
theorem C0{t:UD}(h:t.fits 1=true):∃j,t.place=#[j]:=by
 unfold SetTable.fits at h;simp only[R6,beq_iff_eq]at h;have a:=h.1;rcases b:t.place with⟨l⟩
 rw[b]at a
 match l,a with
 |[j],_=>exact⟨j,rfl⟩
theorem Jx{α:Type}{es:Array α}(h:es.size=1):∃e,es=#[e]:=by
 rcases es with⟨l⟩
 match l,h with
 |[e],_=>exact⟨e,rfl⟩
theorem C5(hA:A.handled=Zy):Walks prog w A it [it,a,tp] [it] vs.length (λi v=>vs[i]?=Zz v) (λi h=>oq w h it a tp vs i/\a≠it/\tp≠it) where
 sub:=λb hb=>by simp at hb;simp[hb]
 frame:=λ_ _ _ u hk=>⟨u.1.at' hk,u.2⟩
 item:=λi s Q E hi u hQ=>by
  obtain⟨u,na,nt⟩:=u;have hv:=Rg hi;cases u with
  |drawn c m f d p h6 h7 =>
   obtain⟨pp,e,q1,q2,q3⟩:=h6 i _ hv;refine zX c m f d p q1 q2 λh' r hs=>?_
   rw[q3];obtain⟨ot,hot,rt⟩:=p;exact hQ _ h' s.toks hv ⟨.drawn r (hs.extBut _ _ na m) f d ⟨ot,hs.extBut _ _ nt hot,rt⟩ h6 h7,na,nt⟩ λb o hb e=>hs.extBut b o (λh=>hb (by simp[h])) e
  |@text o y ep t h0 c m f d p =>
   have he:∃e,(Ur (w.params.setOrder a ep) y)[i]?=Zz e/\e.2=vs[i]:=by
    have n:=hv;generalize hx:vs[i]=x at n ⊢;rw[p,Ru,UH]at n;cases q:(Ur (w.params.setOrder a ep) y)[i]? with
    |none=>rw[q]at n;cases n
    |some e=>rw[q]at n;exact⟨e,rfl,Rr n⟩
   obtain⟨e,he,hev⟩:=he;refine DX h0 c m f d he λh' r hs=>?_
   rw[hev];exact hQ _ h' s.toks hv ⟨.text h0 r (hs.extBut _ _ na m) f d p,na,nt⟩ λb o hb e=>hs.extBut b o (λh=>hb (by simp[h])) e
  |@few o y ep t sl h0 hl c m f d p h6 h7 =>
   have hsz:vs.length=y.size:=by rw[h6,Q8,Ry]
   have e1:y.size=1:=by omega
   rcases h7 with⟨rfl,rfl⟩|⟨rfl,_⟩
   ·obtain⟨e,rfl⟩:=Jx e1
    obtain⟨j,hj⟩:=C0 d;refine GY h0 hl hj c m f d λh' r hs=>?_
    have hve:e.2=vs[0]:=by simp[h6]
    rw[hve];exact hQ _ h' s.toks hv ⟨.few h0 hl r (hs.extBut _ _ na m) f d p h6 (.inr ⟨rfl,rfl,j,hj,rfl⟩),na,nt⟩ λb o hb e=>hs.extBut b o (λh=>hb (by simp[h])) e
   ·omega
 done:=λs Q E u hQ=>by
  obtain⟨u,na,nt⟩:=u;have fin:∀g,Us it s.heap g->Q Zy { s with heap:=g }:=λg k=>hQ g s.toks λb o hb e=>k b o (λh=>hb (by simp[h])) e
  cases u with
  |drawn c m f d p h6 h7=>exact C4 hA c m f d p (by rw[<-h7];simp) fin
  |@text o y ep t h0 c m f d p=>exact FM hA h0 c m f d (by rw[p];simp) fin
  |@few o y ep t sl h0 hl c m f d p h6 h7 =>
   have hsz:vs.length=y.size:=by rw[h6,Q8,Ry]
   refine Jo hA h0 hl c m f d p ?_ fin;rcases h7 with⟨h8,rfl⟩|⟨h8,h9,j,hj,rfl⟩
   ·have:y.size=0:=by omega
    simp[this]
   ·rw[hj,KY]
    simp[h9]
 self:=λi s Q E u h=>by
  have hT:s.TypeIs (.ref it) "set_iterator":=by
   cases u.1 with
   |drawn c=>exact c.typeIs
   |text _ c=>exact c.typeIs
   |few _ _ c=>exact c.typeIs
  refine wpAny_pyIter_slot hT PySem.F.dC (S7 PySem.F.dC hT PySem.F.iH ?_ (PySem.F.im _));exact Q9 ⟨_,rfl,"set_iterator",_,hT,PySem.F.aE.lookup,h⟩
def qK(vs:List Q7)(D:List Str):Prop:=(∀v∈vs,∃x t,v=.str x t)/\(vs.map strOf).Perm D
theorem tq(b:Od prog w led o D es ep t){l:List (Int×Q7)}(a:l.Perm es.toList):qK (l.map (·.2)) D:=by
 constructor
 ·intro v c
  obtain⟨e,g,rfl⟩:=RI.mp c;obtain⟨⟨k,f,_⟩,_⟩:=b.el e (a.mem_iff.mp g);obtain⟨u,d⟩:=VS f;exact⟨k,u,d⟩
 ·rw[Re]
  exact(a.map (strOf ∘ λe:Int×Q7=>e.2)).trans b.NO
theorem range_list:∀l:List (Int×Q7),(SA l.length).filterMap (λp=>l[p]?)=l
 |[]=>rfl
 |x::l=>by
  rw[RE,List.range_succ_eq_map,Tu,List.filterMap_map];show x::(SA l.length).filterMap (λp=>l[p]?)=_;rw[range_list l]
theorem Aj(a:Array (Int×Q7)):((SA a.size).filterMap λp=>a[p]?)=a.toList:=by
 have:=range_list a.toList;rw[Ry]at this;simpa only[UH]using this
theorem xa{b:Array (Int×Q7)}:∀{ys:List Nat},(∀p∈ys,p<b.size)->(ys.filterMap λp=>b[p]?)=ys.map λp=>b[p]?.getD (0,.none)
 |[],_=>rfl
 |p::ys,h=>by
  have a:=h p RR;rw[Tu,RN,xa λq c=>h q (RG _ c)];simp[a]
theorem Hl(hS:nE prog w (eO w) s.heap a D)(h:∀(h':Rj) d it n vs,oq w h' it a n vs 0->a≠it->n≠it->qK vs D->s.heap.objs.size<=it->(n=a∨s.heap.objs.size<=n)->n<h'.objs.size->it<h'.objs.size->(∀b o,s.heap.get? b=Zz o->h'.get? b=Zz o)->Q (.ref it) { s with heap:=h',drawn:=d }):
  RK (RS prog w) A (pyIter (.ref a)) Q E s:=by
 obtain⟨o,l,ep,t,ha,g⟩:=hS;have hT:s.TypeIs (.ref a) "set":=⟨o,ha,g.ex.1⟩
 have hal:=RM ha;refine wpAny_pyIter_slot hT PySem.F.slot_set_iter (S7 PySem.F.slot_set_iter hT PySem.F.lS ?_ (PySem.F.args_set_iter_1 _));unfold Builtin.«frozenset.__iter__» Builtin.Frozenset.slot0 W5;simp only[TX,TW,Rb,↓reduceIte,bind_assoc,Rh,bne_self_eq_false];unfold Builtin.Frozenset.addrOf Builtin.Frozenset.sizeOf;refine Q6 (Q9 ?_)
 first
  |refine Q6 (Q6 (SY ha g.data g.fits (Q9 ?_)))
  |(refine Q6 (Q9 ?_);refine Q6 (Q6 (SY ha g.data g.fits (Q9 ?_))))
 refine Q6 ?_;unfold setDrawn;refine Q6 (Sa ha g.data g.fits ?_);refine Q6 (d0 ?_);refine Q9 ?_
 -- what is m at the end
 have m:∀(u:Rj) (d:_) (first:Q7),(∀b o,s.heap.get? b=Zz o->u.get? b=Zz o)->s.heap.objs.size<=u.objs.size->(∀h':Rj,(∀b o,u.get? b=Zz o->h'.get? b=Zz o)->h'.objs.size=u.objs.size+1->c7 h' u.objs.size a first 0 l.size ep->∃n vs,oq w h' u.objs.size a n vs 0/\n≠u.objs.size/\qK vs D/\(n=a∨s.heap.objs.size<=n)/\n<h'.objs.size) ->
   RK (RS prog w) A.in1 (do
    let e <-setEpoch a
    let r <-newFields "set_iterator" [first,rawInt 0,.ref a,rawInt l.size,rawInt e]
    ret r) (λfin s'=>∃v,fin=.done (.ret v)/\∃T' r,s'.TypeIs v T'/\Wc (.type T') "__next__" = pure (Zz r)/\Q v s') E { s with heap:=u,drawn:=d }:=λu d first k1 z1 mk=>by
  refine Q6 (wpAny_setEpoch_of (k1 _ _ ha) g.data g.fits ?_);refine Q6 (S9 (Q9 ⟨_,rfl,"set_iterator",_,⟨_,RH _ rfl,rfl⟩,PySem.F.aE.lookup,?_⟩));have hz:(u.push { cls:=.type "set_iterator",data:=.fields [first,rawInt 0,.ref a,rawInt l.size,rawInt ep].toArray }).objs.size=u.objs.size+1:=Rz ..;obtain⟨n,vs,q1,q2,q3,q4,q5⟩:=mk (u.push { cls:=.type "set_iterator",data:=.fields [first,rawInt 0,.ref a,rawInt l.size,rawInt ep].toArray }) (λb o e=>R0 _ e) hz ⟨_,RH _ rfl,rfl,rfl⟩;exact h _ d u.objs.size n vs q1 (Rn (RU hal z1)) q2 q3 z1 q4 q5 (by rw[hz];exact Tz _) λb o e=>R0 _ (k1 b o e)
 cases hb:w.params.followText "set-order" with
 |true =>
  rw[XV (by show ¬((!(w.params.followText "set-order")&&_)=true);rw[hb];simp)];refine Q6 (Q9 ?_);refine m s.heap s.drawn (rawInt 0) (λ_ _ e=>e) (RD _) λh' k hz r=>?_
  exact⟨a,_,.text hb r (k _ _ ha) g.data g.fits rfl,Rn hal,tq g (picked _ _),.inl rfl,by rw[hz];exact Sm hal⟩
 |false =>
  by_cases h2:l.size<=1
  ·rw[XV (by
    show ¬((!(w.params.followText "set-order")&&(!t.plain&&decide (l.size>1)))=true);simp
    intros
    omega)]
   refine Q6 (Q9 ?_);refine m s.heap s.drawn (rawInt 0) (λ_ _ e=>e) (RD _) λh' k hz r=>?_
   exact⟨a,_,.few hb (by rw[g.led];simp[hb]) (r) (k _ _ ha) g.data g.fits h2 rfl (.inl ⟨rfl,rfl⟩),Rn hal,tq g (.refl _),.inl rfl,by rw[hz];exact Sm hal⟩
  ·have hpl:=g.plain (by omega)
   rw[XU (by
    show(!(w.params.followText "set-order")&&(!t.plain&&decide (l.size>1)))=true;rw[hb,hpl];simp;omega)]
   refine Q6 (pQ l.size (SA l.size) To λys d hp=>?_);refine Q6 (wpAny_newTuple ?_ (by rw[Q8,hp.length_eq,To];exact Vq g.room));have hz1:(s.heap.push { cls:=.type "tuple",data:=.seq (ys.map λ(i:Nat)=>rawInt i).toArray }).objs.size=s.heap.objs.size+1:=Rz ..;refine m (s.heap.push { cls:=.type "tuple",data:=.seq (ys.map λ(i:Nat)=>rawInt i).toArray }) d (.ref s.heap.objs.size) (λb o e=>R0 _ e) (by omega) λh' k hz r=>?_
   have hys:∀p∈ys,p<l.size:=λp hm=>Va.mp (hp.mem_iff.mp hm)
   have hvs:(ys.filterMap λp=>l[p]?).Perm l.toList:=by
    rw[<-Aj l];exact hp.filterMap _
   refine⟨s.heap.objs.size,(ys.filterMap λp=>l[p]?).map (·.2),.drawn r (k _ _ (R0 _ ha)) g.data g.fits ⟨_,k _ _ (RH _ rfl),rfl,_,rfl⟩ ?_ ?_,by rw[hz1];exact Rn (Tz _),tq g hvs,.inr (RD _),by rw[hz,hz1];exact Sm (Tz _)⟩
   ·have e:=xa hys
    intro j v hv;rw[e,Re,Ru]at hv;cases q:ys[j]? with
    |none=>rw[q]at hv;cases hv
    |some p =>
     rw[q]at hv;have hlt:=hys p (Si q);refine⟨p,l[p],?_,by simp[hlt],?_⟩
     ·simp[q,rawInt]
     ·have:=Rr hv
      simpa[hlt]using this
   ·rw[xa hys]
    simp only[R7,Q8]
theorem yz(hA:A.handled=Zy)(hS:nE prog w (eO w) s.heap a D)(hz:D.length<=1000)(q:∀h' tk d vs,qK vs D->(∀b o,s.heap.get? b=Zz o->h'.get? b=Zz o)->s.toks<=tk->s.heap.objs.size<h'.objs.size->Q vs { s with heap:=h',toks:=tk,drawn:=d }):RK (RS prog w) A (collect (.ref a)) Q E s:=by
 obtain⟨o,es,ep,t,ha,hE⟩:=id hS;have hal:=RM ha;have hsz:D.length<=RV:=by rw[Sh];omega
 unfold collect;refine Q6 (wpAny_runValue (UE PySem.F.entry_proto_collect ?_));rw[Tl PySem.F.plain_proto_collect _];refine Q6 (S9 ?_);refine Q9 ⟨Vy PySem.F.plain_list_iadd _,UE PySem.F.entry_list_iadd ?_⟩;rw[Tl PySem.F.plain_list_iadd _];have hS₁:nE prog w (eO w) (s.heap.push { cls:=.type "list",data:=.seq ([]:List Q7).toArray }) a D:=hS.at' λo e=>R0 _ e
 have hL₁:(s.heap.push { cls:=.type "list",data:=.seq ([]:List Q7).toArray }).get? s.heap.objs.size=Zz { cls:=.type "list",data:=.seq ([]:List Q7).toArray }:=RH _ rfl;have ha₁:(s.heap.push { cls:=.type "list",data:=.seq ([]:List Q7).toArray }).get? a=Zz o:=R0 _ ha;have hne:=UQ hal;have h1:Builtin.List.listSameRef (.ref s.heap.objs.size) (.ref a)=false:=by simp[Builtin.List.listSameRef,hne]
 show RK _ A.in1 (Builtin.List.listExtendWith (.ref s.heap.objs.size) (.ref a) (.ref s.heap.objs.size)) _ _ _;unfold Builtin.List.listExtendWith;have hT:WZ { s with heap:=s.heap.push { cls:=.type "list",data:=.seq ([]:List Q7).toArray } } (.ref a) "set":=⟨o,ha₁,hE.ex.1⟩
 refine Q6 (VW hT ?_);rw[XV (by rw[h1];decide)];refine Q6 (Hl hS₁ λh' d it tp vs st na nt tx l1 l2 l3 l4 k=>?_);have hT':WZ { s with heap:=h',drawn:=d } (.ref a) "set":=⟨o,k _ _ ha₁,hE.ex.1⟩
 refine Q6 (Sc ?_);unfold Builtin.List.listLengthHint;refine Q6 (wpAny_specialOf hT' PySem.F.slot_set_len.lookup ?_);generalize hid:("set.__len__" : String)=id0
 wp_delta
 rw[show splitId id0=Zz ("set","__len__")from by subst hid;decide +kernel];subst hid;refine Q6 (W6 (b:=true) hT' (by rw[WL];kernel_rfl) ?_);refine Q6 (VW hT' ?_);refine Q9 ?_;rw[XU (by rfl)];refine Q6 (Tt ?_);have hL':=k _ _ hL₁;refine Q6 ?_;unfold Builtin.List.listTouch;refine Q6 (listUpdate_at hL' rfl ?_ (by simp) (by simp[Sh]));have hL2:=get?_update_seq hL' (λxs=>xs.push TY);refine listUpdate_at hL2 rfl ?_ (by simp[Sh]) (by simp[Sh]);have hL3:=get?_update_seq hL2 (λxs=>xs.pop);have hse:((#[]:Array Q7).push TY).pop=#[]:=by simp
 rw[hse]at hL3;have hSf:s.heap.objs.size∉[it,a,tp]:=by
  have z:(s.heap.push { cls:=.type "list",data:=.seq ([]:List Q7).toArray }).objs.size=s.heap.objs.size+1:=Rz ..;have l1':=z▸l1;simp only[R9,R4,or_false,not_or];refine⟨Rn l1',hne,?_⟩;rcases l2 with rfl|l2
  ·exact hne
  ·have l2':=z▸l2
   exact Rn l2'
 have hot:∀b∈[it,a,tp],∀o,h'.get? b=Zz o->((h'.update s.heap.objs.size (U6 λxs=>xs.push TY)).update s.heap.objs.size (U6 λxs=>xs.pop)).get? b=Zz o:=λb hb o e=>by
  have nb:s.heap.objs.size≠b:=λz=>hSf (by rw[z];exact hb)
  rw[S0 _ _ nb,S0 _ _ nb];exact e
 have hvl:vs.length=D.length:=by rw[<-tx.2.length_eq,Q8]
 refine Q9 ⟨Vy PySem.F.plain_extend_loop _,codeAny_extend_loopS ((C5 (by simp[hA])).toS) (by omega) _ hSf _ vs.length 0 _ _ _ rfl (Sy _) ⟨st.at' hot,na,nt⟩ hL3 (ItemsOf.nil _) λs' acc' c' hm hS' hacc=>?_⟩;refine Q6 (wpAny_load hS' ?_);have hacc':acc'.toList=vs:=by
  obtain⟨h1,h2⟩:=hacc;refine List.ext_getElem? λj=>?_
  rw[UH];cases qj:acc'[j]? with
  |some v=>rw[h2 j v qj]
  |none =>
   rw[Te];have:=Array.getElem?_eq_none_iff.mp qj;omega
 obtain⟨hh,g',d',tk',os'⟩:=s';have eg:g'=s.gens:=hm.gens;have ed:d'=d:=hm.drawn;have eo:os'=s.os:=hm.os;subst eg;subst ed;subst eo;refine Q9 ?_;show Q acc'.toList _;rw[hacc'];refine q hh tk' d' vs tx (λb o e=>?_) hm.toks (RM hS');have nb:s.heap.objs.size≠b:=UQ (RM e);have nit:b≠it:=λz=>by
  have z1:(s.heap.push { cls:=.type "list",data:=.seq ([]:List Q7).toArray }).objs.size=s.heap.objs.size+1:=Rz ..;have l1':s.heap.objs.size+1<=it:=z1▸l1;have:=RM e;rw[z]at this;exact XZ (RU this (Nat.le_of_succ_le l1')) (SH _)
 refine hm.heap b o (by simp only[R9,R4,or_false,not_or];exact⟨λz=>nb z.symm,nit⟩) ?_;show((h'.update s.heap.objs.size (U6 λxs=>xs.push TY)).update s.heap.objs.size (U6 λxs=>xs.pop)).get? b=Zz o;rw[S0 _ _ nb,S0 _ _ nb];exact k b o (R0 _ e)
theorem AB(hA:A.handled=Zy)(hS:nE prog w (eO w) s.heap a D)(hz:D.length<64)(q:∀h' tk d l out ss' e,XC out ss'->ss'.Perm D->sortedS ss'=true->h'.get? l=Zz (seqObj "list" out.toArray e)->s.heap.objs.size<=l->(∀b o,s.heap.get? b=Zz o->h'.get? b=Zz o)->s.toks<=tk->Q (.ref l) { s with heap:=h',toks:=tk,drawn:=d }):
  RK (RS prog w) A (U7 (.builtin "sorted") [.ref a]) Q E s:=by
 refine Calls.call_function_entry kind_sorted plain_sorted entry_sorted (args_sorted1 _) ?_
 unfold Builtin.«sorted»;refine Q6 (Q9 ?_);refine Q6 (yz (by simp[hA]) hS (by omega) λh' tk d vs tx k ht hlt=>?_);have hvl:vs.length=D.length:=by rw[<-tx.2.length_eq,Q8]
 refine Q6 (wpAny_newList ?_ (by rw[Sh];omega));have hoL:(h'.push (seqObj "list" vs.toArray 0)).get? h'.objs.size=Zz (seqObj "list" vs.toArray 0):=RH _ rfl;have hStr:=strsAre_map vs tx.1;refine Q6 (Sc (S7 slot_list_sort ⟨_,hoL,rfl⟩ entry_list_sort (list_sort_treeK strKind_oneLt hoL hStr.keysOf (λv₁ v₂ rest e=>keyKind_strs (by rw[<-e];exact hStr)) (by omega) λst' a1 a2=>⟨_,rfl,?_⟩) (args_list_sort _)));obtain⟨ss',b1,b2,b3⟩:=sorted_out_str hStr a1 a2;obtain⟨e,he⟩:=sortedHeap_at hoL;refine Q9 ⟨_,rfl,q _ tk d h'.objs.size ((arrOf st').map (·.2)).toList ss' e b1 (b2.trans tx.2) b3 he (Uv hlt) (λb o x=>?_) ht⟩;rw[sortedHeap_old (Rn (RM (k b o x))) (by rw[size_push'];exact Sm (RM (k b o x)))];exact R0 _ (k b o x)
end
end Mi
namespace Mi
open PySem
inductive T where
 |non|bl (b:Bool)|int (i:Int)|str (cs:List Nat)
 |tup (ts:List T)|lst (ts:List T)
 |dct (ks:List L2.Key) (ts:List T)
 |dr (ns:List Int)
 deriving Inhabited
inductive W where
 |t (x:T)|c (i:Nat)|x (cls:Nat) (nms:List Str) (ts:List T)
 deriving Inhabited
noncomputable abbrev Mem:=List (Option (Bool×List T))
structure Exc where
 cls:Nat
 nms:List Str
 JZ:List T
inductive Res (a:Type) where
 |ok (x:a) (m:Mem)|exc (x:Exc) (m:Mem)|stuck
noncomputable def Res.bind{a b:Type}(r:Res a)(f:a->Mem->Res b):Res b:=match r with
 |.ok x m=>f x m
 |.exc x m=>.exc x m
 |.stuck=>.stuck
noncomputable abbrev Env:=List (Option W)
inductive B where
 |len|int|str|tuple|list|all|min2|oE|sorted|dm|kf
 |Oo
 deriving DecidableEq
inductive Mt where
 |join|append|iX|split|partition|starts|mF
 deriving DecidableEq
inductive Ty where
 |int|bool|str|tuple|list|dict
 deriving DecidableEq
inductive Tg where
 |nm (i:Nat)|tp (is:List Nat)
 deriving DecidableEq
mutual
inductive E where
 |var (i:Nat)|gl (k:Nat)|con (x:T)
 |bin (op:VH) (a b:E)|not (a:E)
 |and (a b:E)|or (a b:E)
 |cmp (op:Vm) (a b:E)|J6 (op op':Vm) (a b c:E)
 |ite (c a b:E)
 |tup (es:Es)|lst (es:Es)|zn (es:Es)|DZ (a:E)|LD (a b:E)
 |ix (a b:E)|Hq (a lo hi:E)|hole
 |call (f:Nat) (es:Es)|blt (b:B) (es:Es)|eP (b:Mt) (o:E) (es:Es)
 |uo (a:E) (ty:Ty)
 |comp (own:Nat) (keep:List Nat) (it:E) (tg:Tg) (cs:Es) (inner:E)
 |more (it:E) (tg:Tg) (cs:Es) (inner:E)
 |emit (a:E)
 |fst (es:Es)|MA (k:Nat) (e:E)|L7 (k:Nat) (neg:Bool) (e:E)|Op (k:Nat) (e:E)|Pl (es:Es)
inductive Es where
 |nil|cons (e:E) (es:Es)
end
noncomputable def aA:E->Bool
 |.hole=>true
 |_=>false
inductive S where
 |done
 |asg (i:Nat) (e:E) (k:S)
 |lP (is:List Nat) (e:E) (k:S)
 |H9 (is:List Nat) (e:E) (k:S)
 |set (o i v:E) (k:S)
 |aug (i:Nat) (op:VH) (e:E) (k:S)
 |bI (c:E) (a b k:S)
 |Bb (tg:Tg) (it:E) (body k:S)
 |Lw (c:E) (body k:S)
 |ret (e:E) (k:S)
 |expr (e:E) (k:S)
 |xC
 |tri (b:S) (yes:List Nat) (nm:Option Nat) (h k:S)
noncomputable def lim:Nat:=1000000
noncomputable def cY:List Nat->List Nat->Bool
 |[],[]=>false
 |[],_::_=>true
 |_::_,[]=>false
 |a::x,b::y=>if a<b then true else if b<a then false else cY x y
noncomputable def b2i(b:Bool):Int:=if b then 1 else 0
mutual
noncomputable def eqT:T->T->Bool
 |.non,.non=>true
 |.bl a,.bl b=>a==b
 |.bl a,.int b=>b2i a==b
 |.int a,.bl b=>a==b2i b
 |.int a,.int b=>a==b
 |.str a,.str b=>a==b
 |.tup a,.tup b=>tQ a b
 |.lst a,.lst b=>tQ a b
 |_,_=>false
noncomputable def tQ:List T->List T->Bool
 |[],[]=>true
 |a::x,b::y=>eqT a b&&tQ x y
 |_,_=>false
end
mutual
noncomputable def au:Nat->T->Bool
 |_,.non=>true
 |_,.bl _=>true
 |_,.int _=>true
 |_,.str cs=>PyData.strOk ⟨cs.toArray⟩
 |n+1,.tup ts=>aG n ts
 |n+1,.lst ts=>aG n ts
 |_,_=>false
noncomputable def aG:Nat->List T->Bool
 |_,[]=>true
 |n,t::ts=>au n t&&aG n ts
end
noncomputable def flat:T->Bool
 |.non|.bl _|.int _|.str _=>true
 |_=>false
mutual
noncomputable def Pd:Nat->T->Bool
 |_,.non=>true
 |_,.bl _=>true
 |_,.int _=>true
 |_,.str _=>true
 |n+1,.tup ts=>FI n ts
 |n+1,.lst ts=>FI n ts
 |_,_=>false
noncomputable def FI:Nat->List T->Bool
 |_,[]=>true
 |n,t::ts=>Pd n t&&FI n ts
end
noncomputable def vt:T->Bool
 |.non=>false
 |.bl b=>b
 |.int i=>i != 0
 |.str cs=>!cs.isEmpty
 |.tup ts=>!ts.isEmpty
 |.lst ts=>!ts.isEmpty
 |.dct ks _=>!ks.isEmpty
 |.dr ns=>!ns.isEmpty
noncomputable def jq(n:Nat)(i:Int):Option Nat:=if 0<=i then(if i<n then Zz i.toNat else Zy)else if -(n:Int)<=i then Zz (i+n).toNat else Zy
noncomputable def atT{a:Type}(xs:List a)(i:Int):Option a:=(jq xs.length i).bind λj=>xs[j]?
noncomputable def s0(n d:Nat):Option Int->Nat
 |none=>d
 |some i=>if i<0 then(i+n).toNat else min i.toNat n
noncomputable def cut{a:Type}(xs:List a)(lo hi:Option Int):List a:=
 (xs.drop (s0 xs.length 0 lo)).take (s0 xs.length xs.length hi-s0 xs.length 0 lo)
noncomputable def rQ{a:Type}(xs:List a)(k:Nat):List a:=(RF k xs).flatten
noncomputable def Au:Nat:=(2^250)^8
noncomputable def small(i:Int):Bool:=decide (i.natAbs<2^64)
noncomputable def fV(i j:Int):Bool:=small i || small j || (decide (i.natAbs<Au)&&decide (j.natAbs<Au))
noncomputable def Db:T->T->Option T
 |.int i,.int j=>Zz (.int (i+j))
 |.str a,.str b=>if a.length+b.length<=lim then Zz (.str (a++b))else Zy
 |.tup a,.tup b=>if a.length+b.length<=lim then Zz (.tup (a++b))else Zy
 |.lst a,.lst b=>if a.length+b.length<=lim then Zz (.lst (a++b))else Zy
 |_,_=>Zy
noncomputable def KZ(x y:T):Option T:=match y with
 |.int k=>match x with
  |.int i=>if fV i k then Zz (.int (i*k))else Zy
  |.tup a=>if(-(lim:Int)<=k/\k<=lim)/\a.length*k.toNat<=lim then Zz (.tup (rQ a k.toNat))else Zy
  |.lst a=>if(-(lim:Int)<=k/\k<=lim)/\a.length*k.toNat<=lim then Zz (.lst (rQ a k.toNat))else Zy
  |.str a=>if(0<=k/\k<=64)/\a.length<=1000 then Zz (.str (rQ a k.toNat))else Zy
  |_=>Zy
 |_=>Zy
noncomputable def F7(f:Int->Int->Option T)(x y:T):Option T:=match x with
 |.int i=>match y with
  |.int j=>f i j
  |_=>Zy
 |_=>Zy
noncomputable def kI(op:VH)(x y:T):Option T:=
 match op with
 |.Add=>Db x y
 |.Sub=>F7 (λi j=>Zz (.int (i-j))) x y
 |.Mult=>KZ x y
 |.FloorDiv=>F7 (λi j=>if 0<j/\j<1073741824 then Zz (.int (i / j))else Zy) x y
 |.Mod=>F7 (λi j=>if 0<j then Zz (.int (i%j))else Zy) x y
 |.Pow=>F7 (λi j=>if 0<=j/\j<=1000/\i.natAbs<2^64 then Zz (.int (i^j.toNat))else Zy) x y
 |_=>Zy
noncomputable def Ie(op:VH)(x y:T):Option T:=
 match op,x,y with
 |.Add,.int i,.int j=>Zz (.int (i+j))
 |.Sub,.int i,.int j=>Zz (.int (i-j))
 |_,_,_=>Zy
noncomputable def rV(x y:T):Bool:=match x,y with
 |.bl _,.int _=>false
 |.int _,.bl _=>false
 |x,y=>flat x&&flat y
noncomputable def mQ(x:T)(y:T):Option Bool:=
 match y with
 |.tup ts=>if flat x&&ts.all flat then Zz (ts.any λt=>eqT t x)else Zy
 |.lst ts=>if flat x&&ts.all flat then Zz (ts.any λt=>eqT t x)else if au 59 x&&aG 59 ts then Zz (ts.any λt=>eqT t x)else Zy
 |_=>Zy
noncomputable def nJ(f:Int->Int->Bool)(x y:T):Option Bool:=match x with
 |.int i=>match y with
  |.int j=>Zz (f i j)
  |_=>Zy
 |_=>Zy
noncomputable def Kb(x y:T):Option Bool:=match x with
 |.int i=>match y with
  |.int j=>Zz (decide (i<j))
  |_=>Zy
 |.str a=>match y with
  |.str b=>Zz (cY a b)
  |_=>Zy
 |_=>Zy
noncomputable def KC(x y:T):Option Bool:=match x with
 |.int i=>match y with
  |.int j=>Zz (decide (i<=j))
  |_=>Zy
 |.str a=>match y with
  |.str b=>Zz (!cY b a)
  |_=>Zy
 |_=>Zy
noncomputable def Ho(x y:T):Option Bool:=match x with
 |.str [a]=>match y with
  |.str b=>Zz (decide (a∈b))
  |y=>mQ (.str [a]) y
 |.str (a::a'::r)=>match y with
  |.str b=>Zz (!(S5 ⟨b.toArray⟩ ⟨(a::a'::r).toArray⟩ 0 b.length 1).isEmpty)
  |y=>mQ (.str (a::a'::r)) y
 |x=>mQ x y
noncomputable def Kc(x y:T):Option Bool:=match y with
 |.non=>Zz (match x with|.non=>true|_=>false)
 |.bl b=>Zz (match x with|.bl a=>a==b|_=>false)
 |_=>Zy
noncomputable def bx(op:Vm)(x y:T):Option Bool:=
 match op with
 |.Lt=>Kb x y
 |.LtE=>KC x y
 |.Gt=>nJ (λi j=>decide (j<i)) x y
 |.GtE=>nJ (λi j=>decide (j<=i)) x y
 |.Eq=>if rV x y || (au 60 x&&au 60 y)then Zz (eqT x y)else Zy
 |.NotEq=>if rV x y || (au 60 x&&au 60 y)then Zz (!eqT x y)else Zy
 |.In=>Ho x y
 |.NotIn=>(Ho x y).map (!·)
 |.Is=>Kc x y
 |.IsNot=>(Kc x y).map (!·)
noncomputable def cF(x:T)(ty:Ty):Bool:=
 match x,ty with
 |.int _,.int=>true
 |.bl _,.int=>true
 |.bl _,.bool=>true
 |.str _,.str=>true
 |.tup _,.tuple=>true
 |.lst _,.list=>true
 |.dr _,.list=>true
 |.dct _ _,.dict=>true
 |_,_=>false
noncomputable def y2(x i:T):Option T:=
 match x,i with
 |.tup ts,.int k=>atT ts k
 |.lst ts,.int k=>atT ts k
 |.dr ns,.int k=>(atT ns k).map .int
 |.str cs,.int k=>if cs.length<=lim then(atT cs k).map λc=>.str [c]else Zy
 |_,_=>Zy
noncomputable def HP(x:T)(lo hi:Option Int):Option T:=
 match x with
 |.tup ts=>Zz (.tup (cut ts lo hi))
 |.lst ts=>Zz (.lst (cut ts lo hi))
 |.dr ns=>Zz (.lst ((cut ns lo hi).map .int))
 |.str cs=>if cs.length<=lim then Zz (.str (cut cs lo hi))else Zy
 |_=>Zy
noncomputable def rT(x:List Nat):List (List Nat)->List (List Nat)
 |[]=>[x]
 |y::r=>if cY x y then x::y::r else if cY y x then y::rT x r else y::r
noncomputable def bH(xs:List (List Nat)):List (List Nat):=xs.foldr rT []
noncomputable def wv(x:List Nat):List (List Nat)->List (List Nat)
 |[]=>[x]
 |y::r=>if cY y x then y::wv x r else x::y::r
noncomputable def gN(xs:List (List Nat)):List (List Nat):=xs.foldr wv []
noncomputable def cC:List T->Option (List (List Nat))
 |[]=>Zz []
 |.str c::r=>(cC r).map (c::·)
 |_=>Zy
noncomputable def E1(d:Int)(w:List Nat):Int:=d+(if w==[40]then 1 else 0)-(if w==[41]then 1 else 0)
noncomputable def pgo(x:List Nat):List (List Nat)->Int->List (List Nat)->List (List (List Nat))->List (List (List Nat))
 |[],_,cur,acc=>acc++[cur]
 |w::r,d,cur,acc=>if w==x&&decide (E1 d w=0)then pgo x r (E1 d w) [] (acc++[cur])else pgo x r (E1 d w) (cur++[w]) acc
noncomputable def parted(x:List Nat)(ws:List (List Nat)):List (List (List Nat)):=pgo x ws 0 [] []
noncomputable def em:List T->Option (List Bool)
 |[]=>Zz []
 |.bl c::r=>(em r).map (c::·)
 |_=>Zy
noncomputable def ae(sep:List Nat):List (List Nat)->List Nat
 |[]=>[]
 |[x]=>x
 |x::r=>x++sep++ae sep r
noncomputable def aO(i:Int):List Nat:=(Wg (toString i)).cps.toList
noncomputable def rangeT(lo:Int)(n:Nat):List T:=(SA n).map λk:Nat=>.int (lo+(k:Int))
noncomputable def aZ(c:Nat):List Nat->List (List Nat)
 |[]=>[[]]
 |a::r=>if a=c then[]::aZ c r else match aZ c r with
  |x::xs=>(a::x)::xs
  |[]=>[[a]]
noncomputable def jK(c k:Nat)(cs:List Nat):List (List Nat):=if(aZ c cs).length<=k then aZ c cs else(aZ c cs).take k++[ae [c] ((aZ c cs).drop k)]
noncomputable def kw:T->Option (List Nat)
 |.str cs=>Zz cs
 |.int i=>if i.natAbs<2^250 then Zz (aO i)else Zy
 |_=>Zy
noncomputable def o9:T->Option (List T)
 |.tup ts=>Zz ts
 |.lst ts=>Zz ts
 |.dr ns=>Zz (ns.map .int)
 |.str cs=>if cs.length<=lim then Zz (cs.map λc=>.str [c])else Zy
 |_=>Zy
noncomputable def view(w:W)(m:Mem):Option T:=match w with
 |.t x=>Zz x
 |.x _ _ _=>Zy
 |.c i=>match m[i]? with
  |some (Zz (_,ts))=>Zz (.lst ts)
  |_=>Zy
noncomputable def dy(o:Option T)(m:Mem):Res W:=match o with
 |some t=>.ok (.t t) m
 |none=>.stuck
noncomputable def lR(w:W)(m:Mem):Res T:=match w with
 |.t x=>.ok x m
 |.x _ _ _=>.stuck
 |.c i=>match m[i]? with
  |some (Zz (false,ts))=>.ok (.lst ts) (m.set i Zy)
  |_=>.stuck
noncomputable def cO:List W->Mem->Res (List T)
 |[],m=>.ok [] m
 |w::ws,m=>(lR w m).bind λt m=>(cO ws m).bind λts m=>.ok (t::ts) m
noncomputable def views:List W->Mem->Option (List T)
 |[],_=>Zz []
 |w::ws,m=>(view w m).bind λt=>(views ws m).map (t::·)
noncomputable def bc(w:W)(m:Mem):Res (List T):=match w with
 |.x _ _ _=>.stuck
 |.t x=>match o9 x with
  |some ts=>.ok ts m
  |none=>.stuck
 |.c i=>match m[i]? with
  |some (Zz (_,ts))=>.ok ts (m.set i (Zz (true,ts)))
  |_=>.stuck
noncomputable def giveBack(w:W)(m0 m:Mem):Mem:=match w with
 |.t _=>m
 |.x _ _ _=>m
 |.c i=>match m0[i]? with
  |some c=>m.set i c
  |none=>m
noncomputable def bK(tg:Tg)(t:T)(env:Env):Option Env:=match tg with
 |.nm i=>Zz (env.set i (Zz (.t t)))
 |.tp is=>match t with
  |.tup ts=>if ts.length=is.length then Zz ((is.zip ts).foldl (λenv p=>env.set p.1 (Zz (.t p.2))) env)else Zy
  |_=>Zy
noncomputable def ik(f:T->Option T):List T->Option T
 |[x]=>f x
 |_=>Zy
noncomputable def GW(f:Int->Int->Option T):List T->Option T
 |[.int i,.int j]=>f i j
 |_=>Zy
noncomputable def HN:T->Option T
 |.str cs=>if cs.length<=lim then Zz (.int cs.length)else Zy
 |.tup ts=>Zz (.int ts.length)
 |.lst ts=>Zz (.int ts.length)
 |.dr ns=>Zz (.int ns.length)
 |_=>Zy
noncomputable def uq(cs:List Nat):Int:=((cs.foldl (λn c=>n*10+(c-48)) 0:Nat):Int)
noncomputable def Ou:T->Option T
 |.int i=>Zz (.int i)
 |.bl b=>Zz (.int (b2i b))
 |.str cs=>if cs≠[]/\cs.length<=600/\cs.all (λc=>decide (48<=c)&&decide (c<=57))=true then Zz (.int (uq cs))else Zy
 |_=>Zy
noncomputable def OY:T->Option T
 |.int i=>if i.natAbs<2^250 then Zz (.str (aO i))else Zy
 |.str cs=>Zz (.str cs)
 |_=>Zy
noncomputable def Ox:T->Option T
 |.tup ts=>Zz (.tup ts)
 |.lst ts=>Zz (.tup ts)
 |.str cs=>if cs.length<=lim then Zz (.tup (cs.map λc=>.str [c]))else Zy
 |_=>Zy
noncomputable def Pb:T->Option T
 |.tup ts=>Zz (.lst ts)
 |.lst ts=>Zz (.lst ts)
 |_=>Zy
noncomputable def Ku(f:List T->Option T):T->Option T
 |.lst ts=>f ts
 |_=>Zy
noncomputable def OV:T->Option T
 |.int i=>if i<2^62/\-(2^62)<=i then Zz (.lst (rangeT 0 i.toNat))else Zy
 |_=>Zy
noncomputable def yx(xs ys:List T):List T:=List.zipWith (λx y=>.tup [x,y]) xs ys
noncomputable def fq:T->Option L2.Key
 |.int i=>Zz (.inl i)
 |.str cs=>Zz (.inr ⟨cs.toArray⟩)
 |_=>Zy
noncomputable def bB(ks:List L2.Key)(ts:List T)(k:L2.Key):Option T:=((ks.zip ts).find? λp=>decide (p.1=k)).map (·.2)
noncomputable def ni(o:Option T)(f:List L2.Key->List T->Option T):Option T:=match o with
 |some (.dct ks vs)=>f ks vs
 |_=>Zy
noncomputable def Cp(f:List T->Option T):T->Option T
 |.lst ts=>f ts
 |.tup ts=>f ts
 |_=>Zy
noncomputable def Oz:List T->Option T
 |[.str cs,t]=>if cs.length<=lim then Zz (if cs.isEmpty then t else .str cs)else Zy
 |_=>Zy
noncomputable def cn(b:B)(ts:List T):Option T:=
 match b with
 |.len=>ik HN ts
 |.int=>ik Ou ts
 |.str=>ik OY ts
 |.tuple=>ik Ox ts
 |.list=>ik Pb ts
 |.all=>ik (Cp λts=>(em ts).map λbs=>.bl (bs.all id)) ts
 |.oE=>ik (Ku λts=>(cC ts).bind λxs=>if xs.length<64 then Zz (.lst ((bH xs).map .str))else Zy) ts
 |.sorted=>ik (Ku λts=>(cC ts).bind λxs=>if xs.length<64 then Zz (.lst ((gN xs).map .str))else Zy) ts
 |.min2=>GW (λi j=>Zz (.int (if j<i then j else i))) ts
 |.dm=>ik OV ts
 |.Oo=>Oz ts
 |.kf=>GW (λi j=>if(i<2^62/\-(2^62)<=i)/\j<2^62/\-(2^62)<=j then Zz (.lst (rangeT i (j-i).toNat))else Zy) ts
noncomputable def kl(cs sep:List Nat):T:=let p:=Wa ⟨cs.toArray⟩ ⟨sep.toArray⟩;.tup [.str p.1.cps.toList,.str p.2.1.cps.toList,.str p.2.2.cps.toList]
noncomputable def iV(b:Mt)(o:T)(ts:List T):Option T:=
 match b with
 |.join=>match o with
  |.str sep=>ik (Cp λxs=>(cC xs).bind λys=>if(ys.map Rf).sum+ys.length*sep.length<=lim then Zz (.str (ae sep ys))else Zy) ts
  |_=>Zy
 |.split=>match o with
  |.str cs=>match ts with
   |[.str [c]]=>if cs.length<=900000 then Zz (.lst ((aZ c cs).map .str))else Zy
   |_=>Zy
  |_=>Zy
 |.starts=>match o with
  |.str cs=>match ts with
   |[.str p]=>Zz (.bl (p.isPrefixOf cs))
   |_=>Zy
  |_=>Zy
 |.mF=>match o with
  |.str cs=>match ts with
   |[.str [c],.int k]=>if cs.length<=900000/\1<=k/\k<=cs.length then Zz (.lst ((jK c k.toNat cs).map .str))else Zy
   |_=>Zy
  |_=>Zy
 |.partition=>match o with
  |.str cs=>match ts with
   |[.str (c::sep)]=>if cs.length<=900000 then Zz (kl cs (c::sep))else Zy
   |_=>Zy
  |_=>Zy
 |_=>Zy
noncomputable def vI(b:Mt)(xs:List T)(ts:List T):Option (T×List T):=
 match b,ts with
 |.append,[t]=>if xs.length<lim then Zz (.non,xs++[t])else Zy
 |.iX,[.int i]=>match jq xs.length i with
  |some k=>(xs[k]?).map λt=>(t,xs.eraseIdx k)
  |none=>Zy
 |_,_=>Zy
noncomputable def Kr(b:Mt)(o:W)(ws:List W)(m:Mem):Res W:=match b with
 |.append|.iX=>match o with
  |.c i=>(cO ws m).bind λts m=>match m[i]? with
   |some (Zz (false,xs))=>match vI b xs ts with
    |some (t,ys)=>.ok (.t t) (m.set i (Zz (false,ys)))
    |none=>.stuck
   |_=>.stuck
  |.t _=>.stuck
  |.x _ _ _=>.stuck
 |_=>dy ((view o m).bind λx=>(views ws m).bind λts=>iV b x ts) m
noncomputable def Jy(x y:W)(m:Mem):Res W:=match(view x m).bind λx=>(view y m).bind λy=>Db x y with
 |some (.lst ts)=>.ok (.c m.length) (m++[Zz (false,ts)])
 |_=>.stuck
noncomputable def setM(o i v:W)(m:Mem):Res Unit:=match o,i with
 |.c c,.t (.int k)=>(lR v m).bind λt m=>match m[c]? with
  |some (Zz (false,xs))=>match jq xs.length k with
   |some j=>.ok () (m.set c (Zz (false,xs.set j t)))
   |none=>.stuck
  |_=>.stuck
 |_,_=>.stuck
noncomputable def CM(w:W)(m:Mem):Res (Option Int):=match w with
 |.t (.int i)=>.ok (Zz i) m
 |_=>.stuck
noncomputable def xX(b:Mt)(w:W)(m:Mem):Bool:=match b with
 |.join|.split|.partition|.starts|.mF=>match view w m with
  |some (.str _)=>true
  |_=>false
 |.append|.iX=>match w with
  |.c i=>match m[i]? with
   |some (Zz _)=>true
   |_=>false
  |_=>false
noncomputable def cy(f:Env->Mem->Res (List T))(tg:Tg):List T->Env->Mem->Res (List T)
 |[],_,m=>.ok [] m
 |t::ts,env,m=>match bK tg t env with
  |none=>.stuck
  |some env'=>(f env' m).bind λxs m=>(cy f tg ts env m).bind λys m=>.ok (xs++ys) m
noncomputable def Res.only{a:Type}(r:Res a):Res a:=match r with
 |.exc _ _=>.stuck
 |r=>r
inductive Flow where
 |next (env:Env)|ret (w:W)
noncomputable def ca(f:Env->Mem->Res Flow)(tg:Tg):List T->Env->Mem->Res Flow
 |[],env,m=>.ok (.next env) m
 |t::ts,env,m=>match bK tg t env with
  |none=>.stuck
  |some env=>(f env m).bind λfl m=>match fl with
   |.next env=>ca f tg ts env m
   |.ret w=>.ok (.ret w) m
noncomputable def en(c:Env->Mem->Res Bool)(f:Env->Mem->Res Flow):Nat->Env->Mem->Res Flow
 |0,_,_=>.stuck
 |n+1,env,m=>(c env m).bind λb m=>if b then(f env m).bind λfl m=>match fl with
   |.next env=>en c f n env m
   |.ret w=>.ok (.ret w) m
  else .ok (.next env) m
noncomputable def turns:Nat:=1000000
noncomputable def Lh:T->Bool
 |.str cs=>decide (cs.length<=lim)
 |_=>true
noncomputable def cu(w:W)(m:Mem):Res Bool:=match view w m with
 |some t=>if Lh t then .ok (vt t) m else .stuck
 |none=>.stuck
noncomputable def jV(w:W)(m:Mem):Res Bool:=match w with
 |.t (.bl b)=>.ok b m
 |_=>.stuck
noncomputable def mU(w:W)(m:Mem):Res (List T):=match w with
 |.t (.lst ts)=>.ok ts m
 |_=>.stuck
noncomputable def Ph(n:Nat)(nm:Option Nat)(x:Exc):Env:=match nm with
 |some i=>(RF n Zy).set i (Zz (.x x.cls x.nms x.JZ))
 |none=>RF n Zy
noncomputable def PQ(nm:Option Nat)(env:Env):Env:=match nm with
 |some i=>env.set i Zy
 |none=>env
noncomputable def iF(acc:List Nat)(w:W)(m:Mem):Res (List Nat):=match(view w m).bind kw with
 |some a=>if acc.length+a.length<=lim then .ok (acc++a) m else .stuck
 |none=>.stuck
noncomputable def Nh(ws:List W)(m:Mem):Res W:=match ws with
 |[.t (.tup xs),.t (.lst ys)]=>if xs.length=ys.length/\xs.length<=lim then .ok (.t (.lst (yx xs ys))) m else .stuck
 |_=>.stuck
section
variable(call:Nat->List W->Mem->Res W) (gv:List T)
mutual
noncomputable def ev:E->Env->Mem->Res W
 |.var i,env,m=>match env[i]? with
  |some (Zz w)=>.ok w m
  |_=>.stuck
 |.gl k,_,m=>dy gv[k]? m
 |.con t,_,m=>.ok (.t t) m
 |.bin op a b,env,m=>(ev a env m).bind λx m=>(ev b env m).bind λy m=>dy ((view x m).bind λx=>(view y m).bind λy=>kI op x y) m
 |.not a,env,m=>(ev a env m).bind λx m=>(jV x m).bind λk m=>.ok (.t (.bl (!k))) m
 |.and a b,env,m=>(ev a env m).bind λx m=>(jV x m).bind λk m=>if k then ev b env m else .ok (.t (.bl false)) m
 |.or a b,env,m=>(ev a env m).bind λx m=>(jV x m).bind λk m=>if k then .ok (.t (.bl true)) m else ev b env m
 |.cmp op a b,env,m=>(ev a env m).bind λx m=>(ev b env m).bind λy m=>dy (((view x m).bind λx=>(view y m).bind λy=>bx op x y).map .bl) m
 |.J6 op op' a b c,env,m=>(ev a env m).bind λx m=>(ev b env m).bind λy m =>
   match(view x m).bind λx=>(view y m).bind λy=>bx op x y with
   |some true=>(ev c env m).bind λz m=>dy (((view y m).bind λy=>(view z m).bind λz=>bx op' y z).map .bl) m
   |some false=>.ok (.t (.bl false)) m
   |none=>.stuck
 |.ite c a b,env,m=>(ev c env m).bind λx m=>(cu x m).bind λk m=>if k then ev a env m else ev b env m
 |.tup es,env,m=>(evs es env m).bind λws m=>(cO ws m).bind λts m=>if ts.length<=lim then .ok (.t (.tup ts)) m else .stuck
 |.lst es,env,m=>(evs es env m).bind λws m=>(cO ws m).bind λts m=>if ts.length<=lim then .ok (.t (.lst ts)) m else .stuck
 |.zn es,env,m=>(evs es env m).bind λws m=>(cO ws m).bind λts m=>if ts.length<=lim then .ok (.c m.length) (m++[Zz (false,ts)])else .stuck
 |.DZ a,env,m=>(ev a env m).bind λx m=>match view x m with
  |some (.lst ts)=>.ok (.c m.length) (m++[Zz (false,ts)])
  |some (.tup ts)=>.ok (.c m.length) (m++[Zz (false,ts)])
  |_=>.stuck
 |.LD a b,env,m=>(ev a env m).bind λx m=>(ev b env m).bind λy m=>Jy x y m
 |.ix a b,env,m=>(ev a env m).bind λx m=>(ev b env m).bind λy m=>dy ((view x m).bind λx=>(view y m).bind λy=>y2 x y) m
 |.Hq a lo hi,env,m=>(ev a env m).bind λx m=>(if aA lo then Res.ok Zy m else(ev lo env m).bind CM).bind λl m =>
   (if aA hi then Res.ok Zy m else(ev hi env m).bind CM).bind λh m=>dy ((view x m).bind λx=>HP x l h) m
 |.hole,_,m=>.ok (.t .non) m
 |.call f es,env,m=>(evs es env m).bind λws m=>call f ws m
 |.blt b es,env,m=>(evs es env m).bind λws m=>dy ((views ws m).bind λts=>cn b ts) m
 |.eP b o es,env,m=>(ev o env m).bind λx m=>if xX b x m then(evs es env m).bind λws m=>Kr b x ws m else .stuck
 |.uo a ty,env,m=>(ev a env m).bind λx m=>dy ((view x m).map λx=>.bl (cF x ty)) m
 |.comp own keep it tg cs inner,env,m=>(ev it env m).only.bind λx m0=>(bc x m0).bind λts m =>
   (cy (λenv m=>(tests cs env m).bind λk m=>if k then(ev inner env m).bind mU else .ok [] m) tg ts (RF own Zy++keep.map λi=>(env[i]?).join) m).only.bind λout m =>
    if out.length<=lim then .ok (.t (.lst out)) (giveBack x m0 m)else .stuck
 |.more it tg cs inner,env,m=>(ev it env m).bind λx m0=>(bc x m0).bind λts m =>
   (cy (λenv m=>(tests cs env m).bind λk m=>if k then(ev inner env m).bind mU else .ok [] m) tg ts env m).bind λout m=>.ok (.t (.lst out)) (giveBack x m0 m)
 |.emit a,env,m=>(ev a env m).bind λx m=>(lR x m).bind λt m=>.ok (.t (.lst [t])) m
 |.fst es,env,m=>(tz es [] env m).bind λcs m=>.ok (.t (.str cs)) m
 |.MA k e,env,m=>(ev e env m).bind λx m=>dy ((view x m).bind λx=>ni gv[k]? λks vs=>(fq x).bind (bB ks vs)) m
 |.Pl es,env,m=>(evs es env m).bind Nh
 |.Op k e,env,m=>(ev e env m).bind λx m=>dy ((view x m).bind λx=>ni gv[k]? λks vs=>(fq x).map λk=>(bB ks vs k).getD .non) m
 |.L7 k neg e,env,m=>(ev e env m).bind λx m=>dy ((view x m).bind λx=>ni gv[k]? λks vs=>(fq x).map λk=>.bl (if neg then !(bB ks vs k).isSome else(bB ks vs k).isSome)) m
noncomputable def evs:Es->Env->Mem->Res (List W)
 |.nil,_,m=>.ok [] m
 |.cons e es,env,m=>(ev e env m).bind λw m=>(evs es env m).bind λws m=>.ok (w::ws) m
noncomputable def tz:Es->List Nat->Env->Mem->Res (List Nat)
 |.nil,acc,_,m=>.ok acc m
 |.cons e es,acc,env,m=>(ev e env m).bind λw m=>(iF acc w m).bind λacc m=>tz es acc env m
noncomputable def tests:Es->Env->Mem->Res Bool
 |.nil,_,m=>.ok true m
 |.cons e es,env,m=>(ev e env m).bind λx m=>(cu x m).bind λk m=>if k then tests es env m else .ok false m
end
noncomputable def ex:S->Env->Mem->Res Flow
 |.done,env,m=>.ok (.next env) m
 |.asg i e k,env,m=>(ev call gv e env m).bind λw m=>ex k (env.set i (Zz w)) m
 |.lP is e k,env,m=>(ev call gv e env m).bind λw m=>match w with
  |.t t=>match bK (.tp is) t env with
   |some env=>ex k env m
   |none=>.stuck
  |.c _=>.stuck
  |.x _ _ _=>.stuck
 |.H9 is e k,env,m=>(ev call gv e env m).bind λw m=>match w with
  |.t (.lst ts)=>match bK (.tp is) (.tup ts) env with
   |some env=>ex k env m
   |none=>.stuck
  |_=>.stuck
 |.set o i v k,env,m=>(ev call gv v env m).bind λz m=>(ev call gv o env m).bind λx m=>(ev call gv i env m).bind λy m =>
   (setM x y z m).bind λ_ m=>ex k env m
 |.aug i op e k,env,m=>match env[i]? with
  |some (Zz x)=>(ev call gv e env m).bind λy m=>(dy ((view x m).bind λx=>(view y m).bind λy=>Ie op x y) m).bind λz m=>ex k (env.set i (Zz z)) m
  |_=>.stuck
 |.bI c a b k,env,m=>(ev call gv c env m).bind λx m=>(cu x m).bind λt m =>
   (if t then ex a env m else ex b env m).bind λfl m=>match fl with
    |.next env=>ex k env m
    |fl=>.ok fl m
 |.Bb tg it body k,env,m=>(ev call gv it env m).bind λx m0=>(bc x m0).bind λts m =>
   (ca (λenv m=>ex body env m) tg ts env m).bind λfl m=>match fl with
    |.next env=>ex k env (giveBack x m0 m)
    |.ret w=>.ok (.ret w) (giveBack x m0 m)
 |.Lw c body k,env,m=>(en (λenv m=>(ev call gv c env m).bind cu) (λenv m=>ex body env m) turns env m).bind λfl m=>match fl with
    |.next env=>ex k env m
    |fl=>.ok fl m
 |.ret e _,env,m=>(ev call gv e env m).bind λw m=>.ok (.ret w) m
 |.expr e k,env,m=>(ev call gv e env m).bind λ_ m=>ex k env m
 |.xC,_,_=>.stuck
 |.tri b yes nm h k,env,m=>match ex b env m with
  |.ok fl m=>match fl with
   |.next env=>ex k env m
   |fl=>.ok fl m
  |.exc x m=>if x.cls∈yes then(ex h (Ph env.length nm x) m).only.bind λfl m=>match fl with
    |.next env=>ex k (PQ nm env) m
    |.ret w=>.ok (.ret w) m
   else .stuck
  |.stuck=>.stuck
end
structure Fn where
 ps:Nat
 n:Nat
 body:S
 cell:Bool:=false
noncomputable def fin(n:Nat)(cell:Bool)(fl:Flow)(m:Mem):Res W:=match fl with
 |.ret (.t t)=>.ok (.t t) (m.take n)
 |.ret (.c i)=>if i<n then .ok (.c i) (m.take n)else match m[i]? with
  |some (Zz (false,ts))=>if cell then .ok (.c n) (m.take n++[Zz (false,ts)])else .ok (.t (.lst ts)) (m.take n)
  |_=>.stuck
 |.next _=>.ok (.t .non) (m.take n)
 |_=>.stuck
noncomputable def f8(fns:List Fn)(gv:List T):Nat->Nat->List W->Mem->Res W
 |0,_,_,_=>.stuck
 |n+1,f,ws,m=>match fns[f]? with
  |none=>.stuck
  |some d=>if ws.length=d.ps then(ex (f8 fns gv n) gv d.body (ws.map Zz++RF (d.n-d.ps) Zy) m).bind λfl m'=>fin m.length d.cell fl m' else .stuck
end Mi
namespace Mi
open PySem L2
abbrev Hh(o:HO)(r:Option HO):Prop:=r=Zz o
theorem Hh.of{o:HO}{r:Option HO}(h:r=Zz o):Hh o r:=h
def rJ(_:Rs)(_:Hp):Prop:=True
theorem rJ.kept{K:Rs}{H b:Hp}(_:rJ K H)(_:∀a ps,H a=Zz (.zo ps)->b a=Zz (.zo ps))(_:∀a o u,H a=Zz (.lR o u)->b a=Zz (.lR o u)):rJ K H':=trivial
theorem rJ.upd{K:Rs}{H:Hp}{a:R3}{o:HO}(_:rJ K H)(_:∀u,H a=Zz u->∃xs,u=.lst xs):rJ K (upd H a o):=trivial
section
variable(K:Rs)
def aU(cm:List R3)(m:Mem)(a:R3):Prop:=∀(i:Nat) p,m[i]?=Zz (Zz p)->cm[i]?≠Zz a
def kr(H:Hp)(a:R3)(ns:List Int):Prop:=(∃o,H a=Zz (.lR o (.lst (ns.map V.int)))) ∨
 ∃(o:Obj) (its:Array Q7) (n:Nat),K.lookup a=Zz o/\o.cls=.type "list"/\o.dict=Zy/\o.data=.seq its n/\its.size<=RV/\Vals (ns.map V.int) its.toList
inductive RT (cm:List R3) (m:Mem) (H:Hp):T->V->Prop where
 |non:RT cm m H .non .non
 |bl (b:Bool):RT cm m H (.bl b) (.bl b)
 |int (i:Int):RT cm m H (.int i) (.int i)
 |str (cs:List Nat):RT cm m H (.str cs) (.str ⟨cs.toArray⟩)
 |tup {a:R3}{ts:List T}{vs:List V}:j3 K H a vs->ts.length=vs.length->(∀(i:Nat) t v,ts[i]?=Zz t->vs[i]?=Zz v->RT cm m H t v)->RT cm m H (.tup ts) (.ref a)
 |lst {a:R3}{ts:List T}{vs:List V}:H a=Zz (.lst vs)->aU cm m a->ts.length=vs.length->(∀(i:Nat) t v,ts[i]?=Zz t->vs[i]?=Zz v->RT cm m H t v)->RT cm m H (.lst ts) (.ref a)
 |dct {a:R3}{ks:List Key}{ts:List T}{vs:List V}:H a=Zz (.dK (ks.zip vs))->aU cm m a->ks.length=vs.length->ts.length=vs.length ->
  (∀(i:Nat) t v,ts[i]?=Zz t->vs[i]?=Zz v->RT cm m H t v)->RT cm m H (.dct ks ts) (.ref a)
 |dr {a:R3}(ns:List Int):kr K H a ns->RT cm m H (.dr ns) (.ref a)
abbrev cH(cm:List R3)(m:Mem)(H:Hp)(ts:List T)(vs:List V):Prop:=Sr (RT K cm m H) ts vs
def XF(cm:List R3)(m:Mem)(H:Hp)(nms:List Str)(ts:List T)(dx:Option R3):Prop:=match dx with
 |none=>nms=[]/\ts=[]
 |some d=>∃vs,H d=Zz (.xd (nms.zip vs))/\nms.length=vs.length/\cH K cm m H ts vs
def RW(cm:List R3)(m:Mem)(H:Hp):W->V->Prop
 |.t x,v=>RT K cm m H x v
 |.c i,v=>∃a,cm[i]?=Zz a/\v=.ref a
 |.x c nms ts,v=>∃a o u,v=.ref a/\H a=Zz (.lR o u)/\o.cls=.ref c/\(∃fs,o.data=.fields fs)/\XF K cm m H nms ts o.dict
abbrev Dx(cm:List R3)(m:Mem)(H:Hp)(ws:List W)(vs:List V):Prop:=Sr (RW K cm m H) ws vs
structure aC (cm:List R3) (m:Mem) (H:Hp):Prop where
 len:cm.length=m.length
 inj:∀(i j:Nat) a p q,m[i]?=Zz (Zz p)->m[j]?=Zz (Zz q)->cm[i]?=Zz a->cm[j]?=Zz a->i=j
 at':∀(i:Nat) p,m[i]?=Zz (Zz p)->∃a vs,cm[i]?=Zz a/\H a=Zz (.lst vs)/\K.lookup a=Zy/\cH K cm m H p.2 vs
 tab:rJ K H
def bg(cm:List R3)(m:Mem)(H:Hp)(env:Env)(σ:L2.St):Prop:=∀(i:Nat) w,env[i]?=Zz (Zz w)->∃v,σ[i]?=Zz (Zz v)/\RW K cm m H w v
structure dJ (cm:List R3) (m:Mem) (H:Hp) (cm':List R3) (m':Mem) (H':Hp):Prop where
 pre:∀(i:Nat) a,cm[i]?=Zz a->cm'[i]?=Zz a
 len:m.length<=m'.length
 lent:∀(i:Nat) ts,m[i]?=Zz (Zz (true,ts))->m'[i]?=Zz (Zz (true,ts))
 keep:∀a o,H a=Zz o->aU cm m a->Hh o (H' a)/\aU cm' m' a
end
section
variable{K:Rs}{cm cm' cm'':List R3}{m m' m'':Mem}{H H' H'':Hp}
theorem pd{α β:Type}{F:α->β->Prop}:∀{xs:List α}{ys:List β},xs.length=ys.length->(∀(i:Nat) x y,xs[i]?=Zz x->ys[i]?=Zz y->F x y)->Sr F xs ys
 |[],[],_,_=>.nil
 |x::xs,y::ys,c,h=>.cons (h 0 x y rfl rfl) (pd (by simpa using c) λi a b e d=>h (i+1) a b (by simpa using e) (by simpa using d))
 |[],_::_,c,_=>by simp at c
 |_::_,[],c,_=>by simp at c
theorem fL{α β:Type}{F:α->β->Prop}:∀{xs:List α}{ys:List β},Sr F xs ys->∀(i:Nat) x y,xs[i]?=Zz x->ys[i]?=Zz y->F x y
 |_,_,.nil,i,x,y,h,_=>by simp at h
 |_,_,.cons r t,0,x,y,b,a=>by simp at b a;subst b;subst a;exact r
 |_,_,.cons r t,i+1,x,y,b,a=>fL t i x y (by simpa using b) (by simpa using a)
theorem ck{α β:Type}{F:α->β->Prop}{xs:List α}{ys:List β}(h:Sr F xs ys){i:Nat}{x:α}(b:xs[i]?=Zz x):∃y,ys[i]?=Zz y/\F x y:=by
 have c:=h.length;have d:=(RA.mp b).1;have a:ys[i]?=Zz (ys[i]'(by omega)):=Rg (by omega);exact⟨_,a,fL h i _ _ b a⟩
theorem bY{α β:Type}{F:α->β->Prop}:∀{xs b:List α}{ys a:List β},Sr F xs ys->Sr F b a->Sr F (xs++b) (ys++a)
 |_,_,_,_,.nil,h=>h
 |_,_,_,_,.cons r t,h=>.cons r (bY t h)
theorem pY{α β:Type}{F:α->β->Prop}:∀{xs:List α}{ys:List β}(n:Nat),Sr F xs ys->Sr F (xs.take n) (ys.take n)
 |_,_,0,_=>.nil
 |_,_,_+1,.nil=>.nil
 |_,_,n+1,.cons r t=>.cons r (pY n t)
theorem pT{α β:Type}{F:α->β->Prop}:∀{xs:List α}{ys:List β}(n:Nat),Sr F xs ys->Sr F (xs.drop n) (ys.drop n)
 |_,_,0,r=>r
 |_,_,_+1,.nil=>.nil
 |_,_,n+1,.cons _ t=>pT n t
theorem sK{α β:Type}{F:α->β->Prop}{x:α}{y:β}(r:F x y):∀{xs:List α}{ys:List β}(i:Nat),Sr F xs ys->Sr F (xs.set i x) (ys.set i y)
 |_,_,_,.nil=>.nil
 |_,_,0,.cons _ t=>.cons r t
 |_,_,i+1,.cons q t=>.cons q (sK r i t)
theorem aN{α β:Type}{F G:α->β->Prop}(f:∀a b,F a b->G a b){xs:List α}{ys:List β}(h:Sr F xs ys):Sr G xs ys:=L2.Paired.L1 h f
theorem RT.yj{a:R3}{ts:List T}{b:List V}(h:j3 K H a b)(r:cH K cm m H ts b):RT K cm m H (.tup ts) (.ref a):=.tup h r.length λi t v d c=>fL r i t v d c
theorem RT.LO{a:R3}{ts:List T}{b:List V}(h:H a=Zz (.lst b))(n:aU cm m a)(r:cH K cm m H ts b):RT K cm m H (.lst ts) (.ref a):=.lst h n r.length λi t v d c=>fL r i t v d c
theorem RT.j4{ts:List T}{v:V}(h:RT K cm m H (.tup ts) v):∃a vs,v=.ref a/\j3 K H a vs/\cH K cm m H ts vs:=by
 cases h with
 |tup e d c=>exact⟨_,_,rfl,e,pd d c⟩
theorem RT.J7{ts:List T}{v:V}(h:RT K cm m H (.lst ts) v):∃a vs,v=.ref a/\H a=Zz (.lst vs)/\aU cm m a/\cH K cm m H ts vs:=by
 cases h with
 |lst f e d c=>exact⟨_,_,rfl,f,e,pd d c⟩
theorem eM(M:aC K cm m H){a:R3}{o:HO}(h:H a=Zz o)(f:∀c,o≠.lst c):aU cm m a:=λi d e z=>by
 obtain⟨b,c,j,g,_,_⟩:=M.at' i d e;rw[j]at z;cases z;rw[g]at h;cases h;exact f _ rfl
theorem dJ.Ot(x:dJ cm m H cm' m' H')(M:aC K cm m H){a:R3}{vs:List V}(h:j3 K H a vs):j3 K H' a vs:=by
 rcases h with(h|⟨o,h⟩)|h
 ·exact .inl (.inl (x.keep a _ h (eM M h (λ_ z=>by cases z))).1)
 ·exact .inl (.inr ⟨o,(x.keep a _ h (eM M h (λ_ z=>by cases z))).1⟩)
 ·exact .inr h
theorem dJ.dr(x:dJ cm m H cm' m' H')(M:aC K cm m H){a:R3}{ns:List Int}(h:kr K H a ns):kr K H' a ns:=by
 rcases h with⟨o,h⟩|h
 ·exact .inl ⟨o,(x.keep a _ h (eM M h (λ_ z=>by cases z))).1⟩
 ·exact .inr h
theorem kr.sq{a:R3}{b:List Int}(h:kr K H a b):qk K H a (b.map V.int):=by
 rcases h with⟨o,h⟩|h
 ·exact .inl (.inr ⟨o,h⟩)
 ·exact .inr h
theorem RT.ext(x:dJ cm m H cm' m' H')(M:aC K cm m H)(M':aC K cm' m' H'){t:T}{v:V}(h:RT K cm m H t v):RT K cm' m' H' t v:=by
 induction h with
 |non=>exact .non
 |bl b=>exact .bl b
 |int i=>exact .int i
 |str cs=>exact .str cs
 |tup c a _ d=>exact .tup (x.Ot M c) a d
 |lst c a e _ d=>exact .lst (x.keep _ _ c a).1 (x.keep _ _ c a).2 e d
 |dr ns h=>exact .dr ns (x.dr M h)
 |dct c a e h4 _ d=>exact .dct (x.keep _ _ c a).1 (x.keep _ _ c a).2 e h4 d
theorem cH.ext(x:dJ cm m H cm' m' H')(M:aC K cm m H)(b:aC K cm' m' H'){ts:List T}{vs:List V}(h:cH K cm m H ts vs):cH K cm' m' H' ts vs:=aN (λ_ _ z=>z.ext x M b) h
theorem XF.ext(x:dJ cm m H cm' m' H')(M:aC K cm m H)(i:aC K cm' m' H'){a:List Str}{ts:List T}{dx:Option R3}(h:XF K cm m H a ts dx):XF K cm' m' H' a ts dx:=by
 cases dx with
 |none=>exact h
 |some d =>
  obtain⟨e,c,g,f⟩:=h;exact⟨e,(x.keep d _ c (eM M c (λ_ z=>by cases z))).1,g,f.ext x M i⟩
theorem RW.ext(x:dJ cm m H cm' m' H')(M:aC K cm m H)(f:aC K cm' m' H'){w:W}{v:V}(h:RW K cm m H w v):RW K cm' m' H' w v:=by
 cases w with
 |t t=>exact RT.ext x M f h
 |c i=>obtain⟨a,e,b⟩:=h;exact⟨a,x.pre i a e,b⟩
 |x c g l=>obtain⟨a,o,u,e,b,k,d,j⟩:=h;exact⟨a,o,u,e,(x.keep a _ b (eM M b (λ_ z=>by cases z))).1,k,d,j.ext x M f⟩
theorem Dx.ext(x:dJ cm m H cm' m' H')(M:aC K cm m H)(b:aC K cm' m' H'){ws:List W}{vs:List V}(h:Dx K cm m H ws vs):Dx K cm' m' H' ws vs:=aN (λ_ _ z=>RW.ext x M b z) h
theorem bg.ext(x:dJ cm m H cm' m' H')(M:aC K cm m H)(c:aC K cm' m' H'){env:Env}{σ:L2.St}(h:bg K cm m H env σ):bg K cm' m' H' env σ:=λi w e=>by
 obtain⟨v,b,a⟩:=h i w e;exact⟨v,b,a.ext x M c⟩
theorem dJ.refl:dJ cm m H cm m H:=⟨λ_ _ h=>h,RD _,λ_ _ h=>h,λ_ _ h n=>⟨.of h,n⟩⟩
theorem dJ.trans(x:dJ cm m H cm' m' H')(y:dJ cm' m' H' cm'' m'' H''):dJ cm m H cm'' m'' H'':=
 ⟨λi a h=>y.pre i a (x.pre i a h),RZ x.len y.len,λi b h=>y.lent i b (x.lent i b h),λa o h n=>y.keep a o (x.keep a o h n).1 (x.keep a o h n).2⟩
noncomputable abbrev XR:=Exc->List R3->Mem->Hp->Prop
def MJ:XR:=λ_ _ _ _=>False
variable(K) in
def aR{α:Type}(r:Res α)(xr:XR)(cm:List R3)(m:Mem)(H:Hp)(k:α->List R3->Mem->Hp->Prop):Prop:=match r with
 |.ok a m'=>∀cm' H',dJ cm m H cm' m' H'->aC K cm' m' H'->k a cm' m' H'
 |.exc x m'=>∀cm' H',dJ cm m H cm' m' H'->aC K cm' m' H'->xr x cm' m' H'
 |.stuck=>False
variable{xr:XR}
theorem aR.shift{α:Type}{r:Res α}{k:α->List R3->Mem->Hp->Prop}(h:aR K r xr cm m H k)(x:dJ cm m H cm' m' H'):aR K r xr cm' m' H' k:=by
 cases r with
 |ok a f=>exact λc d e M=>h c d (x.trans e) M
 |exc a f=>exact λc d e M=>h c d (x.trans e) M
 |stuck=>exact h
theorem aR.bind{α β:Type}{r:Res α}{f:α->Mem->Res β}{k:β->List R3->Mem->Hp->Prop}(h:aR K (r.bind f) xr cm m H k):
  aR K r xr cm m H λa cm' m' H'=>aR K (f a m') xr cm' m' H' k:=by
 cases r with
 |ok a m2=>exact λc h' e M=>aR.shift (show aR K (f a m2) xr cm m H k from h) e
 |exc a m2=>exact h
 |stuck=>exact h
theorem aR.Ko{α β:Type}{r:Res α}{f:α->Mem->Res β}{k:β->List R3->Mem->Hp->Prop}(h:aR K (r.bind f) xr cm m H k):
  aR K r xr cm m H λa _ m' _=>aR K (f a m') xr cm m H k:=by
 cases r with
 |ok a m2=>exact λc h' e M=>h
 |exc a m2=>exact h
 |stuck=>exact h
theorem aR.mono{α:Type}{r:Res α}{k k':α->List R3->Mem->Hp->Prop}(h:aR K r xr cm m H k)(f:∀a cm' m' H',dJ cm m H cm' m' H'->aC K cm' m' H'->k a cm' m' H'->k' a cm' m' H'):aR K r xr cm m H k':=by
 cases r with
 |ok a m2=>exact λc h' e M=>f a c m2 h' e M (h c h' e M)
 |exc a m2=>exact h
 |stuck=>exact h
theorem aR.now{α:Type}{a:α}{k:α->List R3->Mem->Hp->Prop}(h:aR K (.ok a m) xr cm m H k)(M:aC K cm m H):k a cm m H:=h cm H .refl M
theorem aR.to{α:Type}{a:α}{m':Mem}{k:α->List R3->Mem->Hp->Prop}(h:aR K (.ok a m') xr cm m H k)(x:dJ cm m H cm' m' H')(M:aC K cm' m' H'):k a cm' m' H':=h cm' H' x M
end
section
variable(K:Rs) (call:Nat->List W->Mem->Res W) (gv:List T) (xr:XR)
inductive tE (e:E) (σ:L2.St) (H:Hp) (Q:VK):Prop where
 |mk (env cm m) (_:bg K cm m H env σ) (_:aC K cm m H) (_:aR K (ev call gv e env m) xr cm m H λw cm' m' H'=>∀v,RW K cm' m' H' w v->Q v H')
inductive tA (es:Es) (σ:L2.St) (H:Hp) (Q:List V->Hp->Prop):Prop where
 |mk (env cm m) (_:bg K cm m H env σ) (_:aC K cm m H) (_:aR K (evs call gv es env m) xr cm m H λws cm' m' H'=>∀vs,Dx K cm' m' H' ws vs->Q vs H')
inductive tT (e:E) (σ:L2.St) (H:Hp) (Q:Bool->Hp->Prop):Prop where
 |mk (env cm m) (_:bg K cm m H env σ) (_:aC K cm m H) (_:aR K ((ev call gv e env m).bind cu) xr cm m H λk _ _ H'=>Q k H')
inductive r2 (f:W->W->Mem->Res W) (x:V) (y:V) (H:Hp) (Q:VK):Prop where
 |mk (cm m a b) (_:aC K cm m H) (_:RW K cm m H a x) (_:RW K cm m H b y) (_:aR K (f a b m) xr cm m H λw cm' m' H'=>∀v,RW K cm' m' H' w v->Q v H')
inductive r1 (f:W->Mem->Res W) (x:V) (H:Hp) (Q:VK):Prop where
 |mk (cm m a) (_:aC K cm m H) (_:RW K cm m H a x) (_:aR K (f a m) xr cm m H λw cm' m' H'=>∀v,RW K cm' m' H' w v->Q v H')
inductive rN (f:List W->Mem->Res W) (xs:List V) (H:Hp) (Q:VK):Prop where
 |mk (cm m ws) (_:aC K cm m H) (_:Dx K cm m H ws xs) (_:aR K (f ws m) xr cm m H λw cm' m' H'=>∀v,RW K cm' m' H' w v->Q v H')
end
section
variable{K:Rs}{call:Nat->List W->Mem->Res W}{gv:List T}{xr:XR}{X:Cx}
theorem PE.mono{e:Rm}{t t':TE}(h:PE X e t)(f:∀σ H Q,t' σ H Q->t σ H Q):PE X e t':=λa s σ H Q I q=>h a s σ H Q I (f σ H Q q)
theorem PT.mono{e:Rm}{t t':TT}(h:PT X e t)(f:∀σ H Q,t' σ H Q->t σ H Q):PT X e t':=λa s σ H Q I q=>h a s σ H Q I (f σ H Q q)
theorem PA.mono{e:List Rm}{t t':TA}(h:PA X e t)(f:∀σ H Q,t' σ H Q->t σ H Q):PA X e t':=λb a s σ H Q I q=>h b a s σ H Q I (f σ H Q q)
theorem yO{a b e:E}{f:W->W->Mem->Res W}(h:∀env m,ev call gv e env m=(ev call gv a env m).bind λx m=>(ev call gv b env m).bind λy m=>f x y m)(σ:L2.St)(H:Hp)(Q:VK)(q:tE K call gv xr e σ H Q):
  NK (r2 K xr f) (tE K call gv xr a) (tE K call gv xr b) σ H Q:=by
 obtain⟨env,cm,m,hE,hM,ho⟩:=q;rw[h]at ho;refine⟨env,cm,m,hE,hM,ho.bind.mono λw cm1 m1 H1 x1 M1 o1 v rv=>?_⟩;refine⟨env,cm1,m1,hE.ext x1 hM M1,M1,o1.bind.mono λw2 cm2 m2 H2 x2 M2 o2 v2 rv2=>?_⟩;exact⟨cm2,m2,w,w2,M2,rv.ext x2 M1 M2,rv2,o2⟩
end
end Mi
namespace Mi
open PySem PySem.Spec PyProof.Rows L2
section
variable{K:Rs}{cm:List R3}{m:Mem}{H:Hp}{xr:XR}{X:Cx}
theorem ak(h:RW K cm m H w v)(e:view w m=Zz t)(n:∀ts,t≠.lst ts):RT K cm m H t v:=by
 cases w with
 |t x=>cases e;exact h
 |x _ _ _=>cases e
 |c i =>
  unfold view at e;dsimp only at e;split at e
  ·cases e;exact XZ rfl (n _)
  ·cases e
theorem aX(M:aC K cm m H)(h:RW K cm m H w v)(e:view w m=Zz (.lst ts)):∃a vs,v=.ref a/\H a=Zz (.lst vs)/\cH K cm m H ts vs:=by
 cases w with
 |t x =>
  cases e;obtain⟨a,vs,j,g,_,f⟩:=RT.J7 h;exact⟨a,vs,j,g,f⟩
 |x _ _ _=>cases e
 |c i =>
  unfold view at e;dsimp only at e;split at e
  ·rename_i fl us hu
   cases e;obtain⟨a,j,g⟩:=h;obtain⟨b,vs,f,l,_,k⟩:=M.at' i _ hu;rw[j]at f;cases f;exact⟨a,vs,g,l,k⟩
  ·cases e
theorem RT.bV(h:RT K cm m H (.int i) v):v=.int i:=by cases h;rfl
theorem RT.Dt(h:RT K cm m H (.bl b) v):v=.bl b:=by cases h;rfl
theorem RT.HZ(h:RT K cm m H .non v):v=.non:=by cases h;rfl
theorem RT.cQ(h:RT K cm m H (.str cs) v):v=.str ⟨cs.toArray⟩:=by cases h;rfl
theorem RT.Em(h:RT K cm m H (.dr ns) v):∃a,v=.ref a/\kr K H a ns:=by
 cases h with
 |dr _ h=>exact⟨_,rfl,h⟩
theorem yw(M:aC K cm m H)(d:H p=Zy):aU cm m p:=λi c e z=>by
 obtain⟨a,g,f,b,_⟩:=M.at' i c e;rw[f]at z;cases z;rw[d]at b;cases b
theorem dJ.new(b:H p=Zy):dJ cm m H cm m (upd H p o):=
 ⟨λ_ _ h=>h,RD _,λ_ _ h=>h,λa u h n=>⟨.of (by rw[bh (cM h b)];exact h),n⟩⟩
theorem RT.same(g:∀a o,H a=Zz o->H' a=Zz o)(h2:∀a,aU cm m a->H a≠Zy->aU cm' m' a)(h:RT K cm m H t v):RT K cm' m' H' t v:=by
 induction h with
 |non=>exact .non
 |bl b=>exact .bl b
 |int i=>exact .int i
 |str cs=>exact .str cs
 |tup d e _ f =>
  refine .tup ?_ e f;rcases d with(q|⟨o,q⟩)|q
  ·exact .inl (.inl (g _ _ q))
  ·exact .inl (.inr ⟨o,g _ _ q⟩)
  ·exact .inr q
 |lst d e q3 _ f=>exact .lst (g _ _ d) (h2 _ e (by rw[d];simp)) q3 f
 |dct d e q3 q4 _ f=>exact .dct (g _ _ d) (h2 _ e (by rw[d];simp)) q3 q4 f
 |dr ns q =>
  refine .dr ns ?_;rcases q with⟨o,q⟩|q
  ·exact .inl ⟨o,g _ _ q⟩
  ·exact .inr q
theorem XF.same(h1:∀a o,H a=Zz o->H' a=Zz o)(f:∀t v,RT K cm m H t v->RT K cm' m' H' t v)(h:XF K cm m H nms ts dx):XF K cm' m' H' nms ts dx:=by
 cases dx with
 |none=>exact h
 |some d =>
  obtain⟨vs,q1,q2,q3⟩:=h;exact⟨vs,h1 _ _ q1,q2,aN (λt v z=>f t v z) q3⟩
theorem XF.Kn(f:∀t v,RT K cm m H t v->RT K cm' m' H t v)(h:RW K cm m H (.x c nms ts) v):RW K cm' m' H (.x c nms ts) v:=by
 obtain⟨a,o,u,q1,q2,q3,q3',q4⟩:=h;exact⟨a,o,u,q1,q2,q3,q3',q4.same (λ_ _ z=>z) f⟩
theorem fM(b:H p=Zy):∀a u,H a=Zz u->upd H p o a=Zz u:=λa u h=>by rw[bh (cM h b)];exact h
theorem aC.new(M:aC K cm m H)(hp:H p=Zy):aC K cm m (upd H p o):=
 ⟨M.len,M.inj,λi d e=>by
  obtain⟨a,vs,j,h,g,f⟩:=M.at' i d e;exact⟨a,vs,j,fM hp _ _ h,g,aN (λ_ _ z=>z.same (fM hp) λ_ n _=>n) f⟩,M.tab.upd λu z=>by rw[hp]at z;cases z⟩
theorem cH.new(r:cH K cm m H ts vs)(a:H p=Zy):cH K cm m (upd H p o) ts vs:=aN (λ_ _ z=>z.same (fM a) λ_ n _=>n) r
theorem RT.E7(r:cH K cm m H ts vs)(a:H p=Zy):RT K cm m (upd H p (.tup vs)) (.tup ts) (.ref p):=.yj (.of fT) (cH.new r a)
theorem RT.AY(M:aC K cm m H)(r:cH K cm m H ts vs)(a:H p=Zy):RT K cm m (upd H p (.lst vs)) (.lst ts) (.ref p):=.LO fT (yw M a) (cH.new r a)
theorem pq(f:cm.length=m.length)(n:aU cm m a)(d:a≠p):aU (cm++[p]) (m++[Zz c]) a:=λi b e z=>by
 by_cases hi:i<m.length
 ·rw[RX hi]at e
  rw[RX (by omega)]at z;exact n i b e z
 ·by_cases hj:i=m.length
  ·subst hj
   rw[<-f,Ra (RD _)]at z;simp at z;exact d z.symm
  ·rw[Te (by simp;omega)]at e
   cases e
theorem ki(M:aC K cm m H)(r:cH K cm m H ts vs)(hp:H p=Zy)(hk:K.lookup p=Zy):
  dJ cm m H (cm++[p]) (m++[Zz (false,ts)]) (upd H p (.lst vs))/\aC K (cm++[p]) (m++[Zz (false,ts)]) (upd H p (.lst vs))/\RW K (cm++[p]) (m++[Zz (false,ts)]) (upd H p (.lst vs)) (.c m.length) (.ref p):=by
 have sm:∀{t:T}{v:V},RT K cm m H t v->RT K (cm++[p]) (m++[Zz (false,ts)]) (upd H p (.lst vs)) t v:=λh =>
  h.same (fM hp) λa n hn=>pq M.len n λz=>by subst z;exact hn hp
 have y:∀{i:Nat}{c:Bool×List T},(m++[Zz (false,ts)])[i]?=Zz (Zz c)->(m[i]?=Zz (Zz c)/\i<m.length)∨(i=m.length/\c=(false,ts)):=λ{i c} e=>by
  by_cases hi:i<m.length
  ·rw[RX hi]at e
   exact .inl ⟨e,hi⟩
  ·by_cases hj:i=m.length
   ·subst hj
    simp at e;exact .inr ⟨rfl,e.symm⟩
   ·rw[Te (by simp;omega)]at e
    cases e
 have B:∀{i:Nat},i<m.length->(cm++[p])[i]?=cm[i]?:=λ{i} h=>RX (by rw[M.len];exact h)
 have A:(cm++[p])[m.length]?=Zz p:=by rw[<-M.len];simp
 have np:∀{i:Nat}{c:Bool×List T}{a:R3},m[i]?=Zz (Zz c)->cm[i]?=Zz a->a≠p:=λ{i c a} e1 x z=>by
  subst z;obtain⟨b,ws,w,s,_⟩:=M.at' i c e1;rw[x]at w;cases w;rw[hp]at s;cases s
 refine⟨⟨λi a h=>?_,by simp,λi C h=>?_,λa o h n=>⟨.of (fM hp _ _ h),pq M.len n (cM h hp)⟩⟩,⟨by simp[M.len],λi j a C us' e1 x q f=>?_,λi C e=>?_,M.tab.upd λu z=>by rw[hp]at z;cases z⟩,⟨p,A,rfl⟩⟩
 ·rw[RX (RA.mp h).1];exact h
 ·rw[RX (RA.mp h).1];exact h
 ·rcases y e1 with⟨g1,l1⟩|⟨k1,_⟩
  ·rw[B l1]at q
   rcases y x with⟨g2,D⟩|⟨E,_⟩
   ·rw[B D]at f
    exact M.inj i j a _ _ g1 g2 q f
   ·rw[E,A]at f;cases f
    exact XZ rfl (np g1 q)
  ·rw[k1,A]at q;cases q
   rcases y x with⟨g2,D⟩|⟨E,_⟩
   ·rw[B D]at f
    exact XZ rfl (np g2 f)
   ·rw[k1,E]
 ·rcases y e with⟨g,l⟩|⟨k,z⟩
  ·obtain⟨a,ws,w,s,q3,q4⟩:=M.at' i C g
   exact⟨a,ws,by rw[B l];exact w,fM hp _ _ s,q3,aN (λ_ _ z=>sm z) q4⟩
  ·rw[k,z]
   exact⟨p,vs,A,fT,hk,aN (λ_ _ z=>sm z) r⟩
theorem iW(e:m[i]?=Zz (Zz c)){j:Nat}(q:(m.set i (Zz c'))[j]?=Zz (Zz d)):∃d',m[j]?=Zz (Zz d'):=by
 by_cases hj:j=i
 ·subst hj;exact⟨c,e⟩
 ·rw[RY (Sj hj)]at q;exact⟨d,q⟩
theorem mG(M:aC K cm m H){a:R3}(e:m[i]?=Zz (Zz (false,ts)))(p:cm[i]?=Zz a)(r:cH K cm m H ts' vs'):
  dJ cm m H cm (m.set i (Zz (false,ts'))) (upd H a (.lst vs'))/\aC K cm (m.set i (Zz (false,ts'))) (upd H a (.lst vs')):=by
 have hi:=(RA.mp e).1;have nl:∀{b:R3},aU cm m b->aU cm (m.set i (Zz (false,ts'))) b:=λ{b} n j s q=>by
  obtain⟨g,q'⟩:=iW e q;exact n j g q'
 have ne:∀{b:R3},aU cm m b->b≠a:=λ{b} n z=>by subst z;exact n i _ e p
 have x:dJ cm m H cm (m.set i (Zz (false,ts'))) (upd H a (.lst vs')):=⟨λ_ _ h=>h,by simp,λj s h=>by
  by_cases hj:j=i
  ·subst hj;rw[e]at h;cases h
  ·rw[RY (Sj hj)];exact h,λb o h n=>⟨.of (by rw[bh (ne n)];exact h),nl n⟩⟩
 have D:∀{t:T}{v:V},RT K cm m H t v->RT K cm (m.set i (Zz (false,ts'))) (upd H a (.lst vs')) t v:=λ{t v} h=>by
  induction h with
  |non=>exact .non
  |bl b=>exact .bl b
  |int i=>exact .int i
  |str cs=>exact .str cs
  |tup c d _ l=>exact .tup (x.Ot M c) d l
  |lst c d f _ l=>exact .lst (x.keep _ _ c d).1 (x.keep _ _ c d).2 f l
  |dct c d f w _ l=>exact .dct (x.keep _ _ c d).1 (x.keep _ _ c d).2 f w l
  |dr ns q=>exact .dr ns (x.dr M q)
 refine⟨x,⟨by simp[M.len],λj k b s g A y f1 f2=>?_,λj s q=>?_,by
  obtain⟨b0,F,C,E,_⟩:=M.at' i _ e;rw[p]at C;cases C;exact M.tab.upd λu z=>by rw[E]at z;cases z;exact⟨_,rfl⟩⟩⟩
 ·obtain⟨_,A⟩:=iW e A
  obtain⟨_,y⟩:=iW e y;exact M.inj j k b _ _ A y f1 f2
 ·by_cases hj:j=i
  ·subst hj
   rw[Ri hi]at q;cases q;obtain⟨b,B,c,_,f,_⟩:=M.at' j _ e;rw[p]at c;cases c;exact⟨a,vs',p,fT,f,aN (λ_ _ z=>D z) r⟩
  ·rw[RY (Sj hj)]at q
   obtain⟨b,B,c,d,f,w⟩:=M.at' j s q;have hb:b≠a:=λz=>by
    subst z;exact hj (M.inj j i b _ _ q e c p)
   exact⟨b,B,c,by rw[bh hb];exact d,f,aN (λ_ _ z=>D z) w⟩
theorem DB(M:aC K cm m H)(e:m[i]?=Zz (Zz (false,ts))):
  ∃a f,cm[i]?=Zz a/\H a=Zz (.lst f)/\K.lookup a=Zy/\dJ cm m H cm (m.set i Zy) H/\aC K cm (m.set i Zy) H/\cH K cm (m.set i Zy) H ts f/\RT K cm (m.set i Zy) H (.lst ts) (.ref a):=by
 obtain⟨a,f,r,p,q3,q4⟩:=M.at' i _ e;have hi:=(RA.mp e).1;have d:∀{j:Nat}{us:Bool×List T},(m.set i Zy)[j]?=Zz (Zz us)->m[j]?=Zz (Zz us)/\j≠i:=λ{j us} q=>by
  by_cases hj:j=i
  ·subst hj;rw[Ri hi]at q;cases q
  ·rw[RY (Sj hj)]at q;exact⟨q,hj⟩
 have s:∀{b:R3},aU cm m b->aU cm (m.set i Zy) b:=λ{b} n j us q=>n j us (d q).1
 have g:∀{t:T}{v:V},RT K cm m H t v->RT K cm (m.set i Zy) H t v:=λh=>h.same (λ_ _ z=>z) λ_ n _=>s n
 have na:aU cm (m.set i Zy) a:=λj us q z=>(d q).2 (M.inj j i a _ _ (d q).1 e z r)
 have l:=aN (λ_ _ z=>g z) q4;refine⟨a,f,r,p,q3,⟨λ_ _ h=>h,by simp,λj us h=>?_,λb o h n=>⟨.of h,s n⟩⟩,⟨by simp[M.len],λj k b us w e1 e2=>M.inj j k b _ _ (d e1).1 (d e2).1,λj us q=>?_,M.tab⟩,l,.LO p na l⟩
 ·by_cases hj:j=i
  ·subst hj;rw[e]at h;cases h
  ·rw[RY (Sj hj)];exact h
 ·obtain⟨b,u,p1,p2,p3,p4⟩:=M.at' j us (d q).1
  exact⟨b,u,p1,p2,p3,aN (λ_ _ z=>g z) p4⟩
theorem oR(M:aC K cm m H){b b':Bool}(e:m[i]?=Zz (Zz (b,ts))):
  (∀a,aU cm m a↔aU cm (m.set i (Zz (b',ts))) a)/\aC K cm (m.set i (Zz (b',ts))) H/\(∀t v,RT K cm m H t v->RT K cm (m.set i (Zz (b',ts))) H t v):=by
 have hi:=(RA.mp e).1;have nl:∀a,aU cm m a↔aU cm (m.set i (Zz (b',ts))) a:=λa=>by
  constructor
  ·intro n j us q
   obtain⟨d,q'⟩:=iW e q;exact n j d q'
  ·intro n j us q
   by_cases hj:j=i
   ·subst hj
    exact n j _ (Ri hi)
   ·exact n j us (by rw[RY (Sj hj)];exact q)
 have sm:∀t v,RT K cm m H t v->RT K cm (m.set i (Zz (b',ts))) H t v:=λt v h=>h.same (λ_ _ z=>z) λa n _=>(nl a).mp n
 refine⟨nl,⟨by simp[M.len],λj k a us us' e1 e2 f1 f2=>?_,λj us q=>?_,M.tab⟩,sm⟩
 ·obtain⟨_,e1⟩:=iW e e1
  obtain⟨_,e2⟩:=iW e e2;exact M.inj j k a _ _ e1 e2 f1 f2
 ·by_cases hj:j=i
  ·subst hj
   rw[Ri hi]at q;cases q;obtain⟨a,vs,q1,q2,q3,q4⟩:=M.at' j _ e;exact⟨a,vs,q1,q2,q3,aN (λ_ _ z=>sm _ _ z) q4⟩
  ·rw[RY (Sj hj)]at q
   obtain⟨a,vs,q1,q2,q3,q4⟩:=M.at' j us q;exact⟨a,vs,q1,q2,q3,aN (λ_ _ z=>sm _ _ z) q4⟩
theorem D1(M:aC K cm m H)(e:m[i]?=Zz (Zz (b,ts))):dJ cm m H cm (m.set i (Zz (true,ts))) H/\aC K cm (m.set i (Zz (true,ts))) H:=by
 have hi:=(RA.mp e).1;obtain⟨nl,f,_⟩:=oR (b':=true) M e;refine⟨⟨λ_ _ h=>h,by simp,λj us h=>?_,λa o h n=>⟨.of h,(nl a).mp n⟩⟩,f⟩;by_cases hj:j=i
 ·subst hj
  rw[e]at h;cases h;exact Ri hi
 ·rw[RY (Sj hj)];exact h
theorem lL(M:aC K cm m H)(e:bc w m=.ok ts m1)(x:dJ cm m1 H cm' m' H')(M':aC K cm' m' H'):
  dJ cm m H cm' (giveBack w m m') H'/\aC K cm' (giveBack w m m') H'/\∀t v,RT K cm' m' H' t v->RT K cm' (giveBack w m m') H' t v:=by
 cases w with
 |t t =>
  unfold bc at e;dsimp only at e;split at e<;>cases e;exact⟨x,M',λ_ _ h=>h⟩
 |x _ _ _=>cases e
 |c i =>
  unfold bc at e;dsimp only at e;split at e
  ·rename_i b us h
   cases e;have hi:=(RA.mp h).1;have h':=x.lent i ts (Ri hi);have hi':=(RA.mp h').1;obtain⟨nl,M2,sm⟩:=oR (b':=b) M' h';have eg:giveBack (.c i) m m'=m'.set i (Zz (b,ts)):=by unfold giveBack;dsimp only;rw[h]
   rw[eg];obtain⟨nl0,M1,_⟩:=oR (b':=true) M h;refine⟨⟨λj a q=>x.pre j a q,by rw[SR];have:=x.len;rw[SR]at this;exact this,λj vs q=>?_,λa o q n=>?_⟩,M2,sm⟩
   ·by_cases hj:j=i
    ·subst hj
     rw[h]at q;cases q;exact Ri hi'
    ·rw[RY (Sj hj)]
     exact x.lent j vs (by rw[RY (Sj hj)];exact q)
   ·obtain⟨q1,q2⟩:=x.keep a o q ((nl0 a).mp n)
    exact⟨q1,(nl a).mp q2⟩
  ·cases e
theorem aT:lim<=RV:=by rw[Sh];decide
theorem ci{k:W->List R3->Mem->Hp->Prop}(h:aR K (dy o m) xr cm m H k):∃t,o=Zz t/\aR K (.ok (.t t) m) xr cm m H k:=by
 cases o with
 |none=>exact h.elim
 |some t=>exact⟨t,rfl,h⟩
theorem kt{α:Type}{f:T->T->Option α}{z:α}(h:(o.bind λx=>p.bind λy=>f x y)=Zz z):∃x y,o=Zz x/\p=Zz y/\f x y=Zz z:=by
 cases o with
 |none=>cases h
 |some x =>
  cases p with
  |none=>cases h
  |some y=>exact⟨x,y,rfl,rfl,h⟩
theorem Bh(a b:List Nat):(⟨a.toArray⟩:Str)++⟨b.toArray⟩=⟨(a++b).toArray⟩:=by
 show(⟨a.toArray++b.toArray⟩:Str)=_;simp
theorem fS(a:List Nat):(⟨a.toArray⟩:Str).length=a.length:=by simp[SN]
theorem ans{Q:VK}(ho:aR K (.ok (.t t) m) xr cm m H λw cm' m' H'=>∀v,RW K cm' m' H' w v->Q v H')(M:aC K cm m H){v:V}(r:RT K cm m H t v):Q v H:=ho.now M v r
theorem mx{ts:List T}{Q:VK}(ho:aR K (.ok (.t (.tup ts)) m) xr cm m H λw cm' m' H'=>∀v,RW K cm' m' H' w v->Q v H')(M:aC K cm m H)(r:cH K cm m H ts vs)(hp:H p=Zy):
 Q (.ref p) (upd H p (.tup vs)):=ho.to (.new hp) (M.new hp) _ (RT.E7 r hp)
theorem fZ{ts:List T}{Q:VK}(ho:aR K (.ok (.t (.lst ts)) m) xr cm m H λw cm' m' H'=>∀v,RW K cm' m' H' w v->Q v H')(M:aC K cm m H)(r:cH K cm m H ts vs)(hp:H p=Zy):
 Q (.ref p) (upd H p (.lst vs)):=ho.to (.new hp) (M.new hp) _ (RT.AY M r hp)
theorem IT(c:i.natAbs<Au)(a:j.natAbs<Au):XE i j:=by
 have b:∀{k:Int},k.natAbs<Au->Builtin.Int.intBits k<=2000:=λ{k} h=>intBits_le (by
  have e:Au=2^(250*8):=by unfold Au;rw[<-Nat.pow_mul]
  rw[e]at h;exact h)
 exact mulOk_of_bits (b c) (b a) (by decide)
theorem vg(h:small i=true):-(2^64)<i/\i<2^64:=by
 have a:=Xa h;omega
theorem Fe(h:fV i j=true):XE i j:=by
 unfold fV at h;simp only[TC,R6,decide_eq_true_eq]at h;rcases h with(h|h)|⟨b,a⟩
 ·exact JM.ok (.inl (vg h))
 ·exact JM.ok (.inr (vg h))
 ·exact IT b a
theorem HK:dY X (SQ .Mult) (rI (λi j=>fV i j=true) λi j=>.int (i*j)):=Og λ_ _ _ _ _ _ _ a q=>mul_int q (Fe a)
theorem HI{E:Q7->R1->Prop}{ws:List Q7}(q:Wv s.heap t ([]:List Q7).toArray)(r:Wv s.heap b ws.toArray)(h:Q (.ref b) s):RK (RS prog w) A (SQ .Add (.ref t) (.ref b)) Q E s:=by
 obtain⟨⟨v,u,l,o⟩,i,k,n,j⟩:=id q;obtain⟨⟨m,f,g,e⟩,a,d,p,c⟩:=id r;simp only at k j d c;subst k j d c;exact Wf ⟨_,i,rfl⟩ ⟨_,a,rfl⟩ W3 WX Ux Uo (UY _ _)
  (tuple_addW0 t b ([]:List Q7).toArray ws.toArray n p u f o e (by simp)) ⟨i,a,h⟩
theorem JB:dY X (SQ .Add) (λx y H Q=>∃a b ys,x=.ref a/\y=.ref b/\j3 X.K H a []/\j3 X.K H b ys/\Q (.ref b) H):=by
 intro pins s σ H x y v u Q I rx ry h;obtain⟨a,b,ys,rfl,rfl,ha,hb,q⟩:=h;cases rx;cases ry;obtain⟨its,r1,p1,_⟩:=I.tuple ha;obtain⟨its2,r2,p2,_⟩:=I.tuple hb;cases r1;exact HI p1 p2 ⟨.ref b,H,I,rfl,q⟩
theorem lF{x y t:T}(e:F7 f x y=Zz t):∃i j,x=.int i/\y=.int j/\f i j=Zz t:=by
 cases x with
 |int i=>cases y with
  |int j=>exact⟨i,j,rfl,rfl,e⟩
  |_=>cases e
 |_=>cases e
theorem rS(e:nJ f x y=Zz c):∃i j,x=.int i/\y=.int j/\f i j=c:=by
 cases x with
 |int i=>cases y with
  |int j=>exact⟨i,j,rfl,rfl,Rr e⟩
  |_=>cases e
 |_=>cases e
noncomputable def xT(op:VH)(x y:W)(m:Mem):Res W:=dy ((view x m).bind λx=>(view y m).bind λy=>kI op x y) m
theorem Ag:dY X (SQ .Add) (r2 X.K xr (xT .Add)):=by
 rintro pins s σ H x y v u Q I rx ry ⟨cm,m,a,b,M,ra,rb,ho⟩;obtain⟨t,e,ho⟩:=ci ho;obtain⟨ta,tb,ea,eb,e⟩:=kt e;change Db ta tb=Zz t at e;unfold Db at e;have hz:=aT;split at e
 ·cases e
  cases(ak ra ea (λ_ z=>by cases z)).bV;cases(ak rb eb (λ_ z=>by cases z)).bV;exact Mc pins s σ H _ _ v u Q I rx ry ⟨_,_,rfl,rfl,ans ho M (.int _)⟩
 ·split at e<;>cases e
  cases(ak ra ea (λ_ z=>by cases z)).cQ;cases(ak rb eb (λ_ z=>by cases z)).cQ;exact Bn pins s σ H _ _ v u Q I rx ry ⟨_,_,rfl,rfl,by rw[fS,fS];omega,by rw[Bh];exact ans ho M (.str _)⟩
 ·split at e<;>cases e
  obtain⟨p,vs,rfl,h1,r1⟩:=(ak ra ea (λ_ z=>by cases z)).j4;obtain⟨q,us,rfl,h2,r2⟩:=(ak rb eb (λ_ z=>by cases z)).j4;have l1:=r1.length;have l2:=r2.length;cases vs with
  |nil =>
   cases r1;exact JB pins s σ H _ _ v u Q I rx ry ⟨p,q,us,rfl,rfl,h1,h2,ans ho M (.yj h2 r2)⟩
  |cons v1 vs =>
   refine JT pins s σ H _ _ v u Q I rx ry ⟨p,q,_,us,rfl,rfl,h1,h2,by simp,by omega,λz=>?_,λz l hl=>mx ho M (bY r1 r2) hl⟩;subst z;cases r2;rw[T9]at ho;exact ans ho M (.yj h1 r1)
 ·split at e<;>cases e
  obtain⟨p,vs,rfl,h1,r1⟩:=aX M ra ea;obtain⟨q,us,rfl,h2,r2⟩:=aX M rb eb;have l1:=r1.length;have l2:=r2.length;exact LU pins s σ H _ _ v u Q I rx ry ⟨p,q,vs,us,rfl,rfl,h1,h2,by omega,λl hl=>fZ ho M (bY r1 r2) hl⟩
 all_goals cases e
theorem BB:dY X (SQ .Sub) (r2 X.K xr (xT .Sub)):=by
 rintro c s σ H x y v u Q I g f ⟨cm,m,a,b,M,k,h,d⟩;obtain⟨t,e,d⟩:=ci d;obtain⟨q,p,n,l,e⟩:=kt e;obtain⟨i,j,rfl,rfl,o⟩:=lF e;cases(ak k n (λ_ z=>by cases z)).bV;cases(ak h l (λ_ z=>by cases z)).bV;cases o;exact Me c s σ H _ _ v u Q I g f ⟨_,_,rfl,rfl,ans d M (.int _)⟩
theorem xJ:dY X (SQ .FloorDiv) (r2 X.K xr (xT .FloorDiv)):=by
 rintro c s σ H x y v u Q I h g ⟨cm,m,a,b,M,l,k,d⟩;obtain⟨t,e,d⟩:=ci d;obtain⟨q,p,o,n,e⟩:=kt e;obtain⟨i,j,rfl,rfl,f⟩:=lF e;cases(ak l o (λ_ z=>by cases z)).bV;cases(ak k n (λ_ z=>by cases z)).bV;split at f<;>cases f;exact Jc c s σ H _ _ v u Q I h g ⟨_,_,rfl,rfl,‹_/\_›,ans d M (.int _)⟩
theorem zP:dY X (SQ .Mod) (r2 X.K xr (xT .Mod)):=by
 rintro c s σ H x y v u Q I h g ⟨cm,m,a,b,M,l,k,d⟩;obtain⟨t,e,d⟩:=ci d;obtain⟨q,p,o,n,e⟩:=kt e;obtain⟨i,j,rfl,rfl,f⟩:=lF e;cases(ak l o (λ_ z=>by cases z)).bV;cases(ak k n (λ_ z=>by cases z)).bV;split at f<;>cases f;exact K0 c s σ H _ _ v u Q I h g ⟨_,_,rfl,rfl,‹_›,ans d M (.int _)⟩
theorem AC:dY X (SQ .Pow) (r2 X.K xr (xT .Pow)):=by
 rintro d s σ H x y v u Q I k h ⟨cm,m,a,b,M,n,l,g⟩;obtain⟨t,e,g⟩:=ci g;obtain⟨r,q,p,o,e⟩:=kt e;obtain⟨i,j,rfl,rfl,f⟩:=lF e;cases(ak n p (λ_ z=>by cases z)).bV;cases(ak l o (λ_ z=>by cases z)).bV;have c:0<=j/\j<=1000/\i.natAbs<2^64:=by
  by_cases c:0<=j/\j<=1000/\i.natAbs<2^64
  ·exact c
  ·rw[XV c]at f;cases f
 rw[XU c]at f;cases f;exact KD d s σ H _ _ v u Q I k h ⟨_,_,rfl,rfl,⟨c.1,by omega,c.2.2⟩,ans g M (.int _)⟩
theorem mJ{α β:Type}{F:α->β->Prop}{xs:List α}{ys:List β}(h:Sr F xs ys):∀k:Nat,Sr F (rQ xs k) (RF k ys).flatten
 |0=>.nil
 |k+1=>by
  unfold rQ;rw[SU,SU,SZ,SZ];exact bY h (mJ h k)
noncomputable def iI(op:Vm)(x y:W)(m:Mem):Res W:=dy (((view x m).bind λx=>(view y m).bind λy=>bx op x y).map .bl) m
theorem iw(h:aR K (iI op a b m) xr cm m H k):∃f d c,view a m=Zz f/\view b m=Zz d/\bx op f d=Zz c/\aR K (.ok (.t (.bl c)) m) xr cm m H k:=by
 obtain⟨t,e,g⟩:=ci h;cases q:((view a m).bind λx=>(view b m).bind λy=>bx op x y)with
 |none=>rw[q]at e;cases e
 |some c =>
  rw[q]at e;cases e;obtain⟨f,d,j,i,e⟩:=kt q;exact⟨f,d,c,j,i,e,g⟩
noncomputable def zp:T->V
 |.bl b=>.bl b
 |.int i=>.int i
 |.str cs=>.str ⟨cs.toArray⟩
 |_=>.non
theorem RT.fl(h:RT K cm m H t v)(f:flat t=true):v=zp t:=by
 cases h<;>first|rfl|cases f
theorem fO(h:RW K cm m H w v)(e:view w m=Zz t)(f:flat t=true):v=zp t:=
 (ak h e (λa z=>by subst z;cases f)).fl f
theorem wn{a b:List Nat}:(⟨a.toArray⟩:Str)=⟨b.toArray⟩↔a=b:=by
 constructor
 ·intro h
  injection h with h;simpa using h
 ·intro h;rw[h]
theorem FW{a b:List Nat}:decide (V.str ⟨a.toArray⟩=V.str ⟨b.toArray⟩)=(a==b):=by
 by_cases h:a=b
 ·subst h;simp
 ·rw[XY.mpr h]
  exact XW λz=>h (wn.mp (V.str.inj z))
theorem Cs{x y:T}(h:rV x y=true):flat x=true/\flat y=true/\KS (zp x) (zp y)=true/\decide (zp x=zp y)=eqT x y:=by
 cases x<;>cases y<;>first
  |(cases h;done)
  |(refine⟨rfl,rfl,rfl,?_⟩;unfold eqT;first|exact xz|exact zI|exact FW|exact XX rfl|exact XW (λz=>nomatch z))
theorem II(x y:T):bx .Eq x y=if rV x y || (au 60 x&&au 60 y)then Zz (eqT x y)else Zy:=by cases x<;>cases y<;>rfl
theorem HQ(x y:T):bx .NotEq x y=if rV x y || (au 60 x&&au 60 y)then Zz (!eqT x y)else Zy:=by cases x<;>cases y<;>rfl
mutual
noncomputable def pyT:T->PyData
 |.bl b=>.bool b
 |.int i=>.int i
 |.str cs=>.str ⟨cs.toArray⟩
 |.tup ts=>.tuple (iz ts)
 |.lst ts=>.list (iz ts)
 |_=>.none
noncomputable def iz:List T->List PyData
 |[]=>[]
 |t::ts=>pyT t::iz ts
end
mutual
theorem mo:∀(n:Nat) (t:T),au n t=true->U0 (pyT t)=true/\US (pyT t)<=n
 |n,.non,h=>⟨by simp[pyT,U0],by simp[pyT,US]⟩
 |n,.bl b,h=>⟨by rw[pyT];simp[U0],by rw[pyT];simp[US]⟩
 |n,.int i,h=>⟨by rw[pyT];simp[U0],by rw[pyT];simp[US]⟩
 |n,.str cs,h=>⟨by rw[pyT,U0];rw[au]at h;exact h,by rw[pyT];simp[US]⟩
 |0,.tup ts,h=>by simp[au]at h
 |0,.lst ts,h=>by simp[au]at h
 |n+1,.tup ts,h=>by
  rw[au]at h;have:=vY n ts h;exact⟨by rw[pyT,U0];exact this.1,by rw[pyT];simp only[US];omega⟩
 |n+1,.lst ts,h=>by
  rw[au]at h;have:=vY n ts h;exact⟨by rw[pyT,U0];exact this.1,by rw[pyT];simp only[US];omega⟩
 |n,.dct _ _,h=>by cases n<;>simp[au]at h
 |n,.dr _,h=>by cases n<;>simp[au]at h
theorem vY:∀(n:Nat) (ts:List T),aG n ts=true->Vr (iz ts)=true/\WG (iz ts)<=n
 |n,[],h=>⟨by rw[iz];simp[Vr],by rw[iz];simp[WG]⟩
 |n,t::ts,h=>by
  rw[aG,R6]at h;have h1:=mo n t h.1;have h2:=vY n ts h.2;refine⟨by rw[iz,Vr,h1.1,h2.1];rfl,?_⟩;rw[iz,WG];omega
end
theorem str_beq{a b:List Nat}:((⟨a.toArray⟩:Str)==⟨b.toArray⟩)=(a==b):=by
 by_cases h:a=b
 ·subst h;simp
 ·rw[XY.mpr h,XY.mpr λz=>h (wn.mp z)]
mutual
theorem vQ:∀(n k:Nat) (x y:T),au n x=true->au k y=true->SD (pyT x) (pyT y)=eqT x y
 |n,k,.tup xs,.tup ys,h1,h2=>by
  cases n with
  |zero=>simp[au]at h1
  |succ n=>cases k with
   |zero=>simp[au]at h2
   |succ k =>
    rw[au]at h1 h2;rw[pyT,pyT,SD,eqT];exact wy n k xs ys h1 h2
 |n,k,.lst xs,.lst ys,h1,h2=>by
  cases n with
  |zero=>simp[au]at h1
  |succ n=>cases k with
   |zero=>simp[au]at h2
   |succ k =>
    rw[au]at h1 h2;rw[pyT,pyT,SD,eqT];exact wy n k xs ys h1 h2
 |n,k,.str xs,.str ys,_,_=>by rw[pyT,pyT,SD,eqT];exact str_beq
 |n,k,.non,y,_,h2=>by cases y<;>first|(simp[pyT,SD,eqT];done)|(cases k<;>simp[au]at h2)
 |n,k,.bl b,y,_,h2=>by cases y<;>first|(simp[pyT,SD,eqT,b2i];done)|(cases k<;>simp[au]at h2)
 |n,k,.int b,y,_,h2=>by cases y<;>first|(simp[pyT,SD,eqT,b2i];done)|(cases k<;>simp[au]at h2)
 |n,k,.str xs,.non,_,_=>by simp[pyT,SD,eqT]
 |n,k,.str xs,.bl _,_,_=>by simp[pyT,SD,eqT]
 |n,k,.str xs,.int _,_,_=>by simp[pyT,SD,eqT]
 |n,k,.str xs,.tup _,_,_=>by simp[pyT,SD,eqT]
 |n,k,.str xs,.lst _,_,_=>by simp[pyT,SD,eqT]
 |n,k,.tup xs,.non,_,_=>by simp[pyT,SD,eqT]
 |n,k,.tup xs,.bl _,_,_=>by simp[pyT,SD,eqT]
 |n,k,.tup xs,.int _,_,_=>by simp[pyT,SD,eqT]
 |n,k,.tup xs,.str _,_,_=>by simp[pyT,SD,eqT]
 |n,k,.tup xs,.lst _,_,_=>by simp[pyT,SD,eqT]
 |n,k,.lst xs,.non,_,_=>by simp[pyT,SD,eqT]
 |n,k,.lst xs,.bl _,_,_=>by simp[pyT,SD,eqT]
 |n,k,.lst xs,.int _,_,_=>by simp[pyT,SD,eqT]
 |n,k,.lst xs,.str _,_,_=>by simp[pyT,SD,eqT]
 |n,k,.lst xs,.tup _,_,_=>by simp[pyT,SD,eqT]
 |n,k,x,.dct _ _,_,h2=>by cases k<;>simp[au]at h2
 |n,k,x,.dr _,_,h2=>by cases k<;>simp[au]at h2
 |n,k,.dct _ _,y,h1,_=>by cases n<;>simp[au]at h1
 |n,k,.dr _,y,h1,_=>by cases n<;>simp[au]at h1
theorem wy:∀(n k:Nat) (xs ys:List T),aG n xs=true->aG k ys=true->VE (iz xs) (iz ys)=tQ xs ys
 |n,k,[],[],_,_=>by rw[iz,VE,tQ]
 |n,k,[],_::_,_,_=>by rw[iz,iz,VE,tQ]<;>simp
 |n,k,_::_,[],_,_=>by rw[iz,iz,VE,tQ]<;>simp
 |n,k,x::xs,y::ys,h1,h2=>by
  rw[aG,R6]at h1 h2;rw[iz,iz,VE,tQ,vQ n k x y h1.1 h2.1,wy n k xs ys h1.2 h2.2]
end
theorem lJ(I:Inv X pins σ H s):∀{ts:List T}{vs:List V}{us:List Q7},ts.length=vs.length->(∀(i:Nat) t v u,ts[i]?=Zz t->vs[i]?=Zz v->RelV v u->∃as,Reads s.heap u (pyT t) as)->Vals vs us->∃as,ReadsAll s.heap us (iz ts) as
 |[],[],_,_,_,.nil=>⟨_,by rw[iz];exact .nil⟩
 |t::ts,v::vs,_,f,h,.cons r rs=>by
  obtain⟨as,h1⟩:=h 0 t v _ rfl rfl r;obtain⟨bs,h2⟩:=lJ I (by simpa using f) (λi t v u a b c=>h (i+1) t v u (by simpa using a) (by simpa using b) c) rs;exact⟨_,by rw[iz];exact .cons h1 h2⟩
 |[],_::_,_,f,_,_=>by simp at f
 |_::_,[],_,f,_,_=>by simp at f
theorem RT.reads(hK:X.K=K)(I:Inv X pins σ H s)(h:RT K cm m H t v):∀{n:Nat}{u:Q7},au n t=true->RelV v u->∃as,Reads s.heap u (pyT t) as:=by
 subst hK
 induction h with
 |non=>intro n u _ r;cases r;exact⟨[],by simp only[pyT];exact .none⟩
 |bl b=>intro n u _ r;cases r;exact⟨_,by rw[pyT];exact .bool b⟩
 |int i=>intro n u _ r;obtain⟨t,rfl⟩:=r;exact⟨_,by rw[pyT];exact .int i t⟩
 |str cs=>intro n u _ r;obtain⟨t,rfl⟩:=r;exact⟨_,by rw[pyT];exact .str _ t⟩
 |@tup a ts vs h1 h2 h3 ih =>
  intro n u hd r;cases n with
  |zero=>simp[au]at hd
  |succ n =>
   rw[au]at hd;cases r;obtain⟨its,rv,⟨o,ho,hc,k,hdt⟩,hz⟩:=I.tuple h1;have hall:∀(i:Nat) t,ts[i]?=Zz t->au n t=true:=λi t e=>by
    have:∀{l:List T},aG n l=true->∀x∈l,au n x=true:=λ{l}=>by
     induction l with
     |nil=>intro _ x hx;cases hx
     |cons y l ih=>intro h x hx;rw[aG,R6]at h;rcases R9.mp hx with rfl|hx;exact h.1;exact ih h.2 x hx
    exact this hd t (Si e)
   obtain⟨as,hr⟩:=lJ I h2 (λi t v u e1 e2 r=>ih i t v e1 e2 (hall i t e1) r) rv;exact⟨_,by rw[pyT];exact .tuple ho hc hdt (by simpa using hr)⟩
 |@lst a ts vs h1 h2 h3 h4 ih =>
  intro n u hd r;cases n with
  |zero=>simp[au]at hd
  |succ n =>
   rw[au]at hd;cases r;obtain⟨its,k,rv,ho,hz⟩:=I.lst h1;have hall:∀(i:Nat) t,ts[i]?=Zz t->au n t=true:=λi t e=>by
    have:∀{l:List T},aG n l=true->∀x∈l,au n x=true:=λ{l}=>by
     induction l with
     |nil=>intro _ x hx;cases hx
     |cons y l ih=>intro h x hx;rw[aG,R6]at h;rcases R9.mp hx with rfl|hx;exact h.1;exact ih h.2 x hx
    exact this hd t (Si e)
   obtain⟨as,hr⟩:=lJ I h3 (λi t v u e1 e2 r=>ih i t v e1 e2 (hall i t e1) r) rv;exact⟨_,by rw[pyT];exact .list ho rfl rfl (by simpa using hr)⟩
 |dct _ _ _ _ _ _=>intro n u hd _;cases n<;>simp[au]at hd
 |dr _ _=>intro n u hd _;cases n<;>simp[au]at hd
theorem gm(I:Inv X pins σ H s)(M:aC X.K cm m H)(r:RW X.K cm m H w v)(e:view w m=Zz t)(rv:RelV v u)(hd:au n t=true):∃as,Reads s.heap u (pyT t) as:=by
 cases t with
 |lst ts =>
  cases n with
  |zero=>simp[au]at hd
  |succ n =>
   rw[au]at hd;obtain⟨a,vs,rfl,h1,rr⟩:=aX M r e;cases rv;obtain⟨its,k,rv,ho,hz⟩:=I.lst h1;obtain⟨as,hr⟩:=lJ I rr.length (λi t v u e1 e2 r=>RT.reads rfl I (fL rr i t v e1 e2) (by
    have:∀{l:List T},aG n l=true->∀x∈l,au n x=true:=λ{l}=>by
     induction l with
     |nil=>intro _ x hx;cases hx
     |cons y l ih=>intro h x hx;rw[aG,R6]at h;rcases R9.mp hx with rfl|hx;exact h.1;exact ih h.2 x hx
    exact this hd t (Si e1)) r) rv
   exact⟨_,by rw[pyT];exact .list ho rfl rfl (by simpa using hr)⟩
 |_=>exact RT.reads rfl I (ak r e (λ_ z=>by cases z)) hd rv
theorem DG(E:X.A.units+64<cLine):dY X (Rq .Eq) (r2 X.K xr (iI .Eq)):=by
 rintro f s σ H x y v u Q I k j ⟨F,m,a,b,M,n,l,g⟩;obtain⟨i,h,c,p,o,e,g⟩:=iw g;rw[II]at e;split at e<;>cases e;rename_i d;rw[TC]at d;rcases d with d|d
 ·obtain⟨B,z,w,t⟩:=Cs d
  cases fO n p B;cases fO l o z;exact Nf f s σ H _ _ v u Q I k j ⟨w,by rw[t];exact ans g M (.bl _)⟩
 ·rw[R6]at d
  obtain⟨J,r⟩:=gm I M n p k d.1;obtain⟨G,q⟩:=gm I M l o j d.2;have D:=mo 60 i d.1;have C:=mo 60 h d.2;refine SeqAt.compareEq_reads r q D.1 C.1 (by omega) ⟨.bl (eqT i h),H,I,?_,ans g M (.bl _)⟩;rw[vQ 60 60 i h d.1 d.2];rfl
theorem Ep(E:X.A.units+64<cLine):dY X (Rq .NotEq) (r2 X.K xr (iI .NotEq)):=by
 rintro f s σ H x y v u Q I k j ⟨F,m,a,b,M,n,l,g⟩;obtain⟨i,h,c,p,o,e,g⟩:=iw g;rw[HQ]at e;split at e<;>cases e;rename_i d;rw[TC]at d;rcases d with d|d
 ·obtain⟨B,z,w,t⟩:=Cs d
  cases fO n p B;cases fO l o z;exact MR f s σ H _ _ v u Q I k j ⟨w,by rw[t];exact ans g M (.bl _)⟩
 ·rw[R6]at d
  obtain⟨J,r⟩:=gm I M n p k d.1;obtain⟨G,q⟩:=gm I M l o j d.2;have D:=mo 60 i d.1;have C:=mo 60 h d.2;refine SeqAt.compareNe_reads r q D.1 C.1 (by omega) ⟨.bl (!eqT i h),H,I,?_,ans g M (.bl _)⟩;rw[vQ 60 60 i h d.1 d.2];rfl
theorem oX:∀a b:List Nat,cY a b=decide (a<b)
 |[],[]=>by simp[cY]
 |[],_::_=>by simp[cY]
 |_::_,[]=>by simp[cY]
 |a::x,b::y=>by
  unfold cY;rw[oX x y];by_cases h:a<b
  ·rw[XU h]
   exact(XX (List.cons_lt_cons_iff.mpr (.inl h))).symm
  ·rw[XV h]
   by_cases h2:b<a
   ·rw[XU h2]
    refine(XW λz=>?_).symm;rcases List.cons_lt_cons_iff.mp z with z|⟨z,_⟩<;>omega
   ·rw[XV h2]
    have e:a=b:=by omega
    subst e;simp
theorem Dm:dY X (Rq .Lt) (r2 X.K xr (iI .Lt)):=by
 rintro d s σ H x y v u Q I rx ry ⟨cm,m,a,b,M,ra,rb,f⟩;obtain⟨l,g,c,ea,eb,e,f⟩:=iw f;change Kb l g=Zz c at e;cases l with
 |int i=>cases g with
  |int j =>
   cases e;cases(ak ra ea (λ_ z=>by cases z)).bV;cases(ak rb eb (λ_ z=>by cases z)).bV;exact NA d s σ H _ _ v u Q I rx ry ⟨_,_,rfl,rfl,ans f M (.bl _)⟩
  |_=>cases e
 |str i=>cases g with
  |str j =>
   cases e;cases(ak ra ea (λ_ z=>by cases z)).cQ;cases(ak rb eb (λ_ z=>by cases z)).cQ;refine CZ d s σ H _ _ v u Q I rx ry ⟨_,_,rfl,rfl,?_⟩;have:=ans f M (.bl _);rw[oX]at this;exact this
  |_=>cases e
 |_=>cases e
theorem DR:dY X (Rq .LtE) (r2 X.K xr (iI .LtE)):=by
 rintro d s σ H x y v u Q I rx n ⟨cm,m,a,b,M,ra,rb,f⟩;obtain⟨l,g,c,ea,eb,e,f⟩:=iw f;change KC l g=Zz c at e;cases l with
 |int i=>cases g with
  |int j =>
   cases e;cases(ak ra ea (λ_ z=>by cases z)).bV;cases(ak rb eb (λ_ z=>by cases z)).bV;exact MT d s σ H _ _ v u Q I rx n ⟨_,_,rfl,rfl,ans f M (.bl _)⟩
  |_=>cases e
 |str i=>cases g with
  |str j =>
   cases e;cases(ak ra ea (λ_ z=>by cases z)).cQ;cases(ak rb eb (λ_ z=>by cases z)).cQ;obtain⟨t,rfl⟩:=rx;obtain⟨t',rfl⟩:=n;refine PySem.P.le_str ⟨.bl (!cY j i),H,I,?_,ans f M (.bl _)⟩;rw[oX];rfl
  |_=>cases e
 |_=>cases e
theorem Dy:dY X (Rq .Gt) (r2 X.K xr (iI .Gt)):=by
 rintro d s σ H x y v u Q I h g ⟨r,m,a,b,M,l,k,f⟩;obtain⟨q,p,c,o,n,e,f⟩:=iw f;obtain⟨i,j,rfl,rfl,rfl⟩:=rS e;cases(ak l o (λ_ z=>by cases z)).bV;cases(ak k n (λ_ z=>by cases z)).bV;exact MY d s σ H _ _ v u Q I h g ⟨_,_,rfl,rfl,ans f M (.bl _)⟩
theorem Dq:dY X (Rq .GtE) (r2 X.K xr (iI .GtE)):=by
 rintro d s σ H x y v u Q I h g ⟨r,m,a,b,M,l,k,f⟩;obtain⟨q,p,c,o,n,e,f⟩:=iw f;obtain⟨i,j,rfl,rfl,rfl⟩:=rS e;cases(ak l o (λ_ z=>by cases z)).bV;cases(ak k n (λ_ z=>by cases z)).bV;exact M9 d s σ H _ _ v u Q I h g ⟨_,_,rfl,rfl,ans f M (.bl _)⟩
theorem EI{a b:List Nat}:Hn (.str ⟨a.toArray⟩) (.str ⟨b.toArray⟩)=(a==b):=by
 show((⟨a.toArray⟩:Str)==⟨b.toArray⟩)=(a==b)
 by_cases h:a=b
 ·subst h;simp
 ·rw[XY.mpr h,XY.mpr λz=>h (wn.mp z)]
theorem Lf{x y:T}(f:flat x=true)(g:flat y=true):Hn (zp y) (zp x)=eqT y x:=by
 cases x<;>cases y<;>first
  |(cases f;done)
  |(cases g;done)
  |(unfold eqT;exact EI)
  |(unfold eqT;rfl)
theorem cH.fl(h:cH K cm m H ts vs)(f:ts.all flat=true):vs=ts.map zp/\vs.all jX=true:=by
 induction h with
 |nil=>exact⟨rfl,rfl⟩
 |@cons t v _ _ r _ c =>
  rw[TU,R6]at f;obtain⟨g,e⟩:=c f.2;have d:=r.fl f.1;subst d;refine⟨by rw[RN,g],?_⟩;rw[TU,e,Bool.and_true];cases t<;>first|rfl|(cases f.1)
theorem Bi(f:flat x=true):∀{ts:List T},ts.all flat=true->inV (zp x) (ts.map zp)=ts.any λt=>eqT t x
 |[],_=>rfl
 |t::ts,g=>by
  rw[TU,R6]at g;have a:=Bi f g.2;unfold inV at a ⊢;rw[RN,Vw,Vw,a,Lf f g.1]
theorem ow(f:flat x=true):jX (zp x)=true:=by cases x<;>first|rfl|cases f
theorem LS(b:List Nat)(a:Nat):(!(S5 ⟨b.toArray⟩ ⟨#[a]⟩ 0 (⟨b.toArray⟩:Str).length 1).isEmpty)=decide (a∈b):=by
 have:=PySem.StrLaws.found_one (⟨b.toArray⟩:Str) a;simpa using this
theorem mf(e:bx .In x y=Zz c):(∃a b,x=.str a/\y=.str b/\c=!(S5 ⟨b.toArray⟩ ⟨a.toArray⟩ 0 (⟨b.toArray⟩:Str).length 1).isEmpty)∨(flat x=true/\∃ts,(y=.tup ts∨y=.lst ts)/\ts.all flat=true/\c=ts.any λt=>eqT t x)∨∃ts,y=.lst ts/\au 59 x=true/\aG 59 ts=true/\c=ts.any λt=>eqT t x:=by
 have g:∀{x y:T}{c:Bool},mQ x y=Zz c->(flat x=true/\∃ts,(y=.tup ts∨y=.lst ts)/\ts.all flat=true/\c=ts.any λt=>eqT t x)∨∃ts,y=.lst ts/\au 59 x=true/\aG 59 ts=true/\c=ts.any λt=>eqT t x:=by
  intro x y c e;unfold mQ at e;split at e
  ·split at e<;>cases e
   rename_i h;rw[R6]at h;exact .inl ⟨h.1,_,.inl rfl,h.2,rfl⟩
  ·split at e
   ·cases e
    rename_i h;rw[R6]at h;exact .inl ⟨h.1,_,.inr rfl,h.2,rfl⟩
   ·split at e<;>cases e
    rename_i h;rw[R6]at h;exact .inr ⟨_,rfl,h.1,h.2,rfl⟩
  ·cases e
 cases x with
 |str cs =>
  cases cs with
  |nil=>cases y<;>exact .inr (g e)
  |cons a r =>
   cases r with
   |nil =>
    cases y with
    |str b=>cases e;exact .inl ⟨[a],b,rfl,rfl,(LS b a).symm⟩
    |_=>exact .inr (g e)
   |cons a' r =>
    cases y with
    |str b=>cases e;exact .inl ⟨_,b,rfl,rfl,rfl⟩
    |_=>exact .inr (g e)
 |_=>cases y<;>exact .inr (g e)
theorem Fv(h:aG n ts=true):∀x∈ts,au n x=true:=by
 induction ts with
 |nil=>intro x a;cases a
 |cons y l ih =>
  intro x a;rw[aG,R6]at h;rcases R9.mp a with rfl|a
  ·exact h.1
  ·exact ih h.2 x a
theorem EU(r:Vals vs us):∀(i:Nat) (u:Q7),us[i]?=Zz u->∃v,vs[i]?=Zz v/\RelV v u:=by
 induction r with
 |nil=>intro i u h;simp at h
 |cons r rs ih =>
  intro i u h;cases i with
  |zero=>simp at h;subst h;exact⟨_,rfl,r⟩
  |succ i=>exact ih i u (by simpa using h)
theorem CD(U:X.A.units+64<cLine)(I:Inv X pins σ H s)(M:aC X.K cm m H)(B:RW X.K cm m H w xv)(N:view w m=Zz tx)(z:RelV xv v)(l:au 59 tx=true)(L:H p=Zz (.lst vs))(r:cH X.K cm m H ts vs)(P:aG 59 ts=true):
  ∃(a:Array Q7) (e:Q7->Bool),s.heap.IsList p a/\(∀y,y∈a->Wd X.A.in1 s y v (e y))/\a.any e=ts.any λt=>eqT t tx:=by
 classical
 obtain⟨R,E⟩:=gm I M B N z l;obtain⟨a,k,n,G,S⟩:=I.lst L;have x:=r.length.trans n.length;have h:∀(i:Nat) (t:T) (y:Q7),ts[i]?=Zz t->a[i]?=Zz y->Wd X.A.in1 s y v (eqT t tx):=by
  intro i t y b f;obtain⟨u,g,O⟩:=EU n i y f;have d:=Fv P t (Si b);obtain⟨Q,J⟩:=RT.reads rfl I (fL r i t u b g) d O;have D:=mo 59 t d;have C:=mo 59 tx l;have:=SeqAt.eqAt_reads (pyT t) (pyT tx) X.A.in1 s y v Q R J E D.1 C.1 (by
   have:X.A.in1.units<=X.A.units+1:=by simp[Around.in1]
   omega)
  rw[vQ 59 59 t tx d l]at this;exact this
 refine⟨a.toArray,λy=>decide (∃(i:Nat) (t:T),ts[i]?=Zz t/\a[i]?=Zz y/\eqT t tx=true),⟨_,G,rfl,k,rfl⟩,λy o=>?_,?_⟩
 ·by_cases q:∃(i:Nat) (t:T),ts[i]?=Zz t/\a[i]?=Zz y/\eqT t tx=true
  ·dsimp only;rw[XX q]
   obtain⟨i,t,b,f,g⟩:=q;have:=h i t y b f;rw[g]at this;exact this
  ·dsimp only;rw[XW q]
   obtain⟨i,j,f⟩:=VU (show y∈a by simpa using o);have c:i<ts.length:=by omega
   have b:=Rg c;have f:a[i]?=Zz y:=by rw[<-f];exact Rg j
   have:=h i ts[i] y b f;cases q2:eqT ts[i] tx with
   |false=>rw[q2]at this;exact this
   |true=>exact XZ ⟨i,ts[i],b,f,q2⟩ q
 ·rw[T7,List.any_toArray,UT,UT]
  constructor
  ·rintro ⟨y,o,q⟩
   obtain⟨i,t,b,_,g⟩:=Xa q;exact⟨t,Si b,g⟩
  ·rintro ⟨t,F,g⟩
   obtain⟨i,j,b⟩:=VU F;have c:i<a.length:=by omega
   exact⟨a[i],Tv c,XX ⟨i,t,by rw[<-b];exact Rg j,Rg c,g⟩⟩
theorem AE(x y:T):bx .NotIn x y=(bx .In x y).map (!·):=by
 cases x with
 |str e =>
  cases e with
  |nil=>cases y<;>rfl
  |cons a r=>cases r<;>cases y<;>rfl
 |_=>cases y<;>rfl
theorem DL(hu:X.A.units+64<cLine):dY X (Rq .In) (r2 X.K xr (iI .In)):=by
 rintro d s σ H x y v u Q I rx ry ⟨cm,m,a,b,M,ra,rb,ho⟩;obtain⟨ta,tb,c,ea,eb,e,ho⟩:=iw ho;rcases mf e with⟨p,q,rfl,rfl,rfl⟩|⟨f,ts,hy,g,rfl⟩|⟨ts,rfl,dx,dt,rfl⟩
 ·cases(ak ra ea (λ_ z=>by cases z)).cQ
  cases(ak rb eb (λ_ z=>by cases z)).cQ;exact DH d s σ H _ _ v u Q I rx ry ⟨_,_,rfl,rfl,ans ho M (.bl _)⟩
 ·cases fO ra ea f
  have fin:∀{i:List V},cH X.K cm m H ts i->i=ts.map zp/\i.all jX=true/\Q (.bl (inV (zp ta) i)) H:=λr=>by
   obtain⟨h1,h2⟩:=cH.fl r g;exact⟨h1,h2,by rw[h1,Bi f g];exact ans ho M (.bl _)⟩
  rcases hy with rfl|rfl
  ·obtain⟨p,i,rfl,h1,r⟩:=(ak rb eb (λ_ z=>by cases z)).j4
   obtain⟨_,f2,f3⟩:=fin r;exact u3 d s σ H _ _ v u Q I rx ry ⟨p,i,rfl,.inr h1,ow f,f2,f3⟩
  ·obtain⟨p,i,rfl,h1,r⟩:=aX M rb eb
   obtain⟨_,f2,f3⟩:=fin r;exact u3 d s σ H _ _ v u Q I rx ry ⟨p,i,rfl,.inl (.of h1),ow f,f2,f3⟩
 ·obtain⟨p,i,rfl,h1,r⟩:=aX M rb eb
  cases ry;obtain⟨its,e,hl,he,ha⟩:=CD hu I M ra ea rx dx h1 r dt;refine SeqAt.in_listAt e hl he ?_;rw[ha];exact⟨.bl _,H,I,rfl,ans ho M (.bl _)⟩
theorem wJ(hu:X.A.units+64<cLine):dY X (Rq .NotIn) (r2 X.K xr (iI .NotIn)):=by
 rintro d s σ H x y v u Q I rx ry ⟨cm,m,a,b,M,ra,rb,ho⟩;obtain⟨ta,tb,c',ea,eb,e,ho⟩:=iw ho;rw[AE]at e;cases e2:bx .In ta tb with
 |none=>rw[e2]at e;cases e
 |some c =>
 rw[e2]at e;cases e;rcases mf e2 with⟨p,q,rfl,rfl,rfl⟩|⟨f,ts,hy,g,rfl⟩|⟨ts,rfl,dx,dt,rfl⟩
 ·cases(ak ra ea (λ_ z=>by cases z)).cQ
  cases(ak rb eb (λ_ z=>by cases z)).cQ;exact wx d s σ H _ _ v u Q I rx ry ⟨_,_,rfl,rfl,ans ho M (.bl _)⟩
 ·cases fO ra ea f
  have fin:∀{i:List V},cH X.K cm m H ts i->i=ts.map zp/\i.all jX=true/\Q (.bl (!inV (zp ta) i)) H:=λr=>by
   obtain⟨h1,h2⟩:=cH.fl r g;exact⟨h1,h2,by rw[h1,Bi f g];exact ans ho M (.bl _)⟩
  rcases hy with rfl|rfl
  ·obtain⟨p,i,rfl,h1,r⟩:=(ak rb eb (λ_ z=>by cases z)).j4
   obtain⟨_,f2,f3⟩:=fin r;exact oC d s σ H _ _ v u Q I rx ry ⟨p,i,rfl,.inr h1,ow f,f2,f3⟩
  ·obtain⟨p,i,rfl,h1,r⟩:=aX M rb eb
   obtain⟨_,f2,f3⟩:=fin r;exact oC d s σ H _ _ v u Q I rx ry ⟨p,i,rfl,.inl (.of h1),ow f,f2,f3⟩
 ·obtain⟨p,i,rfl,h1,r⟩:=aX M rb eb
  cases ry;obtain⟨its,e,hl,he,ha⟩:=CD hu I M ra ea rx dx h1 r dt;refine SeqAt.notIn_listAt e hl he ?_;rw[ha];exact⟨.bl _,H,I,rfl,ans ho M (.bl _)⟩
noncomputable def MO:V->Option (Option Bool)
 |.non=>Zz Zy
 |.bl b=>Zz (Zz b)
 |_=>Zy
noncomputable def hdT:T->Option (Option Bool)
 |.non=>Zz Zy
 |.bl b=>Zz (Zz b)
 |_=>Zy
theorem RW.hd(M:aC K cm m H)(h:RW K cm m H w v)(e:view w m=Zz t):MO v=hdT t:=by
 cases t with
 |lst d=>obtain⟨a,c,rfl,_⟩:=aX M h e;rfl
 |_=>cases ak h e (λ_ z=>by cases z)<;>rfl
theorem NN{E:Q7->R1->Prop}(d:RelV x v)(h:Q (.bool (MO x==Zz (Zz b))) s):
  RK (RS prog w) A (Rq .Is v (.bool b)) Q E s:=by
 cases x with
 |bl c =>
  cases d;refine wpAny_is_plain rfl ?_;have e:((Sf c)==(Sf b))=(MO (.bl c)==Zz (Zz b)):=by cases c<;>cases b<;>rfl
  rw[e];exact h
 |non=>cases d;exact U1 rfl (λz=>nomatch z) h
 |int i=>obtain⟨t,rfl⟩:=d;exact U1 rfl (λz=>nomatch z) h
 |str i=>obtain⟨t,rfl⟩:=d;exact U1 rfl (λz=>nomatch z) h
 |xK i=>obtain⟨t,rfl⟩:=d;exact U1 rfl (λz=>nomatch z) h
 |flt i=>obtain⟨t,rfl⟩:=d;exact U1 rfl (λz=>nomatch z) h
 |ref a=>cases d;exact U1 rfl (λz=>nomatch z) h
 |ty n=>cases d;exact U1 rfl (λz=>nomatch z) h
theorem EB{E:Q7->R1->Prop}(d:RelV x v)(h:Q (.bool (!(MO x==Zz (Zz b)))) s):
  RK (RS prog w) A (Rq .IsNot v (.bool b)) Q E s:=by
 cases x with
 |bl c =>
  cases d;refine wpAny_isNot_plain rfl ?_;have e:((Sf c)==(Sf b))=(MO (.bl c)==Zz (Zz b)):=by cases c<;>cases b<;>rfl
  rw[e];exact h
 |non=>cases d;exact T5 rfl (λz=>nomatch z) h
 |int i=>obtain⟨t,rfl⟩:=d;exact T5 rfl (λz=>nomatch z) h
 |str i=>obtain⟨t,rfl⟩:=d;exact T5 rfl (λz=>nomatch z) h
 |xK i=>obtain⟨t,rfl⟩:=d;exact T5 rfl (λz=>nomatch z) h
 |flt i=>obtain⟨t,rfl⟩:=d;exact T5 rfl (λz=>nomatch z) h
 |ref a=>cases d;exact T5 rfl (λz=>nomatch z) h
 |ty n=>cases d;exact T5 rfl (λz=>nomatch z) h
theorem Cq{x y:T}(e:bx .Is x y=Zz c):(y=.non/\c=(hdT x==Zz Zy))∨∃b,y=.bl b/\c=(hdT x==Zz (Zz b)):=by
 cases y with
 |non=>cases x<;>(cases e;exact .inl ⟨rfl,rfl⟩)
 |bl b =>
  refine .inr ⟨b,rfl,?_⟩;cases x with
  |bl a=>cases e;cases a<;>cases b<;>rfl
  |_=>cases e;rfl
 |_=>cases x<;>cases e
theorem AV(x y:T):bx .IsNot x y=(bx .Is x y).map (!·):=by
 cases y with
 |non=>cases x<;>rfl
 |bl b=>cases x<;>first|rfl|(rename_i a;cases a<;>cases b<;>rfl)
 |_=>cases x<;>rfl
theorem Gw{x:V}:decide (x=.non)=(MO x==Zz Zy):=by cases x<;>first|rfl|exact XX rfl|exact a (λz=>nomatch z)
theorem CN:dY X (Rq .Is) (r2 X.K xr (iI .Is)):=by
 rintro d s σ H x y v u Q I i h ⟨cm,m,a,b,M,ra,j,g⟩;obtain⟨ta,tb,c,ea,eb,e,g⟩:=iw g;have hx:=RW.hd M ra ea;rcases Cq e with⟨rfl,rfl⟩|⟨k,rfl,rfl⟩
 ·cases(ak j eb (λ_ z=>by cases z)).HZ
  refine KG d s σ H _ _ v u Q I i h ⟨rfl,?_⟩;rw[Gw,hx];exact ans g M (.bl _)
 ·cases(ak j eb (λ_ z=>by cases z)).Dt
  cases h;refine NN i ⟨.bl _,H,I,rfl,?_⟩;rw[hx];exact ans g M (.bl _)
theorem vA:dY X (Rq .IsNot) (r2 X.K xr (iI .IsNot)):=by
 rintro d s σ H x y v u Q I j i ⟨cm,m,a,b,M,ra,l,g⟩;obtain⟨ta,tb,c',ea,eb,e,g⟩:=iw g;have hx:=RW.hd M ra ea;rw[AV]at e;cases h:bx .Is ta tb with
 |none=>rw[h]at e;cases e
 |some c =>
 rw[h]at e;cases e;rcases Cq h with⟨rfl,rfl⟩|⟨k,rfl,rfl⟩
 ·cases(ak l eb (λ_ z=>by cases z)).HZ
  refine JV d s σ H _ _ v u Q I j i ⟨rfl,?_⟩;rw[Gw,hx];exact ans g M (.bl _)
 ·cases(ak l eb (λ_ z=>by cases z)).Dt
  cases i;refine EB j ⟨.bl _,H,I,rfl,?_⟩;rw[hx];exact ans g M (.bl _)
theorem pA(hu:X.A.units+64<cLine):∀op:Vm,dY X (Rq op) (r2 X.K xr (iI op))
 |.Eq=>DG hu
 |.NotEq=>Ep hu
 |.Lt=>Dm
 |.LtE=>DR
 |.Gt=>Dy
 |.GtE=>Dq
 |.Is=>CN
 |.IsNot=>vA
 |.In=>DL hu
 |.NotIn=>wJ hu
noncomputable def PY(x y:W)(m:Mem):Res W:=dy ((view x m).bind λx=>(view y m).bind λy=>y2 x y) m
theorem JL(n:Nat)(i:Int):jq n i=KU n i:=rfl
theorem mr{α β:Type}{F:α->β->Prop}{xs:List α}{ys:List β}(h:Sr F xs ys){x:α}(e:atT xs i=Zz x):∃y,K5 ys i=Zz y/\F x y:=by
 unfold atT at e;unfold K5;rw[<-h.length];cases q:jq xs.length i with
 |none=>rw[q]at e;cases e
 |some j =>
  rw[q]at e;rw[JL]at q;obtain⟨y,b,a⟩:=ck h e;exact⟨y,by rw[q];exact b,a⟩
theorem mw(a:List Int):cH K cm m H (a.map .int) (a.map V.int):=by
 induction a with
 |nil=>exact .nil
 |cons n a d=>exact .cons (.int n) d
theorem HA{α β:Type}(f:α->β)(xs:List α)(i:Int):atT (xs.map f) i=(atT xs i).map f:=by
 unfold atT;rw[Q8];cases jq xs.length i with
 |none=>rfl
 |some j=>simp
theorem Nb:No X (r2 X.K xr PY):=by
 rintro d f g s σ H x y v u Q I o n ⟨L,m,a,b,M,A,w,h⟩ B;obtain⟨t,e,h⟩:=ci h;obtain⟨G,F,D,C,e⟩:=kt e;unfold y2 at e;have J:=aT;split at e
 ·cases(ak w C (λ_ z=>by cases z)).bV
  obtain⟨p,E,rfl,i,r⟩:=(ak A D (λ_ z=>by cases z)).j4;obtain⟨z,l,j⟩:=mr r e;exact Mw d f g s σ H _ _ v u Q I o n ⟨p,E,_,z,rfl,rfl,i,l,ans h M j⟩ B
 ·cases(ak w C (λ_ z=>by cases z)).bV
  obtain⟨p,E,rfl,i,r⟩:=aX M A D;obtain⟨z,l,j⟩:=mr r e;exact Ct d f g s σ H _ _ v u Q I o n ⟨p,E,_,z,rfl,rfl,.of i,l,ans h M j⟩ B
 ·cases(ak w C (λ_ z=>by cases z)).bV
  obtain⟨p,rfl,i⟩:=(ak A D (λ_ z=>by cases z)).Em;rw[<-HA]at e;obtain⟨z,l,j⟩:=mr (mw _) e;exact Ct d f g s σ H _ _ v u Q I o n ⟨p,_,_,z,rfl,rfl,i.sq,l,ans h M j⟩ B
 ·split at e
  ·rename_i cs k hl
   cases(ak w C (λ_ z=>by cases z)).bV;cases(ak A D (λ_ z=>by cases z)).cQ;cases q:atT cs k with
   |none=>rw[q]at e;cases e
   |some c =>
    rw[q]at e;cases e;exact Mj d f g s σ H _ _ v u Q I o n ⟨_,k,c,rfl,rfl,by rw[fS];omega,q,ans h M (.str [c])⟩ B
  ·cases e
 ·cases e
end
theorem vm{h:Rj}(p:PlainL h a its):h.IsList a its:=let⟨o,n,e,c,_,d⟩:=p;⟨o,e,c,n,d⟩
section
variable{P:Rk}{w:Rx}{A:SO}{E:Q7->R1->Prop}{s:R1}
theorem Gc(hj:s.heap.IsTupleIter j a k)(ha:s.heap.IsTuple a vs)(hv:vs[k]?=Zz v)(q:∀g,g.IsTupleIter j a (k+1)->U3 j s.heap g->Q v { s with heap:=g }):RK (RS P w) A (Th (.ref j)) Q E s:=by
 obtain⟨oj,ej,cj,dj⟩:=id hj;obtain⟨oa,ea,_,na,da⟩:=ha;unfold Th;refine Q6 (Rv hj.typeIs Ta (S7 Ta hj.typeIs F.entry_tuple_iterator_next ?_ (F.args_tuple_iterator_next_1 _)));show RK _ _ (field (.ref j) 0 >>= _) _ _ s;refine Q6 (SL ej dj rfl ?_);show RK _ _ (if(Sn a==TY)=true then _ else _) _ _ s;rw[XV (show ¬(Sn a==TY)=true from RL)];refine Q6 (SL ej dj rfl ?_);refine Q6 (Sz ea da ?_);simp only[Tn,hv];refine Q6 (SW ej dj (by simp) (Q9 ⟨v,rfl,Q9 (q _ ⟨_,S4 _ ej (Sb (S3 dj _)),(Uz ..).trans cj,?_⟩ (S6 ..))⟩));rw[S3 dj];simp[rawInt]
theorem EO(hA:A.handled=Zy)(hj:s.heap.IsTupleIter j a k)(ha:s.heap.IsTuple a vs)(hv:vs[k]?=Zy)(q:∀g e,Us j s.heap g->(∃o,g.get? e=Zz o/\o.cls=.type "StopIteration")->E (.ref e) { s with heap:=g }):RK (RS P w) A (Th (.ref j)) Q E s:=by
 obtain⟨oj,ej,cj,dj⟩:=id hj;obtain⟨oa,ea,_,na,da⟩:=ha;unfold Th;refine Q6 (Rv hj.typeIs Ta (S7 Ta hj.typeIs F.entry_tuple_iterator_next ?_ (F.args_tuple_iterator_next_1 _)));show RK _ _ (field (.ref j) 0 >>= _) _ _ s;refine Q6 (SL ej dj rfl ?_);show RK _ _ (if(Sn a==TY)=true then _ else _) _ _ s;rw[XV (show ¬(Sn a==TY)=true from RL)];refine Q6 (SL ej dj rfl ?_);refine Q6 (Sz ea da ?_);simp only[Tn,hv];refine Q6 (Tt (Q6 (SW ej dj (by simp) ?_)));refine Q6 ?_;simp only[newExc,newTuple];refine Q6 (S9 ?_ (by size_fits));refine Q6 (WK (by first|rfl|(simp only[firstArgMember];rfl)) (S9 ?_ (by size_fits)));simp only[XJ];refine Q6 (wpAny_handled ?_)
 first|rw[show A.in1.handled=Zy from hA]|rw[hA]
 exact Q6 (Q9 (wpAny_throw (q _ _ (((S6 ..).extBut.push _).push _) ⟨_,RH _ rfl,rfl⟩)))
structure Hv (z TI TO i j a b:R3) (k:Nat) (h:Rj):Prop where
 zip:X7 h z TI TO .none
 its:XD h TI (.ref i) (.ref j)
 out:∃p q,XD h TO p q
 one:h.IsTupleIter i a k
 two:h.IsListIter j b k
theorem Eh{z TI TO i j a b:R3}{xs ys:Array Q7}{Q:Q7->R1->Prop}(D:XM z TI TO i j a b)(S:Hv z TI TO i j a b k s.heap)(ha:s.heap.IsTuple a xs)(hb:s.heap.IsList b ys)(hx:xs[k]?=Zz x)(hy:ys[k]?=Zz y)(q:∀(g g':Rj),g.objs.size=s.heap.objs.size->(∀c o,c≠z->c≠TO->c≠i->c≠j->s.heap.get? c=Zz o->g.get? c=Zz o) ->
   (∀c o,c≠z->(g.push { cls:=.type "tuple",data:=.seq #[x,y] }).get? c=Zz o->g'.get? c=Zz o)->X7 g' z TI TO (rawInt s.heap.objs.size)->XD g' TO x y->g'.IsTupleIter i a (k+1)->g'.IsListIter j b (k+1) ->
   Q (.ref s.heap.objs.size) { s with heap:=g' }):RK (RS P w) A (Builtin.«zip.__next__» ⟨[.ref z],[]⟩) (λfin s'=>∃v,fin=.done (.ret v)/\Q v s') E s:=by
 obtain⟨hz,hI,⟨p,r,hO⟩,h1,h2⟩:=S;show RK _ _ (field (.ref z) 2 >>= _) _ _ _;refine Q6 (SL hz rfl rfl ?_);refine Q6 (SL hz rfl rfl (Q6 (Sz hI rfl ?_)));refine Q6 ?_;unfold Builtin.SmallTypes.ownedTupleIsFree;refine Q6 (SL hz rfl rfl (Q9 ?_));simp only[if_true];refine Q6 (Tt (Q6 (SL hz rfl rfl (Q6 (U8 hz (by simp) λg1 z1 e1=>?_)))));replace z1:X7 g1 z TI TO .ellipsis:=z1;refine Q6 ?_;simp only[List.zipIdx_cons,List.zipIdx_nil,Sd,WM];refine Q6 (Q6 (Wb ?_));refine Q6 (Gc (h1.extBut e1.extBut D.i1z) (ha.extBut e1.extBut D.l1z) hx λg2 k2 e2=>Q9 ?_);have o2:=e2.extBut _ _ D.TOi1 (e1.extBut _ _ D.TOz hO);refine Q6 (Sz o2 rfl (Q6 (wpAny_updateSeq_pair o2 λg3 o3 e3=>?_)));replace o3:XD g3 TO x r:=o3;refine Q6 (wpAny_letGo (Q9 (Q6 (Q6 (Wb ?_)))));refine Q6 (wpAny_nextOf_list_item (((h2.extBut e1.extBut D.i2z).extBut e2.extBut D.i12.symm).extBut e3.extBut D.TOi2.symm) (((hb.extBut e1.extBut D.l2z).extBut e2.extBut D.l2i1).extBut e3.extBut D.l2TO) hy λg4 k4 e4=>Q9 ?_);have o4:=e4.extBut _ _ D.TOi2 o3;refine Q6 (Sz o4 rfl (Q6 (wpAny_updateSeq_pair o4 λg5 o5 e5=>?_)));replace o5:XD g5 TO x y:=o5;refine Q6 (wpAny_letGo (Q9 (Q9 (Q6 (Sz o5 rfl (Q6 (wpAny_newTuple ?_)))))));have sz:g5.objs.size=s.heap.objs.size:=by rw[e5.1,e4.1,e3.1,e2.1,e1.1]
 have z5:=e5.extBut _ _ D.TOz.symm (e4.extBut _ _ D.i2z.symm (e3.extBut _ _ D.TOz.symm (e2.extBut _ _ D.i1z.symm z1)));have kp:∀c o,c≠z->c≠TO->c≠i->c≠j->s.heap.get? c=Zz o->g5.get? c=Zz o:=λc o n1 n2 n3 n4 e =>
  e5.extBut _ _ n2 (e4.extBut _ _ n4 (e3.extBut _ _ n2 (e2.extBut _ _ n3 (e1.extBut _ _ n1 e))))
 have k5:=((k2.extBut e3.extBut D.TOi1.symm).extBut e4.extBut D.i12).extBut e5.extBut D.TOi1.symm;have l5:=k4.extBut e5.extBut D.TOi2.symm;refine Q6 ?_;unfold Builtin.SmallTypes.ownedTupleHandOut;have z6:X7 (g5.push { cls:=.type "tuple",data:=.seq #[x,y] }) z TI TO .ellipsis:=R0 _ z5;refine Q6 (U8 z6 (by simp) λg7 z7 e7=>?_);replace z7:X7 g7 z TI TO (rawInt g5.objs.size):=z7;refine U8 z7 (by simp) λg8 z8 e8=>?_
 replace z8:X7 g8 z TI TO (rawInt g5.objs.size):=z8;have up:∀c o,c≠z->(g5.push { cls:=.type "tuple",data:=.seq #[x,y] }).get? c=Zz o->g8.get? c=Zz o:=λc o n e=>e8.extBut _ _ n (e7.extBut _ _ n e)
 have up':=λc o n e=>up c o n (R0 _ e)
 refine Q9 ⟨_,rfl,?_⟩;rw[sz]at z8 ⊢;exact q g5 g8 sz kp up z8 (up' _ _ D.TOz o5) (k5.at λo e=>up' _ o D.i1z e) (l5.at λo e=>up' _ o D.i2z e)
theorem Ew{z TI TO i j a b:R3}(hA:A.handled=Zy)(D:XM z TI TO i j a b)(S:Hv z TI TO i j a b k s.heap)(ha:s.heap.IsTuple a xs)(hx:xs[k]?=Zy)(q:∀(g:Rj) (e:R3),(∀c o,c≠z->c≠i->s.heap.get? c=Zz o->g.get? c=Zz o)->(∃o,g.get? e=Zz o/\o.cls=.type "StopIteration")->E (.ref e) { s with heap:=g }):
  RK (RS P w) A (Builtin.«zip.__next__» ⟨[.ref z],[]⟩) Q E s:=by
 obtain⟨hz,hI,_,h1,h2⟩:=S;show RK _ _ (field (.ref z) 2 >>= _) _ _ _;refine Q6 (SL hz rfl rfl ?_);refine Q6 (SL hz rfl rfl (Q6 (Sz hI rfl ?_)));refine Q6 ?_;unfold Builtin.SmallTypes.ownedTupleIsFree;refine Q6 (SL hz rfl rfl (Q9 ?_));simp only[if_true];refine Q6 (Tt (Q6 (SL hz rfl rfl (Q6 (U8 hz (by simp) λg1 z1 e1=>?_)))));replace z1:X7 g1 z TI TO .ellipsis:=z1;refine Q6 ?_;simp only[List.zipIdx_cons,List.zipIdx_nil,Sd,WM];refine Q6 (Q6 (Wb ?_));refine Q6 (EO hA (h1.extBut e1.extBut D.i1z) (ha.extBut e1.extBut D.l1z) hx λg2 e k2 he=>?_);obtain⟨oe,hoe,hce⟩:=he;have z2:=k2 _ _ D.i1z.symm z1;have ne:e≠z:=λx=>by subst x;rw[z2]at hoe;cases hoe;simp at hce
 exact U8 z2 (by simp) λg3 _ e3=>q g3 e (λc o n1 n2 x=>e3.extBut _ _ n1 (k2 _ _ n2 (e1.extBut _ _ n1 x))) ⟨oe,e3.extBut _ _ ne hoe,hce⟩
end
theorem Inv.BF{ch:List R3}(I:Inv X pins σ H s)(k:∀b o,b∉ch->s.heap.get? b=Zz o->g.get? b=Zz o)(hf:∀b∈ch,cZ X pins H b):
  Inv X pins σ H { s with heap:=g,toks:=t' }:=by
 have nit:∀b u,H b=Zz u->b∉ch:=λb u e z=>by rw[(hf b z).1]at e;cases e
 obtain⟨m0,hm0,_⟩:=id I.loc;refine I.step (g':=s.gens) (d':=s.drawn) (λb hb=>⟨(hf b hb).2.2.2.1,(hf b hb).2.1,(hf b hb).2.2.2.2.1,(hf b hb).2.2.2.2.2⟩) (λb o _ _ hc e _=>k b o hc e) (λb o _ _ hc e _=>⟨o.slots,k b o hc e⟩) (λ_ _ _ _ n=>n)
  (λb o hc e=>⟨o,k b o hc e⟩) (λ_ _ e=>e) (λ_ _ _ e=>e) (λb ps e=>⟨#[],by rw[e];simp⟩) (λm hm=>?_) (λb u e=>?_) I.bare
 ·obtain⟨o,es,ep,ho,r⟩:=hm
  exact⟨o,es,ep,k _ o (λz=>(hf _ z).2.1 rfl) ho,r⟩
 ·refine(I.hok b u e).stay (λc v hc q=>k c v ?_ q) (λ_ q=>q) λ_ _ q=>q
  rcases hc with z|z
  ·rw[z];exact nit b u e
  ·exact nit c _ z
noncomputable def Pe(K:Rs)(a b:R3):It:=
 ⟨λi H=>∃xs ys x y,j3 K H a xs/\qk K H b ys/\xs[i]?=Zz x/\ys[i]?=Zz y,
  λi H v H'=>∃x y c,(∀xs,j3 K H a xs->xs[i]?=Zz x)/\(∀ys,qk K H b ys->ys[i]?=Zz y)/\H c=Zy/\v=.ref c/\H'=upd H c (.tup [x,y]),
  λi H=>∃xs,j3 K H a xs/\xs.length<=i⟩
theorem E9{P:Rk}{w:Rx}{K:Rs}{kk}{z TI TO i j a b:R3}(D:XM z TI TO i j a b):
  Turn P w K (.Tuple es kk pos) (Pe K a b) [z,TI,TO,i,j] z (λk h=>Hv z TI TO i j a b k h) where
 mem:=by simp
 obj:=λk h st c hc=>by
  obtain⟨hz,hI,⟨p,q,hO⟩,⟨o1,e1,c1,d1⟩,⟨o2,e2,c2,d2⟩⟩:=st;simp only[R9,R4,or_false]at hc;rcases hc with rfl|rfl|rfl|rfl|rfl
  ·exact⟨_,hz,λv y=>by cases(y)⟩
  ·exact⟨_,hI,λv y=>by cases(y)⟩
  ·exact⟨_,hO,λv y=>by cases(y)⟩
  ·exact⟨o1,e1,λv y=>by rw[d1]at y;cases y⟩
  ·exact⟨o2,e2,λv y=>by rw[d2]at y;cases y⟩
 keep:=λk h h' st f=>by
  obtain⟨hz,hI,⟨p,q,hO⟩,h1,h2⟩:=st;exact⟨f z (by simp) _ hz,f TI (by simp) _ hI,⟨p,q,f TO (by simp) _ hO⟩,h1.at λo e=>f i (by simp) o e,h2.at λo e=>f j (by simp) o e⟩
 item:=by
  intro X hP hw hK hc k pins s σ H E I hf st hg;subst hP hw hK;obtain⟨xs,ys,x,y,q1,q2,hx,hy⟩:=hg;obtain⟨its,rv,p,_⟩:=I.tuple q1;obtain⟨jts,rw',p',_⟩:=I.list q2;obtain⟨u,hu,ru⟩:=rv.get hx;obtain⟨v,hv,rv'⟩:=rw'.get hy;have hT:s.TypeIs (.ref z) "zip":=⟨_,st.zip,rfl⟩
  unfold pyNext;refine Q6 (Ua (Rv hT VN (S7 VN hT F.entry_zip_next
   (Eh D st (p) (vm p') (by simpa using hu) (by simpa using hv) λg g' sz kp up z8 o8 k8 l8=>Q9 ?_) (F.args_zip_next_1 _))))
  refine⟨_,rfl,?_⟩;have fr:∀{c:R3}{o:Obj},s.heap.get? c=Zz o->s.heap.objs.size≠c:=λe=>UQ (RM e)
  have nz:=fr st.zip;have I5:Inv X pins σ H { s with heap:=g,toks:=s.toks }:=Inv.BF I (λc o hc e=>kp c o (λy=>hc (by simp[y])) (λy=>hc (by simp[y])) (λy=>hc (by simp[y])) (λy=>hc (by simp[y])) e) hf;have fresh:=I.hok.fresh (RD _);have I6:Inv X pins σ (upd H g.objs.size (.tup [x,y])) { s with heap:=g.push { cls:=.type "tuple",data:=.seq #[u,v] },toks:=s.toks }:=
   I5.laid (t':=s.toks) (λc o e=>R0 _ e) (RD _) ⟨by unfold RV;simp,[u,v],.cons ru (.cons rv' .nil),⟨_,RH _ rfl,rfl,⟨_,rfl⟩,rfl⟩⟩
  rw[sz]at I6;obtain⟨f0,f1,f2,f3,f4,f5⟩:=hf z (by simp);have I8:Inv X pins σ (upd H s.heap.objs.size (.tup [x,y])) { s with heap:=g',toks:=s.toks }:=
   Inv.turned (s:={ s with heap:=g.push { cls:=.type "tuple",data:=.seq #[u,v] },toks:=s.toks }) (t':=s.toks) I6 (λc o hc e=>up c o hc e) (by rw[bh nz.symm];exact f0) f1 f3 f4 f5
  refine wpAny_letOwnedTupleGo_zip z8 λg9 z9 e9=>?_
  have hI8:=up _ _ D.TIz (R0 _ (kp _ _ D.TIz D.TITO D.TIi1 D.TIi2 st.its));refine⟨.ref s.heap.objs.size,upd H s.heap.objs.size (.tup [x,y]),Inv.turned (t':=s.toks) I8 (λc o hc e=>e9.extBut _ _ hc e) (by rw[bh nz.symm];exact f0) f1 f3 f4 f5,rfl,
   ⟨x,y,_,λxs' q=>by rw[<-I.vj q1 q];exact hx,λys' q=>by rw[<-I.yS q2 q];exact hy,fresh,rfl,rfl⟩,⟨z9,e9.extBut _ _ D.TIz hI8,⟨_,_,e9.extBut _ _ D.TOz o8⟩,k8.extBut e9.extBut D.i1z,l8.extBut e9.extBut D.i2z⟩,λc hc=>?_⟩
  have nc:c≠s.heap.objs.size:=λe=>by
   obtain⟨o,ho,_⟩:=(show ∃o,s.heap.get? c=Zz o/\True from by
    obtain⟨hz,hI,⟨p,q,hO⟩,⟨o1,e1,_⟩,⟨o2,e2,_⟩⟩:=st;simp only[R9,R4,or_false]at hc;rcases hc with rfl|rfl|rfl|rfl|rfl
    ·exact⟨_,hz,trivial⟩
    ·exact⟨_,hI,trivial⟩
    ·exact⟨_,hO,trivial⟩
    ·exact⟨_,e1,trivial⟩
    ·exact⟨_,e2,trivial⟩)
   exact fr ho e.symm
  rw[bh nc];exact(hf c hc).1
 done:=by
  intro X hP hw hK hc k pins s σ H E I hf st hg;subst hP hw hK;obtain⟨xs,q1,hx⟩:=hg;obtain⟨its,rv,p,_⟩:=I.tuple q1;have hl:=rv.length;have hT:s.TypeIs (.ref z) "zip":=⟨_,st.zip,rfl⟩
  unfold pyNext;refine Q6 (Ua (Rv hT VN (S7 VN hT F.entry_zip_next
   (Ew (I.ok.hd hc) D st (p) (by simp;omega) λg e kp he=>?_) (F.args_zip_next_1 _))))
  obtain⟨o,ho,hce⟩:=he;refine Q6 (W6 ⟨o,ho,hce⟩ isSubtype_stop (Q9 ⟨rfl,?_⟩));exact Inv.BF (t':=s.toks) I (λc o hc e=>kp c o (λy=>hc (by simp[y])) (λy=>hc (by simp[y])) e) hf
 self:=λ_ _ _ _ _ st h=>wpAny_pyIter_zip st.zip h
noncomputable def Pz(cs:List Nat):It:=⟨λi _=>i<cs.length,λi H x H'=>H'=H/\∃c,cs[i]?=Zz c/\x=.str ⟨#[c]⟩,λi _=>cs.length<=i⟩
theorem yN{K:Rs}(hcl:["enumerate","zip","dict_itemiterator","dict_reverseitemiterator","odict_iterator","itertools.zip_longest","itertools.pairwise"].contains cl=false)(hself:∀(A:SO) (i:Nat) (s:R1) (Q:Q7->R1->Prop) (E:Q7->R1->Prop),s.heap.IsStrIter it cl ⟨cs.toArray⟩ t i->Q (.ref it) s->RK (RS P w) A (pyIter (.ref it)) Q E s)(W:∀A':SO,A'.handled=Zy->Walks P w A' it [it] [it] cs.length (SignAt ⟨cs.toArray⟩) (λi h=>h.IsStrIter it cl ⟨cs.toArray⟩ t i)):Turn P w K tg (Pz cs) [it] it (λi h=>h.IsStrIter it cl ⟨cs.toArray⟩ t i/\i<=cs.length) where
 mem:=by simp
 obj:=λi h st b hb=>by
  have e:b=it:=by simpa using hb
  subst e;obtain⟨⟨o,e,c,d⟩,_⟩:=st;exact⟨o,e,λv z=>by rw[d]at z;cases z⟩
 keep:=λi h h' st k=>⟨let⟨⟨o,ho,r⟩,_⟩:=st;⟨o,k it (by simp) o ho,r⟩,st.2⟩
 item:=by
  intro X hP hw hK hc i pins s σ H E I hf st hg;subst hP hw hK;obtain⟨f0,f1,f2,f3,f4,f5⟩:=hf it (by simp);have hg':i<cs.length:=hg;refine(W X.A (I.ok.hd hc)).item i s _ _ hg' st.1 λv h' tk hv st' kk=>?_
  obtain⟨c,u,hc',rfl⟩:=hv;have I1:Inv X pins σ H { s with heap:=h',toks:=tk }:=I.turned (λb o hb e=>kk b o (by simpa using hb) e) f0 f1 f3 f4 f5;obtain⟨o,e,cc,d⟩:=id st';refine⟨_,rfl,CB e cc d hcl ⟨.str ⟨#[c]⟩,H,I1,⟨u,rfl⟩,⟨rfl,c,by simpa using hc',rfl⟩,⟨st',by omega⟩,λb hb=>(hf b hb).1⟩⟩
 done:=by
  intro X hP hw hK hc i pins s σ H E I hf st hg;subst hP hw hK;obtain⟨f0,f1,f2,f3,f4,f5⟩:=hf it (by simp);have hg':cs.length<=i:=hg;have e:i=cs.length:=by have:=st.2;omega
  subst e;exact(W X.A (I.ok.hd hc)).done s _ _ st.1 λh' tk kk=>⟨rfl,I.turned (λb o hb e=>kk b o (by simpa using hb) e) f0 f1 f3 f4 f5⟩
 self:=λA i s Q E st h=>hself A i s Q E st.1 h
section
variable{K:Rs}{cm cm':List R3}{m m':Mem}{H H':Hp}{xr:XR}{X:Cx}
variable(K) in
inductive Src (cm:List R3) (m:Mem) (H:Hp):It->List T->Prop where
 |tup {a:R3}{vs:List V}{ts:List T}:j3 K H a vs->cH K cm m H ts vs->Src cm m H (Pw K a) ts
 |lst {a:R3}{vs:List V}{ts:List T}:H a=Zz (.lst vs)->aU cm m a->cH K cm m H ts vs->Src cm m H (N6 K a) ts
 |zn {a:R3}{i:Nat}{ts:List T}:m[i]?=Zz (Zz (true,ts))->cm[i]?=Zz a->Src cm m H (N6 K a) ts
 |dr {a:R3}(ns:List Int):kr K H a ns->Src cm m H (N6 K a) (ns.map .int)
 |str (cs:List Nat):Src cm m H (Pz cs) (cs.map λc=>.str [c])
 |Hr (lo:Int) (n:Nat):Src cm m H (Nm lo n) (rangeT lo n)
 |zip {a b:R3}{xs ys:List V}{ts us:List T}:j3 K H a xs->H b=Zz (.lst ys)/\aU cm m b->cH K cm m H ts xs->cH K cm m H us ys->ts.length=us.length->Src cm m H (Pe K a b) (yx ts us)
theorem Src.ext(x:dJ cm m H cm' m' H')(M:aC K cm m H)(M':aC K cm' m' H'){J:It}{ts:List T}(h:Src K cm m H J ts):Src K cm' m' H' J ts:=by
 cases h with
 |tup h1 h2=>exact .tup (x.Ot M h1) (cH.ext x M M' h2)
 |lst h1 h2 h3=>exact .lst (x.keep _ _ h1 h2).1 (x.keep _ _ h1 h2).2 (cH.ext x M M' h3)
 |zn h1 h2=>exact .zn (x.lent _ _ h1) (x.pre _ _ h2)
 |dr ns h=>exact .dr ns (x.dr M h)
 |str cs=>exact .str cs
 |Hr lo n=>exact .Hr lo n
 |zip h1 h2 h3 h4 h5=>exact .zip (x.Ot M h1) (x.keep _ _ h2.1 h2.2) (cH.ext x M M' h3) (cH.ext x M M' h4) h5
theorem stay(M:aC K cm m H)(z:H'=H)(r:RT K cm m H t x):dJ cm m H cm m H'/\aC K cm m H'/\RT K cm m H' t x:=by
 subst z;exact⟨.refl,M,r⟩
theorem GI{i:Nat}(e:(yx xs ys)[i]?=Zz t):∃x y,xs[i]?=Zz x/\ys[i]?=Zz y/\t=.tup [x,y]:=by
 unfold yx at e;rw[List.getElem?_zipWith]at e;split at e
 ·rename_i x y h1 h2
  cases e;exact⟨x,y,h1,h2,rfl⟩
 ·cases e
theorem Src.go(M:aC K cm m H){J:It}{ts:List T}(h:Src K cm m H J ts){i:Nat}{t:T}(e:ts[i]?=Zz t):J.go i H/\∀x H',J.OX i H x H'->dJ cm m H cm m H'/\aC K cm m H'/\RT K cm m H' t x:=by
 cases h with
 |tup h1 h2 =>
  obtain⟨v,e1,e2⟩:=ck h2 e;refine⟨⟨_,v,h1,e1⟩,λx H' ⟨z,q⟩=>stay M z ?_⟩;have:=q _ h1;rw[e1]at this;cases this;exact e2
 |lst h1 h2 h3 =>
  obtain⟨v,e1,e2⟩:=ck h3 e;refine⟨⟨_,v,.of h1,e1⟩,λx H' ⟨z,q⟩=>stay M z ?_⟩;have:=q _ (.of h1);rw[e1]at this;cases this;exact e2
 |zn h1 h2 =>
  obtain⟨b,vs,q1,q2,q3,q4⟩:=M.at' _ _ h1;rw[h2]at q1;cases q1;obtain⟨v,e1,e2⟩:=ck q4 e;refine⟨⟨_,v,.of q2,e1⟩,λx H' ⟨z,q⟩=>stay M z ?_⟩;have:=q _ (.of q2);rw[e1]at this;cases this;exact e2
 |dr ns h =>
  obtain⟨v,e1,e2⟩:=ck (mw ns) e;refine⟨⟨_,v,h.sq,e1⟩,λx H' ⟨z,q⟩=>stay M z ?_⟩;have:=q _ h.sq;rw[e1]at this;cases this;exact e2
 |str cs =>
  rw[Ru]at e;cases q:cs[i]? with
  |none=>rw[q]at e;cases e
  |some c =>
   rw[q]at e;cases e;refine⟨(RA.mp q).1,λx H' ⟨z,c',q',e'⟩=>stay M z ?_⟩;rw[q]at q';cases q';subst e';exact .str [c]
 |Hr lo n =>
  unfold rangeT at e;rw[Ru]at e;cases q:(SA n)[i]? with
  |none=>rw[q]at e;cases e
  |some k =>
   rw[q]at e;cases e;have hi:=(RA.mp q).1;rw[To]at hi;rw[List.getElem?_range hi]at q;cases q;exact⟨hi,λx H' ⟨z,e'⟩=>stay M z (by subst e';exact .int _)⟩
 |zip h1 h2 h3 h4 h5 =>
  obtain⟨x,y,hx,hy,rfl⟩:=GI e;obtain⟨u,e1,r1⟩:=ck h3 hx;obtain⟨v,e2,r2⟩:=ck h4 hy;refine⟨⟨_,_,u,v,h1,.of h2.1,e1,e2⟩,?_⟩;rintro x' H' ⟨u',v',c,q1,q2,hc,rfl,rfl⟩;have z1:=q1 _ h1;rw[e1]at z1;cases z1;have z2:=q2 _ (.of h2.1);rw[e2]at z2;cases z2;exact⟨.new hc,M.new hc,RT.E7 (.cons r1 (.cons r2 .nil)) hc⟩
theorem Src.stop(M:aC K cm m H){J:It}{ts:List T}(h:Src K cm m H J ts){i:Nat}(e:ts[i]?=Zy):J.stop i H:=by
 have l:=UX.mp e;cases h with
 |tup h1 h2=>exact⟨_,h1,by rw[<-h2.length];exact l⟩
 |lst h1 h2 h3=>exact⟨_,.of h1,by rw[<-h3.length];exact l⟩
 |zn h1 h2 =>
  obtain⟨b,vs,q1,q2,q3,q4⟩:=M.at' _ _ h1;rw[h2]at q1;cases q1;exact⟨_,.of q2,by rw[<-q4.length];exact l⟩
 |dr ns h=>exact⟨_,h.sq,by rw[Q8]at l ⊢;exact l⟩
 |str cs=>rw[Q8]at l;exact l
 |Hr lo n =>
  unfold rangeT at l;rw[Q8,To]at l;exact l
 |zip h1 h2 h3 h4 h5 =>
  refine⟨_,h1,?_⟩;unfold yx at l;rw[List.length_zipWith]at l;rw[<-h3.length];omega
variable(K) in
inductive tI (call:Nat->List W->Mem->Res W) (gv:List T) (xr:XR) (it:E) (σ:L2.St) (H:Hp) (R:It->Hp->Prop):Prop where
 |mk (env cm m) (_:bg K cm m H env σ) (_:aC K cm m H) (_:aR K (ev call gv it env m) xr cm m H λx cm1 m1 H1=>∃ts m2,bc x m1=.ok ts m2/\∀J,Src K cm1 m2 H1 J ts->R J H1)
theorem PI.mono(h:PI X tg iter t)(f:∀σ H R,t' σ H R->t σ H R):PI X tg iter t':=λpins s σ H R I q=>h pins s σ H R I (f σ H R q)
theorem Oc{call:Nat->List W->Mem->Res W}(h:PE X iter (tE X.K call gv xr it)):PI X tg iter (tI X.K call gv xr it):=by
 rintro pins s σ H R I ⟨env,cm,m,hE,hM,ho⟩;refine bR (h pins s σ H (λv H1=>∃cm1 m1 w,aC X.K cm1 m1 H1/\RW X.K cm1 m1 H1 w v/\∃ts m2,bc w m1=.ok ts m2/\∀J,Src X.K cm1 m2 H1 J ts->R J H1) I
  ⟨env,cm,m,hE,hM,ho.mono λw cm1 m1 H1 x1 M1 o1 v rv=>⟨cm1,m1,w,M1,rv,o1⟩⟩) λv s1 ⟨x,H1,I1,r1,cm1,m1,w,M1,rw1,ts0,m2,eb,o1⟩=>?_
 -- an iterator over a list that stands at a
 have onList:∀(a:R3) (vs:List V),x=.ref a->qk X.K H1 a vs->R (N6 X.K a) H1->RK (RS X.prog X.w) X.A (pyIter v) (PIE X pins σ tg R) X.xe s1:=λa vs e hq q=>by
  subst e;cases r1;obtain⟨its,rv,p,hz⟩:=I1.list hq;refine Uy p.isList ?_;refine⟨s1.heap.objs.size,[s1.heap.objs.size],_,_,H1,rfl,I1.kept (t':=s1.toks) λb o e=>R0 _ e,Dw a _,⟨_,RH _ rfl,rfl,rfl⟩,λb hb=>?_,q⟩;have e:b=s1.heap.objs.size:=by simpa using hb
  subst e;exact I1.D9 (RD _) (I1.hok.fresh (RD _))
 cases w with
 |x _ _ _=>cases eb
 |c i =>
  unfold bc at eb;dsimp only at eb;split at eb
  ·rename_i fl ts e
   cases eb;obtain⟨a,vs,q1,q2,_⟩:=M1.at' i _ e;obtain⟨b,h1,h2⟩:=rw1;rw[q1]at h1;cases h1;exact onList a vs h2 (.of q2) (o1 _ (.zn (Ri (RA.mp e).1) q1))
  ·cases eb
 |t t =>
  unfold bc at eb;cases t with
  |tup ts =>
   cases eb;obtain⟨a,vs,e,h1,h2⟩:=RT.j4 rw1;subst e;cases r1;obtain⟨its,rv,p,hz⟩:=I1.tuple h1;refine Ve (p) ?_;refine⟨s1.heap.objs.size,[s1.heap.objs.size],_,_,H1,rfl,I1.kept (t':=s1.toks) λb o e=>R0 _ e,zG a _,⟨_,RH _ rfl,rfl,rfl⟩,λb hb=>?_,o1 _ (.tup h1 h2)⟩;have e:b=s1.heap.objs.size:=by simpa using hb
   subst e;exact I1.D9 (RD _) (I1.hok.fresh (RD _))
  |lst ts =>
   cases eb;obtain⟨a,vs,e,h1,h2,h3⟩:=RT.J7 rw1;exact onList a vs e (.of h1) (o1 _ (.lst h1 h2 h3))
  |dr ns =>
   cases eb;obtain⟨a,e,h1⟩:=RT.Em rw1;exact onList a _ e h1.sq (o1 _ (.dr ns h1))
  |str cs =>
   unfold o9 at eb;dsimp only at eb;split at eb
   ·rename_i ts e
    split at e<;>cases e;cases eb;cases RT.cQ rw1;obtain⟨t,rfl⟩:=r1;have q:=o1 _ (.str cs);have I2:∀o:Obj,Inv X pins σ H1 { s1 with heap:=s1.heap.push o }:=λo=>I1.kept (t':=s1.toks) λb o e=>R0 _ e
    have fpk:∀b∈[s1.heap.objs.size],cZ X pins H1 b:=λb hb=>by
     have e:b=s1.heap.objs.size:=by simpa using hb
     subst e;exact I1.D9 (RD _) (I1.hok.fresh (RD _))
    cases ha:(⟨cs.toArray⟩:Str).cps.all (·<128)
    ·refine wpAny_pyIter_wide ha ?_
     exact⟨s1.heap.objs.size,[s1.heap.objs.size],_,_,H1,rfl,I2 _,yN (by decide) (λA i s Q E st h=>wpAny_pyIter_striter_wide st h) (λA' hA=>by simpa using Walks.strWide hA _ ⟨cs.toArray⟩ t),⟨⟨_,RH _ rfl,rfl,rfl⟩,Sy _⟩,fpk,q⟩
    ·refine wpAny_pyIter_ascii ha ?_
     exact⟨s1.heap.objs.size,[s1.heap.objs.size],_,_,H1,rfl,I2 _,yN (by decide) (λA i s Q E st h=>wpAny_pyIter_striter_ascii st h) (λA' hA=>by simpa using Walks.strAscii hA _ ⟨cs.toArray⟩ t),⟨⟨_,RH _ rfl,rfl,rfl⟩,Sy _⟩,fpk,q⟩
   ·cases eb
  |_=>cases eb
end
theorem tO(hg:gens[d]?=Zz ⟨target,iter,ifs,0⟩)(hn:gens[d+1]?=Zy):
  WN (.ListComp elt gens scope pos) d it acc env=(do
   Uw iter.pos
   match <-pyNext it with
   |none=>pure (.done .next)
   |some v =>
    UB target it v
    assign target env v
    let mut ok:=true
    for c in ifs do
     if ok then ok <-isTrue c env (eval c env)
    if ok then
     (do let _ <-call (.builtin "list.append") [acc,<-eval elt env])
    again (.compLoop (.ListComp elt gens scope pos) d it acc env)):=by
 unfold WN;simp only[hg,hn];rfl
theorem tN(hg:gens[d]?=Zz ⟨target,iter,ifs,0⟩)(hn:gens[d+1]?=Zz ⟨target',iter',ifs',0⟩):
  WN (.ListComp elt gens scope pos) d it acc env=(do
   Uw iter.pos
   match <-pyNext it with
   |none=>pure (.done .next)
   |some v =>
    UB target it v
    assign target env v
    let mut ok:=true
    for c in ifs do
     if ok then ok <-isTrue c env (eval c env)
    if ok then
     let x <-eval iter' env
     Uw iter'.pos
     let x <-Sl iter' env x
     let _ <-runOwn (.compStart (.ListComp elt gens scope pos) (d+1) (<-Vn [x] (pyIter x)) acc env) env
    again (.compLoop (.ListComp elt gens scope pos) d it acc env)):=by
 unfold WN;simp only[hg,hn];rfl
section
variable{K:Rs}{cm cm':List R3}{m m':Mem}{H H':Hp}{xr:XR}{Y:Cx}
def AccAt(h:Rj)(D:R3)(vs:List V):Prop:=vs.length<=RV/\∃(its:List Q7) (n:Nat),Vals vs its/\h.get? D=Zz { cls:=.type "list",data:=.seq its.toArray n }
structure P8 (Y:Cx) (pins:List (R3×Obj)) (H:Hp) (D:R3):Prop where
 free:H D=Zy
 loc:D≠Y.env.locals
 K6:D∉Y.fs
 own:D∈Y.ex∨Y.s₀.heap.objs.size<=D
 cell:∀x c,Y.env.cells.lookup x=Zz c->c≠D
 pin:∀p∈Y.pn++pins,p.1≠D
theorem K9{e:Rm}{call:Nat->List W->Mem->Res W}{gv:List T}{a:E}(h:PE Y e (tE Y.K call gv xr a)){pins:List (R3×Obj)}{s:R1}{σ:L2.St}{env:Env}{w:W}(I:Inv Y pins σ H s)(hE:bg Y.K cm m H env σ)(M:aC Y.K cm m H)(ok:ev call gv a env m=.ok w m'):RK (RS Y.prog Y.w) Y.A (eval e Y.env) (EP Y pins σ λv H'=>∃cm',dJ cm m H cm' m' H'/\aC Y.K cm' m' H'/\RW Y.K cm' m' H' w v) Y.xe s:=by
 refine h pins s σ H _ I ⟨env,cm,m,hE,M,?_⟩;rw[ok];exact λcm' H' x M' v r=>⟨cm',x,M',r⟩
theorem LM{e:Rm}{call:Nat->List W->Mem->Res W}{gv:List T}{a:E}(h:PT Y e (tT Y.K call gv xr a)){pins:List (R3×Obj)}{s:R1}{σ:L2.St}{env:Env}{k:Bool}(I:Inv Y pins σ H s)(hE:bg Y.K cm m H env σ)(M:aC Y.K cm m H)(ok:(ev call gv a env m).bind cu=.ok k m'):RK (RS Y.prog Y.w) Y.A (isTrue e Y.env (eval e Y.env)) (TP Y pins σ λb H'=>b=k/\∃cm',dJ cm m H cm' m' H'/\aC Y.K cm' m' H') Y.xe s:=by
 refine h pins s σ H _ I ⟨env,cm,m,hE,M,?_⟩;rw[ok];exact λcm' H' x M'=>⟨rfl,cm',x,M'⟩
def MI(Y:Cx)(call:Nat->List W->Mem->Res W)(gv:List T)(xr:XR):Es->List Rm->Prop
 |.nil,[]=>True
 |.cons a es,e::r=>PT Y e (tT Y.K call gv xr a)/\MI Y call gv xr es r
 |_,_=>False
theorem pO{E:Q7->R1->Prop}(h:Q false s):∀ifs:List Rm,
  RK M A (forIn ifs false λc r=>if r=true then do let ok <-isTrue c env (eval c env);pure (Se ok)else pure (Se r)) Q E s
 |[]=>Q9 h
 |_::r=>by
  simp only[Sd,Rb,if_false];exact Q6 (Q9 (pO h r))
theorem uZ{call:Nat->List W->Mem->Res W}{gv:List T}:∀{cs:Es}{ifs:List Rm}{cm:List R3}{m m':Mem}{H:Hp}{s:R1}{k:Bool},MI Y call gv xr cs ifs->Inv Y pins σ H s->bg Y.K cm m H env σ->aC Y.K cm m H ->
  tests call gv cs env m=.ok k m' ->
  RK (RS Y.prog Y.w) Y.A (forIn ifs true λc r=>if r=true then do let ok <-isTrue c Y.env (eval c Y.env);pure (Se ok)else pure (Se r))
   (λb s'=>b=k/\∃H' cm',Inv Y pins σ H' s'/\dJ cm m H cm' m' H'/\aC Y.K cm' m' H') Y.xe s
 |.nil,[],cm,m,m',H,s,k,_,I,hE,M,ok=>by
  unfold tests at ok;cases ok;exact Q9 ⟨rfl,H,cm,I,.refl,M⟩
 |.cons a es,e::r,cm,m,m',H,s,k,hp,I,hE,M,ok=>by
  unfold tests at ok;obtain⟨h1,h2⟩:=hp;simp only[Sd,if_true];cases e1:ev call gv a env m with
  |ok w m1 =>
   rw[e1]at ok;change (cu w m1).bind _=_ at ok;cases e2:cu w m1 with
   |ok b m2 =>
    rw[e2]at ok;change (if b=true then _ else _)=_ at ok;refine Q6 (Q6 (bR (LM h1 I hE M (m':=m2) (k:=b) (by rw[e1];exact e2)) λc s1 ⟨H1,I1,hb,cm1,x1,M1⟩=>Q9 ?_));subst hb;cases c with
    |true =>
     rw[XU rfl]at ok;exact bR (uZ h2 I1 (hE.ext x1 M M1) M1 ok) λb' s2 ⟨hb',H2,cm2,I2,x2,M2⟩=>⟨hb',H2,cm2,I2,x1.trans x2,M2⟩
    |false =>
     rw[XV RL]at ok;cases ok;exact pO ⟨rfl,H1,cm1,I1,x1,M1⟩ r
   |exc _ _=>rw[e2]at ok;cases ok
   |stuck=>rw[e2]at ok;cases ok
  |exc _ _=>rw[e1]at ok;cases ok
  |stuck=>rw[e1]at ok;cases ok
 |.nil,_::_,_,_,_,_,_,_,hp,_,_,_,_=>hp.elim
 |.cons _ _,[],_,_,_,_,_,_,hp,_,_,_,_=>hp.elim
noncomputable def lO:Tg->List Nat
 |.nm i=>[i]
 |.tp is=>is
def Agree(S:List Nat)(σ σ':L2.St):Prop:=∀i,i∉S->σ'[i]?=σ[i]?
noncomputable def cr:List Nat->List V->L2.St->L2.St
 |i::is,v::vs,σ=>cr is vs (σ.set i (Zz v))
 |_,_,σ=>σ
variable(K) in
noncomputable def gT:Tg->TG
 |.nm i=>Gn i
 |.tp is=>λv σ H Q=>∃a xs,v=.ref a/\j3 K H a xs/\xs.length=is.length/\Q (cr is xs σ) H
theorem nF:∀(is:List Nat) (vs:List V) (σ:L2.St),Agree is σ (cr is vs σ)
 |[],_,_=>λ_ _=>by unfold cr;rfl
 |_::_,[],_=>λ_ _=>by unfold cr;rfl
 |i::is,v::vs,σ=>λj hj=>by
  unfold cr;rw[R9]at hj;rw[nF is vs _ j λz=>hj (.inr z),RY λz=>hj (.inl z.symm)]
theorem bg.set(h:bg K cm m H env σ)(r:RW K cm m H w v)(i:Nat)(hi:i<σ.length):bg K cm m H (env.set i (Zz w)) (σ.set i (Zz v)):=λj u e=>by
 by_cases hj:j=i
 ·subst hj
  have hl:j<env.length:=by
   have:=(RA.mp e).1
   rwa [SR]at this
  rw[Ri hl]at e;cases e;exact⟨v,Ri hi,r⟩
 ·rw[RY (Sj hj)]at e
  obtain⟨v',h1,h2⟩:=h j u e;exact⟨v',by rw[RY (Sj hj)];exact h1,h2⟩
theorem bg.cr:∀{is:List Nat}{ts:List T}{vs:List V}{env:Env}{σ:L2.St},bg K cm m H env σ->cH K cm m H ts vs->(∀i∈is,i<σ.length) ->
  bg K cm m H ((is.zip ts).foldl (λenv p=>env.set p.1 (Zz (.t p.2))) env) (Mi.cr is vs σ)
 |[],_,_,_,_,h,_,_=>by unfold Mi.cr;exact h
 |_::_,[],_,_,_,h,.nil,_=>by unfold Mi.cr;exact h
 |i::is,t::ts,v::vs,env,σ,h,.cons r rs,hi=>by
  unfold Mi.cr;rw[Tb,TB];refine bg.cr (h.set (w:=.t t) r i (hi i RR)) rs λj hj=>?_
  rw[SR];exact hi j (RG _ hj)
theorem Gj(hE:bg K cm m H env σ)(hi:∀i∈lO tg,i<σ.length)(r:RT K cm m H t v)(e:bK tg t env=Zz env')(q:∀σ',bg K cm m H env' σ'->Agree (lO tg) σ σ'->Q σ' H):gT K tg v σ H Q:=by
 cases tg with
 |nm i =>
  cases e;refine q _ (hE.set (w:=.t t) r i (hi i (by simp[lO]))) λj hj=>?_
  rw[RY];intro z;exact hj (by simp[lO,z])
 |tp is =>
  unfold bK at e;dsimp only at e;split at e
  ·split at e<;>cases e
   rename_i ts hl;obtain⟨a,vs,rfl,h1,h2⟩:=RT.j4 r;exact⟨a,vs,rfl,h1,by rw[<-h2.length];exact hl,q _ (bg.cr hE h2 hi) (nF is vs σ)⟩
  ·cases e
end
noncomputable def dX:E->List Nat
 |.more _ tg _ inner=>lO tg++dX inner
 |_=>[]
section
variable{xr:XR}{Y:Cx}{call:Nat->List W->Mem->Res W}{gv:List T}
inductive Nd (xr:XR) (Y:Cx) (call:Nat->List W->Mem->Res W) (gv:List T) (elt:Rm) (gens:List VF):Nat->E->Prop
 |emit {d:Nat}{a:E}:gens[d+1]?=Zy->PE Y elt (tE Y.K call gv xr a)->Nd xr Y call gv elt gens d (.emit a)
 |more {d:Nat}{it inner:E}{tg:Tg}{cs:Es}{target iter:Rm}{ifs:List Rm}:gens[d+1]?=Zz ⟨target,iter,ifs,0⟩->PI Y target iter (tI Y.K call gv xr it)->(∀x,Sl iter Y.env x=pure x)->PG Y target (gT Y.K tg)->MI Y call gv xr cs ifs ->
  (∀i∈lO tg,i∉dX inner)->(∀i∈lO tg++dX inner,i<Y.N.length)->Nd xr Y call gv elt gens (d+1) inner->Nd xr Y call gv elt gens d (.more it tg cs inner)
theorem uX{α:Type}{M:Ww}{t:Sem α}{Q:α->R1->Prop}{E:Q7->R1->Prop}(a:∀e s,¬Y.xe e s)(h:RK M A t Q Y.xe s):RK M A t Q E s:=Sv h (λ_ _ q=>q) λ_ _ z=>(a _ _ z).elim
noncomputable abbrev turnF(call:Nat->List W->Mem->Res W)(gv:List T)(cs:Es)(inner:E):Env->Mem->Res (List T):=λenv m=>(tests call gv cs env m).bind λk m=>if k then(ev call gv inner env m).bind mU else .ok [] m
inductive xF (Y:Cx) (Acc:Rj->List V->Prop) (D:R3) (S:List Nat) (pins:List (R3×Obj)) (σ:L2.St) (cm:List R3) (m:Mem) (H:Hp) (vs:List V) (out:List T) (m':Mem) (s':R1)  : Prop where
 |mk (σ' H' cm' vs') (_:Inv Y pins σ' H' s') (_:dJ cm m H cm' m' H') (_:aC Y.K cm' m' H') (_:cH Y.K cm' m' H' out vs') (_:Acc s'.heap (vs++vs')) (_:Agree S σ σ') (_:H' D=Zy)
noncomputable abbrev OH(Y:Cx)(D:R3):=xF Y (λh vs=>AccAt h D vs) D
theorem AccAt.keep(a:AccAt h D vs)(k:∀o,h.get? D=Zz o->h'.get? D=Zz o):AccAt h' D vs:=by
 obtain⟨z,b,n,r,e⟩:=a;exact⟨z,b,n,r,k _ e⟩
theorem bg.agree{K:Rs}{S:List Nat}(h:bg K cm m H env σ)(a:Agree S σ σ')(n:∀i∈S,∀w,env[i]?≠Zz (Zz w)):bg K cm m H env σ':=λi w e=>by
 obtain⟨v,h1,h2⟩:=h i w e;refine⟨v,?_,h2⟩;rw[a i λz=>n i z w e];exact h1
theorem Agree.trans{S:List Nat}(h:Agree S a b)(g:Agree S b c):Agree S a c:=λi d=>(g i d).trans (h i d)
theorem Agree.mono{S c:List Nat}(h:Agree S a b)(g:∀i∈S,i∈c):Agree c a b:=λi d=>h i λz=>d (g i z)
theorem Agree.refl{S:List Nat}:Agree S a a:=λ_ _=>rfl
theorem yT(e:bK tg t env=Zz env')(hi:i∉lO tg):env'[i]?=env[i]?:=by
 cases tg with
 |nm j =>
  cases e;rw[RY];intro z;exact hi (by simp[lO,z])
 |tp is =>
  unfold bK at e;dsimp only at e;split at e
  ·split at e<;>cases e
   rename_i ts hl;have:∀(is:List Nat) (ts:List T) (env:Env),i∉is->((is.zip ts).foldl (λenv p=>env.set p.1 (Zz (.t p.2))) env)[i]?=env[i]?:=by
    intro is
    induction is with
    |nil=>intro ts env _;rfl
    |cons j is ih =>
     intro ts env h;cases ts with
     |nil=>rfl
     |cons t ts =>
      rw[R9]at h;rw[Tb,TB,ih ts _ λz=>h (.inr z),RY λz=>h (.inl z.symm)]
   exact this is ts env hi
  ·cases e
theorem aS{α β:Type}{r:Res α}{f:α->Mem->Res β}{y:β}(h:r.bind f=.ok y m'):∃x m,r=.ok x m/\f x m=.ok y m':=by
 cases r with
 |ok x m=>exact⟨x,m,rfl,h⟩
 |exc _ _=>cases h
 |stuck=>cases h
theorem vi(h:mU w m=.ok ts m'):w=.t (.lst ts)/\m'=m:=by
 unfold mU at h;split at h<;>cases h;exact⟨rfl,rfl⟩
theorem AR{K:Rs}(M:aC K cm m H)(r:RW K cm m H w v)(e:lR w m=.ok t m'):dJ cm m H cm m' H/\aC K cm m' H/\RT K cm m' H t v:=by
 cases w with
 |t x=>cases e;exact⟨.refl,M,r⟩
 |x _ _ _=>cases e
 |c i =>
  unfold lR at e;dsimp only at e;split at e
  ·rename_i ts h
   cases e;obtain⟨a,n,k,q,p,j,g,o,f⟩:=DB M h;obtain⟨b,d,l⟩:=r;rw[k]at d;cases d;subst l;exact⟨j,g,f⟩
  ·cases e
theorem Cb(f:cZ Y pins H b)(n:b∉fp):cZ Y (pins++jp fp h) H b:=
 ⟨f.1,f.2.1,f.2.2.1,f.2.2.2.1,f.2.2.2.2.1,λp a z=>by
  rw[<-SV]at a;rcases Rp.mp a with a|a
  ·exact f.2.2.2.2.2 p a z
  ·exact n (by rw[<-z];exact(uK a).1)⟩
structure Iv (D:R3) (Acc:Rj->List V->Prop):Prop where
 obj:∀{h vs},Acc h vs->∃o,h.get? D=Zz o/\∀v,o.data≠.cell v
 keep:∀{h h' vs},Acc h vs->(∀o,h.get? D=Zz o->h'.get? D=Zz o)->Acc h' vs
theorem nB(D:R3):Iv D (λh b=>AccAt h D b):=⟨λ⟨_,_,_,_,e⟩=>⟨_,e,λv z=>by cases z⟩,λa k=>a.keep k⟩
theorem za{c:Rj->List V->Prop}(g:Iv D c)(I:Inv Y pins σ H s)(f:cZ Y pins H D)(a:c s.heap vs):Inv Y (pins++jp [D] s.heap) σ H s:=by
 refine I.pinned (λb d=>?_) λb d=>?_
 ·have e:b=D:=by simpa using d
  rw[e];exact f
 ·have e:b=D:=by simpa using d
  obtain⟨o,q,n⟩:=g.obj a;rw[e];exact⟨_,q,n⟩
theorem qC{b:Rj->List V->Prop}(c:Iv D b)(a:b h vs)(I:Inv Y pins σ H s)(d:∀o,h.get? D=Zz o->(D,o)∈pins):b s.heap vs/\H D=Zy:=by
 obtain⟨o,q,_⟩:=c.obj a;obtain⟨g,f,_⟩:=I.pin _ (RO _ (d _ q));refine⟨c.keep a λi e=>?_,f⟩;rw[q]at e;cases e;exact g
theorem Co(I:Inv Y pins σ H s)(f:cZ Y pins H D)(a:AccAt s.heap D vs):Inv Y (pins++jp [D] s.heap) σ H s:=za (nB D) I f a
theorem FN{D:R3}(a:AccAt h D vs)(I:Inv Y pins σ H s)(b:∀o,h.get? D=Zz o->(D,o)∈pins):AccAt s.heap D vs/\H D=Zy:=qC (nB D) a I b
noncomputable abbrev GG(target iter:Rm)(ifs:List Rm)(env:T6)(it:Q7)(c:Code)(br:Sem PySem.Fin):Sem PySem.Fin:=
 Uw iter.pos >>= λ_=>pyNext it >>= λr=>match r with
  |none=>pure (.done .next)
  |some v=>UB target it v >>= λ_=>assign target env v >>= λ_ =>
   (forIn ifs true λc r=>if r=true then do let ok <-isTrue c env (eval c env);pure (Se ok)else pure (Se r)) >>= λok=>if ok=true then br else again c
inductive LA (Acc:Rj->List V->Prop) (fp:List R3) (D:R3) (cm:List R3) (m:Mem) (H:Hp) (tg:Tg) (inner:E) (σ:L2.St) (tn:Nat->Rj->Prop) (pins:List (R3×Obj)) (vs:List V) (cs:Es) (ts:List T) (env:Env) (m':Mem) (out:List T) (n:Nat) (s1:R1):Prop where
 |mk (i σ1 H1 cm1 m1 vs1 done rest) (_:Inv Y pins σ1 H1 s1) (_:tn i s1.heap) (_:∀b∈fp,H1 b=Zy) (_:H1 D=Zy) (_:dJ cm m H cm1 m1 H1) (_:aC Y.K cm1 m1 H1) (_:Agree (lO tg++dX inner) σ σ1) (_:Acc s1.heap (vs++vs1)) (_:cH Y.K cm1 m1 H1 done vs1) (_:cy (turnF call gv cs inner) tg (ts.drop i) env m1=.ok rest m') (_:out=done++rest) (_:n=ts.length+1-i) (_:i<=ts.length)
theorem xY(hc:Y.calm=true)(hxe:∀e s,¬Y.xe e s){ce:Rm}{D:R3}{Acc:Rj->List V->Prop}(hA:Iv D Acc){Pt:T->Prop}(hu:Y.A.under (.compLoop ce d (.ref it) (.ref D) Y.env)=Y.A)(hd:(RS Y.prog Y.w).den (.compLoop ce d (.ref it) (.ref D) Y.env)=(WN ce d (.ref it) (.ref D) Y.env).onRaise (λx=>do W7 x Y.env;theTreesLotGoes x))(code:WN ce d (.ref it) (.ref D) Y.env=GG target iter ifs Y.env (.ref it) (.compLoop ce d (.ref it) (.ref D) Y.env) br)(hg:PG Y target (gT Y.K tg))(ht:MI Y call gv xr cs ifs)(hdis:∀i∈lO tg,i∉dX inner)(hlt:∀i∈lO tg++dX inner,i<Y.N.length)(hbr:∀{pins:List (R3×Obj)}{s:R1}{σ:L2.St}{H:Hp}{cm:List R3}{m m':Mem}{env:Env}{out:List T}{vs:List V},Inv Y pins σ H s->cZ Y pins H D->Acc s.heap vs->bg Y.K cm m H env σ->(∀i∈dX inner,∀w,env[i]?≠Zz (Zz w))->aC Y.K cm m H ->
   (ev call gv inner env m).bind mU=.ok out m'->vs.length+out.length<=L->(∀t∈out,Pt t) ->
   RK (RS Y.prog Y.w) Y.A br (λfin s'=>fin=.again (.compLoop ce d (.ref it) (.ref D) Y.env)/\xF Y Acc D (dX inner) pins σ cm m H vs out m' s') Y.xe s)(I:Inv Y pins σ H s)(hD:cZ Y pins H D)(ha:Acc s.heap vs)(hT:Turn Y.prog Y.w Y.K target J fp it tn)(h0:tn 0 s.heap)(hf:∀b∈fp,cZ Y pins H b)(hDf:D∉fp)(hE:bg Y.K cm m H env σ)(hn:∀i∈lO tg++dX inner,∀w,env[i]?≠Zz (Zz w))(M:aC Y.K cm m H)(hs:Src Y.K cm m H J ts)(ok:cy (turnF call gv cs inner) tg ts env m=.ok out m')(hl:vs.length+out.length<=L)(hpt:∀t∈out,Pt t):
  UI (RS Y.prog Y.w) Y.A (.compLoop ce d (.ref it) (.ref D) Y.env) (λr s'=>r=.ok .next/\xF Y Acc D (lO tg++dX inner) pins σ cm m H vs out m' s') s:=by
 have statD:∀{H1:Hp},H1 D=Zy->cZ Y pins H1 D:=λh=>⟨h,hD.2⟩
 have stat:∀{H1:Hp},(∀b∈fp,H1 b=Zy)->∀b∈fp,cZ Y pins H1 b:=λh b hb=>⟨h b hb,(hf b hb).2⟩
 refine codeAny_loop rfl (LA (Y:=Y) (call:=call) (gv:=gv) Acc fp D cm m H tg inner σ tn pins vs cs ts env m' out) ?_ (ts.length+1)
  ⟨0,σ,H,cm,m,[],[],out,I,h0,λb hb=>(hf b hb).1,hD.1,.refl,M,.refl,by rw[T9];exact ha,.nil,by rw[Vf];exact ok,rfl,rfl,Sy _⟩
 rintro n s1 ⟨i,σ1,H1,cm1,m1,vs1,done,rest,I1,st1,fr1,d1,x1,M1,ag1,a1,r1,ok1,eo,rfl,hi⟩;rw[hu,hd];refine wpAny_noted ?_;rw[code];refine Q6 (TR (Q6 ?_));have hE1:=(hE.ext x1 M M1).agree ag1 hn;have s1':=hs.ext x1 M M1;have I1D:=za hA I1 (statD d1) a1;have fpD:∀{H1:Hp},(∀b∈fp,H1 b=Zy)->∀b∈fp,cZ Y (pins++jp [D] s1.heap) H1 b:=λh b hb=>Cb (stat h b hb) λz=>hDf (by
  have e:b=D:=by simpa using z
  rw[<-e];exact hb)
 have inD:∀o,s1.heap.get? D=Zz o->(D,o)∈pins++jp [D] s1.heap:=λo e=>RO _ (bX (by simp) e)
 cases et:ts[i]? with
 |none =>
  refine uX hxe (bR (hT.done Y rfl rfl rfl hc i _ s1 σ1 H1 Y.xe I1D (fpD fr1) st1 (Src.stop M1 s1' et)) λr s2 ⟨hr,I2⟩=>?_);subst hr;have hd:=List.drop_eq_nil_of_le (UX.mp et);rw[hd]at ok1;unfold cy at ok1;cases ok1;rw[T9]at eo;subst eo;exact Q9 ⟨rfl,σ1,H1,cm1,vs1,I2.cS,x1,M1,r1,(qC hA a1 I2 inD).1,ag1,(qC hA a1 I2 inD).2⟩
 |some t =>
  obtain⟨go,yl⟩:=Src.go M1 s1' et;have hit:=(RA.mp et).1;have hd:ts.drop i=t::ts.drop (i+1):=by
   rw[Su hit]
   congr 1
   exact Rr ((Rg hit).symm.trans et)
  rw[hd]at ok1;unfold cy at ok1;split at ok1
  ·cases ok1
  ·rename_i env' eb
   obtain⟨xs,m2,ok2,ok3⟩:=aS ok1;obtain⟨ys,m3,ok4,ok5⟩:=aS ok3;cases ok5;obtain⟨k,m4,okt,okb⟩:=aS ok2;refine uX hxe (bR (hT.item Y rfl rfl rfl hc i _ s1 σ1 H1 Y.xe I1D (fpD fr1) st1 go) λr s2 ⟨u,hr,h2⟩=>?_);subst hr;refine Q6 (uX hxe (bR h2 λ_ s3 ⟨x,H3,I3,rx,y3,st3,fr3⟩=>?_));obtain⟨xy,My,rt⟩:=yl x H3 y3;have hE1:=hE1.ext xy M1 My;have x1:=x1.trans xy;have r1:=cH.ext xy M1 My r1;have M1:=My
   -- pinned: the list that is filled,and the iterator
   have I3':=I3.pinned (fpD fr3) (hT.obj _ _ st3);refine Q6 (uX hxe (bR (hg _ s3 σ1 H3 x u (λσ' H'=>H'=H3/\bg Y.K cm1 m1 H3 env' σ'/\Agree (lO tg) σ1 σ') I3' rx (Gj hE1 (λj hj=>by rw[I3.len];exact hlt j (SK _ hj)) rt eb λσ' h1 h2=>⟨rfl,h1,h2⟩)) λ_ s4 ⟨σ4,H4,I4,e4,hE4,ag4⟩=>?_));subst e4;refine Q6 (uX hxe (bR (uZ ht I4 hE4 M1 okt) λb s5 ⟨hb,H5,cm5,I5,x5,M5⟩=>?_));subst hb;have a5:=qC hA a1 I5 λo e=>SK _ (inD o e)
   have st5:=hT.keep _ _ _ st3 λb hb o e=>(I5.pin (b,o) (RO _ (RO _ (bX hb e)))).1
   have f5:∀b∈fp,H5 b=Zy:=λb hb=>by
    obtain⟨o,e,dd⟩:=hT.obj _ _ st3 b hb;exact(I5.pin (b,o) (RO _ (RO _ (bX hb e)))).2.1
   have ag45:=ag1.trans (ag4.mono λi hi=>SK _ hi);cases b with
   |false =>
    rw[XV RL]at okb ⊢;cases okb;rw[Sq]at eo;exact Q9 ⟨rfl,_,by omega,i+1,σ4,H5,cm5,m2,vs1,done,ys,I5.cS.cS,st5,f5,a5.2,x1.trans x5,M5,ag45,a5.1,cH.ext x5 M1 M5 r1,ok4,eo,rfl,hit⟩
   |true =>
    rw[XU rfl]at okb ⊢;have I6:=I5.cS.cS.pinned (stat f5) (hT.obj _ _ st5);have hv:=r1.length;have hz:(vs++vs1).length+xs.length<=L:=by
     rw[R8,<-hv];rw[eo,R8,R8]at hl;omega
    have hn6:∀j∈dX inner,∀w,env'[j]?≠Zz (Zz w):=λj hj w=>by
     rw[yT eb λz=>hdis j z hj];exact hn j (RO _ hj) w
    refine uX hxe (bR (hbr I6 (Cb (statD a5.2) hDf) a5.1 (hE4.ext x5 M1 M5) hn6 M5 okb hz λt ht'=>hpt t (by rw[eo];exact RO _ (SK _ ht'))) λfin s7 ⟨hfin,σ7,H7,cm7,vs7,I7,x7,M7,r7,a7,ag7,d7⟩=>?_);subst hfin;have keep7:=λb hb o e=>(I7.pin (b,o) (RO _ (RO _ (bX hb e)))).1
    refine⟨rfl,_,by omega,i+1,σ7,H7,cm7,m2,vs1++vs7,done++xs,ys,I7.cS,hT.keep _ _ _ st5 keep7,λb hb=>?_,?_,(x1.trans x5).trans x7,M7,ag45.trans (ag7.mono λi hi=>RO _ hi),by rw[<-SV];exact a7,
     bY (cH.ext x7 M5 M7 (cH.ext x5 M1 M5 r1)) r7,ok4,by rw[eo,SV],rfl,hit⟩
    ·obtain⟨o,e,dd⟩:=hT.obj _ _ st5 b hb
     exact(I7.pin (b,o) (RO _ (RO _ (bX hb e)))).2.1
    ·exact d7
theorem tZ(hg:gens[d]?=Zz ⟨target,iter,ifs,0⟩)(h0:UI (RS prog w) A (.compLoop (.ListComp elt gens scope pos) d it acc env) R s)(h:RK (RS prog w) A (pyIter it) (λit' s'=>UI (RS prog w) A (.compLoop (.ListComp elt gens scope pos) d it' acc env) R s') (notedBy (RS prog w) A env λx s'=>R (.error x) s') s):
  UI (RS prog w) A (.compStart (.ListComp elt gens scope pos) d it acc env) R s:=by
 refine VM ?_;refine wpAny_notedAt ?_;unfold Wr;have e:(X8 (.ListComp elt gens scope pos))[d]?=Zz ⟨target,iter,ifs,0⟩:=hg;rw[e];refine Q6 (Tw (wpAny_ite ?_));split
 ·first
   |exact Q6 (Q9 (Q9 (Rc rfl h0)))
   |exact Q9 (Rc rfl h0)
 ·first
   |exact Q6 (Tt (Q6 (TR (Q6 (Sv h (λit' s' h'=>Q9 (Rc rfl h')) λ_ _ x=>x)))))
   |(refine Q6 (Tt ?_);show RK _ _ (Uw iter.pos >>= _) _ _ s;exact Q6 (TR (Q6 (Sv h (λit' s' h'=>Q9 (Rc rfl h')) λ_ _ x=>x))))
theorem By{E:Q7->R1->Prop}(I:Inv Y d σ H s)(f:cZ Y d H D)(a:AccAt s.heap D vs)(r:RelV v u)(hz:vs.length<RV)(q:∀h,Inv Y d σ H h->AccAt h.heap D (vs++[v])->Q .none h):RK (RS Y.prog Y.w) Y.A (U7 (.builtin "list.append") [.ref D,u]) Q E s:=by
 obtain⟨z,c,n,rv,e⟩:=a;have hl:=rv.length;refine Sg F.slot_list_append ⟨_,e,rfl⟩ F.entry_list_append (F.args_list_append_2 _ _) (PySem.list_append D c.toArray n u (by rw[R7];omega)) ⟨e,?_⟩;have e2:=PySem.IsL.update e (·.push u);have hf:c.toArray.push u=(c++[u]).toArray:=by simp
 rw[hf]at e2;obtain⟨f0,f1,f2,f3,f4,f5⟩:=f;refine q _ (I.turned (t':=s.toks) (λb o hb eb=>(S0 s.heap (U6 (·.push u)) (Sj hb)).trans eb) f0 f1 f3 f4 f5) ⟨?_,c++[u],_,rv.append (.cons r .nil),e2⟩;rw[R8,UG];omega
theorem oO{K:Rs}(M:aC K cm m H)(e:bc w m=.ok ts m1):dJ cm m H cm m1 H/\aC K cm m1 H:=by
 cases w with
 |t t =>
  unfold bc at e;dsimp only at e;split at e<;>cases e;exact⟨.refl,M⟩
 |x _ _ _=>cases e
 |c i =>
  unfold bc at e;dsimp only at e;split at e
  ·cases e
   exact D1 M (by assumption)
  ·cases e
theorem JC(hc:Y.calm=true)(hxe:∀e s,¬Y.xe e s){elt:Rm}{inner:E}(hin:Nd xr Y call gv elt gens d inner):∀{target iter:Rm}{ifs:List Rm}{tg:Tg}{cs:Es},gens[d]?=Zz ⟨target,iter,ifs,0⟩ ->
  PG Y target (gT Y.K tg)->MI Y call gv xr cs ifs->(∀i∈lO tg,i∉dX inner)->(∀i∈lO tg++dX inner,i<Y.N.length) ->
  ∀{c:List (R3×Obj)}{s:R1}{σ:L2.St}{H:Hp}{cm:List R3}{m m':Mem}{env:Env}{ts f:List T}{J:It}{it:R3}{fp:List R3}{tn:Nat->Rj->Prop}{vs:List V},Inv Y c σ H s->cZ Y c H D->AccAt s.heap D vs ->
   Turn Y.prog Y.w Y.K target J fp it tn->tn 0 s.heap->(∀b∈fp,cZ Y c H b)->D∉fp->bg Y.K cm m H env σ->(∀i∈lO tg++dX inner,∀w,env[i]?≠Zz (Zz w))->aC Y.K cm m H->Src Y.K cm m H J ts ->
   cy (turnF call gv cs inner) tg ts env m=.ok f m'->vs.length+f.length<=lim ->
   UI (RS Y.prog Y.w) Y.A (.compLoop (.ListComp elt gens scope pos) d (.ref it) (.ref D) Y.env) (λr s'=>r=.ok .next/\OH Y D (lO tg++dX inner) c σ cm m H vs f m' s') s:=by
 induction hin with
 |@emit d a l pe =>
  intro target iter ifs tg cs hg pg pt q hlt c s σ H cm m m' env ts f J it fp tn vs I hD ha hT h0 hf hDf hE hn M hs ok hl;refine xY hc hxe (nB D) rfl rfl (tO hg l) pg pt q hlt ?_ I hD ha hT h0 hf hDf hE hn M hs ok hl (λ_ _=>trivial);intro c s σ H cm m m' env f vs I hD ha hE hn M ok hl _;obtain⟨w,m1,j,ok2⟩:=aS ok;obtain⟨rfl,rfl⟩:=vi ok2;unfold ev at j;obtain⟨w1,m2,ok3,ok4⟩:=aS j;obtain⟨t,m3,h,ok6⟩:=aS ok4;cases ok6;have hz:=aT;refine Q6 (Q6 (bR (K9 pe (Co I hD ha) hE M ok3) λu s1 ⟨v,H1,I1,rv,g,x1,M1,r1⟩=>?_));obtain⟨a1,d1⟩:=FN ha I1 λo e=>RO _ (bX (by simp) e)
  obtain⟨x2,M2,r2⟩:=AR M1 r1 h;have I1':=I1.cS;refine Q6 (By I1' ⟨d1,hD.2⟩ a1 rv (by simp at hl;omega) λs2 I2 a2=>Q9 (Q9 ⟨rfl,σ,H1,g,[v],I2,x1.trans x2,M2,.cons r2 .nil,a2,.refl,d1⟩))
 |@more d it' inner' tg' cs' target' iter' ifs' l pi hfs pg' pt' hdis' hlt' hin' ih =>
  intro target iter ifs tg cs hg pg pt q hlt c s σ H cm m m' env ts f J it fp tn vs I hD ha hT h0 hf hDf hE hn M hs ok hl;refine xY hc hxe (nB D) rfl rfl (tN hg l) pg pt q hlt ?_ I hD ha hT h0 hf hDf hE hn M hs ok hl (λ_ _=>trivial);intro c s σ H cm m m' env f vs I hD ha hE hn M ok hl _;obtain⟨w,m1,j,ok2⟩:=aS ok;obtain⟨rfl,rfl⟩:=vi ok2;unfold ev at j;obtain⟨w1,m2,ok3,ok4⟩:=aS j;obtain⟨ts',m3,h,ok6⟩:=aS ok4;obtain⟨out',m4,ok7,ok8⟩:=aS ok6;cases ok8;have hz:=aT;refine Q6 (bR (pi _ s σ H (λJ H1=>∃g,dJ cm m H g m2 H1/\aC Y.K g m2 H1/\Src Y.K g m3 H1 J ts') (Co I hD ha) ⟨env,cm,m,hE,M,by
   rw[ok3];exact λg H1 x M1=>⟨ts',m3,h,λJ hs=>⟨g,x,M1,hs⟩⟩⟩) λxv s1 h1=>?_)
  refine Q6 (TR (Q6 (WK (hfs xv) (Q6 (Sc (bR h1 λitv s2 h2=>?_))))));obtain⟨it2,fp2,tn2,J2,H2,rfl,I2,T2,st2,f2,cm2,x2,M2,hs2⟩:=h2;obtain⟨a2,d2⟩:=FN ha I2 λo e=>RO _ (bX (by simp) e)
  have hDf2:D∉fp2:=λz=>by
   obtain⟨_,its,n,_,e⟩:=id ha;exact(f2 D z).2.2.2.2.2 (D,_) (RO _ (RO _ (bX (by simp) e))) rfl
  have f2':∀b∈fp2,cZ Y c H2 b:=λb hb=>⟨(f2 b hb).1,(f2 b hb).2.1,(f2 b hb).2.2.1,(f2 b hb).2.2.2.1,(f2 b hb).2.2.2.2.1,λp hp=>(f2 b hb).2.2.2.2.2 p (by rw[<-SV];exact SK _ hp)⟩
  have hb3:=oO M2 h;have E2:=(hE.ext x2 M M2).ext hb3.1 M2 hb3.2;have go:=ih l pg' pt' hdis' hlt' I2.cS ⟨d2,hD.2⟩ a2 T2 st2 f2' hDf2 E2 hn hb3.2 hs2 ok7 hl;have self:=tZ l go (T2.self Y.A 0 s2 _ _ st2 go);refine Q6 (wpAny_runOwn (UR self λr s3 ⟨hr,σ3,H3,cm3,vs3,I3,x3,M3,r3,a3,ag3,d3⟩=>?_));subst hr;obtain⟨x4,M4,sm⟩:=lL M2 h x3 M3;exact Q9 ⟨rfl,σ3,H3,cm3,vs3,I3,x2.trans x4,M4,aN (λ_ _ z=>sm _ _ z) r3,a3,ag3,d3⟩
end
theorem AG(h:∀x,(x,S2)∈scope.names->∃c,env.cells.lookup x=Zz c):
  ∃cl,closureFor scope env=pure cl/\(∀x c,cl.lookup x=Zz c->env.cells.lookup x=Zz c)/\∀x,(x,S2)∈scope.names->∃c,cl.lookup x=Zz c:=by
 have go:∀(ns:List (Str×UL)) (acc:List (Str×R3)),(∀x,(x,S2)∈ns->∃c,env.cells.lookup x=Zz c)->(∀x c,acc.lookup x=Zz c->env.cells.lookup x=Zz c) ->
   ∃cl,(forIn ns acc λ(x:Str×UL) cs=>(match x with|(name,kind)=>if(kind==S2)=true then do let a <-cellOf env name;pure (Se ((name,a)::cs))else pure (Se cs):Sem (ForInStep (List (Str×R3)))))=pure cl /\
    (∀x c,cl.lookup x=Zz c->env.cells.lookup x=Zz c)/\(∀x,(x,S2)∈ns->∃c,cl.lookup x=Zz c)/\∀x c,acc.lookup x=Zz c->∃c,cl.lookup x=Zz c:=by
  intro ns
  induction ns with
  |nil=>intro acc _ h2;exact⟨acc,rfl,h2,λx hx=>XZ hx (by simp),λx c e=>⟨c,e⟩⟩
  |cons p ns ih =>
   intro acc h1 h2;obtain⟨n,k⟩:=p;have h1':=λx hx=>h1 x (RG _ hx)
   by_cases hk:k=.free
   ·subst hk
    obtain⟨c,hc⟩:=h1 n RR;have h2':∀x d,((n,c)::acc).lookup x=Zz d->env.cells.lookup x=Zz d:=λx d e=>by
     rw[SG]at e;cases hx:x==n with
     |true=>rw[hx]at e;cases e;rw[eq_of_beq hx];exact hc
     |false=>rw[hx]at e;exact h2 x d e
    obtain⟨cl,e1,e2,e3,e4⟩:=ih ((n,c)::acc) h1' h2';refine⟨cl,?_,e2,λx hx=>?_,λx d e=>?_⟩
    ·rw[Sd]
     simp only[beq_self_eq_true,if_true,cellOf,hc,pure_bind];exact e1
    ·rcases R9.mp hx with z|z
     ·cases z
      exact e4 n c (by rw[SG,beq_self_eq_true])
     ·exact e3 x z
    ·by_cases hx:x=n
     ·subst hx;exact e4 x c (by rw[SG,beq_self_eq_true])
     ·exact e4 x d (by rw[SG,XY.mpr hx];exact e)
   ·obtain⟨cl,e1,e2,e3,e4⟩:=ih acc h1' h2
    have hb:=XY.mpr hk;refine⟨cl,?_,e2,λx hx=>?_,e4⟩
    ·rw[Sd]
     simp only[hb,Rb,if_false,pure_bind];exact e1
    ·rcases R9.mp hx with z|z
     ·cases z;exact XZ rfl hk
     ·exact e3 x z
 obtain⟨cl,e1,e2,e3,_⟩:=go scope.names [] h (λx c e=>by simp at e);refine⟨cl,?_,e2,e3⟩;unfold closureFor;have:(forIn scope.names ([]:List (Str×R3)) λ(x:Str×UL) cs=>(match x with|(name,kind)=>if(kind==S2)=true then do let a <-cellOf env name;pure (Se ((name,a)::cs))else pure (Se cs):Sem (ForInStep (List (Str×R3))))) >>= (λcs=>pure cs)=(pure cl:Sem (List (Str×R3))):=by rw[e1];rfl
 exact this
section
variable{xr:XR}{X:Cx}{call:Nat->List W->Mem->Res W}{gv:List T}
noncomputable abbrev dO(X:Cx)(N':List Str)(scope:Uu)(cl:List (Str×R3))(C:R3)(s2:R1)(H2:Hp)(fp:List R3):Cx:=
 { X with N:=N',s₀:=s2,H₀:=H2,env:=compEnvC scope cl C X.env,outer:=X.stack,stack:=X.stack,ex:=fp,fn:=λx=>scope.names.lookup x==Zz .cell,pn:=[],xe:=λ_ _=>False }
structure ww (X:Cx) (N':List Str) (scope:Uu):Prop where
 kind:scope.kind=.function
 look:∀p∈scope.names,scope.names.lookup p.1=Zz p.2
 free:∀x,(x,S2)∈scope.names->X.env.kindOf x=Zz .cell∨X.env.kindOf x=Zz .free
theorem oD(look:∀p∈scope.names,scope.names.lookup p.1=Zz p.2)(h:(relabel scope env).names.lookup x=Zz k):
  ∃k',scope.names.lookup x=Zz k'/\(k=k'∨(k'=.free/\k=.cell)):=by
 have go:∀(ns:List (Str×UL)),(ns.map λ(n,k)=>if(k==S2&&env.scope.kind==.function&&env.kindOf n==Zz .cell)then(n,Vz)else(n,k)).lookup x=Zz k->∃k',ns.lookup x=Zz k'/\(k=k'∨(k'=.free/\k=.cell)):=by
  intro ns
  induction ns with
  |nil=>intro h;simp at h
  |cons p r ih =>
   obtain⟨n,q⟩:=p;intro h;rw[RN]at h;by_cases hc:(q==S2&&env.scope.kind==.function&&env.kindOf n==Zz .cell)=true
   ·simp only[hc,if_true]at h
    rw[SG]at h ⊢;cases hx:x==n with
    |true =>
     rw[hx]at h;cases h;rw[R6,R6]at hc;exact⟨q,rfl,.inr ⟨eq_of_beq hc.1.1,rfl⟩⟩
    |false=>rw[hx]at h;exact ih h
   ·simp only[hc,Rb,if_false]at h
    rw[SG]at h ⊢;cases hx:x==n with
    |true=>rw[hx]at h;cases h;exact⟨_,rfl,.inl rfl⟩
    |false=>rw[hx]at h;exact ih h
 exact go scope.names h
theorem pN{ns:List (Str×UL)}(h:ns.lookup x=Zz k):(x,k)∈ns:=TL h
structure CA (h:Rj) (lo:Nat) (cs:List (Str×R3)):Prop where
 lt:∀x c,cs.lookup x=Zz c->c<h.objs.size
 inj:∀x y c,cs.lookup x=Zz c->cs.lookup y=Zz c->x=y
 new:∀x c,cs.lookup x=Zz c->lo<=c->h.IsCell c Zy
theorem ja{α:Type}{a c:α}{l:List (Str×α)}(h:List.lookup x ((y,a)::l)=Zz c):(x=y/\c=a)∨l.lookup x=Zz c:=by
 rw[SG]at h;cases e:x==y with
 |true=>rw[e]at h;cases h;exact .inl ⟨eq_of_beq e,rfl⟩
 |false=>rw[e]at h;exact .inr h
theorem wA:∀(names:List (Str×UL)) (h:Rj) (lo:Nat) (acc:List (Str×R3)),CA h lo acc->lo<=h.objs.size->CA (pushCells h names) lo (Um h.objs.size names acc)
 |[],_,_,_,x,_=>x
 |(name,kind)::r,h,lo,acc,x,hlo=>by
  unfold pushCells Um;split
  ·have:=wA r (h.push { cls:=.type "cell",data:=.cell Zy }) lo ((name,h.objs.size)::acc)
    ⟨λn c hm=>by
      rw[Rz];rcases ja hm with⟨_,rfl⟩|hm
      ·exact Tz _
      ·exact Sm (x.lt n c hm),
     λn n' c h1 h2=>by
      rcases ja h1 with⟨e1,z1⟩|h1<;>rcases ja h2 with⟨e2,z2⟩|h2
      ·rw[e1,e2]
      ·exact XZ (x.lt _ _ h2) (by rw[z1];exact SH _)
      ·exact XZ (x.lt _ _ h1) (by rw[z2];exact SH _)
      ·exact x.inj n n' c h1 h2,
     λn c hm hc=>by
      rcases ja hm with⟨_,rfl⟩|hm
      ·exact⟨_,RH _ rfl,rfl⟩
      ·exact(x.new n c hm hc).keeps λb o e=>R0 _ e⟩ (by rw[Rz];omega)
   rwa [Rz]at this
  ·exact wA r h lo acc x hlo
theorem nD{c:R3}:∀(names:List (Str×UL)) (n:Nat) (acc:List (Str×R3)),(Um n names acc).lookup x=Zz c->(n<=c/\(x,Vz)∈names)∨acc.lookup x=Zz c
 |[],_,_,h=>.inr h
 |(y,k)::r,n,acc,h=>by
  unfold Um at h;split at h
  ·rename_i hk
   have hk:=eq_of_beq hk;rcases nD r (n+1) _ h with⟨h1,h2⟩|h1
   ·exact .inl ⟨by omega,RG _ h2⟩
   ·rcases ja h1 with⟨rfl,rfl⟩|h1
    ·exact .inl ⟨RD _,by rw[hk];exact RR⟩
    ·exact .inr h1
  ·rcases nD r n _ h with⟨h1,h2⟩|h1
   ·exact .inl ⟨h1,RG _ h2⟩
   ·exact .inr h1
theorem pc:∀(names:List (Str×UL)) (n:Nat) (acc:List (Str×R3)),names.lookup x=Zz .cell->(Um n names acc).lookup x=Zz c->n<=c
 |[],_,_,h,_=>by cases h
 |(y,k)::r,n,acc,h,e=>by
  unfold Um at e;rw[SG]at h;cases q:x==y with
  |true =>
   rw[q]at h;cases h;have e:=e;rcases nD r (n+1) _ e with⟨h1,_⟩|h1
   ·omega
   ·rw[SG,q]at h1
    cases h1;exact RD _
  |false =>
   rw[q]at h;split at e
   ·have:=pc r (n+1) _ h e
    omega
   ·exact pc r n _ h e
structure Om (X:Cx) (scope:Uu) (cl:List (Str×R3)) (C:R3) (h:Rj):Prop where
 one:∀x c,cl.lookup x=Zz c->(C<c/\(x,Vz)∈scope.names/\h.IsCell c Zy)∨X.env.cells.lookup x=Zz c
 own:∀x c,scope.names.lookup x=Zz .cell->cl.lookup x=Zz c->C<c
 inj:∀x y c,cl.lookup x=Zz c->cl.lookup y=Zz c->x=y
 has:∀x,(x,S2)∈scope.names∨scope.names.lookup x=Zz .cell->∃c,cl.lookup x=Zz c
theorem Om.ne(k:Om X scope cl C h)(hb:b<C)(hx:∀x c,X.env.cells.lookup x=Zz c->c≠b):∀x c,cl.lookup x=Zz c->c≠b:=λx c e=>by
 rcases k.one x c e with⟨h1,_⟩|h1
 ·exact UQ (VX hb h1)
 ·exact hx x c h1
theorem A6{E:Q7->R1->Prop}(hcl1:∀x c,cl0.lookup x=Zz c->X.env.cells.lookup x=Zz c)(hcl2:∀x,(x,S2)∈scope.names->∃c,cl0.lookup x=Zz c)(hlt:∀x c,X.env.cells.lookup x=Zz c->c<s.heap.objs.size)(hinj:∀x y c,X.env.cells.lookup x=Zz c->X.env.cells.lookup y=Zz c->x=y)(h:∀h1 cl,(∃m,h1.Ns s.heap.objs.size m)->(∀b o,s.heap.get? b=Zz o->h1.get? b=Zz o)->Om X scope cl s.heap.objs.size h1->Q (newEnv scope s.heap.objs.size X.env.globals cl X.env.qual Zy .none (Zz X.env) Ui) { s with heap:=h1 }):
  RK M A (newFunctionEnv scope X.env.globals cl0 [] X.env.qual Zy .none (Zz X.env)) Q E s:=by
 simp only[newFunctionEnv,Option.isSome_some,if_true];refine Q6 (wpAny_alloc ?_);refine Q6 (wpAny_layCells _ (λname kind cells=>by cases hkc:kind==Vz<;>simp[hkc]) _ _ _ _ ?_);have hz:(s.heap.push { cls:=.type "dict",data:=.dict #[] }).objs.size=s.heap.objs.size+1:=Rz ..;have ok:=wA scope.names (s.heap.push { cls:=.type "dict",data:=.dict #[] }) (s.heap.objs.size+1) cl0
  ⟨λx c e=>by rw[hz];exact Sm (hlt x c (hcl1 x c e)),λx y c e1 e2=>hinj x y c (hcl1 x c e1) (hcl1 y c e2),λx c e z=>XZ (hlt x c (hcl1 x c e)) (We.mpr (Nat.le_of_succ_le z))⟩ (by rw[hz];exact RD _)
 rw[WM];refine Q6 (Q9 (Q9 ?_));refine h _ _ ⟨_,(Heap.Ns.new s.heap (.type "dict")).keeps (pushCells_keeps _ _)⟩ (λb o e=>pushCells_keeps _ _ b o (R0 _ e)) ⟨λx c e=>?_,λx c hx e=>?_,ok.inj,λx hx=>?_⟩
 ·rcases nD _ _ _ e with⟨h1,h2⟩|h1
  ·rw[show({ s with heap:=s.heap.push { cls:=.type "dict",data:=.dict #[] } }:R1).heap.objs.size=s.heap.objs.size+1 from hz]at h1
   exact .inl ⟨h1,h2,ok.new x c e h1⟩
  ·exact .inr (hcl1 x c h1)
 ·have:=pc _ _ _ hx e
  rw[show({ s with heap:=s.heap.push { cls:=.type "dict",data:=.dict #[] } }:R1).heap.objs.size=s.heap.objs.size+1 from hz]at this;exact this
 ·refine Option.isSome_iff_exists.mp (WI _ _ _ ?_)
  rcases hx with hx|hx
  ·obtain⟨c,e⟩:=hcl2 x hx
   exact .inr (by rw[e];rfl)
  ·exact .inl hx
theorem Ad(I:Inv X pins σ H s)(S:ww X N' scope)(hf:∀b∈fp,cZ X pins H b)(hlt:∀b∈fp,b<s.heap.objs.size)(hC:s.heap.objs.size<=C)(hns:∃m,h1.Ns C m)(hk:∀b o,s.heap.get? b=Zz o->h1.get? b=Zz o)(kc:Om X scope cl C h1)(hl:σ'.length=N'.length)(hσ:∀(i:Nat) (x:Str) (v:V),N'[i]?=Zz x->σ'[i]?=Zz (Zz v)->∃j:Nat,X.N[j]?=Zz x/\σ[j]?=Zz (Zz v)/\(x,S2)∈scope.names):
  Inv (dO X N' scope cl C s H fp) [] σ' H { s with heap:=h1,toks:=t }:=by
 have hfree:∀x k,(relabel scope X.env).names.lookup x=Zz k->(k=.cell∨k=.free)->(x,S2)∈scope.names∨scope.names.lookup x=Zz .cell:=λx k h hk'=>by
  obtain⟨k',h1,h2⟩:=oD S.look h;rcases h2 with rfl|⟨rfl,_⟩
  ·rcases hk' with rfl|rfl
   ·exact .inr h1
   ·exact .inl (pN h1)
  ·exact .inl (pN h1)
 obtain⟨mm,hns⟩:=hns;refine⟨⟨I.ok.mod,S.kind,I.ok.glob,I.ok.blt,hC,kc.inj,λx hx=>?_,λx c h e=>?_,I.ok.hd,I.ok.frames,.inl rfl,λb hb=>⟨Rn (RU (hlt b hb) hC),kc.ne (RU (hlt b hb) hC) (hf b hb).2.2.2.2.1⟩,I.bs,RZ I.ok.Kq I.sz,λb o e hb=>?_,λb hb z=>?_,I.stack,I.vZ⟩,
  rfl,I.bare,Un.kept hk,⟨mm,hns,λi x v e1 e2 e3=>?_⟩,λx c e=>?_,I.hok.fresh hC,λx c e=>?_,λp hp=>XZ (hp) (by simp),I.hok.kept hk,hl⟩
 ·rcases hx with hx|hx
  ·exact kc.has x (hfree x _ hx (.inl rfl))
  ·exact kc.has x (hfree x _ hx (.inr rfl))
 ·have h:=h
  exact RZ hC (Uv (kc.own x c (eq_of_beq h) e))
 ·rcases(hf b hb).2.2.2.1 with z|z
  ·exact I.ok.GH b o e z
  ·exact XZ (RU (RM e) (RZ I.ok.Kq z)) (SH _)
 ·rcases R9.mp (I.rn b z)with q|q
  ·exact(hf b hb).2.1 q
  ·exact(hf b hb).2.2.1 q
 ·obtain⟨j,h1',h2',h3'⟩:=hσ i x v e1 e2
  obtain⟨m0,hn0,hl0⟩:=I.loc;have kx:=S.free x h3';obtain⟨u,ru,lu⟩:=hl0 j x v h1' h2' (kx.elim (λz=>.inr (.inl z)) λz=>.inr (.inr z));refine⟨u,ru,.inr ?_⟩;obtain⟨c,ec,ic⟩:∃c,X.env.cells.lookup x=Zz c/\s.heap.IsCell c (Zz u):=by
   rcases lu with⟨q,_⟩|⟨_,c,q1,q2⟩
   ·rcases kx with z|z
    ·rw[z]at q;cases q
    ·rw[z]at q;cases q
   ·exact⟨c,q1,q2⟩
  obtain⟨c',ec'⟩:=kc.has x (.inl h3');have:c'=c:=by
   rcases kc.one x c' ec' with⟨_,q,_⟩|this
   ·have q1:=S.look _ q
    rw[S.look _ h3']at q1;cases q1
   ·rw[ec]at this;exact(Rr this).symm
  subst this;obtain⟨o,ho,hd⟩:=ic;refine⟨?_,c',ec',o,hk _ _ ho,hd⟩;rcases e3 with e3|e3|e3
  ·obtain⟨k',q1,q2⟩:=oD S.look e3
   rw[S.look _ h3']at q1;cases q1;rcases q2 with q2|⟨_,q2⟩<;>cases q2
  ·exact .inl e3
  ·exact .inr e3
 ·rcases kc.one x c e with⟨_,_,q⟩|q
  ·exact⟨_,q⟩
  ·obtain⟨v,o,ho,hd⟩:=I.cell x c q
   exact⟨v,o,hk _ _ ho,hd⟩
 ·rcases kc.one x c e with⟨q,_⟩|q
  ·exact I.hok.fresh (RZ hC (Uv q))
  ·exact I.km x c q
theorem Av(I:Inv X pins σ H s)(hf:∀b∈fp,cZ X pins H b)(J:Inv (dO X N' scope cl C s H fp) [] σ' H' s'):
  Inv X pins σ H' s':=
 I.call' J.os J.base J.hok J.bare λb hb=>⟨(hf b hb).2.2.2.1,(hf b hb).2.1,(hf b hb).2.2.2.2.1,(hf b hb).2.2.2.2.2⟩
theorem Inv.adopt(I:Inv X pins σ H s)(f:cZ X pins H D)(a:cL X.prog X.w (upd H D ho) s.heap D ho):Inv X pins σ (upd H D ho) s:=by
 obtain⟨f0,f1,f2,f3,f4,f5⟩:=f;have hne:∀b u,H b=Zz u->b≠D:=λb u e z=>by subst z;rw[f0]at e;cases e
 refine I.call' (ch:=[D]) rfl ⟨λb o e _ _ _=>e,λb o e _ _ _=>⟨o.slots,e⟩,λb o e n hx=>by rw[bh (by simpa using hx)];exact n,λb o e _=>⟨o,e⟩,λb xs e=>by rw[bh (hne b _ e)];exact e,λb o u e=>by rw[bh (hne b _ e)];exact e,
  λb ps e=>⟨#[],by rw[bh (hne b _ e),e];simp⟩⟩ (λb u e=>?_) I.bare λb hb=>?_
 ·by_cases hb:b=D
  ·subst hb
   rw[fT]at e;cases e;exact a
  ·rw[bh hb]at e
   exact(I.hok b u e).stay (λ_ _ _ q=>q) (λc q=>by rw[bh (hne c _ q)];exact q) λc xs q=>by rw[bh (hne c _ q)];exact q
 ·have e:b=D:=by simpa using hb
  subst e;exact⟨f3,f1,f4,f5⟩
def Ax(X:Cx)(xr:XR)(call:Nat->List W->Mem->Res W)(gv:List T)(N':List Str)(scope:Uu)(elt target:Rm)(ifs:List Rm)(gens:List VF)(tg:Tg)(cs:Es)(inner:E):Prop:=
 ∀(cl:List (Str×R3)) (C:R3) (s2:R1) (H2:Hp) (fp:List R3),PG (dO X N' scope cl C s2 H2 fp) target (gT X.K tg)/\MI (dO X N' scope cl C s2 H2 fp) call gv xr cs ifs/\Nd xr (dO X N' scope cl C s2 H2 fp) call gv elt gens 0 inner
noncomputable def I9(own:Nat)(keep:List Nat)(env:Env):Env:=RF own Zy++keep.map λi=>(env[i]?).join
noncomputable def stC(own:Nat)(keep:List Nat)(σ:L2.St):L2.St:=RF own Zy++keep.map λi=>(σ[i]?).join
theorem KL{K:Rs}(h:bg K cm m H env σ):bg K cm m H (I9 own keep env) (stC own keep σ):=λi w e=>by
 unfold I9 at e;unfold stC;by_cases hi:i<own
 ·rw[RX (by simpa using hi),T4]at e
  split at e<;>cases e
 ·rw[Ra (by simpa using hi),Td,Ru]at e
  rw[Ra (by simpa using hi),Td,Ru];cases q:keep[i-own]? with
  |none=>rw[q]at e;cases e
  |some j =>
   rw[q]at e;have a:(env[j]?).join=Zz w:=Rr e;cases r:env[j]? with
   |none=>rw[r]at a;cases a
   |some o =>
    rw[r]at a;have d:=a;subst d;obtain⟨v,c,b⟩:=h j w r;exact⟨v,by simp[c],b⟩
theorem xU{α:Type}{r:Res α}{x:α}(h:r.only=.ok x m):r=.ok x m:=by
 cases r with
 |ok _ _=>exact h
 |exc _ _=>cases h
 |stuck=>cases h
theorem sW{α β:Type}{r:Res α}{f:α->Mem->Res β}(b:∀x m e m',f x m≠.exc e m')(e:Exc)(m':Mem):r.only.bind f≠.exc e m':=by
 cases r with
 |ok x m=>exact b x m e m'
 |exc _ _=>intro h;cases h
 |stuck=>intro h;cases h
theorem mO(e:Exc)(m':Mem):ev call gv (.comp own keep it tg cs inner) env m≠.exc e m':=by
 unfold ev;refine sW (λx c e m'=>?_) e m';cases h:bc x c with
 |ok ts m1 =>
  refine sW (λb m2 e m'=>?_) e m';split<;>(intro h;cases h)
 |exc _ _ =>
  unfold bc at h;split at h<;>first
   |(cases h;done)
   |(split at h<;>cases h)
 |stuck=>intro h;cases h
theorem pv(h:ev call gv (.comp own keep it tg cs inner) env m=.ok w m'):∃a,w=.t (.lst a):=by
 unfold ev at h;obtain⟨_,_,_,h⟩:=aS h;obtain⟨_,_,_,h⟩:=aS h;obtain⟨a,_,_,h⟩:=aS h;split at h<;>cases h;exact⟨_,rfl⟩
theorem rG(hg:(X8 node)[d]?=Zz ⟨target,iter,ifs,0⟩)(hd:(RS prog w).den (.compStart node d it acc env)=(Wr node d it acc env).onRaise (λx=>do W7 x env;Uw theWindowsPlace))(hA:A.under (.compStart node d it acc env)=A)(h0:UI (RS prog w) A (.compLoop node d it acc env) R s)(h:RK (RS prog w) A (pyIter it) (λit' s'=>UI (RS prog w) A (.compLoop node d it' acc env) R s') (notedBy (RS prog w) A env λx s'=>R (.error x) s') s):
  UI (RS prog w) A (.compStart node d it acc env) R s:=by
 refine VM ?_;rw[hd,hA];refine wpAny_notedAt ?_;unfold Wr;rw[hg];refine Q6 (Tw (wpAny_ite ?_));split
 ·first
   |exact Q6 (Q9 (Q9 (Rc rfl h0)))
   |exact Q9 (Rc rfl h0)
 ·first
   |exact Q6 (Tt (Q6 (TR (Q6 (Sv h (λit' s' h'=>Q9 (Rc rfl h')) λ_ _ x=>x)))))
   |(refine Q6 (Tt ?_);show RK _ _ (Uw iter.pos >>= _) _ _ s;exact Q6 (TR (Q6 (Sv h (λit' s' h'=>Q9 (Rc rfl h')) λ_ _ x=>x))))
theorem Bw{Acc:R3->Rj->List V->Prop}(hc:X.calm=true)(S:ww X N' scope)(hown:N'.length=own+keep.length)(hkeep:∀(i:Nat) x,N'[own+i]?=Zz x->∃j,keep[i]?=Zz j/\X.N[j]?=Zz x/\(x,S2)∈scope.names)(hlocal:∀x∈scope.names,x.2=NameKind.local->scope.names.lookup x.1=Zz .local)(pi:PI X target iter (tI X.K call gv xr it))(hfs:∀x,Sl iter X.env x=pure x)(hcl:X8 node=⟨target,iter,ifs,0⟩::gs)(hal:oN.isFreed=false)(hd:∀it acc env,(RS X.prog X.w).den (.compStart node 0 it acc env)=(Wr node 0 it acc env).onRaise (λx=>do W7 x env;Uw theWindowsPlace))(hA:∀it acc env,X.A.under (.compStart node 0 it acc env)=X.A)(hnw:∀{A:SO}{E:Q7->R1->Prop}{s:R1}{Q:Q7->R1->Prop},Q (.ref s.heap.objs.size) { s with heap:=s.heap.push oN }->RK (RS X.prog X.w) A nw Q E s)(h0:∀{h:Rj}{D:R3},h.get? D=Zz oN->Acc D h [])(hdis:∀i∈lO tg,i∉dX inner)(hsl:∀i∈lO tg++dX inner,i<own)(I:Inv X pins σ H s)(hE:bg X.K cm m H env σ)(M:aC X.K cm m H)(loop:∀(cl:List (Str×R3)) (C:R3) (s2:R1) (H2:Hp) (fp:List R3) {D:R3}{pins:List (R3×Obj)}{s:R1}{σ:L2.St}{H:Hp}{cm:List R3}{m m':Mem}{env:Env}{ts:List T}{J:It}{it:R3}{fp':List R3}{tn:Nat->Rj->Prop},Inv (dO X N' scope cl C s2 H2 fp) pins σ H s->cZ (dO X N' scope cl C s2 H2 fp) pins H D->Acc D s.heap [] ->
   Turn X.prog X.w X.K target J fp' it tn->tn 0 s.heap->(∀b∈fp',cZ (dO X N' scope cl C s2 H2 fp) pins H b)->D∉fp'->bg X.K cm m H env σ->(∀i∈lO tg++dX inner,∀w,env[i]?≠Zz (Zz w))->aC X.K cm m H->Src X.K cm m H J ts->cy (turnF call gv cs inner) tg ts env m=.ok out m'->out.length<=lim ->
   UI (RS X.prog X.w) X.A (.compLoop node 0 (.ref it) (.ref D) (compEnvC scope cl C X.env)) (λr s'=>r=.ok .next/\xF (dO X N' scope cl C s2 H2 fp) (Acc D) D (lO tg++dX inner) pins σ cm m H [] out m' s') s)(ok:ev call gv (.comp own keep it tg cs inner) env m=.ok (.t (.lst out)) m')(fin:∀(D C:R3) (s3:R1) (H3:Hp) (cm3:List R3) (vs:List V),Inv X pins σ H3 s3->Acc D s3.heap vs->cZ X pins H3 D->X.s₀.heap.objs.size<=D->X.K.lookup D=Zy->dJ cm m H cm3 m' H3->aC X.K cm3 m' H3->cH X.K cm3 m' H3 out vs->(∃mm,s3.heap.Ns C mm)->cZ X pins H3 C->D≠C ->
   XN (RS X.prog X.w) X.A X.xe use Q (.ref D) C (.ok .next) s3):
  RK (RS X.prog X.w) X.A (comprehension node scope X.env pos' nw false (eval iter X.env) use) Q X.xe s:=by
 obtain⟨cl0,hclos,hcl1,hcl2⟩:=AG λx hx=>I.ok.has x (S.free x hx)
 unfold ev at ok;obtain⟨w1,m1,ok0,ok2⟩:=aS ok;have ok1:=xU ok0;obtain⟨ts,m2,ok3,ok4⟩:=aS ok2;obtain⟨out',m3,ok5,ok6⟩:=aS ok4;split at ok6<;>cases ok6;rename_i hlen;have ok5':=xU ok5;have hz:=aT;refine wpAny_comprehension_free hcl hfs hclos S.kind hlocal (bR (pi pins s σ H (λJ H1=>∃cm1,dJ cm m H cm1 m1 H1/\aC X.K cm1 m1 H1/\Src X.K cm1 m2 H1 J ts) I ⟨env,cm,m,hE,M,by
   rw[ok1];exact λcm1 H1 x M1=>⟨ts,m2,ok3,λJ hs=>⟨cm1,x,M1,hs⟩⟩⟩) λxv s1 h1=>bR h1 λitv s2 h2=>?_)
 obtain⟨it2,fp,tn,J,H2,rfl,I2,T2,st2,f2,cm2,x2,M2,hs2⟩:=h2;refine hnw (A6 hcl1 hcl2 (λx c e=>?_) I2.ok.inj λh₁ cl hns₁ hsb₁ kc=>?_)
 ·obtain⟨v,q⟩:=I2.cell x c e
  exact RU q.lt (by show _<=(Heap.push _ _).objs.size;rw[Rz];exact UM _)
 dsimp only at hns₁ hsb₁ kc ⊢;generalize hH2:s2.heap.push oN=P2 at hns₁ hsb₁ kc ⊢;have hCs:P2.objs.size=s2.heap.objs.size+1:=by rw[<-hH2,Rz]
 have hDC:s2.heap.objs.size≠P2.objs.size:=by omega
 have below:∀b,b<s2.heap.objs.size->b≠P2.objs.size:=λb hb=>by omega
 have old:=λb o e=>hsb₁ b o (hH2▸R0 _ e)
 have hacc:=hsb₁ _ _ (hH2▸RH _ hal);have flt:∀b∈fp,b<s2.heap.objs.size:=λb hb=>by
  obtain⟨o,e,_⟩:=T2.obj _ _ st2 b hb;exact RM e
 have hb3:=oO M2 ok3;have E2:=(hE.ext x2 M M2).ext hb3.1 M2 hb3.2;have hσl:(stC own keep σ).length=N'.length:=by unfold stC;simp[hown]
 have J0:Inv (dO X N' scope cl P2.objs.size s2 H2 fp) [] (stC own keep σ) H2 { s2 with heap:=h₁ }:=
  Ad I2 S f2 flt (by omega) hns₁ old kc hσl λi x v e1 e2=>by
   unfold stC at e2;by_cases hi:i<own
   ·rw[RX (by simpa using hi),T4]at e2
    split at e2<;>cases e2
   ·rw[Ra (by simpa using hi),Td,Ru]at e2
    have ei:N'[own+(i-own)]?=Zz x:=by rw[show own+(i-own)=i by omega];exact e1
    obtain⟨j,q1,q2,q3⟩:=hkeep (i-own) x ei;rw[q1]at e2;have e3:(σ[j]?).join=Zz v:=Rr e2;refine⟨j,q2,?_,q3⟩;cases r:σ[j]? with
    |none=>rw[r]at e3;cases e3
    |some o=>rw[r]at e3;exact congrArg Zz e3
 have fD:cZ (dO X N' scope cl P2.objs.size s2 H2 fp) [] H2 s2.heap.objs.size:=by
  refine⟨I2.hok.fresh (RD _),hDC,λz=>?_,.inr (RD _),λx c e z=>?_,λp hp=>XZ (hp) (by simp)⟩
  ·have:=I2.rn _ z
   rcases R9.mp this with q|q
   ·exact XZ I2.lt (by rw[<-q];exact SH _)
   ·exact I2.K6 (RD _) q
  ·rcases kc.one x c e with⟨q,_⟩|q
   ·exact XZ q (by rw[z,hCs];exact We.mpr (UM _))
   ·obtain⟨v,q⟩:=I2.cell x c q
    exact XZ q.lt (by rw[z];exact SH _)
 have fF:∀b∈fp,cZ (dO X N' scope cl P2.objs.size s2 H2 fp) [] H2 b:=λb hb=>by
  refine⟨(f2 b hb).1,below b (flt b hb),λz=>?_,.inl hb,kc.ne (RU (flt b hb) (by rw[hCs];exact UM _)) (f2 b hb).2.2.2.2.1,λp hp=>XZ (hp) (by simp)⟩;rcases R9.mp (I2.rn b z)with q|q
  ·exact(f2 b hb).2.1 q
  ·exact(f2 b hb).2.2.1 q
 have st2':=T2.keep _ _ _ st2 λb _ o e=>old b o e
 have hDf:s2.heap.objs.size∉fp:=λz=>XZ (flt _ z) (SH _)
 have hnone:∀i∈lO tg++dX inner,∀w,(I9 own keep env)[i]?≠Zz (Zz w):=λi hi w e=>by
  unfold I9 at e;rw[RX (by simpa using hsl i hi),T4]at e;split at e<;>cases e
 have go:=loop cl P2.objs.size s2 H2 fp J0 fD (h0 hacc) T2 st2' fF hDf (KL E2) hnone hb3.2 hs2 ok5' hlen;have fine:∀r s3,(r=.ok .next/\xF (dO X N' scope cl P2.objs.size s2 H2 fp) (Acc s2.heap.objs.size) s2.heap.objs.size (lO tg++dX inner) [] (stC own keep σ) cm2 m2 H2 [] out m3 s3)->XN (RS X.prog X.w) X.A X.xe use Q (.ref s2.heap.objs.size) P2.objs.size r s3:=λr s3 ⟨hr,σ3,H3,cm3,vs3,J3,x3,M3,r3,a3,ag3,d3⟩=>by
  subst hr;rw[Sq]at a3;obtain⟨x4,M4,sm⟩:=lL M2 ok3 x3 M3;have I3:=Av I2 f2 J3;have fX:∀b,s2.heap.objs.size<=b->∀H',H' b=Zy->cZ X pins H' b:=λb hb H' hn=>I2.D9 hb hn
  obtain⟨mm,hmm,_⟩:=J3.loc;refine fin s2.heap.objs.size P2.objs.size s3 H3 cm3 vs3 I3 a3 (fX _ (RD _) _ d3) I2.sz ?_ (x2.trans x4) M4 (aN (λ_ _ z=>sm _ _ z) r3) ⟨mm,hmm⟩ (fX _ (by omega) _ J3.free) hDC;cases q:X.K.lookup s2.heap.objs.size with
  |none=>rfl
  |some o=>exact XZ (RM (I2.qv _ _ q)) (SH _)
 exact UR (rG (by rw[hcl];rfl) (hd _ _ _) (hA _ _ _) go (T2.self X.A 0 { s2 with heap:=h₁ } _ _ st2' go)) fine
theorem vd
  (hc:X.calm=true) (S:ww X N' scope) (hown:N'.length=own+keep.length) (hkeep:∀(i:Nat) x,N'[own+i]?=Zz x->∃j,keep[i]?=Zz j/\X.N[j]?=Zz x/\(x,S2)∈scope.names)
  (hlocal:∀x∈scope.names,x.2=NameKind.local->scope.names.lookup x.1=Zz .local)
  (pi:PI X target iter (tI X.K call gv xr it)) (hfs:∀x,Sl iter X.env x=pure x) (hY:Ax X xr call gv N' scope elt target ifs (⟨target,iter,ifs,0⟩::gs) tg cs inner)
  (hdis:∀i∈lO tg,i∉dX inner) (hsl:∀i∈lO tg++dX inner,i<own)
  (I:Inv X b σ H s) (hE:bg X.K cm m H env σ) (M:aC X.K cm m H)
  (ok:ev call gv (.comp own keep it tg cs inner) env m=.ok (.t (.lst out)) m')
  (fin:∀(D C:R3) (s3:R1) (H3:Hp) (c:List R3) (vs:List V),Inv X b σ (upd H3 D (.lst vs)) s3->H3 D=Zy->X.K.lookup D=Zy->dJ cm m H c m' H3->aC X.K c m' H3->cH X.K c m' H3 out vs->(∃mm,s3.heap.Ns C mm)->cZ X b (upd H3 D (.lst vs)) C ->
   XN (RS X.prog X.w) X.A X.xe use Q (.ref D) C (.ok .next) s3):
  RK (RS X.prog X.w) X.A (comprehension (.ListComp elt (⟨target,iter,ifs,0⟩::gs) scope pos) scope X.env pos' (newList []) false (eval iter X.env) use) Q X.xe s:=
 Bw hc S hown hkeep hlocal pi hfs rfl rfl (λ_ _ _=>rfl) (λ_ _ _=>rfl) (λh=>S9 h) (λh=>⟨Sy _,[],0,.nil,h⟩) hdis hsl I hE M
  (λcl C s2 H2 fp D b s σ H cm m m' env ts J it fp' tn J0 fD h0 hT ht hf hDf hE hn M hs ok hl=>let⟨pg,pt,hin⟩:=hY cl C s2 H2 fp
   JC (Y:=dO X N' scope cl C s2 H2 fp) hc (λ_ _ z=>z) hin rfl pg pt hdis (λi hi=>by
    rw[hown];have:=hsl i hi;omega) J0 fD h0 hT ht hf hDf hE hn M hs ok (by rw[Rh,V0];exact hl)) ok
  λD C s3 H3 c vs I3 a3 f3 _ k3 x3 M3 r3 n3 c3 ne=>fin D C s3 H3 c vs (Inv.adopt I3 f3 a3) f3.1 k3 x3 M3 r3 n3 ⟨by rw[bh (Sj ne)];exact c3.1,c3.2⟩
structure y1 (X:Cx) (xr:XR) (call:Nat->List W->Mem->Res W) (gv:List T) (N':List Str) (scope:Uu) (own:Nat) (keep:List Nat) (elt target iter:Rm) (ifs:List Rm) (gs:List VF) (it:E) (tg:Tg) (cs:Es) (inner:E):Prop where
 sc:ww X N' scope
 hown:N'.length=own+keep.length
 hkeep:∀(i:Nat) x,N'[own+i]?=Zz x->∃j,keep[i]?=Zz j/\X.N[j]?=Zz x/\(x,S2)∈scope.names
 pi:PI X target iter (tI X.K call gv xr it)
 fs:∀x,Sl iter X.env x=pure x
 ins:Ax X xr call gv N' scope elt target ifs (⟨target,iter,ifs,0⟩::gs) tg cs inner
 dis:∀i∈lO tg,i∉dX inner
 Of:∀i∈lO tg++dX inner,i<own
variable{elt target iter:Rm}{ifs:List Rm}{gs:List VF}{scope:Uu}{pos:Pos}{N':List Str}{own:Nat}{keep:List Nat}{it:E}{tg:Tg}{cs:Es}{inner:E}
theorem bE(hc:X.calm=true)(k:y1 X MJ call gv N' scope own keep elt target iter ifs gs it tg cs inner):
  PE X (.ListComp elt (⟨target,iter,ifs,0⟩::gs) scope pos) (tE X.K call gv xr (.comp own keep it tg cs inner)):=by
 rintro pins s σ H Q I ⟨env,cm,m,hE,M,c⟩;cases h:ev call gv (.comp own keep it tg cs inner) env m with
 |stuck=>rw[h]at c;exact c.elim
 |exc e m'=>exact XZ h (mO e m')
 |ok w m' =>
  obtain⟨out,rfl⟩:=pv h;rw[h]at c;rw[eval_ListComp];refine vd hc k.sc k.hown k.hkeep (λx hx e=>by rw[k.sc.look x hx,e]) k.pi k.fs k.ins k.dis k.Of I hE M h ?_;rintro D C s3 H3 cm3 vs I3 hD _ x3 M3 r3 ⟨mm,hm⟩ a;refine⟨mm,hm,λh' hs'=>?_⟩;have I4:=I3.turned (t':=s3.toks) (λb o hb e=>(hs'.2 b hb).trans e) a.1 a.2.1 a.2.2.2.1 a.2.2.2.2.1 a.2.2.2.2.2;exact⟨.ref D,_,I4,rfl,aR.to c (x3.trans (.new hD)) (M3.new hD) _ (RT.AY M3 r3 hD)⟩
theorem zl(L:X.calm=true)(k:y1 X MJ call gv N' scope own keep elt target iter ifs gs it tg cs inner)(P:X.N.Nodup)(hi:X.N[i]?=Zz x)(j:X.env.scope.names.lookup x=Zz .local)(l:V6 (.ListComp elt (⟨target,iter,ifs,0⟩::gs) scope pos) (Zz (.Name x px)) spos.line X.env=pure true)(I:Inv X pins σ H s)(R:bg X.K cm m H env σ)(M:aC X.K cm m H)(ok:ev call gv (.comp own keep it tg cs inner) env m=.ok (.t (.lst out)) m')(q:∀(p:R3) (f:Hp) (c:List R3) (g:List V),f p=Zy->X.K.lookup p=Zy->dJ cm m H c m' f->aC X.K c m' f->cH X.K c m' f out g->D.nx (σ.set i (Zz (.ref p))) (upd f p (.lst g))):
  RK (RS X.prog X.w) X.A (exec (.Assign [.Name x px] (.ListComp elt (⟨target,iter,ifs,0⟩::gs) scope pos) spos) X.env) (SP X pins D) X.xe s:=by
 rw[exec_Assign_Name_used _ _ _ _ l];refine Q6 (TR (Q6 ?_));refine Q6 (bR (vd L k.sc k.hown k.hkeep (λx j e=>by rw[k.sc.look x j,e]) k.pi k.fs k.ins k.dis k.Of I R M ok ?_) λ_ s' h=>Q9 (Q9 h));rintro p C Z f c g Y S Q B T F ⟨G,J⟩ d;refine wpAny_assign_Name (u0 Y P hi (.inl j) (v:=.ref p) rfl (λE W ⟨a,n,y⟩=>?_) (.inr j));have u:C≠a:=by
  rcases y with rfl|y
  ·exact d.2.1
  ·exact λz=>d.2.2.2.2.1 x a y z.symm
 refine⟨G,J.sameBut n u,λh' r=>?_⟩;have U:=W.turned (t':=E.toks) (λb o O e=>(r.2 b O).trans e) d.1 d.2.1 d.2.2.2.1 d.2.2.2.2.1 d.2.2.2.2.2;exact⟨_,_,U,q p f c g S Q B T F⟩
end
section
variable{K:Rs}{cm:List R3}{m:Mem}{H:Hp}{xr:XR}{X:Cx}{call:Nat->List W->Mem->Res W}{gv:List T}
theorem cH.jo(h:cH K cm m H ts vs):(!ts.isEmpty)=!vs.isEmpty:=by cases h<;>rfl
theorem EK(M:aC K cm m H)(r:RW K cm m H w v)(e:view w m=Zz t)(f:Lh t=true):Hs K v H (vt t):=by
 have hz:=aT;cases t with
 |lst ts =>
  obtain⟨a,j,rfl,g,h2⟩:=aX M r e;exact .inl ⟨j,.of g,h2.jo⟩
 |non=>cases(ak r e (λ_ z=>by cases z)).HZ;exact rfl
 |bl b=>cases(ak r e (λ_ z=>by cases z)).Dt;exact rfl
 |int i=>cases(ak r e (λ_ z=>by cases z)).bV;exact rfl
 |str cs =>
  cases(ak r e (λ_ z=>by cases z)).cQ;have hl:=Xa f;refine⟨by rw[fS];omega,?_⟩;rw[fS];cases cs with
  |nil=>rfl
  |cons c cs =>
   show true=_
   symm
   simp;omega
 |tup ts =>
  obtain⟨a,j,rfl,g,h2⟩:=(ak r e (λ_ z=>by cases z)).j4;exact .inr (.inl ⟨j,g,h2.jo⟩)
 |dct ks ts =>
  have h:=ak r e (λ_ z=>by cases z);cases h with
  |@dct a ks ts j g h2 h3 h4 h5 =>
   refine .inr (.inr ⟨_,g,?_⟩);cases ks with
   |nil=>rfl
   |cons k ks =>
    cases j with
    |nil=>simp at h3
    |cons v j=>rfl
 |dr ns =>
  obtain⟨a,rfl,g⟩:=(ak r e (λ_ z=>by cases z)).Em;exact .inl ⟨_,g.sq,by cases ns<;>rfl⟩
theorem Ds(h:aR K (cu w m) xr cm m H k):∃t,view w m=Zz t/\Lh t=true/\aR K (.ok (vt t) m) xr cm m H k:=by
 unfold cu at h;split at h
 ·split at h
  ·exact⟨_,‹_›,‹_›,h⟩
  ·exact h.elim
 ·exact h.elim
theorem rp(h:aR K (jV w m) xr cm m H k):∃b,w=.t (.bl b)/\aR K (.ok b m) xr cm m H k:=by
 unfold jV at h;split at h
 ·exact⟨_,rfl,h⟩
 ·exact h.elim
theorem M6(h:PE X e (tE X.K call gv xr a))(he:∀b,isTrue e X.env b=(do let v <-b;Uw e.pos;Vn [v] (truthy v))):PT X e (tT X.K call gv xr a):=by
 refine PT.mono (Fa h he) λσ H Q ⟨env,cm,m,hE,M,ho⟩=>⟨env,cm,m,hE,M,ho.bind.mono λw cm1 m1 H1 x1 M1 o1 v rv=>?_⟩
 obtain⟨t,e1,f1,o2⟩:=Ds o1;exact⟨vt t,EK M1 rv e1 f1,aR.now o2 M1⟩
theorem HC{d:List Rm}(r:PE X a (tE X.K call gv xr ea))(q:PE X (.BoolOp .And (b::d) pos) (tE X.K call gv xr eb)):PE X (.BoolOp .And (a::b::d) pos) (tE X.K call gv xr (.and ea eb)):=by
 refine PE.mono (Mu r q) ?_;rintro σ H Q ⟨e,s,m,j,M,i⟩;unfold ev at i;refine⟨e,s,m,j,M,i.bind.mono λw g p t k f o v l=>?_⟩;obtain⟨c,rfl,n⟩:=rp o.bind;cases RT.Dt l;have h:=aR.now n f;refine⟨c,rfl,?_⟩;cases c with
 |true=>exact yf ⟨e,g,p,j.ext k M f,f,h⟩
 |false=>exact xW (aR.now h f _ (.bl false))
theorem Gd{d:List Rm}(r:PE X a (tE X.K call gv xr ea))(q:PE X (.BoolOp .Or (b::d) pos) (tE X.K call gv xr eb)):PE X (.BoolOp .Or (a::b::d) pos) (tE X.K call gv xr (.or ea eb)):=by
 refine PE.mono (Ny r q) ?_;rintro σ H Q ⟨e,s,m,j,M,i⟩;unfold ev at i;refine⟨e,s,m,j,M,i.bind.mono λw g p t k f o v l=>?_⟩;obtain⟨c,rfl,n⟩:=rp o.bind;cases RT.Dt l;have h:=aR.now n f;refine⟨c,rfl,?_⟩;cases c with
 |true=>exact yf (aR.now h f _ (.bl true))
 |false=>exact xW ⟨e,g,p,j.ext k M f,f,h⟩
theorem IN(i:PE X a (tE X.K call gv xr ea)):PE X (.UnaryOp .Not a pos) (tE X.K call gv xr (.not ea)):=by
 refine PE.mono (LN i) ?_;rintro σ H Q ⟨b,l,m,j,M,d⟩;unfold ev at d;refine⟨b,l,m,j,M,d.bind.mono λw k o p n e h v f=>?_⟩;obtain⟨c,rfl,g⟩:=rp h.bind;cases RT.Dt f;exact⟨c,rfl,aR.now (aR.now g e) e _ (.bl _)⟩
theorem vw{Q:Bool->Hp->Prop}(hE:bg K cm m H env σ)(M:aC K cm m H)(ho:aR K (((ev call gv a env m).bind λx m=>(jV x m).bind f).bind cu) xr cm m H λk _ _ H'=>Q k H'):
  tT K call gv xr a σ H λc H1=>∃cm1 m1,dJ cm m H cm1 m1 H1/\aC K cm1 m1 H1/\aR K ((f c m1).bind cu) xr cm1 m1 H1 λk _ _ H'=>Q k H':=by
 refine⟨env,cm,m,hE,M,?_⟩;cases h:ev call gv a env m with
 |stuck=>rw[h]at ho;exact ho.elim
 |exc e m'=>rw[h]at ho;exact ho
 |ok w m1 =>
  rw[h]at ho;have ho':=ho;cases w with
  |x _ _ _=>exact ho'.elim
  |c i=>exact ho'.elim
  |t x =>
   cases x with
   |bl b=>exact λcm1 H1 x1 M1=>⟨cm1,m1,x1,M1,aR.shift ho' x1⟩
   |_=>exact ho'.elim
theorem Iy{d:List Rm}(w:PT X a (tT X.K call gv xr ea))(v:PW X (.BoolOp .And (b::d) pos) (tT X.K call gv xr eb)):PW X (.BoolOp .And (a::b::d) pos) (tT X.K call gv xr (.and ea eb)):=by
 rintro e f s σ H Q I ⟨j,A,m,q,M,p⟩;unfold ev at p;obtain⟨g,l,u,i,y,h⟩:=vw q M p;refine Mq w v e f s σ H Q I ⟨g,l,u,i,y,h.mono λc x z B _ _ ⟨k,t,r,n,o⟩=>?_⟩;cases c with
 |true=>exact yf ⟨j,k,t,q.ext r M n,n,o⟩
 |false=>exact xW (aR.now (o) n)
theorem LX{d:List Rm}(w:PT X a (tT X.K call gv xr ea))(v:PW X (.BoolOp .Or (b::d) pos) (tT X.K call gv xr eb)):PW X (.BoolOp .Or (a::b::d) pos) (tT X.K call gv xr (.or ea eb)):=by
 rintro e f s σ H Q I ⟨j,A,m,q,M,p⟩;unfold ev at p;obtain⟨g,l,u,i,y,h⟩:=vw q M p;refine NS w v e f s σ H Q I ⟨g,l,u,i,y,h.mono λc x z B _ _ ⟨k,t,r,n,o⟩=>?_⟩;cases c with
 |true=>exact yf (aR.now (o) n)
 |false=>exact xW ⟨j,k,t,q.ext r M n,n,o⟩
theorem Ij(j:PT X a (tT X.K call gv xr ea)):PT X (.UnaryOp .Not a pos) (tT X.K call gv xr (.not ea)):=by
 refine PT.mono (Le j) ?_;rintro σ H Q ⟨l,u,m,k,M,g⟩;unfold ev at g;obtain⟨b,f,i,e,q,d⟩:=vw k M g;exact⟨b,f,i,e,q,d.mono λc o t v _ _ ⟨n,s,r,p,h⟩=>aR.now (h) p⟩
end
end Mi
namespace Mi
open PySem PySem.Spec PyProof.Rows L2
open Builtin
theorem pr:fillsNumberSlot (.type "tuple") "mul" = pure false:=
 PySem.fillsNumberSlot_seq F.slot_tuple_mul.lookup (by decide +kernel) F.slot_tuple_rmul.lookup (by decide +kernel)
theorem xB:seqRepeat? (.type "tuple")=pure (Zz (.builtin "tuple.__mul__")):=by
 unfold seqRepeat?;rw[PySem.seqSlot_of (name:="__mul__") F.slot_tuple_mul.lookup (by decide +kernel),PySem.seqSlot_of (name:="__rmul__") F.slot_tuple_rmul.lookup (by decide +kernel)];rfl
theorem zU(a:Int)(t:Tok)(l:R3)(items:Array Q7)(n:Nat)(dd:Option R3)(sl:Array (Option Q7)):
  XT (Builtin.«int.__rmul__» ⟨[.int a t,.ref l],[]⟩) (λ_ R s=>s.heap.get? l=Zz { cls:=.type "tuple",dict:=dd,data:=.seq items n,slots:=sl }/\R (.ok (.ret Value.notImplemented)) s):=
 .of_wp λprog w A R s h=>by obtain⟨hp,g,d,tk,os⟩:=s;obtain⟨hl,h⟩:=h;wp_walk;exact⟨_,rfl,h⟩
theorem Ob(l:R3)(items:Array Q7)(n:Nat)(dd:Option R3)(sl:Array (Option Q7))(k:Int)(u:Tok)(h1:(decide (k < -(2^63)) || decide (k ≥ 2^63))=false)(hc:(items.isEmpty || k==1)=true):
  XT (Builtin.«tuple.__mul__» ⟨[.ref l,.int k u],[]⟩) (λ_ R s=>s.heap.get? l=Zz { cls:=.type "tuple",dict:=dd,data:=.seq items n,slots:=sl }/\R (.ok (.ret (Sn l))) s):=
 .of_wp λprog w A R s h=>by obtain⟨hp,g,d,tk,os⟩:=s;obtain⟨hl,h⟩:=h;have f1:=W8;have f2:=Ub;wp_walk;refine VO (XW (SJ.mp h1)) ?_;wp_walk using VP hl;exact⟨_,rfl,h⟩
theorem Nu(l:R3)(items:Array Q7)(n:Nat)(dd:Option R3)(sl:Array (Option Q7))(k:Int)(u:Tok)(h1:(decide (k < -(2^63)) || decide (k ≥ 2^63))=false)(hc:¬(items.isEmpty || k==1)=true)(hc1:(decide (k<=0) || items.isEmpty)=true):
  XT (Builtin.«tuple.__mul__» ⟨[.ref l,.int k u],[]⟩) (λ_ R s=>s.heap.get? l=Zz { cls:=.type "tuple",dict:=dd,data:=.seq items n,slots:=sl }/\R (.ok (.ret (Sn s.heap.objs.size))) { s with heap:=s.heap.push { cls:=WB "tuple",data:=Data.seq #[] },toks:=s.toks }):=
 .of_wp λprog w A R s h=>by obtain⟨hp,g,d,tk,os⟩:=s;obtain⟨hl,h⟩:=h;have f1:=W8;have f2:=Ub;wp_walk;refine VO (XW (SJ.mp h1)) ?_;wp_walk using VP hl;exact⟨_,rfl,h⟩
theorem Nk(l:R3)(items:Array Q7)(n:Nat)(dd:Option R3)(sl:Array (Option Q7))(k:Int)(u:Tok)(h1:(decide (k < -(2^63)) || decide (k ≥ 2^63))=false)(hc:¬(items.isEmpty || k==1)=true)(hc1:¬(decide (k<=0) || items.isEmpty)=true)(hc2:¬(items.size:Int)*k>(2^63-1) / 8)(hc3:¬Tuple.tupleTooMany ((items.size:Int)*k)=true)(hz:(Vb (λx1 x2=>x1++x2) #[] (RF k.toNat items)).size<=RV):
  XT (Builtin.«tuple.__mul__» ⟨[.ref l,.int k u],[]⟩) (λ_ R s=>s.heap.get? l=Zz { cls:=.type "tuple",dict:=dd,data:=.seq items n,slots:=sl }/\R (.ok (.ret (Sn s.heap.objs.size))) { s with heap:=s.heap.push { cls:=WB "tuple",data:=Data.seq (Vb (λx1 x2=>x1++x2) #[] (RF k.toNat items)) },toks:=s.toks }):=
 .of_wp λprog w A R s h=>by obtain⟨hp,g,d,tk,os⟩:=s;obtain⟨hl,h⟩:=h;have f1:=W8;have f2:=Ub;wp_walk;refine VO (XW (SJ.mp h1)) ?_;wp_walk using VP hl;refine VO (XW hc2) ?_;wp_walk using VP hl;exact⟨_,rfl,h⟩
section
variable{X:Cx}
theorem zx(h:n<=RV):¬Tuple.tupleTooMany (n:Int)=true:=by
 unfold Tuple.tupleTooMany;intro hc;have:=Xa hc;have e:=Sh;omega
theorem J5:dY X (SQ .Mult) (λx y H Q=>∃l k xs,x=.ref l/\y=.int k/\j3 X.K H l xs/\(-(2^63)<=k/\k<2^63)/\xs.length*k.toNat<=RV/\((xs=[]∨k=1)->Q (.ref l) H) /\
  (¬(xs=[]∨k=1)->∀p,H p=Zy->Q (.ref p) (upd H p (.tup (RF k.toNat xs).flatten)))):=by
 intro pins s σ H x y v u Q I rx ry h;obtain⟨l,k,xs,rfl,rfl,hH,⟨h1,h2⟩,hz,q1,q2⟩:=h;cases rx;obtain⟨t,rfl⟩:=ry;obtain⟨its,r,⟨⟨cls,dd,data,sl⟩,ho,hc,n,hd⟩,hz2⟩:=I.tuple hH;simp only at hc hd;subst hc hd;have hl:=r.length;have g1:(decide (k < -(2^63)) || decide (k ≥ 2^63))=false:=by
  rw[XW (by omega),XW (by omega)];rfl
 have road:∀{Q':Q7->R1->Prop},RK (RS X.prog X.w) X.A (call (.builtin "tuple.__mul__") [.ref l,.int k t]) Q' X.xe s->RK (RS X.prog X.w) X.A (SQ .Mult (.ref l) (.int k t)) Q' X.xe s:=λhq =>
  wpAny_binaryOp_repeat_ref (by decide) ⟨_,ho,rfl⟩ (λs'=>WC s' k t) pr F.fills_int_mul VJ xB F.slot_int_index.lookup
   (Sg VJ (WC s k t) F.entry_int_rmul (F.args_int_rmul_2 _ _) (zU k t l its.toArray n dd sl) ⟨ho,rfl,⟨_,ho,rfl⟩,hq⟩)
 refine road ?_;by_cases hc:xs=[]∨k=1
 ·have g2:(its.toArray.isEmpty || k==1)=true:=by
   rcases hc with rfl|rfl
   ·cases r;rfl
   ·simp
  exact Sg W9 ⟨_,ho,rfl⟩ Vs (Vg _ _) (Ob l its.toArray n dd sl k t g1 g2) ⟨ho,.ref l,H,I,rfl,q1 hc⟩
 ·have hne:=λe=>hc (.inl (r.jo.mp e))
  have g2:¬(its.toArray.isEmpty || k==1)=true:=by
   intro hh;rw[TC]at hh;rcases hh with hh|hh
   ·exact hne (by simpa using hh)
   ·exact hc (.inr (eq_of_beq hh))
  have fin:∀arr:Array Q7,arr=(RF k.toNat its).flatten.toArray->EP X pins σ Q (.ref s.heap.objs.size) { s with heap:=s.heap.push { cls:=.type "tuple",data:=.seq arr } }:=λarr e=>by
   subst e;refine⟨.ref s.heap.objs.size,_,I.laid (t':=s.toks) (λb ob q=>R0 _ q) (RD _) ?_,rfl,q2 hc _ (I.hok.fresh (RD _))⟩;exact⟨by rw[len_rep,Wi];exact hz,_,r.rep k.toNat,sn.new _ _⟩
  by_cases h0:k<=0
  ·have g3:(decide (k<=0) || its.toArray.isEmpty)=true:=by rw[XX h0];rfl
   refine Sg W9 ⟨_,ho,rfl⟩ Vs (Vg _ _) (Nu l its.toArray n dd sl k t g1 g2 g3) ⟨ho,fin #[] ?_⟩;have:k.toNat=0:=by omega
   rw[this];rfl
  ·have g3:¬(decide (k<=0) || its.toArray.isEmpty)=true:=by
    intro hh;rw[TC]at hh;rcases hh with hh|hh
    ·exact h0 (Xa hh)
    ·exact hne (by simpa using hh)
   have hk:(k.toNat:Int)=k:=by omega
   have hs:(its.toArray.size:Int)*k=((xs.length*k.toNat:Nat):Int):=by
    rw[R7,<-hl,Int.natCast_mul,hk]
   have hsl:=Sh;have hf:Vb (λx1 x2=>x1++x2) #[] (RF k.toNat its.toArray)=(RF k.toNat its).flatten.toArray:=by
    have:=foldl_rep its k.toNat [];rw[Sq]at this;exact this
   refine Sg W9 ⟨_,ho,rfl⟩ Vs (Vg _ _) (Nk l its.toArray n dd sl k t g1 g2 g3 (by rw[hs];omega) (by rw[hs];exact zx hz) ?_) ⟨ho,fin _ hf⟩;rw[hf,R7,len_rep,<-hl,Wi];exact hz
end
end Mi
namespace Mi
open PySem PySem.Spec PyProof.Rows L2
section
variable{K:Rs}{cm:List R3}{m:Mem}{H:Hp}{xr:XR}{X:Cx}{call:Nat->List W->Mem->Res W}{gv:List T}
theorem I0(hN:X.N[i]?=Zz x)(hv:NP X.env.scope x)(hd:(x==("__debug__" : Str))=false)(hcd:(x==("__classdict__" : Str))=false):PE X (.Name x pos) (tE X.K call gv xr (.var i)):=by
 refine PE.mono (L6 hN hv hd hcd) ?_;rintro σ H Q ⟨env,cm,m,hE,M,ho⟩;unfold ev at ho;split at ho
 ·rename_i w e
  obtain⟨v,h1,h2⟩:=hE i w e;exact⟨v,h1,aR.now ho M v h2⟩
 ·exact ho.elim
inductive bM (K:Rs) (mg:Str->Option Q7) (x:Str) (t:T)  : Prop where
 |mk (u v) (_:mg x=Zz u) (_:RelV v u) (_:∀cm m H,RT K cm m H t v)
theorem cG(hg:Gl X x)(hk:gv[k]?=Zz t)(ok:bM X.K X.mg x t)(hd:(x==("__debug__" : Str))=false):PE X (.Name x pos) (tE X.K call gv xr (.gl k)):=by
 obtain⟨u,v,h1,h2,h3⟩:=ok;refine PE.mono (HH hg h1 h2 hd) ?_;rintro σ H Q ⟨env,cm,m,hE,M,ho⟩;unfold ev at ho;rw[hk]at ho;exact aR.now ho M v (h3 cm m H)
theorem Ig{j pos}:PE X (.Constant (.int i) j pos) (tE X.K call gv xr (.con (.int i))):=PE.mono G4 λσ H Q ⟨env,cm,m,hE,M,ho⟩=>by
 unfold ev at ho;exact aR.now ho M _ (.int i)
theorem K2{j pos}:PE X (.Constant (.bool b) j pos) (tE X.K call gv xr (.con (.bl b))):=PE.mono MX λσ H Q ⟨env,cm,m,hE,M,ho⟩=>by
 unfold ev at ho;exact aR.now ho M _ (.bl b)
theorem Jd{j pos}:PE X (.Constant .none j pos) (tE X.K call gv xr (.con .non)):=PE.mono Lv λσ H Q ⟨env,cm,m,hE,M,ho⟩=>by
 unfold ev at ho;exact aR.now ho M _ .non
theorem mB{x:Str}(h:x.cps.toList=cs):x=⟨cs.toArray⟩:=by
 subst h;cases x;simp
theorem Io{x:Str}{j pos}(h:x.cps.toList=cs):PE X (.Constant (.str x) j pos) (tE X.K call gv xr (.con (.str cs))):=PE.mono LI λσ H Q ⟨env,cm,m,hE,M,ho⟩=>by
 unfold ev at ho;have:=aR.now ho M _ (.str cs);rw[mB h];exact this
theorem y6(cs:List Nat):∀(n:Nat) (acc:Array Nat),(RF n cs.toArray).foldl (·++·) acc=acc++(RF n cs).flatten.toArray
 |0,acc=>by simp
 |n+1,acc=>by
  rw[SU,TB,y6 cs n,SU,SZ];apply Array.toList_inj.mp;simp
theorem GE(h:0<=k):Txt.mul ⟨cs.toArray⟩ k=⟨(rQ cs k.toNat).toArray⟩:=by
 unfold Txt.mul rQ;by_cases h1:k<1
 ·have:k=0:=by omega
  subst this;rw[XU h1];rfl
 ·rw[XV h1]
  by_cases h2:(k==1 || (⟨cs.toArray⟩:Str).length==0)=true
  ·rw[XU h2]
   rcases TC _ _▸h2 with h3|h3
   ·have:k=1:=eq_of_beq h3
    subst this;simp
   ·have hl:cs.toArray.size=0:=eq_of_beq h3
    have:cs=[]:=by simpa using hl
    subst this;simp
  ·rw[XV h2,y6]
   simp
theorem mul_fits{cs:List Nat}(h:0<=k/\k<=64)(hl:cs.length<=1000):MulOk ⟨cs.toArray⟩ k:=by
 have e:(⟨cs.toArray⟩:Str).length=cs.length:=by show cs.toArray.size=_;simp
 have hk:k.toNat<=64:=by omega
 have hm:=Nat.mul_le_mul hl hk;refine⟨?_,λh1 _=>?_,λh1 _=>?_⟩
 ·have a:¬k < -(2^63:Int):=by omega
  have b:¬k ≥ (2^63:Int):=by omega
  simp only[a,b,decide_false,Bool.or_self]
 ·rw[e]
  have:(1000:Int)<=(2^63-1) / k:=(Int.le_ediv_iff_mul_le (by omega)).mpr (by omega);omega
 ·rw[e]
  unfold Builtin.Str.tooLong;have:=aT;unfold lim at this;exact XW (by omega)
theorem A5:dY X (SQ .Mult) (r2 X.K xr (xT .Mult)):=by
 rintro pins s σ H x y v u Q I rx ry ⟨cm,m,a,b,M,ra,rb,ho⟩;obtain⟨t,e,ho⟩:=ci ho;obtain⟨ta,tb,ea,eb,e⟩:=kt e;change KZ ta tb=Zz t at e;unfold KZ at e;split at e
 rotate_left
 ·cases e
 rename_i k;split at e
 ·split at e<;>cases e
  cases(ak ra ea (λ_ z=>by cases z)).bV;cases(ak rb eb (λ_ z=>by cases z)).bV;exact HK pins s σ H _ _ v u Q I rx ry ⟨_,_,rfl,rfl,‹_›,ans ho M (.int _)⟩
 ·split at e<;>cases e
  rename_i ts hc;obtain⟨p,vs,rfl,h1,r1⟩:=(ak ra ea (λ_ z=>by cases z)).j4;cases(ak rb eb (λ_ z=>by cases z)).bV;have l1:=r1.length;have hz:=aT;have hl:(lim:Int)<2^63:=by unfold lim;decide
  refine J5 pins s σ H _ _ v u Q I rx ry ⟨p,_,vs,rfl,rfl,h1,by omega,by rw[<-l1];omega,λhq=>?_,λ_ l hl=>mx ho M (mJ r1 _) hl⟩;have e:rQ ts k.toNat=ts:=by
   rcases hq with rfl|rfl
   ·cases r1;simp[rQ]
   ·simp[rQ]
  rw[e]at ho;exact ans ho M (.yj h1 r1)
 ·split at e<;>cases e
  rename_i hc;obtain⟨p,vs,rfl,h1,r1⟩:=aX M ra ea;cases(ak rb eb (λ_ z=>by cases z)).bV;have l1:=r1.length;have hz:=aT;have hl:(lim:Int)<2^63:=by unfold lim;decide
  exact L9 pins s σ H _ _ v u Q I rx ry ⟨p,_,vs,rfl,rfl,h1,by omega,by omega,by rw[<-l1];omega,λl hl=>fZ ho M (mJ r1 _) hl⟩
 ·split at e<;>cases e
  rename_i cs hc;cases(ak ra ea (λ_ z=>by cases z)).cQ;cases(ak rb eb (λ_ z=>by cases z)).bV;obtain⟨tx,rfl⟩:=rx;obtain⟨ty,rfl⟩:=ry;refine SB.mul (mul_fits hc.1 hc.2) λt' k'=>⟨.str ⟨(rQ cs k.toNat).toArray⟩,H,I.tok _,⟨t',?_⟩,ans ho M (.str _)⟩
  rw[GE hc.1.1]
 all_goals cases e
theorem NU(h:∀x y,kI op x y=Zy):dY X (SQ op) (r2 X.K xr (xT op)):=by
 rintro pins s σ H x y v u Q I rx ry ⟨cm,m,a,b,M,ra,rb,ho⟩;obtain⟨t,e,ho⟩:=ci ho;obtain⟨ta,tb,ea,eb,e⟩:=kt e;rw[h]at e;cases e
theorem L5(op:VH):dY X (SQ op) (r2 X.K xr (xT op)):=by
 cases op<;>first|exact Ag|exact BB|exact A5|exact xJ|exact zP|exact AC|exact NU λx y=>by cases x<;>cases y<;>rfl
variable{a b c:Rm}{ea eb ec:E}{pos:Pos}
theorem JY(ha:PE X a (tE X.K call gv xr ea))(hb:PE X b (tE X.K call gv xr eb)):PE X (.BinOp a op b pos) (tE X.K call gv xr (.bin op ea eb)):=
 PE.mono (Kd (L5 op) ha hb) (yO λenv m=>by rw[ev];rfl)
theorem J9(ha:PE X a (tE X.K call gv xr ea))(hb:PE X b (tE X.K call gv xr eb))(hm:Tr op b=false)(hu:X.A.units+64<cLine):PE X (.Compare a [op] [b] pos) (tE X.K call gv xr (.cmp op ea eb)):=
 PE.mono (Jz (pA hu op) ha hb hm) (yO λenv m=>by rw[ev];rfl)
theorem BR(h:iI op x y m=.ok w m'):∃k,w=.t (.bl k)/\m'=m:=by
 unfold iI at h;cases q:((view x m).bind λx=>(view y m).bind λy=>bx op x y)with
 |none=>rw[q]at h;cases h
 |some k=>rw[q]at h;cases h;exact⟨k,rfl,rfl⟩
theorem vW{f:Env->Mem->Res W}{a:E}(h:PT X e (EE te))(hk:∀env m w m',ev call gv a env m=.ok w m'->∃k,w=.t (.bl k))(he:∀σ H Q,tE X.K call gv xr a σ H Q->te σ H Q):PT X e (tT X.K call gv xr a):=by
 refine PT.mono h λσ H Q ⟨env,cm,m,hE,M,ho⟩=>he σ H _ ⟨env,cm,m,hE,M,?_⟩
 cases q:ev call gv a env m with
 |stuck=>rw[q]at ho;exact ho.elim
 |exc e m'=>rw[q]at ho;exact ho
 |ok w m' =>
  obtain⟨k,rfl⟩:=hk env m w m' q;rw[q]at ho;intro cm1 H1 x1 M1 v rv;cases RT.Dt rv;exact⟨k,rfl,(ho) cm1 H1 x1 M1⟩
theorem IP{op:Vm}(ha:PE X a (tE X.K call gv xr ea))(hb:PE X b (tE X.K call gv xr eb))(hm:Tr op b=false)(hu:X.A.units+64<cLine):PT X (.Compare a [op] [b] pos) (tT X.K call gv xr (.cmp op ea eb)):=by
 refine vW (f:=λ_ _=>.stuck) (Iw (pA hu op) ha hb hm) (λenv m w m' h=>?_) (yO λenv m=>by rw[ev];rfl);rw[ev]at h;obtain⟨x,m1,_,h⟩:=aS h;obtain⟨y,m2,_,h⟩:=aS h;obtain⟨k,hk,_⟩:=BR h;exact⟨k,hk⟩
theorem Hb(σ:L2.St)(H:Hp)(Q:VK)(q:tE X.K call gv xr (.J6 op op' ea eb ec) σ H Q):
  Ar (r2 X.K xr (iI op)) (r2 X.K xr (iI op')) (tE X.K call gv xr ea) (tE X.K call gv xr eb) (tE X.K call gv xr ec) σ H Q:=by
 obtain⟨env,cm,m,hE,hM,ho⟩:=q;rw[ev]at ho;refine⟨env,cm,m,hE,hM,ho.bind.mono λw cm1 m1 H1 x1 M1 o1 v rv=>?_⟩;refine⟨env,cm1,m1,hE.ext x1 hM M1,M1,o1.bind.mono λw2 cm2 m2 H2 x2 M2 o2 v2 rv2=>?_⟩;refine⟨cm2,m2,w,w2,M2,rv.ext x2 M1 M2,rv2,?_⟩;split at o2
 ·rename_i e
  have e1:iI op w w2 m2=.ok (.t (.bl true)) m2:=by unfold iI;rw[e];rfl
  rw[e1];intro cm3 H3 x3 M3 v3 rv3;cases RT.Dt rv3;refine⟨true,rfl,yf ?_⟩;refine⟨env,cm3,m2,(hE.ext (x1.trans (x2.trans x3)) hM M3),M3,(aR.shift o2 x3).bind.mono λw4 cm4 m4 H4 x4 M4 o4 v4 rv4=>?_⟩;exact⟨cm4,m4,w2,w4,M4,(rv2.ext x3 M2 M3).ext x4 M3 M4,rv4,o4⟩
 ·rename_i e
  have e1:iI op w w2 m2=.ok (.t (.bl false)) m2:=by unfold iI;rw[e];rfl
  rw[e1];intro cm3 H3 x3 M3 v3 rv3;cases RT.Dt rv3;exact⟨false,rfl,xW (aR.to o2 x3 M3 _ (.bl false))⟩
 ·exact o2.elim
theorem Jf(ha:PE X a (tE X.K call gv xr ea))(hb:PE X b (tE X.K call gv xr eb))(hc:PE X c (tE X.K call gv xr ec))(hm:Wq [op,op'] [b,c]=false)(hu:X.A.units+64<cLine):
 PE X (.Compare a [op,op'] [b,c] pos) (tE X.K call gv xr (.J6 op op' ea eb ec)):=PE.mono (Ex (pA hu op) (pA hu op') ha hb hc hm) Hb
theorem Im{op op':Vm}(ha:PE X a (tE X.K call gv xr ea))(hb:PE X b (tE X.K call gv xr eb))(hc:PE X c (tE X.K call gv xr ec))(hm:Wq [op,op'] [b,c]=false)(hu:X.A.units+64<cLine):
  PT X (.Compare a [op,op'] [b,c] pos) (tT X.K call gv xr (.J6 op op' ea eb ec)):=by
 refine vW (f:=λ_ _=>.stuck) (Hf (pA hu op) (pA hu op') ha hb hc hm) (λenv m w m' h=>?_) Hb;rw[ev]at h;obtain⟨x,m1,_,h⟩:=aS h;obtain⟨y,m2,_,h⟩:=aS h;split at h
 ·obtain⟨z,m3,_,h⟩:=aS h
  obtain⟨k,hk,_⟩:=BR h;exact⟨k,hk⟩
 ·cases h;exact⟨_,rfl⟩
 ·cases h
theorem IA(hc:PT X c (tT X.K call gv xr ec))(ha:PE X a (tE X.K call gv xr ea))(hb:PE X b (tE X.K call gv xr eb)):PE X (.IfExp c a b pos) (tE X.K call gv xr (.ite ec ea eb)):=by
 refine PE.mono (E6 hc ha hb) ?_;rintro σ H Q ⟨env,cm,m,hE,M,ho⟩;rw[ev]at ho;refine⟨env,cm,m,hE,M,?_⟩;have ho':aR X.K (((ev call gv ec env m).bind cu).bind λk m=>if k then ev call gv ea env m else ev call gv eb env m) xr cm m H λw cm' m' H'=>∀v,RW X.K cm' m' H' w v->Q v H':=by
  cases q:ev call gv ec env m<;>rw[q]at ho<;>exact ho
 refine ho'.bind.mono λk cm1 m1 H1 x1 M1 o1=>?_
 cases k with
 |true=>exact yf ⟨env,cm1,m1,hE.ext x1 M M1,M1,o1⟩
 |false=>exact xW ⟨env,cm1,m1,hE.ext x1 M M1,M1,o1⟩
theorem LQ(ha:PE X a (tE X.K call gv xr ea))(hb:PE X b (tE X.K call gv xr eb))(hs:B4 b):PE X (.Subscript a b pos) (tE X.K call gv xr (.ix ea eb)):=
 PE.mono (Nv Nb ha hb hs) (yO λenv m=>by rw[ev];rfl)
end
section
variable{K:Rs}{cm:List R3}{m:Mem}{H:Hp}{xr:XR}{X:Cx}{call:Nat->List W->Mem->Res W}{gv:List T}
variable{a b c e:Rm}{es:List Rm}{ea eb ec:E}{eas:Es}{pos p:Pos}
noncomputable def notStar:Rm->Bool
 |.Starred _ _=>false
 |_=>true
theorem bq{env:T6}(h:notStar e=true):S8 (e::es) env=(false,eval e env)::S8 es env:=by
 cases e<;>first|rfl|cases h
theorem v7:∀{a:List Rm},a.all notStar=true->(backTo pos (S8 a env)).all (λx=>!x.1)=true
 |[],_=>rfl
 |e::a,h=>by
  rw[TU,R6]at h;rw[bq h.1];show(!false&&(backTo pos (S8 a env)).all (λx=>!x.1))=true;rw[v7 h.2];rfl
theorem ff{env:T6}{a:List Rm}(h:a.all notStar=true):(backTo pos (S8 a env)).any (·.1)=false:=by
 have c:=v7 (pos:=pos) (env:=env) h;rw[Vo];intro x b;have:=RP.mp c x b;simpa using this
theorem JG:PA X [] (tA X.K call gv xr .nil):=PA.mono Aa λσ H Q ⟨b,d,m,c,M,a⟩=>by
 rw[evs]at a;exact aR.now a M [] .nil
theorem Gk(s:PE X e (tE X.K call gv xr ea))(r:PA X es (tA X.K call gv xr eas))(q:notStar e=true):PA X (e::es) (tA X.K call gv xr (.cons ea eas)):=by
 refine PA.mono (qW s r (bq q)) ?_;rintro σ H Q ⟨a,u,m,g,M,f⟩;rw[evs]at f;refine⟨a,u,m,g,M,f.bind.mono λw c p A j d o v l=>?_⟩;exact⟨a,c,p,g.ext j M d,d,o.bind.mono λx t y z i h n k b=>aR.now n h (v::k) (.cons (l.ext i d h) b)⟩
theorem ve:lR w m≠.exc x m':=by
 intro h;unfold lR at h;split at h<;>first|cases h|(split at h<;>cases h)
theorem rW:∀{ws:List W}{m m':Mem}{x:Exc},cO ws m≠.exc x m'
 |[],_,_,_=>λh=>by cases h
 |w::ws,m,m',x=>λh=>by
  rw[cO]at h;cases q:lR w m with
  |stuck=>rw[q]at h;cases h
  |exc y c=>exact ve q
  |ok t c =>
   rw[q]at h;have b:((cO ws c).bind λe m=>Res.ok (t::e) m)=.exc x m':=h;cases q2:cO ws c with
   |stuck=>rw[q2]at b;cases b
   |exc y m2=>exact rW q2
   |ok e m2=>rw[q2]at b;cases b
theorem kX:∀{ws:List W}{a:List V}{ts:List T}{m m':Mem},aC K cm m H->Dx K cm m H ws a->cO ws m=.ok ts m'->dJ cm m H cm m' H/\aC K cm m' H/\cH K cm m' H ts a
 |[],_,_,_,_,M,.nil,e=>by cases e;exact⟨.refl,M,.nil⟩
 |w::ws,v::a,ts,m,m',M,.cons r g,e=>by
  rw[cO]at e;obtain⟨t,o,k,e⟩:=aS e;obtain⟨l,n,j,e⟩:=aS e;cases e;obtain⟨d,b,i⟩:=AR M r k;obtain⟨c,f,h⟩:=kX b (Dx.ext d M b g) j;exact⟨d.trans c,f,.cons (RT.ext c b f i) h⟩
theorem ka{α:Type}{ws:List W}{f:List T->Mem->Res α}{k:α->List R3->Mem->Hp->Prop}(h:aR K ((cO ws m).bind f) xr cm m H k):∃ts m',cO ws m=.ok ts m'/\aR K (f ts m') xr cm m H k:=by
 cases q:cO ws m with
 |stuck=>rw[q]at h;exact h.elim
 |exc x m'=>exact XZ q rW
 |ok ts m'=>rw[q]at h;exact⟨ts,m',rfl,h⟩
theorem jg{α:Type}{c:Prop}[Decidable c]{r:Res α}{k:α->List R3->Mem->Hp->Prop}(h:aR K (if c then r else .stuck) xr cm m H k):c/\aR K r xr cm m H k:=by
 by_cases hc:c
 ·rw[XU hc]at h;exact⟨hc,h⟩
 ·rw[XV hc]at h;exact h.elim
theorem JD{c}(h:PA X es (tA X.K call gv xr eas)):PE X (.Tuple es c pos) (tE X.K call gv xr (.tup eas)):=by
 refine PE.mono (LJ h) ?_;rintro σ H Q ⟨b,q,m,l,M,e⟩;rw[ev]at e;refine⟨b,q,m,l,M,e.bind.mono λt o x B c s j u a=>?_⟩;obtain⟨v,w,n,i⟩:=ka j;obtain⟨A,g⟩:=jg i;obtain⟨f,r,d⟩:=kX s a n;have y:=d.length;have z:=aT;exact⟨by omega,λp k=>mx (aR.shift g f) r d k⟩
theorem HR(h:PA X es (tA X.K call gv xr eas)):PE X (.List es pos) (tE X.K call gv xr (.lst eas)):=by
 refine PE.mono (Ls h) ?_;rintro σ H Q ⟨b,o,m,k,M,d⟩;rw[ev]at d;refine⟨b,o,m,k,M,d.bind.mono λt n x B s r i u a=>?_⟩;obtain⟨v,w,l,g⟩:=ka i;obtain⟨A,f⟩:=jg g;obtain⟨e,q,c⟩:=kX r a l;have y:=c.length;have z:=aT;exact⟨by omega,λp j=>fZ (aR.shift f e) q c j⟩
def Ni(K:Rs)(t:TA):TE:=λσ H Q=>t σ H λxs H1=>xs.length<=RV/\∀p,H1 p=Zy->K.lookup p=Zy->Q (.ref p) (upd H1 p (.lst xs))
theorem Inv.Mz(I:Inv X pins σ H s):X.K.lookup s.heap.objs.size=Zy:=by
 cases q:X.K.lookup s.heap.objs.size with
 |none=>rfl
 |some o=>exact XZ (RM (I.qv _ _ q)) (SH _)
theorem JU{t:TA}(h:PA X es t):PE X (.List es pos) (Ni X.K t):=by
 intro a s σ H Q I i;refine wpAny_List_spliced (bR (h pos a s σ H _ I i) λg c ⟨f,k,d,r,z,q⟩=>⟨by rw[<-r.length];exact z,?_⟩);have j:=d.hok.fresh (RD _);refine⟨.ref c.heap.objs.size,upd k c.heap.objs.size (.lst f),d.laid (t':=c.toks) (λb u e=>R0 _ e) (RD _) ?_,rfl,q _ j (Mi.Inv.Mz d)⟩;exact⟨z,g,0,r,RH _ rfl⟩
theorem Ip(h:PA X es (tA X.K call gv xr eas)):PE X (.List es pos) (tE X.K call gv xr (.zn eas)):=by
 refine PE.mono (JU h) ?_;rintro σ H Q ⟨b,s,m,o,M,d⟩;rw[ev]at d;refine⟨b,s,m,o,M,d.bind.mono λx r B F w v k y a=>?_⟩;obtain⟨z,A,q,j⟩:=ka k;obtain⟨E,i⟩:=jg j;obtain⟨f,u,c⟩:=kX v a q;have C:=c.length;have D:=aT;refine⟨by omega,λp l n=>?_⟩;obtain⟨e,t,g⟩:=ki u c l n;exact aR.to i (f.trans e) t _ g
theorem j7{α:Type}(xs:List α)(lo hi:Option Int):cut xs lo hi=(xs.drop (HT.cb xs.length 0 lo)).take (HT.cb xs.length xs.length hi-HT.cb xs.length 0 lo):=by
 have e:∀n d o,s0 n d o=HT.cb n d o:=λn d o=>by cases o<;>rfl
 unfold cut;rw[e,e]
theorem mj{α β:Type}{F:α->β->Prop}{xs:List α}{ys:List β}(h:Sr F xs ys)(lo hi:Option Int):Sr F (cut xs lo hi) (cut ys lo hi):=by
 rw[j7,j7,<-h.length];exact pY _ (pT _ h)
theorem xj(xs:List V)(lo hi:Option Int):Aq xs lo hi=cut xs lo hi:=(j7 xs lo hi).symm
theorem Ff(x y:Nat):sliceRange (x:Int) (y:Int) 1=(SA (y-x)).map λk=>x+k:=by
 unfold sliceRange;simp only[show((1:Int)>0)=True from by simp,if_true];by_cases h:(x:Int)<y
 ·have a:(((y:Int)-x+1-1) / 1).toNat=y-x:=by first|omega|(simp;done)|(simp;omega)
  rw[XU h,a];refine List.map_congr_left λk _=>?_
  omega
 ·have a:y-x=0:=by omega
  rw[XV h,a];rfl
theorem nV(n d:Nat)(v:Int):max 0 (min (if v<0 then v+n else v) (n:Int))=((HT.cb n d (Zz v):Nat):Int):=by
 show max 0 (min (if v<0 then v+n else v) (n:Int))=(((if v<0 then(v+(n:Int)).toNat else min v.toNat n):Nat):Int)
 split<;>omega
theorem Br(lo hi:Option Int)(n:Nat):(Builtin.Str.strSliceIndices lo hi 1 n)=(SA (HT.cb n n hi-HT.cb n 0 lo)).map λk=>HT.cb n 0 lo+k:=by
 rw[<-Ff];unfold Builtin.Str.strSliceIndices;cases lo with
 |none =>
  cases hi with
  |none=>rfl
  |some j =>
   rw[<-nV];rfl
 |some i =>
  cases hi with
  |none =>
   rw[<-nV];rfl
  |some j =>
   rw[<-nV,<-nV];rfl
noncomputable def PL(w:W)(lo hi:Option Int)(m:Mem):Res W:=dy ((view w m).bind λx=>HP x lo hi) m
inductive PR (K:Rs) (xr:XR) (x:V) (lo:Option Int) (hi:Option Int) (H:Hp) (Q:VK):Prop where
 |mk (cm m w) (_:aC K cm m H) (_:RW K cm m H w x) (_:aR K (PL w lo hi m) xr cm m H λw cm' m' H'=>∀v,RW K cm' m' H' w v->Q v H')
theorem C3{prog:Rk}{w:Rx}{E:Q7->R1->Prop}{s:R1}{lo hi:Option Int}(hs:s.heap.IsSliceOf sl vl vu .none)(pl:V7 vl lo)(pu:V7 vu hi)(hz:cs.length<=lim)(h:∀t' k,Q (.str ⟨(cut cs lo hi).toArray⟩ t') { s with toks:=k }):RK (RS prog w) A (VD (.str ⟨cs.toArray⟩ t) (.ref sl)) Q E s:=by
 have hl:=aT;obtain⟨l,e1,e2⟩:∃l:Option (Int×Tok),vl=partValue l/\l.map (·.1)=lo:=by
  cases pl with
  |none=>exact⟨Zy,rfl,rfl⟩
  |int i t=>exact⟨Zz (i,t),rfl,rfl⟩
 obtain⟨u,f1,f2⟩:∃l:Option (Int×Tok),vu=partValue l/\l.map (·.1)=hi:=by
  cases pu with
  |none=>exact⟨Zy,rfl,rfl⟩
  |int i t=>exact⟨Zz (i,t),rfl,rfl⟩
 subst e1 f1;refine wpAny_getItem_str_slice (st:=Zy) hs (by rfl) ?_;have pk:WO ⟨cs.toArray⟩ l u Zy=(SA (HT.cb cs.length cs.length hi-HT.cb cs.length 0 lo)).map λk=>HT.cb cs.length 0 lo+k:=by
  unfold WO;rw[e2,f2,fS];exact Br lo hi cs.length
 have hn:HT.cb cs.length cs.length hi<=cs.length:=HT.FH _ _ (RD _) hi;have fm:((WO ⟨cs.toArray⟩ l u Zy).filterMap ((⟨cs.toArray⟩:Str).cps[·]?))=cut cs lo hi:=by
  rw[pk,j7];by_cases hle:HT.cb cs.length 0 lo<=HT.cb cs.length cs.length hi
  ·have:=StrLaws.picks cs (HT.cb cs.length cs.length hi-HT.cb cs.length 0 lo) (HT.cb cs.length 0 lo) (by omega)
   rw[<-this];simp
  ·have:HT.cb cs.length cs.length hi-HT.cb cs.length 0 lo=0:=by omega
   rw[this];simp
 unfold sliceMade;split
 ·rename_i hw
  rw[R6]at hw;have q:(WO ⟨cs.toArray⟩ l u Zy).length=cs.length:=by rw[eq_of_beq hw.2,fS]
  rw[pk,Q8,To]at q;have e:cut cs lo hi=cs:=by
   rw[j7];have:HT.cb cs.length 0 lo=0∨cs.length=0:=by omega
   rcases this with c|c
   ·rw[c]at q ⊢
    rw[Vf,q];exact WA
   ·rw[List.length_eq_zero_iff]at c
    subst c;simp
  have:=h t s.toks;rw[e]at this;exact this
 ·rw[fm]
  have hc:(cut cs lo hi).length<=cs.length:=by
   rw[j7,SF,W4];omega
  exact⟨by show(cut cs lo hi).toArray.size<=_;rw[R7];omega,h _ _⟩
theorem DP{E:Q7->R1->Prop}{t c:R3}{a:Array Q7}{i g:Q7}{lo hi:Option Int}{Q:Q7->R1->Prop}(b:Wv s.heap t a)(k:s.heap.IsSliceOf c i g .none)(m:V7 i lo)(l:V7 g hi)(j:HT.cb a.size 0 lo=0/\HT.cb a.size a.size hi=a.size)(h:Q (.ref t) s):RK (RS prog w) A (VD (.ref t) (.ref c)) Q E s:=by
 obtain⟨n,d,e,o⟩:=id k;have f:s.TypeIs (.ref c) "slice":=⟨n,d,e⟩
 unfold VD
 try with_reducible refine Sc ?_
 first|refine Q6 (Q9 ?_)|skip
 refine Q6 (wpAny_sequenceKey b.typeIs (by decide) ?_);refine Q6 (Rv b.typeIs Ss
  (S7 Ss b.typeIs entry_tuple_getitem ?_ (args_tuple_getitem _ _)))
 show RK _ _ (Builtin.Tuple.tupleItemsOf (.ref t) >>= _) _ _ s;refine Q6 (tupleItemsOf_ b ?_);refine Q6 (VW f ?_);rw[XU (by decide)];refine Q6 (HT.iE k m l ?_);show RK _ _ (if(((HT.cb a.size 0 lo:Nat):Int)==0&&(1:Int)==1&&(HT.cb a.size a.size hi-HT.cb a.size 0 lo)==a.size)=true then _ else _) _ _ s;rw[XU (by rw[j.1,j.2];simp)];refine Q6 ?_;unfold Builtin.Tuple.tupleIsExact;refine Q6 (VW b.typeIs (Q9 ?_));rw[XU (by decide)];exact Q6 (Tt (Q9 ⟨_,rfl,Q9 h⟩))
theorem GZ{b:List (R3×Obj)}{s:R1}{σ:L2.St}{H:Hp}{x:V}{lo hi:Option Int}{Q:VK}{a:R3}{xs:List V}(I:Inv X b σ H s)(g:RelV x v)(l:s.heap.IsSliceOf sl vl vu .none)(i:V7 vl lo)(h:V7 vu hi)(e:x=.ref a)(j:j3 X.K H a xs)(k:HT.cb xs.length 0 lo=0/\HT.cb xs.length xs.length hi=xs.length)(q:Q (.ref a) H):∃T id,Wc (.type T) "__getitem__" = pure (Zz (.builtin id))/\s.TypeIs v T/\RK (RS X.prog X.w) X.A (VD v (.ref sl)) (EP X b σ Q) X.xe s:=by
 subst e;cases g;obtain⟨d,r,f,m⟩:=I.tuple j;have c:d.toArray.size=xs.length:=by rw[R7];exact r.length.symm
 exact⟨"tuple",_,PyProof.Rows.slot_tuple_getitem.lookup,f.typeIs,DP f l i h (by rw[c];exact k) ⟨.ref a,H,I,rfl,q⟩⟩
theorem LR:Oh X (PR X.K xr):=by
 rintro f s σ H x v vl vu lo c sl Q I rx hs pl pu ⟨cm,m,w,M,rw',ho⟩;obtain⟨t,e,ho⟩:=ci ho;cases q:view w m with
 |none=>rw[q]at e;cases e
 |some tw =>
  rw[q]at e;have e:HP tw lo c=Zz t:=e;cases tw with
  |tup ts =>
   cases e;obtain⟨a,vs,rfl,h1,r1⟩:=(ak rw' q (λ_ z=>by cases z)).j4;have l1:=r1.length;have e:∀n d o,s0 n d o=HT.cb n d o:=λn d o=>by cases o<;>rfl
   by_cases hc:HT.cb vs.length 0 lo=0/\HT.cb vs.length vs.length c=vs.length
   ·refine GZ I rx hs pl pu rfl h1 hc ?_
    have ec:cut ts lo c=ts:=by
     unfold cut;rw[e,e,l1,hc.1,hc.2,Vf,Nat.sub_zero,<-l1,WA]
    rw[ec]at ho;exact ans ho M (.yj h1 r1)
   ·refine Lg f s σ H _ v vl vu lo c sl Q I rx hs pl pu ⟨a,vs,rfl,h1,hc,λp hp=>?_⟩
    rw[xj];exact mx ho M (mj r1 lo c) hp
  |lst ts =>
   cases e;obtain⟨a,vs,rfl,h1,r1⟩:=aX M rw' q;exact Cz f s σ H _ v vl vu lo c sl Q I rx hs pl pu ⟨a,vs,rfl,.of h1,λp hp=>by rw[xj];exact fZ ho M (mj r1 lo c) hp⟩
  |dr ns =>
   cases e;obtain⟨a,rfl,h1⟩:=(ak rw' q (λ_ z=>by cases z)).Em;refine Cz f s σ H _ v vl vu lo c sl Q I rx hs pl pu ⟨a,_,rfl,h1.sq,λp hp=>?_⟩;rw[xj];refine fZ ho M ?_ hp;have:=mj (mw (K:=X.K) (cm:=cm) (m:=m) (H:=H) ns) lo c;have e:cut (ns.map T.int) lo c=(cut ns lo c).map T.int:=by
    rw[j7,j7,Q8,List.map_take,List.map_drop]
   rw[e]at this;exact this
  |str cs =>
   unfold HP at e;dsimp only at e;split at e<;>cases e;rename_i hc;cases(ak rw' q (λ_ z=>by cases z)).cQ;obtain⟨t,rfl⟩:=rx;exact⟨"str",_,slot_str_getitem.lookup,U5 s _ t,C3 hs pl pu hc λt' k=>⟨.str ⟨(cut cs lo c).toArray⟩,H,I.tok _,⟨t',rfl⟩,ans ho M (.str _)⟩⟩
  |_=>cases e
noncomputable def Os(call:Nat->List W->Mem->Res W)(gv:List T)(lo:E)(env:Env)(m:Mem):Res (Option Int):=if aA lo then Res.ok Zy m else(ev call gv lo env m).bind CM
inductive tP (K:Rs) (call:Nat->List W->Mem->Res W) (gv:List T) (xr:XR) (lo:E) (σ:L2.St) (H:Hp) (Q:Option Int->Hp->Prop):Prop where
 |mk (env cm m) (_:bg K cm m H env σ) (_:aC K cm m H) (_:aR K (Os call gv lo env m) xr cm m H λo cm' m' H'=>Q o H')
theorem F1:PO X Zy (tP X.K call gv xr .hole):=λa s σ H Q I ⟨c,e,m,d,M,b⟩=>Jr a s σ H Q I (aR.now b M)
theorem Fc{lo:Rm}(h:PE X lo (tE X.K call gv xr ea))(hn:Os call gv ea=λenv m=>(ev call gv ea env m).bind CM):PO X (Zz lo) (tP X.K call gv xr ea):=λpins s σ H Q I ⟨env,cm,m,hE,M,ho⟩=>by
 rw[hn]at ho;refine Iu h pins s σ H Q I ⟨env,cm,m,hE,M,(aR.bind ho).mono λw cm1 m1 H1 x1 M1 o1 v rv=>?_⟩;unfold CM at o1;split at o1
 ·cases RT.bV rv
  exact⟨_,rfl,aR.now o1 M1⟩
 ·exact o1.elim
theorem JX{lo hi:Option Rm}(C:PE X e (tE X.K call gv xr ea))(B:PO X lo (tP X.K call gv xr eb))(A:PO X hi (tP X.K call gv xr ec)):PE X (.Subscript e (.Slice lo hi Zy p2) pos) (tE X.K call gv xr (.Hq ea eb ec)):=by
 refine PE.mono (GL (LR (xr:=xr)) C B A) ?_;rintro σ H Q ⟨a,D,m,d,M,n⟩;have e:ev call gv (.Hq ea eb ec) a m=(ev call gv ea a m).bind λx m=>(Os call gv eb a m).bind λl m=>(Os call gv ec a m).bind λh m=>PL x l h m:=by
  rw[ev];rfl
 rw[e]at n;refine⟨a,D,m,d,M,n.bind.mono λw i z G k b t v q=>?_⟩;refine⟨a,i,z,d.ext k M b,b,t.bind.mono λl g y F j c s=>?_⟩;refine⟨a,g,y,(d.ext k M b).ext j b c,c,s.bind.mono λh f u E p o r=>?_⟩;exact⟨f,u,w,o,(q.ext j b c).ext p c o,r⟩
noncomputable def nQ(b:B)(ws:List W)(m:Mem):Res W:=dy ((views ws m).bind λts=>cn b ts) m
theorem Hj{b:B}(σ:L2.St)(H:Hp)(Q:VK)(q:tE X.K call gv xr (.blt b eas) σ H Q):OT (rN X.K xr (nQ b)) (tA X.K call gv xr eas) σ H Q:=by
 obtain⟨c,j,m,i,M,e⟩:=q;rw[ev]at e;exact⟨c,j,m,i,M,e.bind.mono λf d h o l k g n a=>⟨d,h,f,k,a,g⟩⟩
theorem q8{b:B}{id:String}(j:dq X (.builtin id) (rN X.K xr (nQ b)))(d:Sw x=Zz (.builtin id))(h:Gl X x)(g:X.mg x=Zy)(k:PA X (e::es) (tA X.K call gv xr eas))(f:x≠"__name__")(c:(x==("__debug__" : Str))=false)(i:notStar e=true)(a:es.all notStar=true):PE X (.Call (.Name x p) (e::es) [] pos) (tE X.K call gv xr (.blt b eas)):=
 PE.mono (xL j h g d k f c (bq i) (ff a)) Hj
theorem qI{b:B}{id:String}(j:dq X (.type id) (rN X.K xr (nQ b)))(d:Sw x=Zz (.type id))(h:Gl X x)(g:X.mg x=Zy)(k:PA X (e::es) (tA X.K call gv xr eas))(f:x≠"__name__")(c:(x==("__debug__" : Str))=false)(i:notStar e=true)(a:es.all notStar=true):PE X (.Call (.Name x p) (e::es) [] pos) (tE X.K call gv xr (.blt b eas)):=
 PE.mono (uH j h g d k f c (bq i) (ff a)) Hj
theorem ml{t:T}{ts:List T}(q:views ws m=Zz (t::ts)):∃w us,ws=w::us/\view w m=Zz t/\views us m=Zz ts:=by
 cases ws with
 |nil=>cases q
 |cons w us =>
  unfold views at q;cases q1:view w m with
  |none=>rw[q1]at q;cases q
  |some u =>
   rw[q1]at q;cases q2:views us m with
   |none=>rw[q2]at q;cases q
   |some v=>rw[q2]at q;cases q;exact⟨w,us,rfl,q1,q2⟩
theorem uQ(q:views ws m=Zz []):ws=[]:=by
 cases ws with
 |nil=>rfl
 |cons w us =>
  unfold views at q;cases q1:view w m with
  |none=>rw[q1]at q;cases q
  |some u =>
   rw[q1]at q;cases q2:views us m with
   |none=>rw[q2]at q;cases q
   |some v=>rw[q2]at q;cases q
theorem xh{b:B}(r:Dx K cm m H ws vs)(h1:∀ts t,cn b ts=Zz t->ts.length=1)(h:aR K (nQ b ws m) xr cm m H k):
  ∃w v t r,ws=[w]/\vs=[v]/\RW K cm m H w v/\view w m=Zz t/\cn b [t]=Zz r/\aR K (.ok (.t r) m) xr cm m H k:=by
 obtain⟨t,e,ho⟩:=ci h;cases q:views ws m with
 |none=>rw[q]at e;cases e
 |some ts =>
  rw[q]at e;have e:=e;have hl:=h1 ts t e;obtain⟨t1,rfl⟩:=List.length_eq_one_iff.mp hl;obtain⟨w,us,rfl,q1,q2⟩:=ml q;obtain rfl:=uQ q2;cases r with
  |cons rv r =>
   cases r with
   |nil=>exact⟨w,_,t1,t,rfl,rfl,rv,q1,e,ho⟩
theorem CQ{f:T->Option T}:∀{ts:List T}{t:T},ik f ts=Zz t->∃x,ts=[x]/\f x=Zz t
 |[],_,h=>by cases h
 |[x],_,h=>⟨x,rfl,h⟩
 |_::_::_,_,h=>by cases h
theorem uM(h:GW f ts=Zz t):∃i j,ts=[.int i,.int j]/\f i j=Zz t:=by
 unfold GW at h;split at h
 ·exact⟨_,_,rfl,h⟩
 ·cases h
theorem fH{b:B}(hb:b≠.min2/\b≠.kf/\b≠.Oo):∀ts t,cn b ts=Zz t->ts.length=1:=by
 intro ts t h;have h1:∀f:T->Option T,ik f ts=Zz t->ts.length=1:=λf h=>by
  obtain⟨x,rfl,_⟩:=CQ h;rfl
 cases b<;>first|exact h1 _ h|exact XZ hb (by decide)|cases h
theorem El:dq X (.builtin "len") (rN X.K xr (nQ .len)):=by
 rintro b s σ H xs g Q I r ⟨cm,m,ws,M,j,d⟩;obtain⟨w,v,t,rr,rfl,rfl,h,e,c,d⟩:=xh j (fH (by decide)) d;have hz:=aT;cases t with
 |str l =>
  change (if l.length<=lim then Zz (T.int l.length)else Zy)=Zz rr at c;split at c<;>cases c;cases(ak h e (λ_ z=>by cases z)).cQ;exact oz b s σ H _ g Q I r ⟨_,_,rfl,⟨by rw[fS];omega,rfl⟩,by rw[fS];exact ans d M (.int _)⟩
 |tup ts =>
  cases c;obtain⟨a,i,rfl,f,k⟩:=(ak h e (λ_ z=>by cases z)).j4;exact oz b s σ H _ g Q I r ⟨_,_,rfl,.inr ⟨i,f,k.length⟩,ans d M (.int _)⟩
 |lst ts =>
  cases c;obtain⟨a,i,rfl,f,k⟩:=aX M h e;exact oz b s σ H _ g Q I r ⟨_,_,rfl,.inl ⟨i,.of f,k.length⟩,ans d M (.int _)⟩
 |dr ns =>
  cases c;obtain⟨a,rfl,f⟩:=(ak h e (λ_ z=>by cases z)).Em;exact oz b s σ H _ g Q I r ⟨_,_,rfl,.inl ⟨_,f.sq,by simp⟩,ans d M (.int _)⟩
 |_=>cases c
theorem Ea:dq X (.type "int") (rN X.K xr (nQ .int)):=by
 rintro d s σ H xs us Q I r ⟨cm,m,ws,M,rws,g⟩;obtain⟨w,v,t,rr,rfl,rfl,rv,e,f,g⟩:=xh rws (fH (by decide)) g;cases t with
 |int i =>
  cases f;cases(ak rv e (λ_ z=>by cases z)).bV;exact uY d s σ H _ us Q I r (.inl ⟨_,rfl,ans g M (.int _)⟩)
 |bl b =>
  cases f;cases(ak rv e (λ_ z=>by cases z)).Dt;exact uY d s σ H _ us Q I r (.inr ⟨_,rfl,ans g M (.int _)⟩)
 |str a =>
  have f:(if a≠[]/\a.length<=600/\a.all (λc=>decide (48<=c)&&decide (c<=57))=true then Zz (T.int (uq a))else Zy)=Zz rr:=f;split at f<;>cases f;rename_i hc;cases(ak rv e (λ_ z=>by cases z)).cQ;obtain⟨u,rfl,tt,rfl⟩:=vals1 r;have hd:NumText.AllDigits (⟨a.toArray⟩:Str).cps.toList:=λc hcm=>by
   have:=RP.mp hc.2.2 c (by simpa using hcm);rw[R6]at this;exact⟨Xa this.1,Xa this.2⟩
  have ht:=PySem.intText_digits hd (by simpa using hc.1) (by show a.toArray.size<=_;rw[R7];omega);refine W.KIN.call_text ht (by show a.toArray.size<=_;rw[R7];omega) ⟨.int (uq a),H,I.tok _,⟨s.toks,?_⟩,ans g M (.int _)⟩;rw[show(⟨a.toArray⟩:Str).cps.toList=a from by simp];rfl
 |_=>cases f
theorem DJ:dq X (.type "str") (rN X.K xr (nQ .str)):=by
 rintro pins s σ H xs us Q I r ⟨cm,m,ws,M,rws,ho⟩;obtain⟨w,v,t,rr,rfl,rfl,rv,e,eb,ho⟩:=xh rws (fH (by decide)) ho;cases t with
 |int i =>
  have eb:(if i.natAbs<2^250 then Zz (T.str (aO i))else Zy)=Zz rr:=eb;split at eb<;>cases eb;rename_i hc;cases(ak rv e (λ_ z=>by cases z)).bV;refine vv pins s σ H _ us Q I r ⟨i,rfl,?_,?_⟩
  ·by_cases h0:i.natAbs=0
   ·rw[h0];decide
   ·exact RU ((Nat.log2_lt h0).mpr hc) (by decide)
  ·have:=ans ho M (.str _)
   have e2:(⟨(aO i).toArray⟩:Str)=Wg (toString i):=(mB rfl).symm;rw[e2]at this;exact this
 |str cs =>
  cases eb;cases(ak rv e (λ_ z=>by cases z)).cQ;obtain⟨u,rfl,t,rfl⟩:=vals1 r;exact PySem.P.str_of_str ⟨.str _,H,I,⟨_,rfl⟩,ans ho M (.str _)⟩
 |_=>cases eb
theorem Hk(cs:List Nat):cH K cm m H (cs.map λc=>T.str [c]) (cs.map λc=>V.str ⟨#[c]⟩):=by
 induction cs with
 |nil=>exact .nil
 |cons c cs d=>exact .cons (.str [c]) d
theorem rU{x:Str}:∀(cs:List Nat) (k:Nat) (a:List Q7),a.length=cs.length->(∀(j:Nat) (v:Q7),a[j]?=Zz v->∃c u,cs[j]?=Zz c/\v=Ul ⟨#[c]⟩ u)->Vals (cs.map λc=>V.str ⟨#[c]⟩) a
 |[],_,[],_,_=>.nil
 |[],_,_::_,h,_=>by simp at h
 |_::_,_,[],h,_=>by simp at h
 |c::cs,k,v::a,d,h=>by
  obtain⟨g,u,f,e⟩:=h 0 v rfl;cases f;exact .cons ⟨u,e⟩ (rU (x:=x) cs k a (by simpa using d) λj w b=>h (j+1) w (by simpa using b))
theorem yX(f:X.calm=true):dq X (.type "tuple") (rN X.K xr (nQ .tuple)):=by
 rintro d s σ H xs us Q I r ⟨cm,m,ws,M,y,o⟩;obtain⟨w,v,t,rr,rfl,rfl,B,e,k,o⟩:=xh y (fH (by decide)) o;cases t with
 |tup ts =>
  cases k;obtain⟨a,p,rfl,i,C⟩:=(ak B e (λ_ z=>by cases z)).j4;exact lV d s σ H _ us Q I r ⟨a,p,rfl,.inr ⟨i,ans o M (.yj i C)⟩⟩
 |lst ts =>
  cases k;obtain⟨a,p,rfl,i,C⟩:=aX M B e;exact lV d s σ H _ us Q I r ⟨a,p,rfl,.inl ⟨.of i,λl hl=>mx o M C hl⟩⟩
 |str g =>
  change (if g.length<=lim then Zz (T.tup (g.map λc=>T.str [c]))else Zy)=Zz rr at k;split at k<;>cases k;rename_i hc;cases(ak B e (λ_ z=>by cases z)).cQ;obtain⟨u,rfl,ru⟩:=vals1 r;obtain⟨tk,rfl⟩:=ru;have hz:=aT;refine call_tuple_str (I.ok.hd f) ⟨g.toArray⟩ tk (λh' n h hk D=>?_) (by show g.toArray.size<=_;rw[R7];omega);obtain⟨i,h2⟩:=D;have I1:Inv X d σ H { s with heap:=h',toks:=n }:=I.kept hk;have A:=rU (x:=⟨g.toArray⟩) g 0 h.toList (by simpa using i) λj w hw=>by
   obtain⟨c,u,e1,e2⟩:=h2 j w (by simpa using hw);exact⟨c,u,by simpa using e1,e2⟩
  refine⟨.ref h'.objs.size,_,I1.laid (t':=n) (λb ob q=>R0 _ q) (RD _) ?_,rfl,mx o M (Hk g) (I1.hok.fresh (RD _))⟩;refine⟨by rw[Q8];omega,h.toList,A,?_⟩;have:=sn.new h' h.toList.toArray;simpa using this
 |_=>cases k
theorem Bz:dq X (.type "list") (rN X.K xr (nQ .list)):=by
 rintro b s σ H xs us Q I r ⟨cm,m,ws,M,f,c⟩;obtain⟨w,v,t,rr,rfl,rfl,rv,e,j,c⟩:=xh f (fH (by decide)) c;cases t with
 |tup ts =>
  cases j;obtain⟨a,d,rfl,i,g⟩:=(ak rv e (λ_ z=>by cases z)).j4;exact ng b s σ H _ us Q I r ⟨a,d,rfl,.inr i,λl h=>fZ c M g h⟩
 |lst ts =>
  cases j;obtain⟨a,d,rfl,i,g⟩:=aX M rv e;exact ng b s σ H _ us Q I r ⟨a,d,rfl,.inl (.of i),λl h=>fZ c M g h⟩
 |_=>cases j
theorem cH.bools:∀{ts:List T}{b:List V}{a:List Bool},cH K cm m H ts b->em ts=Zz a->b=a.map V.bl
 |[],_,_,.nil,e=>by cases e;rfl
 |t::ts,_,a,.cons r d,e=>by
  cases t with
  |bl c =>
   unfold em at e;cases q:em ts with
   |none=>rw[q]at e;cases e
   |some f =>
    rw[q]at e;cases e;cases RT.Dt r;rw[cH.bools d q];rfl
  |_=>cases e
theorem ms:∀{a:List Bool}{us:List Q7},Vals (a.map V.bl) us->us=a.map Sf
 |[],_,.nil=>rfl
 |b::a,_,.cons r c=>by
  cases r;rw[ms c];rfl
theorem CI{s:R1}{h':Rj}(c:∀b x,b∉[s.heap.objs.size]->(s.heap.push o).get? b=Zz x->h'.get? b=Zz x):∀b x,s.heap.get? b=Zz x->h'.get? b=Zz x:=
 λb x e=>c b x (λa=>by rw[Ro.mp a]at e;exact SH _ (RM e)) (R0 _ e)
theorem EF{α:Type}(f:List α->Bool)(bs:List Bool)(d:Bool):(SA bs.length).map (λi=>(bs[i]?).getD d)=bs:=by
 apply List.ext_getElem?;intro i;rw[Ru];by_cases h:i<bs.length
 ·rw[List.getElem?_range h];simp[h]
 ·simp[h]
theorem C7(hc:X.calm=true):dq X (.builtin "all") (rN X.K xr (nQ .all)):=by
 rintro pins s σ H xs us Q I r ⟨cm,m,ws,M,x,n⟩;obtain⟨w,v,t,rr,rfl,rfl,rv,e,f,n⟩:=xh x (fH (by decide)) n;cases t with
 |lst p =>
  have f:(em p).map (λd=>T.bl (d.all id))=Zz rr:=f;cases q:em p with
  |none=>rw[q]at f;cases f
  |some d =>
   rw[q]at f;cases f;obtain⟨a,vs,rfl,h1,B⟩:=aX M rv e;obtain⟨u,rfl,y⟩:=vals1 r;cases y;obtain⟨D,g,C,hz⟩:=I.list (.of h1);cases cH.bools B q;cases ms g;have j:=C.isList;have h:a<s.heap.objs.size:=by obtain⟨_,e,_⟩:=j;exact RM e
   refine call_all_walk (Uy j ?_);refine⟨s.heap.objs.size,[s.heap.objs.size,a],[s.heap.objs.size],(d.map Sf).toArray.size,_,_,λi=>(d[i]?).getD true,rfl,Walks.list (A:=X.A.in1) (I.ok.hd hc) _ a (Rn h) (d.map Sf).toArray,
    ⟨⟨_,RH _ rfl,rfl,rfl⟩,j.push _⟩,λi v s' Q' E' hP k=>?_,λh' tk hk=>?_⟩
   ·have c:(d.map Sf)[i]?=Zz v:=by simpa using hP
    rw[Ru]at c;cases qq:d[i]? with
    |none=>rw[qq]at c;cases c
    |some b =>
     rw[qq]at c;cases c;dsimp only at k;rw[qq]at k;exact SI k
   ·have e:((SA (d.map Sf).toArray.size).all λi=>(d[i]?).getD true)=d.all id:=by
     rw[R7,Q8];have:=congrArg (λl=>l.all id) (EF (α:=Nat) (λ_=>true) d true);rw[<-this,U9];rfl
    rw[e];exact⟨.bl _,H,I.kept (CI hk),rfl,ans n M (.bl _)⟩
 |tup p =>
  have f:(em p).map (λd=>T.bl (d.all id))=Zz rr:=f;cases q:em p with
  |none=>rw[q]at f;cases f
  |some d =>
   rw[q]at f;cases f;obtain⟨a,vs,rfl,h1,B⟩:=RT.j4 (ak rv e (λ_ z=>by cases z));obtain⟨u,rfl,y⟩:=vals1 r;cases y;obtain⟨D,g,C,hz⟩:=I.tuple h1;cases cH.bools B q;cases ms g;have j:=C;have h:a<s.heap.objs.size:=by obtain⟨_,e,_⟩:=j;exact RM e
   refine call_all_walk (Ve j ?_);refine⟨s.heap.objs.size,[s.heap.objs.size,a],[s.heap.objs.size],(d.map Sf).toArray.size,_,_,λi=>(d[i]?).getD true,rfl,Walks.tuple (A:=X.A.in1) (I.ok.hd hc) _ a (Rn h) (d.map Sf).toArray,
    ⟨⟨_,RH _ rfl,rfl,rfl⟩,(let⟨o,n,r⟩:=j;⟨o,R0 _ n,r⟩)⟩,λi v s' Q' E' hP k=>?_,λh' tk hk=>?_⟩
   ·have c:(d.map Sf)[i]?=Zz v:=by simpa using hP
    rw[Ru]at c;cases qq:d[i]? with
    |none=>rw[qq]at c;cases c
    |some b =>
     rw[qq]at c;cases c;dsimp only at k;rw[qq]at k;exact SI k
   ·have e:((SA (d.map Sf).toArray.size).all λi=>(d[i]?).getD true)=d.all id:=by
     rw[R7,Q8];have:=congrArg (λl=>l.all id) (EF (α:=Nat) (λ_=>true) d true);rw[<-this,U9];rfl
    rw[e];exact⟨.bl _,H,I.kept (CI hk),rfl,ans n M (.bl _)⟩
 |_=>cases f
end
section
variable{K:Rs}{cm:List R3}{m:Mem}{H:Hp}{xr:XR}{X:Cx}{call:Nat->List W->Mem->Res W}{gv:List T}
variable{a b c e:Rm}{es:List Rm}{ea eb ec:E}{eas:Es}{pos p p2:Pos}
noncomputable def MK:Ty->String
 |.int=>"int"
 |.bool=>"bool"
 |.str=>"str"
 |.tuple=>"tuple"
 |.list=>"list"
 |.dict=>"dict"
noncomputable def PK:T->String
 |.non=>"NoneType"
 |.bl _=>"bool"
 |.int _=>"int"
 |.str _=>"str"
 |.tup _=>"tuple"
 |.lst _=>"list"
 |.dct _ _=>"dict"
 |.dr _=>"list"
theorem IY(t:T)(ty:Ty):PySem.W.kitOne K (.type (PK t)) (.type (MK ty))=Zz (cF t ty):=by cases t<;>cases ty<;>rfl
theorem Ix{E:Q7->R1->Prop}(I:Inv X pins σ H s)(M:aC X.K cm m H)(rx:RelV v u)(r:RW X.K cm m H w v)(ew:view w m=Zz t)(h:∀tk,Q (.bool (cF t ty)) { s with toks:=tk }):
  RK (RS X.prog X.w) A (U7 (.builtin "isinstance") [u,.type (MK ty)]) Q E s:=by
 have k:=IY (K:=X.K) t ty;have onL:∀(a:R3) (vs:List V),v=.ref a->qk X.K H a vs->PK t = "list"->RK (RS X.prog X.w) A (U7 (.builtin "isinstance") [u,.type (MK ty)]) Q E s:=λa vs e hq et=>by
  subst e;cases rx;obtain⟨its,_,pl,_⟩:=I.list hq;obtain⟨o,n,e,c,_⟩:=pl;rw[et]at k;exact Uf X3 I.qv ⟨o,e,c⟩ k (λz=>nomatch z) h
 cases t with
 |non=>cases(ak r ew (λ_ z=>by cases z)).HZ;exact i5 I rx .non k h
 |bl y=>cases(ak r ew (λ_ z=>by cases z)).Dt;exact i5 I rx (.bl y) k h
 |int i=>cases(ak r ew (λ_ z=>by cases z)).bV;exact i5 I rx (.int i) k h
 |str cs=>cases(ak r ew (λ_ z=>by cases z)).cQ;exact i5 I rx (.str _) k h
 |tup ts =>
  obtain⟨a,vs,rfl,h1,_⟩:=(ak r ew (λ_ z=>by cases z)).j4;cases rx;obtain⟨its,_,p,_⟩:=I.tuple h1;obtain⟨o,h1,h2,_⟩:=p;exact Uf PySem.W.kitx_tuple I.qv ⟨o,h1,h2⟩ k (λz=>nomatch z) h
 |lst ts =>
  obtain⟨a,vs,e,h1,_⟩:=aX M r ew;exact onL a vs e (.of h1) rfl
 |dr ns =>
  obtain⟨a,e,h1⟩:=(ak r ew (λ_ z=>by cases z)).Em;exact onL a _ e h1.sq rfl
 |dct ks ts =>
  have r':=ak r ew (λ_ z=>by cases z);cases r' with
  |dct q1 q2 q3 q4 q5=>exact i5 I rx (.dK q1) k h
noncomputable def O8(ty:Ty)(w:W)(m:Mem):Res W:=dy ((view w m).map λx=>.bl (cF x ty)) m
theorem Fl{ty:Ty}:dq X (.builtin "isinstance") (λxs H Q=>∃x,xs=[x,.ty (MK ty)]/\r1 X.K xr (O8 ty) x H Q):=by
 rintro pins s σ H xs us Q I r ⟨x,e,cm,m,w,M,rw',ho⟩;subst e;obtain⟨u1,u2,rfl,ru1,ru2⟩:=vals2 r;cases(ru2);obtain⟨t,et,ho⟩:=ci ho;cases q:view w m with
 |none=>rw[q]at et;cases et
 |some tw =>
  rw[q]at et;cases et;exact Ix I M ru1 rw' q λtk=>⟨.bl _,H,I.tok _,rfl,ans ho M (.bl _)⟩
theorem HY(r:PE X a (tE X.K call gv xr ea))(o:Gl X "isinstance")(n:X.mg "isinstance" = Zy)(c:Gl X x)(b:X.mg x=Zy)(k:Sw x=Zz (.type (MK ty)))(l:x≠"__name__":=by decide)(q:(x==("__debug__" : Str))=false:=by decide)(f:notStar a=true:=by rfl):
  PE X (.Call (.Name "isinstance" p) [a,.Name x p2] [] pos) (tE X.K call gv xr (.uo ea ty)):=by
 refine PE.mono (xL (Fl (ty:=ty) (xr:=xr)) o n (by decide +kernel) (qW r (qW (Jk (v:=.ty (MK ty)) c b k rfl l q) Aa (bq rfl)) (bq f)) (by decide) (by decide) (bq f) (ff rfl)) ?_;rintro σ H Q ⟨d,t,m,s,M,g⟩;rw[ev]at g;exact⟨d,t,m,s,M,g.bind.mono λw e j z y u i v h=>⟨v,rfl,e,j,w,u,h,i⟩⟩
inductive rM (K:Rs) (xr:XR) (b:Mt) (x:V) (xs:List V) (H:Hp) (Q:VK):Prop where
 |mk (cm m w ws) (_:aC K cm m H) (_:RW K cm m H w x) (_:Dx K cm m H ws xs) (_:aR K (Kr b w ws m) xr cm m H λw cm' m' H'=>∀v,RW K cm' m' H' w v->Q v H')
theorem rg(sep:List Nat):∀xs:List (List Nat),Wn ⟨sep.toArray⟩ (xs.map λc=>(⟨c.toArray⟩:Str))=⟨(ae sep xs).toArray⟩
 |[]=>rfl
 |[x]=>rfl
 |x::y::r=>by
  show(⟨x.toArray⟩:Str)++⟨sep.toArray⟩++Wn ⟨sep.toArray⟩ ((y::r).map λc=>(⟨c.toArray⟩:Str))=⟨(x++sep++ae sep (y::r)).toArray⟩
  rw[rg sep (y::r),Bh,Bh]
theorem cH.strs:∀{ts:List T}{b:List V}{a:List (List Nat)},cH K cm m H ts b->cC ts=Zz a->b=a.map λc=>V.str ⟨c.toArray⟩
 |[],_,_,.nil,e=>by cases e;rfl
 |t::ts,_,a,.cons r f,e=>by
  cases t with
  |str c =>
   unfold cC at e;cases q:cC ts with
   |none=>rw[q]at e;cases e
   |some g =>
    rw[q]at e;cases e;cases RT.cQ r;rw[cH.strs f q];rfl
  |_=>cases e
theorem i6:∀{a:List (List Nat)}{us:List Q7},Vals (a.map λc=>V.str ⟨c.toArray⟩) us->XC us (a.map λc=>(⟨c.toArray⟩:Str))
 |[],_,.nil=>.nil
 |b::a,_,.cons ⟨t,e⟩ d=>by
  cases e;exact .cons _ t (i6 d)
theorem iL(h:views ws m=Zz [t]):∃w,ws=[w]/\view w m=Zz t:=by
 cases ws with
 |nil=>cases h
 |cons w ws =>
  unfold views at h;cases q1:view w m with
  |none=>rw[q1]at h;cases h
  |some t1 =>
   rw[q1]at h;have h:=h;cases q2:views ws m with
   |none=>rw[q2]at h;cases h
   |some ts =>
    rw[q2]at h;cases h;cases ws with
    |nil=>exact⟨w,rfl,by rw[q1]⟩
    |cons d ws =>
     unfold views at q2;cases q3:view d m with
     |none=>rw[q3]at q2;cases q2
     |some t3 =>
      rw[q3]at q2;cases q4:views ws m with
      |none=>rw[q4]at q2;cases q2
      |some t4=>rw[q4]at q2;cases q2
theorem sV{b:Mt}(h:aR K (dy ((view w m).bind λx=>(views ws m).bind λts=>iV b x ts) m) xr cm m H k):∃x ts t,view w m=Zz x/\views ws m=Zz ts/\iV b x ts=Zz t/\aR K (.ok (.t t) m) xr cm m H k:=by
 obtain⟨t,e,ho⟩:=ci h;cases q1:view w m with
 |none=>rw[q1]at e;cases e
 |some x =>
  cases q2:views ws m with
  |none=>rw[q1,q2]at e;cases e
  |some ts=>rw[q1,q2]at e;exact⟨x,ts,t,rfl,rfl,e,ho⟩
theorem yM{sep:List Nat}{a:List (List Nat)}(e:(a.map Rf).sum+a.length*sep.length<=lim):((a.map λc:List Nat=>(⟨c.toArray⟩:Str)).map (·.length)).sum+(a.map λc:List Nat=>(⟨c.toArray⟩:Str)).length*(⟨sep.toArray⟩:Str).length<=16777216:=by
 rw[Re,fS,Q8];have d:((λx:Str=>x.length) ∘ λc:List Nat=>(⟨c.toArray⟩:Str))=Rf:=by funext c;exact fS c
 have f:(lim:Nat)<=16777216:=by decide
 rw[d];omega
theorem Ca(sep:List Nat)(a:List (List Nat))(t:Tok):Ul (Txt.join ⟨sep.toArray⟩ (a.map λc=>⟨c.toArray⟩)) t=.str ⟨(ae sep a).toArray⟩ t:=by
 unfold Txt.join;rw[StrLaws.glued_eq_join,rg]
theorem MF(h:ik (Cp f) ts=Zz t):∃ys,f ys=Zz t/\(ts=[.lst ys]∨ts=[.tup ys]):=by
 rcases ts with _|⟨x,_|⟨y,r⟩⟩
 ·cases h
 ·cases x<;>first|exact⟨_,h,.inl rfl⟩|exact⟨_,h,.inr rfl⟩|cases h
 ·cases h
theorem Gg:KA X "str.join" (rM X.K xr .join):=by
 rintro pins s σ H x xs v us Q I rx rs ⟨cm,m,w,ws,M,rw',rws,ho⟩;obtain⟨tw,ts,t,q1,q2,e0,h⟩:=sV ho;clear ho;cases tw with
 |str b =>
  obtain⟨f,e,hs⟩:=MF (show ik (Cp λxs=>(cC xs).bind λf=>if(f.map Rf).sum+f.length*b.length<=lim then Zz (T.str (ae b f))else Zy) ts=Zz t from e0);clear e0;cases q3:cC f with
  |none=>rw[q3]at e;cases e
  |some c =>
   rw[q3]at e;have e:(if(c.map Rf).sum+c.length*b.length<=lim then Zz (T.str (ae b c))else Zy)=Zz t:=e;split at e<;>cases e;rename_i hc;cases(ak rw' q1 (λ_ z=>by cases z)).cQ;obtain⟨tt,rfl⟩:=rx;rcases hs with rfl|rfl<;>obtain⟨w1,rfl,q4⟩:=iL q2<;>obtain _|⟨rv,_|_⟩:=rws<;>obtain⟨u,rfl,ru⟩:=vals1 rs
   ·obtain⟨a,vs,rfl,h1,r1⟩:=aX M rv q4
    cases ru;obtain⟨its,d,pl,hz⟩:=I.list (.of h1);cases cH.strs r1 q3;exact join_list pl.isList (i6 d) (yM hc) λg k=>⟨.str ⟨(ae b c).toArray⟩,H,I.tok _,⟨g,Ca b c g⟩,ans h M (.str _)⟩
   ·obtain⟨a,vs,rfl,h1,r1⟩:=(ak rv q4 (λ_ z=>by cases z)).j4
    cases ru;obtain⟨its,d,pl,hz⟩:=I.tuple h1;cases cH.strs r1 q3;exact join_tuple pl (i6 d) (yM hc) λg k=>⟨.str ⟨(ae b c).toArray⟩,H,I.tok _,⟨g,Ca b c g⟩,ans h M (.str _)⟩
 |_=>cases e0
theorem ty_str{b:Mt}(d:b=.join)(r:RW K cm m H w v)(h:xX b w m=true):ML K "str" v H:=by
 have a:(match view w m with|some (.str _)=>true|_=>false)=true:=by
  subst d;exact h
 split at a
 ·rename_i cs e
  cases(ak r e (λ_ z=>by cases z)).cQ;rfl
 ·cases a
theorem Ao(a:notStar e=true):((backTo cpos (S8 [e] X.env)).all (λx=>!x.1)&&(XG cpos (Wt [] X.env)).all (λx=>x.1.isSome)
  && decide ([e].length+([]:List WU).length+(if([]:List WU).isEmpty then 0 else 1)<30))=true:=by
 rw[v7 (by rw[TU,a];rfl)];rfl
theorem G7(z:PE X o (tE X.K call gv xr ea))(A:PA X [e] (tA X.K call gv xr eas))(b:TV o "join" X.env (eval o X.env)=eval o X.env:=by rfl)(a:(apos.endLine==cpos.line)=true:=by rfl)(k:notStar e=true:=by rfl):
  PE X (.Call (.Attribute o "join" apos) [e] [] cpos) (tE X.K call gv xr (.eP .join ea eas)):=by
 refine PE.mono (sO TN PySem.F.slot_str_join PySem.F.type_str_join (Gg (xr:=xr)) z A b (Ao k) a (bq k) (ff rfl)) ?_;rintro σ H Q ⟨c,B,m,n,M,l⟩;rw[ev]at l;refine⟨c,B,m,n,M,l.bind.mono λw h x E r i f v j=>?_⟩;obtain⟨y,f⟩:=jg f;refine⟨ty_str rfl j y,c,h,x,n.ext r M i,i,f.bind.mono λs g u D q p t C d=>?_⟩;exact⟨g,u,w,s,p,j.ext q i p,d,t⟩
structure At (X:Cx) (call:Nat->List W->Mem->Res W) (gv:List T) (e:Rm) (a:E) (f:L2.St->Option V):Prop where
 pe:PE X e (λσ H Q=>∃v,f σ=Zz v/\Q v H)
 rd:∀env cm m H σ,bg X.K cm m H env σ->(∃w v,ev call gv a env m=.ok w m/\f σ=Zz v/\RW X.K cm m H w v)∨ev call gv a env m=.stuck
theorem mE{j}:At X call gv (.Constant (.int i) j pos) (.con (.int i)) (λ_=>Zz (.int i)):=
 ⟨PE.mono G4 λσ H Q ⟨v,e,q⟩=>by cases e;exact q,λa c m H σ b=>.inl ⟨.t (.int i),_,by rw[ev],rfl,RT.int i⟩⟩
theorem zN(hg:Gl X "range")(hm:X.mg "range" = Zy)(ha:PA X [a] (tA X.K call gv xr eas))(hs:notStar a=true:=by rfl):PI X tg (.Call (.Name "range" p) [a] [] pos) (tI X.K call gv xr (.blt .dm eas)):=by
 refine PI.mono (Dg hg hm ha (bq hs)) ?_;rintro σ H R ⟨d,cm,m,hE,M,f⟩;rw[ev]at f;refine⟨d,cm,m,hE,M,f.bind.mono λws cm1 m1 H1 x1 M1 n vs c=>?_⟩;obtain⟨w,v,t,h,rfl,rfl,g,e,b,l⟩:=xh c (fH (by decide)) n;cases t with
 |int i =>
  change (if i<2^62/\-(2^62)<=i then Zz (T.lst (rangeT 0 i.toNat))else Zy)=Zz h at b;split at b<;>cases b;rename_i hc;cases(ak g e (λ_ z=>by cases z)).bV;obtain⟨ts,m2,k,j⟩:=aR.now l M1;cases k;exact⟨_,rfl,hc.2,hc.1,j _ (.Hr 0 _)⟩
 |_=>cases b
end
section
variable(K:Rs) (call:Nat->List W->Mem->Res W) (gv:List T) (xr:XR)
def sQ(n:Nat)(D:Ends)(fl:Flow)(cm:List R3)(m:Mem)(H:Hp):Prop:=match fl with
 |.next env=>∀σ:L2.St,σ.length=n->bg K cm m H env σ->D.nx σ H
 |.ret w=>∀v,RW K cm m H w v->D.rt v H
inductive tS (n:Nat) (s:S) (D:Ends) (σ:L2.St) (H:Hp):Prop where
 |mk (_:σ.length=n) (env cm m) (_:bg K cm m H env σ) (_:aC K cm m H) (_:aR K (ex call gv s env m) xr cm m H λfl cm' m' H'=>sQ K n D fl cm' m' H')
end
section
variable{K:Rs}{cm:List R3}{m:Mem}{H:Hp}{xr:XR}{X:Cx}{call:Nat->List W->Mem->Res W}{gv:List T}
variable{a b c e:Rm}{es:List Rm}{ea eb ec:E}{eas:Es}{pos p p2:Pos}{rest:List Rt}{k:S}{n:Nat}
theorem dh.mono(h:dh X sts t)(f:∀D σ H,t' D σ H->t D σ H):dh X sts t':=λa s σ H D I q=>h a s σ H D I (f D σ H q)
theorem Hi:dh X [] (tS X.K call gv xr n .done):=dh.mono Ja λD σ H ⟨b,d,e,m,c,M,a⟩=>by
 rw[ex]at a;exact aR.now a M σ b c
theorem GN(h:PE X e (tE X.K call gv xr ea)):dh X (.Return (Zz e) pos::rest) (tS X.K call gv xr n (.ret ea k)):=dh.mono (cz (Lp h) Et) λD σ H ⟨p,a,i,m,f,M,b⟩=>by
 rw[ex]at b;exact⟨a,i,m,f,M,b.bind.mono λw g o q l j d v c=>aR.now d j v c⟩
theorem Eo(h:PE X e (tE X.K call gv xr ea))(p:dh X rest (tS X.K call gv xr n k))(l:V6 e Zy pos.line X.env=pure false:=by rfl):dh X (.Expr e pos::rest) (tS X.K call gv xr n (.expr ea k)):=dh.mono (cz (JE h l) p) λD σ H ⟨o,a,q,m,d,M,c⟩=>by
 rw[ex]at c;exact⟨a,q,m,d,M,c.bind.mono λw b j s g f i v r=>⟨o,a,b,j,d.ext g M f,f,i⟩⟩
theorem EM(hN:X.N.Nodup)(hn:X.N.length=n)(hi:X.N[i]?=Zz x)(hx:Loc X.env.scope x)(h:PE X e (tE X.K call gv xr ea))(hk:dh X rest (tS X.K call gv xr n k))(hs:V6 e (Zz (.Name x px)) pos.line X.env=pure false:=by rfl)(hf:X.fn x=true∨X.env.scope.names.lookup x=Zz .local:=by first|exact .inl rfl|exact .inr rfl|assumption):dh X (.Assign [.Name x px] e pos::rest) (tS X.K call gv xr n (.asg i ea k)):=dh.mono (cz (Mh hN hi hx h hs hf) hk) λD σ H ⟨hl,env,cm,m,hE,M,ho⟩=>by
 rw[ex]at ho;have hi':i<σ.length:=by rw[hl,<-hn];exact(RA.mp hi).1
 exact⟨env,cm,m,hE,M,ho.bind.mono λw cm1 m1 H1 x1 M1 o1 v rv=>⟨by rw[SR];exact hl,env.set i (Zz w),cm1,m1,bg.set (hE.ext x1 M M1) rv i hi',M1,o1⟩⟩
theorem Fs(hv:PE X v (tE X.K call gv xr ev'))(ho:PE X o (tE X.K call gv xr eo))(hi:PE X i (tE X.K call gv xr ei))(hk:dh X rest (tS X.K call gv xr n k))(ha:∀v,assign (.Subscript o i tp) X.env v=(do
   let ov <-Vn [v] (eval o X.env)
   let iv <-Vn [v,ov] (eval i X.env)
   Uw tp
   Vn [v,ov,iv] (setItem ov iv v)
   release [v,ov,iv] []):=by intro _;rfl)(hs:Vt [.Subscript o i tp] v pos.line X.env=pure false:=by rfl)(hw:Vu [.Subscript o i tp] v X.env=pure Zy:=by rfl)(h1:(RJ [.Subscript o i tp] X.env).map (·.2)=[assign (.Subscript o i tp) X.env]:=by rfl):dh X (.Assign [.Subscript o i tp] v pos::rest) (tS X.K call gv xr n (.set eo ei ev' k)):=
 dh.mono (cz (zF hv (Ll ho hi set_list ha) hs hw h1) hk) λD σ H ⟨hl,e,cm,m,hE,M,hq⟩=>by
  rw[ex]at hq;refine⟨e,cm,m,hE,M,hq.bind.mono λz cm1 m1 H1 x1 M1 o1 vz rz=>?_⟩;refine⟨e,cm1,m1,hE.ext x1 M M1,M1,o1.bind.mono λx cm2 m2 H2 x2 f o2 vx rx=>?_⟩;refine⟨e,cm2,m2,(hE.ext x1 M M1).ext x2 M1 f,f,o2.bind.mono λy cm3 m3 H3 x3 M3 d vy ry=>?_⟩;unfold setM at d;split at d
  ·rename_i cc kk
   cases q:lR z m3 with
   |stuck=>rw[q]at d;exact d.elim
   |exc e' m'=>exact XZ q ve
   |ok t m4 =>
    rw[q]at d;obtain⟨x4,M4,r4⟩:=AR M3 ((rz.ext x2 M1 f).ext x3 f M3) q;have rx':=(rx.ext x3 f M3).ext x4 M3 M4;cases RT.bV ry;obtain⟨a,ha1,rfl⟩:=rx';have d:aR X.K ((match m4[cc]? with
     |some (Zz (false,xs))=>match jq xs.length kk with
      |some j=>Res.ok () (m4.set cc (Zz (false,xs.set j t)))
      |none=>.stuck
     |_=>.stuck).bind λ_ m=>ex call gv k e m) xr cm3 m3 H3 _:=d
    split at d
    ·rename_i xs e1
     split at d
     ·rename_i j e2
      obtain⟨b,vs,q1,q2,q3,q4⟩:=M4.at' cc _ e1;rw[ha1]at q1;cases q1;have l4:=q4.length;obtain⟨x5,M5⟩:=mG M4 e1 ha1 (sK r4 j q4);refine⟨a,vs,kk,j,rfl,rfl,q2,by rw[<-l4];exact e2,?_⟩;have xx:=(x4.trans x5)
      exact⟨hl,e,cm3,_,(((hE.ext x1 M M1).ext x2 M1 f).ext x3 f M3).ext xx M3 M5,M5,aR.shift (d) xx⟩
     ·exact d.elim
    ·exact d.elim
  ·exact d.elim
theorem bind_assoc{α β γ:Type}(r:Res α)(f:α->Mem->Res β)(g:β->Mem->Res γ):(r.bind f).bind g=r.bind λa m=>(f a m).bind g:=by cases r<;>rfl
theorem HM{A B:List Rt}(hc:PT X c (tT X.K call gv xr ec))(ha:dh X A (tS X.K call gv xr n sa))(hb:dh X B (tS X.K call gv xr n sb))(hk:dh X rest (tS X.K call gv xr n k)):dh X (.If c A B pos::rest) (tS X.K call gv xr n (.bI ec sa sb k)):=
 dh.mono (cz (NE hc ha hb) hk) λD σ H ⟨hl,env,cm,m,hE,M,ho⟩=>by
  rw[ex,<-bind_assoc]at ho;refine⟨env,cm,m,hE,M,ho.bind.mono λt cm1 m1 H1 x1 M1 o1=>?_⟩;have go:∀s:S,aR X.K ((ex call gv s env m1).bind λfl m=>match fl with|.next env=>ex call gv k env m|fl=>.ok fl m) xr cm1 m1 H1 (λfl cm' m' H'=>sQ X.K n D fl cm' m' H')->tS X.K call gv xr n s { D with nx:=tS X.K call gv xr n k D } σ H1:=λs o=>by
   refine⟨hl,env,cm1,m1,hE.ext x1 M M1,M1,o.bind.mono λfl cm2 m2 H2 x2 M2 o2=>?_⟩;cases fl with
   |next env'=>exact λσ' hl' hE'=>⟨hl',env',cm2,m2,hE',M2,o2⟩
   |ret w=>exact aR.now (xr:=xr) o2 M2
  cases t with
  |true=>exact yf (go sa o1)
  |false=>exact xW (go sb o1)
theorem iA:∀(b:List Nat) (a:List V) (σ:L2.St),(cr b a σ).length=σ.length
 |[],_,_=>by unfold cr;rfl
 |_::_,[],_=>by unfold cr;rfl
 |i::b,v::a,σ=>by unfold cr;rw[iA,SR]
theorem Fj(h:gT K tg v σ H Q):gT K tg v σ H λb H'=>b.length=σ.length/\Q b H':=by
 cases tg with
 |nm i=>exact⟨SR,h⟩
 |tp is =>
  obtain⟨a,c,g,f,e,d⟩:=h;exact⟨a,c,g,f,e,iA _ _ _,d⟩
theorem bg.same(h:bg K cm m H env σ)(f:∀t v,RT K cm m H t v->RT K cm m' H t v):bg K cm m' H env σ:=λi w e=>by
 obtain⟨v,h1,h2⟩:=h i w e;refine⟨v,h1,?_⟩;cases w with
 |t t=>exact f t v h2
 |x _ _ _=>exact XF.Kn f h2
 |c i=>exact h2
theorem GR(hc:X.calm=true)(hp:WR (RS X.prog X.w) X.A X.env X.xe)(hi:PI X tgt iter (tI X.K call gv xr it))(hg:PG X tgt (gT X.K tg))(ht:∀i∈lO tg,i<n)(hb:dh X body (tS X.K call gv xr n sb))(hk:dh X rest (tS X.K call gv xr n k))(hs:∀x,Sl iter X.env x=pure x:=by intro _;rfl):dh X (.For tgt iter body [] pos::rest) (tS X.K call gv xr n (.Bb tg it sb k)):=
 dh.mono (cz (Lo hp hc hi hg hb hs) hk) λD σ0 H0 ⟨hl0,env0,cm0,m0,hE0,M0,ho⟩=>by
  rw[ex]at ho;refine⟨env0,cm0,m0,hE0,M0,ho.bind.mono λx cm1 m1 H1 x1 M1 o1=>?_⟩;cases hbr:bc x m1 with
  |stuck=>rw[hbr]at o1;exact o1.elim
  |exc e' m' =>
   exfalso;unfold bc at hbr;split at hbr<;>first|(cases hbr;done)|(split at hbr<;>cases hbr)
  |ok ts m2 =>
   rw[hbr]at o1;obtain⟨xb,Mb⟩:=oO M1 hbr
   let g:Flow->Mem->Res Flow:=λfl m=>match fl with
    |.next env=>ex call gv k env (giveBack x m1 m)
    |.ret w=>.ok (.ret w) (giveBack x m1 m)
   have o1:aR X.K ((ca (λenv m=>ex call gv sb env m) tg ts env0 m2).bind g) xr cm1 m1 H1 (λfl cm' m' H'=>sQ X.K n D fl cm' m' H'):=o1;refine⟨ts,m2,rfl,λJ hJ=>?_⟩
   let P:Flow->List R3->Mem->Hp->Prop:=λfl _ m' _=>aR X.K (g fl m') xr cm1 m1 H1 (λfl cm' m' H'=>sQ X.K n D fl cm' m' H')
   -- behind the walk
   have fin:∀env cm m H σ,σ.length=n->bg X.K cm m H env σ->aC X.K cm m H->dJ cm1 m2 H1 cm m H->P (.next env) cm m H->tS X.K call gv xr n k D σ H:=λenv cm m H σ hl hE M xx hP=>by
    obtain⟨xg,Mg,fg⟩:=lL M1 hbr xx M;exact⟨hl,env,cm,_,bg.same hE fg,Mg,aR.shift (hP) xg⟩
   refine⟨λi μ σ H=>μ=ts.length-i/\σ.length=n/\∃env cm m,bg X.K cm m H env σ/\aC X.K cm m H/\dJ cm1 m2 H1 cm m H/\aR X.K (ca (λenv m=>ex call gv sb env m) tg (ts.drop i) env m) xr cm m H P,⟨ts.length-0,rfl,hl0,env0,cm1,m2,(hE0.ext x1 M0 M1).ext xb M1 Mb,Mb,.refl,?_⟩,?_⟩
   ·rw[Vf]
    exact aR.shift o1.Ko xb
   ·rintro i μ σ H ⟨rfl,hl,env,cm,m,hE,M,xx,hq⟩
    have sJ:=hJ.ext xx Mb M;cases e:ts[i]? with
    |none =>
     have ed:=List.drop_eq_nil_iff.mpr (UX.mp e);rw[ed,ca]at hq;exact .inl ⟨sJ.stop M e,fin env cm m H σ hl hE M xx (aR.now hq M)⟩
    |some t =>
     have hlt:=(RA.mp e).1;have ed:ts.drop i=t::ts.drop (i+1):=by
      rw[Su hlt];rw[(RA.mp e).2]
     rw[ed,ca]at hq;obtain⟨go,hy⟩:=sJ.go M e;refine .inr ⟨go,λσ' H'=>σ'.length=n/\∃env cm m,bg X.K cm m H' env σ'/\aC X.K cm m H'/\dJ cm1 m2 H1 cm m H'/\aR X.K (ca (λenv m=>ex call gv sb env m) tg (ts.drop (i+1)) env m) xr cm m H' P,
      λσ' H' hN=>⟨ts.length-(i+1),by omega,rfl,hN⟩,λv H' y=>?_⟩
     obtain⟨xy,My,rt⟩:=hy v H' y;have hE:=hE.ext xy M My;have xx:=xx.trans xy;have hq:=aR.shift hq xy;have M:=My;split at hq
     ·exact hq.elim
     ·rename_i env' eb
      have:=Fj (Gj (Q:=λσ' H2=>H2=H'/\bg X.K cm m H' env' σ') hE (λj hj=>by rw[hl];exact ht j hj) rt eb λσ' hE' _=>⟨rfl,hE'⟩);have mono:∀{Q Q':L2.St->Hp->Prop},gT X.K tg v σ H' Q->(∀σ' H',Q σ' H'->Q' σ' H')->gT X.K tg v σ H' Q':=λ{Q Q'} h f=>by
       cases tg with
       |nm j=>exact f _ _ h
       |tp is =>
        obtain⟨a1,xs,z1,z2,z3,z4⟩:=h;exact⟨a1,xs,z1,z2,z3,f _ _ z4⟩
      refine mono this ?_;rintro σ2 H2 ⟨hl2,e2,hE2⟩;subst e2;refine⟨hl2.trans hl,env',cm,m,hE2,M,hq.bind.mono λfl cm3 m3 H3 x3 M3 o3=>?_⟩;cases fl with
      |next env3=>exact λσ3 hl3 hE3=>⟨hl3,env3,cm3,m3,hE3,M3,xx.trans x3,o3⟩
      |ret w =>
       intro v3 rv3;have hP:=aR.now o3 M3;obtain⟨xg,Mg,fg⟩:=lL M1 hbr (xx.trans x3) M3;refine aR.to (m':=giveBack x m1 m3) hP xg Mg v3 ?_;cases w with
       |t t=>exact fg t v3 rv3
       |x _ _ _=>exact XF.Kn fg rv3
       |c j=>exact rv3
theorem nI
  (hc:X.calm=true) (kk:y1 X MJ call gv N' scope own keep elt target iter ifs gs it tg cs inner) (hN:X.N.Nodup) (hn:X.N.length=n) (hi:X.N[i]?=Zz x) (hx:X.env.scope.names.lookup x=Zz .local)
  (hk:dh X rest (tS X.K call gv xr n k))
  (hsw:V6 (.ListComp elt (⟨target,iter,ifs,0⟩::gs) scope pos) (Zz (.Name x px)) spos.line X.env=pure true:=by rfl):
  dh X (.Assign [.Name x px] (.ListComp elt (⟨target,iter,ifs,0⟩::gs) scope pos) spos::rest) (tS X.K call gv xr n (.asg i (.comp own keep it tg cs inner) k)):=by
 have h1:PS X (.Assign [.Name x px] (.ListComp elt (⟨target,iter,ifs,0⟩::gs) scope pos) spos) (λD σ H=>∃env cm m m' out,bg X.K cm m H env σ/\aC X.K cm m H/\ev call gv (.comp own keep it tg cs inner) env m=.ok (.t (.lst out)) m' /\
   ∀(p:R3) (H3:Hp) (cm3:List R3) (vs:List V),H3 p=Zy->X.K.lookup p=Zy->dJ cm m H cm3 m' H3->aC X.K cm3 m' H3->cH X.K cm3 m' H3 out vs->D.nx (σ.set i (Zz (.ref p))) (upd H3 p (.lst vs))):=
  λpins s σ H D I ⟨env,cm,m,m',out,hE,M,ok,q⟩=>zl hc kk hN hi hx hsw I hE M ok q
 refine dh.mono (cz h1 hk) ?_;rintro D σ H ⟨hl,env,cm,m,hE,M,ho⟩;rw[ex]at ho;cases h:ev call gv (.comp own keep it tg cs inner) env m with
 |stuck=>rw[h]at ho;exact ho.elim
 |exc e m'=>exact XZ h (mO e m')
 |ok w m' =>
  obtain⟨out,rfl⟩:=pv h;rw[h]at ho;refine⟨env,cm,m,m',out,hE,M,h,λp H3 cm3 vs hp _ x3 M3 r3=>?_⟩;have hi':i<σ.length:=by rw[hl,<-hn];exact(RA.mp hi).1
  have x4:=x3.trans (dJ.new (o:=.lst vs) hp);have M4:=M3.new (o:=.lst vs) hp;exact⟨by rw[SR];exact hl,_,cm3,m',bg.set (w:=.t (.lst out)) (hE.ext x4 M M4) (RT.AY M3 r3 hp) i hi',M4,aR.shift (ho) x4⟩
end
def NB(h:Rj)(e:R3)(mk hd:Q7):Prop:=hd=.none∨∃T oT ts,hd=.ref T/\T≠e/\h.get? T=Zz oT/\oT.data=.fields ts/\ts[3]?=Zz mk
theorem n6{o:Obj}(h:o.data=.fields vs)(f:Array Q7->Array Q7):o.mapFields f={ o with data:=.fields (f vs) }:=by
 obtain⟨c,d,e,b⟩:=o;cases h;rfl
structure Ki (fr:List R3) (h:Rj) (e:R3) (oe:Obj) (mk:Q7) (h':Rj):Prop where
 keep:∀b o,b∉fr->b≠e->h.get? b=Zz o->h'.get? b=Zz o
 slot:∀b o,b∈fr->h.get? b=Zz o->∃sl,h'.get? b=Zz { o with slots:=sl }
 new:∃T oT ts vs,h.get? T=Zy/\T≠e/\h'.get? T=Zz oT/\oT.data=.fields ts/\ts[3]?=Zz mk/\h'.get? e=Zz { oe with data:=.fields vs }/\vs[1]?=Zz (.ref T)
section
variable{M:Ww}{A:SO}{E:Q7->R1->Prop}{s:R1}{base:Rj}{env:T6}{outer:List T6}{L e:R3}{oe:Obj}{vs:Array Q7}{hd:Q7}{Q:Unit->R1->Prop}
theorem BY{before:Bool}(hfr:A.frames=Zz (env::outer))(hl:s.heap.FunFrames base (env::outer))(hf:env.frame=Zz L)(he:s.heap.get? e=Zz oe)(hv:oe.data=.fields vs)(h1:1<vs.size)(k:∀h':Rj,Ki (frs (env::outer)) s.heap e oe (rawInt L) h'->Q () { s with heap:=h' }):
  RK M A (do
   let a <-frameOf env
   let pl <-entryPlaceOf L before
   let b <-EntryCells.newEntry hd a .none (rawInt L) .none pl
   XI (.ref e) 1 b) Q E s:=by
 have ne:e∉frs (env::outer):=λhm=>by
  obtain⟨_,o,q,nf⟩:=hl.mem hm;rw[he]at q;cases q;exact nf vs hv
 refine Q6 (wpAny_frameOf_fun hfr hl hf λf so=>?_);refine Q6 (wpAny_entryPlaceOf λpl hp=>?_);unfold EntryCells.newEntry newFields;refine Q6 (S9 ?_ (hp.sizeOk5 _ _ _ _ _));have e1:=(so.2.1 e ne).trans he;generalize hob:({ cls:=.type "traceback",dict:=Zy,data:=.fields ([hd,.ref L,.none,rawInt L,.none]++(if pl.isEmpty then RF 6 TY else pl)).toArray }:Obj)=ob;have e2:=R0 ob e1;have obf:ob.isFreed=false:=by rw[<-hob];rfl
 refine SW e2 hv h1 (k _ ?_);have nT:=UQ (RM e1);have kp:∀b o,b≠e->f.get? b=Zz o->((f.push ob).update e (UF (·.setIfInBounds 1 (Sn f.objs.size)))).get? b=Zz o:=λb o hb q=>by
  rw[S0 _ _ (Sj hb)];exact R0 _ q
 refine⟨λb o hb hbe q=>kp b o hbe ((so.2.1 b hb).trans q),λb o hb q=>?_,?_⟩
 ·obtain⟨sl,z⟩:=so.2.2 b o q
  exact⟨sl,kp b _ (λy=>ne (y▸hb)) z⟩
 ·refine⟨f.objs.size,ob,_,vs.setIfInBounds 1 (Sn f.objs.size),VG (by rw[so.1];exact RD _),nT,?_,by rw[<-hob],?_,?_,?_⟩
  ·rw[S0 _ _ (Sj nT)]
   exact RH _ obf
  ·simp
  ·rw[S4 _ e2 (Sb (S3 hv _)),n6 hv]
  ·simp[h1]
theorem KN(a:A.frames=Zz (env::outer))(hl:s.heap.FunFrames base (env::outer))(d:env.frame=Zz L)(f:s.heap.get? e=Zz oe)(c:oe.data=.fields vs)(h1:vs[1]?=Zz hd)(ah:NB s.heap e .none hd)(k:∀h':Rj,Ki (frs (env::outer)) s.heap e oe (rawInt L) h'->Q () { s with heap:=h' }):RK M A (W7 (.ref e) env) Q E s:=by
 have hz:=(Tc.mp h1).1;unfold W7;simp only[d];refine Q6 (SL f c h1 ?_);rcases ah with rfl|⟨T,oT,ts,rfl,ne,hT,dT,b⟩
 ·rw[XV (by decide)]
  exact BY a hl d f c hz k
 ·rw[XU (by simp)]
  refine Q6 (SL hT dT b ?_);rw[XV (by simp[rawInt])];refine Q6 (SW hT dT (Tc.mp b).1 ?_);rw[Heap.update_setField_same s.heap T oT ts 3 .none hT dT b];exact BY a hl d f c hz k
theorem EY{T:R3}{oT:Obj}{ts:Array Q7}{mk:Q7}(he:s.heap.get? e=Zz oe)(hv:oe.data=.fields vs)(h1:vs[1]?=Zz (.ref T))(hT:s.heap.get? T=Zz oT)(dT:oT.data=.fields ts)(mT:ts[3]?=Zz mk)(k:∀h':Rj,(∀b,b≠T->h'.get? b=s.heap.get? b)->h'.get? T=Zz { oT with data:=.fields (ts.setIfInBounds 3 .none) }->Q () { s with heap:=h' }):RK M A (X9 (.ref e) Zy) Q E s:=by
 unfold X9;refine Q6 (SL he hv h1 ?_);rw[XU (by simp)];refine SW hT dT (Tc.mp mT).1 (k _ (λb hb=>S0 _ _ (Sj hb)) ?_);rw[S4 _ hT (Sb (S3 dT _)),n6 dT];rfl
end
def OL(e C:R3)(dx:Option R3)(hd:Q7)(h:Rj):Prop:=∃oe vs,h.get? e=Zz oe/\oe.cls=.ref C/\oe.dict=dx/\oe.data=.fields vs/\vs[1]?=Zz hd
def O2(T:R3)(h:Rj):Prop:=∃oT ts,h.get? T=Zz oT/\oT.data=.fields ts/\ts[3]?=Zz .none
structure MB (P:Rk) (w:Rx) (fr:List R3) (H:Hp) (s:R1) (H':Hp) (e C:R3) (dx:Option R3) (s':R1):Prop where
 os:s'.os=s.os
 bare:VV s'.gens
 un:Un fr [] H H' s.heap s'.heap
 hok:pf P w H' s'.heap
 no:H' e=Zy
 new:s.heap.get? e=Zy
 at':∃hd,OL e C dx hd s'.heap/\(hd=.none∨∃T,hd=.ref T/\T≠e/\O2 T s'.heap)
section
variable{P:Rk}{w:Rx}{M:Ww}{A:SO}{E:Q7->R1->Prop}{s s':R1}{H H':Hp}{base:Rj}{env:T6}{outer:List T6}{L e C:R3}{dx:Option R3}{Q:Unit->R1->Prop}
theorem land(a:MB P w (frs (env::outer)) H s H' e C dx s')(fre:∀b∈frs (env::outer),H' b=Zy)(hfr:A.frames=Zz (env::outer))(hl:s'.heap.FunFrames base (env::outer))(hf:env.frame=Zz L)(k:∀(h':Rj) (T:R3),MB P w (frs (env::outer)) H s H' e C dx { s' with heap:=h' }->OL e C dx (.ref T) h'->O2 T h'->T≠e->Q () { s' with heap:=h' }):
  RK M A (W7 (.ref e) env) (λ_ s1=>RK M A (X9 (.ref e) Zy) Q E s1) E s':=by
 obtain⟨hd,⟨oe,vs,q1,q2,q3,q4,q5⟩,ah⟩:=a.at';refine KN hfr hl hf q1 q4 q5 ?_ λh1 N=>?_
 ·rcases ah with rfl|⟨T,rfl,ne,oT,ts,z⟩
  ·exact .inl rfl
  ·exact .inr ⟨T,oT,ts,rfl,ne,z⟩
 obtain⟨T,oT,ts,vs',a1,a2,a3,a4,a5,a6,a7⟩:=N.new;refine EY a6 rfl a7 a3 a4 a5 λh2 k2 hT=>?_
 have neT:∀b o,s'.heap.get? b=Zz o->b≠T:=λb o q z=>by rw[z,a1]at q;cases q
 have kp:=λb o d hbe q=>(k2 b (neT b o q)).trans (N.keep b o d hbe q)
 have sl:∀b o,b∈frs (env::outer)->s'.heap.get? b=Zz o->∃sl,h2.get? b=Zz { o with slots:=sl }:=λb o d q=>by
  obtain⟨sl,z⟩:=N.slot b o d q;exact⟨sl,(k2 b (neT b o q)).trans z⟩
 have nb:∀b o,s.heap.get? b=Zz o->b≠e:=λb o q z=>by rw[z,a.new]at q;cases q
 have xe2:OL e C dx (.ref T) h2:=⟨_,vs',(k2 e (Sj a2)).trans a6,q2,q3,rfl,a7⟩
 have xt2:O2 T h2:=⟨_,_,hT,rfl,by simp[(Tc.mp a5).1]⟩
 refine k h2 T ⟨a.os,a.bare,⟨λb o q n d hx=>kp b o d (nb b o q) (a.un.keep b o q n d hx),λb o q n d hx=>?_,a.un.free,λb o q hx=>?_,a.un.tups,a.un.cO,a.un.pb⟩,λb u q=>?_,a.no,a.new,_,xe2,.inr ⟨T,rfl,a2,xt2⟩⟩ xe2 xt2 a2
 ·obtain⟨s1,e1⟩:=a.un.slot b o q n d hx
  obtain⟨s2,e2⟩:=sl b _ d e1;exact⟨s2,e2⟩
 ·obtain⟨o',e1⟩:=a.un.there b o q hx
  by_cases d:b∈frs (env::outer)
  ·obtain⟨s2,e2⟩:=sl b _ d e1
   exact⟨_,e2⟩
  ·exact⟨_,kp b o' d (nb b o q) e1⟩
 ·refine(a.hok b u q).stay (λc v g r=>kp c v ?_ ?_ r) (λ_ z=>z) λ_ _ z=>z
  ·intro hm
   rcases g with rfl|g
   ·rw[fre _ hm]at q;cases q
   ·rw[fre _ hm]at g;cases g
  ·rintro rfl
   rcases g with rfl|g
   ·rw[a.no]at q;cases q
   ·rw[a.no]at g;cases g
theorem Df(a:MB P w (frs (env::outer)) H s H' e C dx s')(fre:∀b∈frs (env::outer),H' b=Zy)(g:A.frames=Zz (env::outer))(hl:s'.heap.FunFrames base (env::outer))(hf:env.frame=Zz L)(k:∀h':Rj,MB P w (frs (env::outer)) H s H' e C dx { s' with heap:=h' }->Q () { s' with heap:=h' }):RK M A (leaving env (.ref e)) Q E s':=by
 unfold leaving;exact Q6 (land a fre g hl hf λh' T a' _ _ _=>k h' a')
end
inductive ux (P:Rk) (w:Rx) (outer:List T6) (H:Hp) (s:R1) (E:XK) (ev:Q7) (s':R1):Prop where
 |mk (e C dx H') (_:ev=.ref e) (_:MB P w (frs outer) H s H' e C dx s') (_:E (.ref C) dx H')
def Lk(X:Cx)(xr:XR):Prop:=∀(pins:List (R3×Obj)) (σ:L2.St) (H:Hp) (s:R1) (H':Hp) (e:R3) (dx:Option R3) (s':R1) (cm:List R3) (m:Mem) (x:Exc),Inv X pins σ H s ->
 MB X.prog X.w (frs X.stack) H s H' e x.cls dx s'->aC X.K cm m H'->XF X.K cm m H' x.nms x.JZ dx->xr x cm m H'->X.xe (.ref e) s'
theorem Pu{X:Cx}:Lk X MJ:=λ_ _ _ _ _ _ _ _ _ _ _ _ _ _ _ h=>h.elim
noncomputable abbrev asX(X:Cx)(xe:Q7->R1->Prop)(pn:List (R3×Obj)):Cx:={ X with xe:=xe,pn:=pn }
structure Go (X:Cx) (xr:XR):Prop where
 lk:Lk X xr
 po:WR (RS X.prog X.w) X.A X.env X.xe
section
variable{K:Rs}{cm cm':List R3}{m m':Mem}{H H' H'':Hp}{X:Cx}
variable(K) in
def Oi(E:XK):XR:=λx cm m H=>∀dx,XF K cm m H x.nms x.JZ dx->E (.ref x.cls) dx H
variable(K) in
inductive EX (xr:XR) (cls:Q7) (dx:Option R3) (H:Hp):Prop where
 |mk (cm m x) (_:aC K cm m H) (_:cls=.ref x.cls) (_:XF K cm m H x.nms x.JZ dx) (_:xr x cm m H)
theorem Lk.passes{xr:XR}(h:Lk X xr):Ba (ux X.prog X.w) X (EX X.K xr):=λa σ H s l c I ⟨e,C,i,k,f,b,j,m,x,M,g,d,q⟩=>by
 subst f;cases g;exact h a σ H s k e i c j m x I b M d q
theorem aR.Nx{α:Type}{r:Res α}{xr xr':XR}{k:α->List R3->Mem->Hp->Prop}(h:aR K r xr cm m H k)(f:∀x cm' m' H',dJ cm m H cm' m' H'->aC K cm' m' H'->xr x cm' m' H'->xr' x cm' m' H'):aR K r xr' cm m H k:=by
 cases r with
 |ok a m2=>exact h
 |exc a m2=>exact λc h' e M=>f _ _ _ _ e M (h c h' e M)
 |stuck=>exact h
theorem aR.PU{α:Type}{r:Res α}{xr:XR}{k:α->List R3->Mem->Hp->Prop}(h:aR K r xr cm m H k):aR K r (Oi K (EX K xr)) cm m H k:=
 h.Nx λx a b e _ M q d c=>⟨a,b,x,M,rfl,c,q⟩
theorem ID{fs:List R3}{s r p:Hp}{k o m:Rj}{L:R3}(a:Un fs [] s r k o)(b:Un (L::fs) [] r p o m)(w:k.get? L=Zy):Un fs [] s p k m where
 keep:=λc d q n h e=>b.keep c d (a.keep c d q n h e) (a.free c d q n e) (λz=>(R9.mp z).elim (λz=>by rw[z,w]at q;cases q) h) e
 slot:=λc d q n h e=>by
  obtain⟨x,f⟩:=a.slot c d q n h e;obtain⟨i,l⟩:=b.slot c _ f (a.free c d q n e) (RG _ h) e;exact⟨i,l⟩
 free:=λc d q n e=>by
  obtain⟨j,f⟩:=a.there c d q e;exact b.free c j f (a.free c d q n e) e
 there:=λc d q e=>by
  obtain⟨j,f⟩:=a.there c d q e;exact b.there c j f e
 tups:=λc g q=>b.tups c g (a.tups c g q)
 cO:=λc d g q=>b.cO c d g (a.cO c d g q)
 pb:=λc t q=>by
  obtain⟨v,f⟩:=a.pb c t q;obtain⟨u,l⟩:=b.pb c _ f;exact⟨v++u,by rw[l,Array.append_assoc]⟩
end
theorem Inv.P5{X:Cx}{c:List (R3×Obj)}{σ:L2.St}{H f:Hp}{s s':R1}{e C:R3}{g:Option R3}(I:Inv X c σ H s)(a:MB X.prog X.w (frs X.stack) H s f e C g s'):Inv X c σ f s':=
 I.call' a.os a.un a.hok a.bare λb z=>XZ z (by simp)
theorem Ih{P:Rk}{w:Rx}{K:Rs}{n:Str->Option Q7}{g:Rj}{N:List Str}{c:Str}{scope:Uu}{f:R3}{r:Q7}{A:SO}{b:List T6}{s:R1}{H:Hp}{E:XK}:
  Go (mi (ux P w) P w K n g N c scope f r A b s H E) (Oi K E):=by
 refine⟨λk σ F u t e l v D m x I a M p q=>?_,PassesOwn.leaving⟩;have i:=Inv.P5 I a;have d:s.heap.get? e=Zy:=by
  cases y:s.heap.get? e with
  |none=>rfl
  |some o =>
   obtain⟨B,j⟩:=I.base.there e o y (by intro z;cases z);rw[a.new]at j;cases j
 refine Df a i.vZ i.ok.frames i.stack rfl λC h=>?_
 exact⟨e,x.cls,l,t,rfl,⟨i.os,h.bare,ID I.base h.un (VG (RD _)),h.hok,h.no,d,h.at'⟩,q l p⟩
theorem JA{P:Rk}{w:Rx}{K:Rs}{mg:Str->Option Q7}{base:Rj}{x c:Str}{st:Rt}{f:R3}{fd:TK}{N ps:List Str}{k:Nat}{sp:Sp}(F:Kz K x c st f fd)(S:ao N ps (ag st))(len:∀vs H Q E,sp vs H Q E->vs.length=ps.length)(hbody:∀(cdv:Q7),codeIn K cdv c=true->∀(A:SO) (a:List T6) (s:R1) (H:Hp) (vs:List V) (Q:VK) (E:XK),jF (k+1) A->pf P w H s.heap->sp vs H Q E ->
  ∃t,dh (mi (ux P w) P w K mg base N c (ag st) f cdv A a s H E) (cW st) t/\t { nx:=λ_ H'=>Q .non H',rt:=Q } (start N vs) H):oQ P w K mg base (ux P w) (k+1) f fd ps sp:=by
 obtain⟨oc,od,kV,doc,pm,an,cdv,ct,osl,rfl,lk,hcd⟩:=F.ex;exact MV lk hcd S len λA a s H vs Q E hr hk hsp=>hbody cdv hcd A a s H vs Q E hr hk hsp
inductive Fb (K:Rs) (fns:List Fn) (gv:List T) (k f:Nat) (vs:List V) (H:Hp) (Q:VK) (E:XK):Prop where
 |mk (cm m ws) (_:aC K cm m H) (_:Dx K cm m H ws vs) (_:aR K (f8 fns gv k f ws m) (Oi K E) cm m H λw cm' m' H'=>∀v,RW K cm' m' H' w v->Q v H')
inductive c5 (P:Rk) (w:Rx) (K:Rs) (mg:Str->Option Q7) (base:Rj) (fns:List Fn) (gv:List T) (k:Nat) (x:Str) (fi:Nat)  : Prop where
 |mk (f fd ps) (_:mg x=Zz (.ref f)) (_:keepIn K (.ref f)=true) (_:Binds K fd ps []) (_:oQ P w K mg base (ux P w) k f fd ps (Fb K fns gv k fi))
section
variable{K:Rs}{cm cm':List R3}{m m':Mem}{H H':Hp}{X:Cx}{fns:List Fn}{gv:List T}
variable{a b c e:Rm}{es:List Rm}{ea eb ec:E}{eas:Es}{pos p p2:Pos}{k n:Nat}
theorem GP(o:Lk X xr)(F:c5 X.prog X.w X.K X.mg X.base fns gv k x fi)(q:jF k X.A)(t:Gl X x)(y:PA X (e::es) (tA X.K (f8 fns gv k) gv xr eas))(c:(x==("__debug__" : Str))=false:=by decide)(u:notStar e=true:=by rfl)(b:es.all notStar=true:=by rfl):
  PE X (.Call (.Name x p) (e::es) [] pos) (tE X.K (f8 fns gv k) gv xr (.call fi eas)):=by
 obtain⟨f,I,G,r,s,v,F⟩:=F;refine PE.mono (JR F q t r s v .nil o.passes y c (bq u) (ff b)) ?_;rintro σ H Q ⟨d,B,m,z,M,h⟩;rw[ev]at h;refine⟨d,B,m,z,M,h.bind.mono λi g n D E C l j a=>?_⟩;show Fb X.K fns gv k fi (j++[]) D Q (EX X.K xr);rw[T9];exact⟨g,n,i,C,a,l.PU⟩
theorem fP{c:Bool×List T}(h:(m.take n)[i]?=Zz (Zz c)):m[i]?=Zz (Zz c)/\i<n:=by
 rw[Vh]at h;split at h
 ·exact⟨h,‹_›⟩
 ·cases h
theorem dn(h:i<n):(cm.take n)[i]?=cm[i]?:=by rw[Vh,XU h]
theorem jD{a:R3}(h:aU cm m a):aU (cm.take n) (m.take n) a:=λi q e=>by
 obtain⟨c,b⟩:=fP e;rw[dn b];exact h i q c
theorem Gx(M:aC K cm m H)(n:Nat):aC K (cm.take n) (m.take n) H/\∀t v,RT K cm m H t v->RT K (cm.take n) (m.take n) H t v:=by
 have sm:∀t v,RT K cm m H t v->RT K (cm.take n) (m.take n) H t v:=λt v r=>r.same (λ_ _ z=>z) λ_ z _=>jD z
 refine⟨⟨by rw[SF,SF,M.len],λi j a q r b e2 f1 f2=>?_,λi q e=>?_,M.tab⟩,sm⟩
 ·obtain⟨b,d⟩:=fP b
  obtain⟨e2,h2⟩:=fP e2;rw[dn d]at f1;rw[dn h2]at f2;exact M.inj i j a q r b e2 f1 f2
 ·obtain⟨b,d⟩:=fP e
  obtain⟨a,vs,q1,q2,q3,q4⟩:=M.at' i q b;exact⟨a,vs,by rw[dn d];exact q1,q2,q3,aN (λ_ _ z=>sm _ _ z) q4⟩
theorem GC(M:aC K cm m H)(x:dJ cm m H cm' m' H'):dJ cm m H (cm'.take m.length) (m'.take m.length) H':=by
 refine⟨λi a h=>?_,by rw[SF];have:=x.len;omega,λi c h=>?_,λa o h n=>⟨(x.keep a o h n).1,jD (x.keep a o h n).2⟩⟩
 ·have b:=(RA.mp h).1
  rw[M.len]at b;rw[dn b];exact x.pre i a h
 ·have b:=(RA.mp h).1
  rw[Vh,XU b];exact x.lent i c h
theorem La(M:aC K cm m H)(x:dJ cm m H cm' m' H')(M':aC K cm' m' H')(ho:aR K (fin m.length cell fl m') xr cm m H λw cm' m' H'=>∀v,RW K cm' m' H' w v->Q v H'):
  sQ K nn { nx:=λ_ H'=>Q .non H',rt:=Q } fl cm' m' H':=by
 obtain⟨Mt,st⟩:=Gx M' m.length;have xt:=GC M x;cases fl with
 |next env=>exact λσ _ _=>aR.to ho xt Mt _ .non
 |ret w =>
  intro v rv;cases w with
  |t t=>exact aR.to ho xt Mt v (st t v rv)
  |x _ _ _=>exact ho.elim
  |c i =>
   unfold fin at ho;dsimp only at ho;split at ho
   ·rename_i hi
    obtain⟨a,h1,h2⟩:=rv;exact aR.to ho xt Mt v ⟨a,by rw[dn hi];exact h1,h2⟩
   ·rename_i hi
    split at ho
    ·rename_i ts e
     obtain⟨a,h1,h2⟩:=rv;obtain⟨a',vs,q1,q2,q3,q4⟩:=M'.at' i _ e;rw[h1]at q1;cases q1;have na:aU (cm'.take m.length) (m'.take m.length) a:=λj q ej z=>by
      obtain⟨ej,hj⟩:=fP ej;rw[dn hj]at z;have:=M'.inj j i a _ _ ej e z h1;omega
     have lt:(cm'.take m.length).length=m.length:=by rw[SF,M'.len];have:=x.len;omega
     have lm:(m'.take m.length).length=m.length:=by rw[SF];have:=x.len;omega
     split at ho
     ·-- a list that may change is handed back
      have nl:∀b,aU cm' m' b->aU (cm'.take m.length++[a]) (m'.take m.length++[Zz (false,ts)]) b:=λb n=>by
       refine pq (by rw[lt,lm]) (jD n) λz=>?_
       subst z;exact n i _ e h1
      have sm:∀t v,RT K cm' m' H' t v->RT K (cm'.take m.length++[a]) (m'.take m.length++[Zz (false,ts)]) H' t v:=λt v r=>r.same (λ_ _ z=>z) λb z _=>nl b z
      have cs:∀{j:Nat}{c:Bool×List T},(m'.take m.length++[Zz (false,ts)])[j]?=Zz (Zz c)->((m'.take m.length)[j]?=Zz (Zz c)/\j<m.length)∨(j=m.length/\c=(false,ts)):=λ{j c} ej=>by
       by_cases hj:j<m.length
       ·rw[RX (by rw[lm];exact hj)]at ej
        exact .inl ⟨ej,hj⟩
       ·by_cases hj2:j=m.length
        ·subst hj2
         rw[Ra (by rw[lm];exact RD _),lm,UA]at ej;cases ej;exact .inr ⟨rfl,rfl⟩
        ·rw[Te (by rw[R8,lm];simp;omega)]at ej
         cases ej
      have cl:∀{j:Nat},j<m.length->(cm'.take m.length++[a])[j]?=(cm'.take m.length)[j]?:=λ{j} hj=>RX (by rw[lt];exact hj)
      have cp:(cm'.take m.length++[a])[m.length]?=Zz a:=by
       rw[Ra (by rw[lt];exact RD _),lt,UA];rfl
      refine aR.to (cm':=cm'.take m.length++[a]) ho ⟨λj b h=>?_,by rw[R8,lm];simp,λj us h=>?_,λb o h nb=>⟨(x.keep b o h nb).1,nl b (x.keep b o h nb).2⟩⟩ ⟨by rw[R8,R8,lt,lm];rfl,λj1 j2 b c1 c2 e1 e2 f1 f2=>?_,λj c ej=>?_,M'.tab⟩ v ⟨a,cp,h2⟩
      ·have hj:=(RA.mp h).1
       rw[M.len]at hj;rw[cl hj];exact xt.pre j b h
      ·have hj:=(RA.mp h).1
       rw[RX (by rw[lm];exact hj)];exact xt.lent j us h
      ·rcases cs e1 with⟨g1,l1⟩|⟨k1,_⟩
       ·rw[cl l1]at f1
        rcases cs e2 with⟨g2,l2⟩|⟨k2,_⟩
        ·rw[cl l2]at f2
         exact Mt.inj j1 j2 b _ _ g1 g2 f1 f2
        ·rw[k2,cp]at f2;cases f2
         exact XZ f1 (na j1 _ g1)
       ·rw[k1,cp]at f1;cases f1
        rcases cs e2 with⟨g2,l2⟩|⟨k2,_⟩
        ·rw[cl l2]at f2
         exact XZ f2 (na j2 _ g2)
        ·rw[k1,k2]
      ·rcases cs ej with⟨g,l⟩|⟨kk,z⟩
       ·obtain⟨gg,_⟩:=fP g
        obtain⟨b,ws,w1,w2,w3,w4⟩:=M'.at' j c gg;exact⟨b,ws,by rw[cl l,dn l];exact w1,w2,w3,aN (λ_ _ z=>sm _ _ z) w4⟩
       ·rw[kk,z]
        exact⟨a,vs,cp,q2,q3,aN (λ_ _ z=>sm _ _ z) q4⟩
     ·subst h2
      exact aR.to ho xt Mt _ (RT.LO q2 na (aN (λ_ _ z=>st _ _ z) q4))
    ·exact ho.elim
theorem IM(r:Dx K cm m H ws vs)(f:j=N.length-vs.length):bg K cm m H (ws.map Zz++RF j Zy) (L2.start N vs):=λi w e=>by
 unfold L2.start;have d:=r.length;by_cases hi:i<ws.length
 ·rw[RX (by simpa using hi),Ru]at e
  cases q:ws[i]? with
  |none=>rw[q]at e;cases e
  |some c =>
   rw[q]at e;cases e;obtain⟨v,b,a⟩:=ck r q;refine⟨v,?_,a⟩;rw[RX (by rw[Q8];omega),Ru,b];rfl
 ·rw[Ra (by simpa using hi),T4]at e
  split at e<;>cases e
theorem DV(h:vs.length<=N.length):(L2.start N vs).length=N.length:=by
 unfold L2.start;rw[R8,Q8,Td];omega
theorem Li{st:Rt}(F:Kz K x qual st f fd)(S:ao N ps (ag st))(hd:fns[fi]?=Zz d)(hps:d.ps=ps.length)(hn:d.n=N.length)(hbody:∀(c:Q7),codeIn K c qual=true->∀(A:SO) (a:List T6) (s:R1) (H:Hp) (E:XK),jF (k+1) A->∀(xe:Q7->R1->Prop) (pn:List (R3×Obj)) (xr:XR),
   Go (asX (mi (ux P w) P w K mg base N qual (ag st) f c A a s H E) xe pn) xr->dh (asX (mi (ux P w) P w K mg base N qual (ag st) f c A a s H E) xe pn) (cW st) (tS K (f8 fns gv k) gv xr N.length d.body)):
  oQ P w K mg base (ux P w) (k+1) f fd ps (Fb K fns gv (k+1) fi):=by
 have hpl:ps.length<=N.length:=by have:=congrArg Rf S.pre;rw[SF]at this;omega
 have len:∀{ws:List W}{m:Mem}{cm:List R3}{H:Hp}{xr:XR}{post:W->List R3->Mem->Hp->Prop},aR K (f8 fns gv (k+1) fi ws m) xr cm m H post->ws.length=d.ps/\aR K ((ex (f8 fns gv k) gv d.body (ws.map Zz++RF (d.n-d.ps) Zy) m).bind λfl m'=>fin m.length d.cell fl m') xr cm m H post:=λ{ws m cm H xr post} h=>by
  rw[f8,hd]at h;dsimp only at h;by_cases hc:ws.length=d.ps
  ·rw[XU hc]at h;exact⟨hc,h⟩
  ·rw[XV hc]at h;exact h.elim
 refine JA F S (λvs H Q E ⟨cm,m,ws,M,r,ho⟩=>by rw[<-r.length,(len ho).1,hps]) (λc hcd A a s H vs Q E hr hk ⟨cm,m,ws,M,r,ho⟩=>?_);obtain⟨hl,ho⟩:=len ho;have hv:vs.length=ps.length:=by rw[<-r.length,hl,hps]
 refine⟨_,hbody c hcd A a s H E hr _ _ (Oi K E) Ih,DV (by omega),ws.map Zz++RF (d.n-d.ps) Zy,cm,m,IM r (by rw[hn,hps,hv]),M,?_⟩;exact ho.Ko.mono λfl cm1 m1 H1 x1 M1 o1=>La M x1 M1 o1
theorem Md{st:Rt}(F:Kz K x qual st f fd)(S:ao N ps (ag st))(l:fns[fi]?=Zz d)(e:d.ps=ps.length)(j:d.n=N.length)(c:∀(b:Q7) (A:SO) (a:List T6) (s:R1) (H:Hp) (E:XK),jF k (A.deeper (envOfC qual (ag st) s.heap.objs.size f b))->∀(g:Q7->R1->Prop) (h:List (R3×Obj)) (xr:XR),
   Go (asX (mi (ux P w) P w K mg base N qual (ag st) f b A a s H E) g h) xr->dh (asX (mi (ux P w) P w K mg base N qual (ag st) f b A a s H E) g h) (cW st) (tS K (f8 fns gv k) gv xr N.length d.body)):
  oQ P w K mg base (ux P w) (k+1) f fd ps (Fb K fns gv (k+1) fi):=
 Li F S l e j λb _ A a s H E i=>c b A a s H E (i.deeper _)
theorem HB:oQ P w K mg base (ux P w) 0 f fd ps (Fb K d gv 0 fi):=by
 have e:∀a H Q E,¬Fb K d gv 0 fi a H Q E:=λa H Q E ⟨cm,m,ws,M,r,g⟩=>by
  rw[f8]at g;exact g
 exact⟨λa H Q E h=>XZ h (e a H Q E),λA c s H args us a Q E _ _ _ _ h=>XZ h (e a H Q E)⟩
end
end Mi
namespace Mi
open PySem PySem.Spec PyProof.Rows L2 PySem.W
section
variable{X:Cx}{pins pins':List (R3×Obj)}{σ:L2.St}{H:Hp}{s:R1}{xe:Q7->R1->Prop}{e:Option Q7}
theorem LH(I:Inv X pins σ H s)(b:Q7->R1->Prop):Inv (asX X b (X.pn++pins)) [] σ H s:=
 ⟨⟨I.ok.mod,I.ok.kind,I.ok.glob,I.ok.blt,I.ok.above,I.ok.inj,I.ok.has,I.ok.cab,I.ok.hd,I.ok.frames,I.ok.xC,I.ok.Px,I.ok.bs,I.ok.Kq,I.ok.GH,I.ok.JO,I.ok.sU,I.ok.MN⟩,I.os,I.bare,I.base,I.loc,I.cell,I.free,I.km,λp a=>I.pin p (by rw[T9]at a;exact a),I.hok,I.len⟩
theorem xp(I:Inv (asX X xe (X.pn++pins)) pins' σ H s):Inv X pins σ H s:=
 ⟨⟨I.ok.mod,I.ok.kind,I.ok.glob,I.ok.blt,I.ok.above,I.ok.inj,I.ok.has,I.ok.cab,I.ok.hd,I.ok.frames,I.ok.xC,I.ok.Px,I.ok.bs,I.ok.Kq,I.ok.GH,I.ok.JO,I.ok.sU,I.ok.MN⟩,I.os,I.bare,I.base,I.loc,I.cell,I.free,I.km,λp a=>I.pin p (SK _ a),I.hok,I.len⟩
end
end Mi
namespace Mi
open PySem PySem.Spec PyProof.Rows L2
section
variable{K:Rs}{xr:XR}{X:Cx}{call:Nat->List W->Mem->Res W}{gv:List T}
variable{e:Rm}{ea:E}{pos:Pos}{rest:List Rt}{k:S}{n:Nat}
theorem vr(i:Nat)(d:X.N[i]?=Zz x:=by rfl)(b:NP X.env.scope x:=by first|exact TQ rfl|exact TD (TQ rfl)|exact TD (TD rfl))(c:(x==("__debug__" : Str))=false:=by decide)(a:(x==("__classdict__" : Str))=false:=by decide):PE X (.Name x pos) (tE X.K call gv xr (.var i)):=I0 d b c a
theorem sg(i:Nat)(g:X.N.Nodup)(h:PE X e (tE X.K call gv xr ea))(d:dh X rest (tS X.K call gv xr n k))(c:X.N.length=n:=by rfl)(hi:X.N[i]?=Zz x:=by rfl)(a:Loc X.env.scope x:=by first|exact TQ rfl|exact TD rfl)(b:V6 e (Zz (.Name x px)) pos.line X.env=pure false:=by rfl)(f:X.fn x=true∨X.env.scope.names.lookup x=Zz .local:=by first|exact .inl rfl|exact .inr rfl):dh X (.Assign [.Name x px] e pos::rest) (tS X.K call gv xr n (.asg i ea k)):=EM g c hi a h d b f
theorem aP(i:Nat)(c:X.N.Nodup)(hi:X.N[i]?=Zz x:=by rfl)(a:Loc X.env.scope x:=by first|exact TQ rfl|exact TD rfl)(b:X.fn x=true∨X.env.scope.names.lookup x=Zz .local:=by first|exact .inl rfl|exact .inr rfl):PG X (.Name x pos) (gT X.K (.nm i)):=bt c hi a b
noncomputable def Nz(scope osc:Uu):Bool:=scope.kind==.function&&scope.names.all λp=>scope.names.lookup p.1==Zz p.2&&(p.2 != .free || osc.names.lookup p.1==Zz .cell || osc.names.lookup p.1==Zz .free)
noncomputable def G3(N' N:List Str)(own:Nat)(keep:List Nat)(scope:Uu):Bool:=N'.length==own+keep.length&&(SA keep.length).all λi=>match N'[own+i]?,keep[i]? with
 |some x,Zz j=>N[j]?==Zz x&&scope.names.any λp=>p.1==x&&p.2==.free
 |_,_=>false
theorem F3(h1:Nz scope X.env.scope=true)(h2:G3 N' X.N own keep scope=true)(pi:PI X target iter (tI X.K call gv xr it))(fs:∀x,Sl iter X.env x=pure x)(ins:Ax X xr call gv N' scope elt target ifs (⟨target,iter,ifs,0⟩::gs) tg cs inner)(dis:∀i∈lO tg,i∉dX inner)(Of:∀i∈lO tg++dX inner,i<own):
  y1 X xr call gv N' scope own keep elt target iter ifs gs it tg cs inner:=by
 unfold Nz at h1;rw[R6]at h1;obtain⟨hk,h1⟩:=h1;have h1:=RP.mp h1;unfold G3 at h2;rw[R6]at h2;obtain⟨hl,h2⟩:=h2;have h2:=RP.mp h2;refine⟨⟨eq_of_beq hk,λp hp=>?_,λx hx=>?_⟩,eq_of_beq hl,λi x e=>?_,pi,fs,ins,dis,Of⟩
 ·have:=h1 p hp
  simp only[R6]at this;exact eq_of_beq this.1
 ·have:=h1 _ hx
  simp only[R6,TC]at this;rcases this.2 with(h|h)|h
  ·cases h
  ·exact .inl (eq_of_beq h)
  ·exact .inr (eq_of_beq h)
 ·have hlen:=eq_of_beq hl
  have hi:i<keep.length:=by
   have:=(RA.mp e).1;omega
  have h:=h2 i (Va.mpr hi);rw[e]at h;cases q:keep[i]? with
  |none=>rw[q]at h;cases h
  |some j =>
   rw[q]at h;have h:=h;rw[R6]at h;refine⟨j,rfl,eq_of_beq h.1,?_⟩;obtain⟨p,hp,hq⟩:=UT.mp h.2;rw[R6]at hq;rw[<-eq_of_beq hq.1];have:p.2=S2:=eq_of_beq hq.2;rw[<-this];exact hp
theorem law_sp{b:List Fn}{k fi:Nat}{H:Hp}{a:R3}{c:List Int}{E:XK}(f:rJ K H)(g:kr K H a c)(h:∃m,f8 b gv k fi [.t (.dr c)] []=.ok (.t (.bl true)) m):Fb K b gv k fi [.ref a] H (λv _=>v=.bl true) E:=by
 obtain⟨m,h⟩:=h;refine⟨[],[],[.t (.dr c)],⟨rfl,λi j a p q e=>by simp at e,λi p e=>by simp at e,f⟩,.cons (.dr c g) .nil,?_⟩;rw[h];intro l n x M v d;cases RT.Dt d;rfl
theorem rR(h:mg x=Zz (.str y t))(e:y.cps.toList=cs):bM K mg x (.str cs):=⟨_,.str y,h,⟨t,rfl⟩,λa m H=>by rw[mB e];exact .str cs⟩
theorem cB(h:mg x=Zz (.int i t)):bM K mg x (.int i):=⟨_,.int i,h,⟨t,rfl⟩,λa m H=>.int i⟩
inductive pV:List (List Nat)->List Q7->Prop where
 |nil:pV [] []
 |cons {y:Str}{t:Tok}{cs:List Nat}{r:List (List Nat)}{us:List Q7}:y.cps.toList=cs->pV r us->pV (cs::r) (.str y t::us)
theorem oU(h:mg x=Zz (.ref a))(l:K.lookup a=Zz ⟨.type "tuple",Zy,.seq its nn,sl⟩)(hz:its.size<=RV)(g:pV b its.toList):bM K mg x (.tup (b.map .str)):=by
 refine⟨_,.ref a,h,rfl,λcm m H=>?_⟩;have i:∀{b:List (List Nat)}{d:List Q7},pV b d->Vals (b.map λc=>V.str ⟨c.toArray⟩) d/\cH K cm m H (b.map .str) (b.map λc=>V.str ⟨c.toArray⟩):=λ{b d} h=>by
  induction h with
  |nil=>exact⟨.nil,.nil⟩
  |@cons y t j r d e _ f =>
   refine⟨.cons ?_ f.1,.cons (.str j) f.2⟩;show ∃t',Ul y t=Ul ⟨j.toArray⟩ t';rw[<-mB e];exact⟨t,rfl⟩
 exact .yj (.inr ⟨_,its,nn,l,rfl,rfl,hz,(i g).1,rfl⟩) (i g).2
end
section
variable{K:Rs}{cm:List R3}{m:Mem}{H:Hp}{xr:XR}{X:Cx}{call:Nat->List W->Mem->Res W}{gv:List T}
variable{a b c e:Rm}{es:List Rm}{ea eb ec:E}{eas:Es}{pos p p2:Pos}{rest:List Rt}{k:S}{n:Nat}
theorem NI{b:B}{k:W->List R3->Mem->Hp->Prop}(r:Dx K cm m H ws vs)(h1:∀ts t,cn b ts=Zz t->∃i j,ts=[.int i,.int j])(h:aR K (nQ b ws m) xr cm m H k):
  ∃i j r,vs=[.int i,.int j]/\cn b [.int i,.int j]=Zz r/\aR K (.ok (.t r) m) xr cm m H k:=by
 obtain⟨t,e,ho⟩:=ci h;cases q:views ws m with
 |none=>rw[q]at e;cases e
 |some ts =>
  rw[q]at e;have e:=e;obtain⟨i,j,rfl⟩:=h1 ts t e;obtain⟨w1,us,rfl,q1,q2⟩:=ml q;obtain⟨w2,us,rfl,q3,q4⟩:=ml q2;obtain rfl:=uQ q4;cases r with
  |cons r1 r =>
   cases r with
   |cons r2 r =>
    cases r with
    |nil =>
     cases(ak r1 q1 (λ_ z=>by cases z)).bV;cases(ak r2 q3 (λ_ z=>by cases z)).bV;exact⟨i,j,t,rfl,e,ho⟩
theorem GX:∀ts t,cn .min2 ts=Zz t->∃i j,ts=[.int i,.int j]:=by
 intro ts t h;exact(uM h).imp λi hi=>hi.imp λj hj=>hj.1
theorem Ed(e:X.calm=true):dq X (.builtin "min") (rN X.K xr (nQ .min2)):=by
 rintro a s σ H g d Q I r ⟨l,m,h,M,b,c⟩;obtain⟨i,j,k,rfl,f,c⟩:=NI b GX c;cases f;exact CP e a s σ H _ d Q I r ⟨i,j,rfl,ans c M (.int _)⟩
theorem Mp:Oj X op (r2 X.K xr λx y m=>dy ((view x m).bind λx=>(view y m).bind λy=>Ie op x y) m):=by
 rintro c s σ H x y v u Q I g f ⟨o,m,a,b,M,i,h,d⟩;obtain⟨t,e,d⟩:=ci d;obtain⟨n,l,k,j,e⟩:=kt e;unfold Ie at e;split at e
 ·cases e
  cases(ak i k (λ_ z=>by cases z)).bV;cases(ak h j (λ_ z=>by cases z)).bV;exact KJ c s σ H _ _ v u Q I g f ⟨_,_,rfl,rfl,ans d M (.int _)⟩
 ·cases e
  cases(ak i k (λ_ z=>by cases z)).bV;cases(ak h j (λ_ z=>by cases z)).bV;exact Mn c s σ H _ _ v u Q I g f ⟨_,_,rfl,rfl,ans d M (.int _)⟩
 ·cases e
theorem E3(i:Nat)(I:X.N.Nodup)(h:PE X e (tE X.K call gv xr ea))(F:dh X rest (tS X.K call gv xr n k))(E:X.N.length=n:=by rfl)(hi:X.N[i]?=Zz x:=by rfl)(C:Loc X.env.scope x:=by first|exact TQ rfl|exact TD rfl)(G:X.fn x=true∨X.env.scope.names.lookup x=Zz .local:=by first|exact .inl rfl|exact .inr rfl):dh X (.AugAssign (.Name x px) op e pos::rest) (tS X.K call gv xr n (.aug i op ea k)):=by
 refine dh.mono (cz (Lu I hi C h (Mp (xr:=xr)) G) F) ?_;rintro D σ H ⟨o,a,O,m,f,M,b⟩;rw[ex]at b;split at b
 ·rename_i w e
  obtain⟨v,L,J⟩:=f i w e;have d:i<σ.length:=by rw[o,<-E];exact(RA.mp hi).1
  refine⟨v,L,a,O,m,f,M,b.bind.mono λy j B S l c u Q s=>?_⟩;refine⟨j,B,w,y,c,J.ext l M c,s,u.bind.mono λz g A R q p t P r=>?_⟩;exact⟨by rw[SR];exact o,a.set i (Zz z),g,A,bg.set ((f.ext l M c).ext q c p) r i d,p,t⟩
 ·exact b.elim
theorem JS{l h:List T}{r:T×List T}(d:vI .append l h=Zz r):∃P,h=[P]:=by
 cases h with
 |nil=>cases d
 |cons P h =>
  cases h with
  |nil=>exact⟨P,rfl⟩
  |cons _ _=>cases d
theorem A9:KA X "list.append" (rM X.K xr .append):=by
 rintro e s σ H x n v B Q I C D ⟨N,m,w,z,M,k,j,g⟩;cases w with
 |t t=>exact g.elim
 |x _ _ _=>exact g.elim
 |c i =>
  have g:aR X.K ((cO z m).bind λh m=>match m[i]? with
   |some (Zz (false,n))=>match vI .append n h with
    |some (t,l)=>.ok (W.t t) (m.set i (Zz (false,l)))
    |none=>.stuck
   |_=>.stuck) xr N m H _:=g
  obtain⟨h,S,L,f⟩:=ka g;obtain⟨y,r,F⟩:=kX M j L;obtain⟨a,q,rfl⟩:=k;split at f
  ·rename_i l e3
   split at f
   ·rename_i t zs d
    obtain⟨b,A,p,G,R,o⟩:=r.at' i _ e3;rw[q]at p;cases p;have J:=o.length;dsimp only at J;have T:=aT;obtain⟨P,rfl⟩:=JS d;cases F with
    |cons E F =>
     cases F with
     |nil =>
      unfold vI at d;dsimp only at d;split at d<;>cases d;rename_i hlt;obtain⟨u,O⟩:=mG r e3 q (bY o (.cons E .nil));exact Dc e s σ H _ _ v B Q I C D ⟨a,A,_,rfl,rfl,G,by omega,aR.to f (y.trans u) O _ .non⟩
   ·exact f.elim
  ·exact f.elim
theorem A2(L:PE X o (tE X.K call gv xr ea))(N:PA X [e] (tA X.K call gv xr eas))(f:TV o "append" X.env (eval o X.env)=eval o X.env:=by rfl)(d:(apos.endLine==cpos.line)=true:=by rfl)(y:notStar e=true:=by rfl):
  PE X (.Call (.Attribute o "append" apos) [e] [] cpos) (tE X.K call gv xr (.eP .append ea eas)):=by
 refine PE.mono (sO PySem.F.plainAttrs_list PySem.F.slot_list_append PySem.F.type_list_append (A9 (xr:=xr)) L N f (Ao y) d (bq y) (ff rfl)) ?_;rintro σ H Q ⟨h,P,m,A,M,z⟩;rw[ev]at z;refine⟨h,P,m,A,M,z.bind.mono λw p u S D j l v r=>?_⟩;obtain⟨g,l⟩:=jg l;refine⟨?_,h,p,u,A.ext D M j,j,l.bind.mono λE n J R C B I q k=>?_⟩
 ·cases w with
  |t t=>cases g
  |x _ _ _=>cases g
  |c i =>
   obtain⟨a,O,rfl⟩:=r;have g:(match u[i]? with
    |some (Zz _)=>true
    |_=>false)=true:=g
   split at g
   ·rename_i c e1
    obtain⟨b,q,s,G,_⟩:=j.at' i _ e1;rw[O]at s;cases s;exact .inl ⟨rfl,q,.of G⟩
   ·cases g
 ·exact⟨n,J,w,E,B,r.ext C j B,k,I⟩
theorem BC(hp:WR (RS X.prog X.w) X.A X.env X.xe)(hc:PT X c (tT X.K call gv xr ec))(hb:dh X body (tS X.K call gv xr n sb))(hk:dh X rest (tS X.K call gv xr n k)):
  dh X (.While c body [] pos::rest) (tS X.K call gv xr n (.Lw ec sb k)):=by
 refine dh.mono (cz (Ft hp hc hb) hk) ?_;rintro D σ0 H0 ⟨hl0,env0,cm0,m0,hE0,M0,ho⟩;rw[ex]at ho
 let g:Flow->Mem->Res Flow:=λfl m=>match fl with
  |.next a=>ex call gv k a m
  |fl=>.ok fl m
 let P:Flow->List R3->Mem->Hp->Prop:=λfl cm m H=>aR X.K (g fl m) xr cm m H (λfl cm' m' H'=>sQ X.K n D fl cm' m' H')
 have ho:=ho;refine⟨λμ σ H=>σ.length=n/\∃a cm m,bg X.K cm m H a σ/\aC X.K cm m H/\aR X.K (en (λa m=>(ev call gv ec a m).bind cu) (λa m=>ex call gv sb a m) μ a m) xr cm m H P,⟨turns,hl0,env0,cm0,m0,hE0,M0,ho.bind⟩,?_⟩;rintro μ σ H ⟨hl,a,cm,m,hE,M,hq⟩;cases μ with
 |zero=>rw[en]at hq;exact hq.elim
 |succ μ =>
  rw[en]at hq;refine⟨a,cm,m,hE,M,hq.bind.mono λb cm1 m1 H1 x1 M1 o1=>?_⟩;cases b with
  |false=>exact xW ⟨hl,a,cm1,m1,hE.ext x1 M M1,M1,aR.now o1 M1⟩
  |true =>
   have o1:aR X.K ((ex call gv sb a m1).bind λfl m=>match fl with
    |.next a=>en (λa m=>(ev call gv ec a m).bind cu) (λa m=>ex call gv sb a m) μ a m
    |.ret w=>.ok (.ret w) m) xr cm1 m1 H1 P:=o1
   refine yf ⟨λσ' H'=>σ'.length=n/\∃a cm m,bg X.K cm m H' a σ'/\aC X.K cm m H'/\aR X.K (en (λa m=>(ev call gv ec a m).bind cu) (λa m=>ex call gv sb a m) μ a m) xr cm m H' P,λσ' H' h=>⟨μ,Tz _,h⟩,hl,a,cm1,m1,hE.ext x1 M M1,M1,o1.bind.mono λfl cm2 m2 H2 x2 M2 o2=>?_⟩;cases fl with
   |next env2=>exact λσ2 hl2 hE2=>⟨hl2,env2,cm2,m2,hE2,M2,o2⟩
   |ret w=>exact aR.now (xr:=xr) (aR.now o2 M2) M2
theorem cons_of{α:Type}{l:List α}{n:Nat}(h:l.length=n+1):∃a t,l=a::t/\t.length=n:=by
 cases l with
 |nil=>cases h
 |cons a t=>exact⟨a,t,rfl,Nat.succ.inj h⟩
theorem iJ(i j:Nat)(w:X.calm=true)(g:X.N.Nodup)(hi:X.N[i]?=Zz x:=by rfl)(p:X.N[j]?=Zz y:=by rfl)(m:Loc X.env.scope x:=by first|exact TQ rfl|exact TD rfl)(l:Loc X.env.scope y:=by first|exact TQ rfl|exact TD rfl)(t:X.fn x=true∨X.env.scope.names.lookup x=Zz .local:=by first|exact .inl rfl|exact .inr rfl)(q:X.fn y=true∨X.env.scope.names.lookup y=Zz .local:=by first|exact .inl rfl|exact .inr rfl)(n:(RJ [.Name x px,.Name y py] X.env).map (·.2)=assign (.Name x px) X.env::(RJ [.Name y py] X.env).map (·.2):=by rfl)(d:(RJ [.Name y py] X.env).map (·.2)=assign (.Name y py) X.env::(RJ [] X.env).map (·.2):=by rfl)(o:(RJ [.Name x px,.Name y py] X.env).length=2:=by rfl)(c:(RJ [.Name x px,.Name y py] X.env).findIdx? (·.1)=Zy:=by rfl):PG X (.Tuple [.Name x px,.Name y py] kk pos) (gT X.K (.tp [i,j])):=by
 rintro b s σ H v u Q I r ⟨a,e,B,A,h,z⟩;refine vS w (be (bt g hi m t) (be (bt g p l q) nS d) n) o c b s σ H v u Q I r ⟨a,e,B,A,h,?_⟩;obtain⟨k,e,rfl,zq1⟩:=cons_of h;obtain⟨f,e,rfl,zq2⟩:=cons_of zq1;obtain rfl:=SM zq2;exact⟨k,_,rfl,f,_,rfl,rfl,z⟩
theorem Gv(P:∀i∈l,i<n)(h:PE X e (tE X.K call gv xr ea))(O:PG X tg (gT X.K (.tp l)))(L:dh X rest (tS X.K call gv xr n k))(J:Vt [tg] e pos.line X.env=pure false:=by rfl)(I:Vu [tg] e X.env=pure Zy:=by rfl)(R:(RJ [tg] X.env).map (·.2)=[assign tg X.env]:=by rfl):dh X (.Assign [tg] e pos::rest) (tS X.K call gv xr n (.lP l ea k)):=by
 refine dh.mono (cz (zF h O J I R) L) ?_;rintro D σ H ⟨r,a,S,m,s,M,q⟩;rw[ex]at q;refine⟨a,S,m,s,M,q.bind.mono λw d g p F u b v G=>?_⟩;cases w with
 |x _ _ _=>exact b.elim
 |c i=>exact b.elim
 |t t =>
  have b:aR X.K (match bK (.tp l) t a with
   |some a=>ex call gv k a g
   |none=>.stuck) xr d g p _:=b
  split at b
  ·rename_i env' eb
   have:=Fj (Gj (Q:=λf U=>U=p/\bg X.K d g p env' f) (s.ext F M u) (λj N=>by rw[r];exact P j N) G eb λf o _=>⟨rfl,o⟩);obtain⟨T,E,C,B,A,z,V,y⟩:=this;exact⟨T,E,C,B,A,z.trans r,env',d,g,y,u,b⟩
  ·exact b.elim
end
section
variable{xr:XR}{X:Cx}{call:Nat->List W->Mem->Res W}{gv:List T}
variable{e:Rm}{es:List Rm}{eas:Es}{pos p:Pos}
theorem HU(c:Gl X "len")(b:X.mg "len" = Zy)(f:PA X (e::es) (tA X.K call gv xr eas))(d:notStar e=true)(a:es.all notStar=true):PE X (.Call (.Name "len" p) (e::es) [] pos) (tE X.K call gv xr (.blt .len eas)):=q8 El (by decide +kernel) c b f (by decide) (by decide) d a
theorem Ez(c:Gl X "int")(b:X.mg "int" = Zy)(f:PA X (e::es) (tA X.K call gv xr eas))(d:notStar e=true)(a:es.all notStar=true):PE X (.Call (.Name "int" p) (e::es) [] pos) (tE X.K call gv xr (.blt .int eas)):=qI Ea (by decide +kernel) c b f (by decide) (by decide) d a
theorem EL(c:Gl X "str")(b:X.mg "str" = Zy)(f:PA X (e::es) (tA X.K call gv xr eas))(d:notStar e=true)(a:es.all notStar=true):PE X (.Call (.Name "str" p) (e::es) [] pos) (tE X.K call gv xr (.blt .str eas)):=qI DJ (by decide +kernel) c b f (by decide) (by decide) d a
theorem zu(c:Gl X "tuple")(b:X.mg "tuple" = Zy)(g:PA X (e::es) (tA X.K call gv xr eas))(d:notStar e=true)(a:es.all notStar=true)(f:X.calm=true:=by rfl):PE X (.Call (.Name "tuple" p) (e::es) [] pos) (tE X.K call gv xr (.blt .tuple eas)):=qI (yX f) (by decide +kernel) c b g (by decide) (by decide) d a
theorem C9(c:Gl X "list")(b:X.mg "list" = Zy)(f:PA X (e::es) (tA X.K call gv xr eas))(d:notStar e=true)(a:es.all notStar=true):PE X (.Call (.Name "list" p) (e::es) [] pos) (tE X.K call gv xr (.blt .list eas)):=qI Bz (by decide +kernel) c b f (by decide) (by decide) d a
theorem ED(c:Gl X "all")(b:X.mg "all" = Zy)(g:PA X (e::es) (tA X.K call gv xr eas))(d:notStar e=true)(a:es.all notStar=true)(f:X.calm=true:=by rfl):PE X (.Call (.Name "all" p) (e::es) [] pos) (tE X.K call gv xr (.blt .all eas)):=q8 (C7 f) (by decide +kernel) c b g (by decide) (by decide) d a
theorem GB(c:Gl X "min")(b:X.mg "min" = Zy)(g:PA X (e::es) (tA X.K call gv xr eas))(d:notStar e=true)(a:es.all notStar=true)(f:X.calm=true:=by rfl):PE X (.Call (.Name "min" p) (e::es) [] pos) (tE X.K call gv xr (.blt .min2 eas)):=q8 (Ed f) (by decide +kernel) c b g (by decide) (by decide) d a
end
structure Bd (X:Cx) (st:List Rt) (t:TS):Prop where
 h:dh X st t
theorem Gf{K:Rs}{g:List Fn}{gv:List T}{k:Nat}{P:Rk}{w:Rx}{l:Str->Option Q7}{d:Rj}{x b:Str}{st:Rt}{f:R3}{o:TK}{N ps:List Str}{fi np n:Nat}{body:S}{cell:Bool}(F:Kz K x b st f o)(S:ao N ps (ag st))(r:g[fi]?=Zz ⟨np,n,body,cell⟩)(m:np=ps.length)(q:N.length=n)(e:∀(c:Q7) (A:SO) (a:List T6) (s:R1) (H:Hp) (E:XK),jF k (A.deeper (envOfC b (ag st) s.heap.objs.size f c)) ->
   ∀(i:Q7->R1->Prop) (j:List (R3×Obj)) (xr:XR),Go (asX (mi (ux P w) P w K l d N b (ag st) f c A a s H E) i j) xr->Bd (asX (mi (ux P w) P w K l d N b (ag st) f c A a s H E) i j) (cW st) (tS K (f8 g gv k) gv xr n body)):
  oQ P w K l d (ux P w) (k+1) f o ps (Fb K g gv (k+1) fi):=by
 subst q;exact Md F S r m rfl λc A a s H E p i j xr t=>(e c A a s H E p i j xr t).h
section
variable{K:Rs}{cm:List R3}{m:Mem}{H:Hp}{xr:XR}{X:Cx}{call:Nat->List W->Mem->Res W}{gv:List T}
variable{a b c e:Rm}{es:List Rm}{ea eb ec:E}{eas:Es}{pos p p2:Pos}{rest:List Rt}{k:S}{n:Nat}
theorem Bt(x:Gl X "range")(u:X.mg "range" = Zy)(y:PA X [a,b] (tA X.K call gv xr eas))(s:notStar a=true:=by rfl)(c:notStar b=true:=by rfl):PI X tg (.Call (.Name "range" p) [a,b] [] pos) (tI X.K call gv xr (.blt .kf eas)):=by
 refine PI.mono (DD x u y (by rw[bq s,bq c];rfl) (bq c)) ?_;rintro σ H R ⟨g,B,m,z,M,l⟩;rw[ev]at l;refine⟨g,B,m,z,M,l.bind.mono λE A J L D C r F f=>?_⟩;have e:∀d t,cn .kf d=Zz t->∃i j,d=[.int i,.int j]:=by
  intro d t h;exact(uM h).imp λi w=>w.imp λj v=>v.1
 obtain⟨i,j,G,rfl,k,q⟩:=NI f e r;simp only[cn,GW]at k;split at k<;>cases k;rename_i hc;obtain⟨d,I,o,n⟩:=aR.now q C;cases o;exact⟨_,_,rfl,⟨hc.1.2,hc.1.1,hc.2.2,hc.2.1⟩,n _ (.Hr _ _)⟩
theorem Ec(h:views ws m=Zz [t1,t2]):∃w1 w2,ws=[w1,w2]/\view w1 m=Zz t1/\view w2 m=Zz t2:=by
 cases ws with
 |nil=>cases h
 |cons w ws =>
  unfold views at h;obtain⟨x,h1,h2⟩:=Option.bind_eq_some_iff.mp h;obtain⟨xs,h3,h4⟩:=Option.map_eq_some_iff.mp h2;cases h4;obtain⟨w2,rfl,h5⟩:=iL h3;exact⟨w,w2,rfl,h1,h5⟩
noncomputable abbrev zA(h:Rj)(a:R3):Rj:=h.push { cls:=.type "tuple_iterator",data:=.fields #[.ref a,.int 0 0] }
noncomputable abbrev zB(h:Rj)(a b:R3):Rj:=(zA h a).push { cls:=.type "list_iterator",data:=.fields #[.ref b,.int 0 0] }
noncomputable abbrev zC(h:Rj)(a b:R3):Rj:=(zB h a b).push { cls:=.type "tuple",data:=.seq #[.ref h.objs.size,.ref (zA h a).objs.size] }
noncomputable abbrev zD(h:Rj)(a b:R3):Rj:=(zC h a b).push { cls:=.type "tuple",data:=.seq #[.none,.none] }
noncomputable abbrev zE(h:Rj)(a b:R3):Rj:=(zD h a b).push { cls:=.type "zip",data:=.fields #[.none,.bool false,.bool false,.ref (zB h a b).objs.size,.ref (zC h a b).objs.size] }
theorem yy(a b:R3)(xs ys:Array Q7):XT (Builtin.«zip.__new__» ⟨[.type "zip",.ref a,.ref b],[]⟩)
  (λ_ R s=>s.heap.IsTuple a xs/\s.heap.IsList b ys/\R (.ok (.ret (.ref (zD s.heap a b).objs.size))) { s with heap:=zE s.heap a b }):=
 .of_wp λprog w A R s h=>by
  obtain⟨hp,g,d,tk,os⟩:=s;obtain⟨ha,hb,h⟩:=h;have hsub:=sub_zip;have h1:=ha;have h2:Heap.IsList (Shared.heap ⟨hp.push { cls:=.type "tuple_iterator",data:=.fields #[.ref a,.int 0 0] },g,d,tk,os⟩) b ys:=by
   obtain⟨o,e,r⟩:=hb;exact⟨o,R0 _ e,r⟩
  wp_walk using Ve h1,Uy h2
  exact⟨_,rfl,h⟩
theorem AA{E:Q7->R1->Prop}{a b:R3}(ha:s.heap.IsTuple a xs)(hb:s.heap.IsList b ys)(h:∀g:Rj,Hv (s.heap.objs.size+4) (s.heap.objs.size+2) (s.heap.objs.size+3) s.heap.objs.size (s.heap.objs.size+1) a b 0 g->(∀c o,s.heap.get? c=Zz o->g.get? c=Zz o)->Q (.ref (s.heap.objs.size+4)) { s with heap:=g }):
  RK (RS prog w) A (U7 (.type "zip") [.ref a,.ref b]) Q E s:=by
 refine callType_new F.called_zip (by decide) (F.typeCall_zip_2 _ _) (F.newCall_zip_2 _ _) (λobj=>F.args_object_init_3 obj _ _) F.entry_zip_new (yy a b xs ys) ⟨ha,hb,?_⟩;have e1:(zA s.heap a).objs.size=s.heap.objs.size+1:=Rz ..;have e2:(zB s.heap a b).objs.size=s.heap.objs.size+2:=by rw[Rz,e1]
 have e3:(zC s.heap a b).objs.size=s.heap.objs.size+3:=by rw[Rz,e2]
 have e4:(zD s.heap a b).objs.size=s.heap.objs.size+4:=by rw[Rz,e3]
 have up:∀{h:Rj}{o o':Obj}{c:R3},h.get? c=Zz o'->(h.push o).get? c=Zz o':=λe=>R0 _ e
 have g5:(zE s.heap a b).get? (zD s.heap a b).objs.size=Zz _:=RH _ rfl;have g4:(zE s.heap a b).get? (zC s.heap a b).objs.size=Zz _:=up (RH _ rfl);have g3:(zE s.heap a b).get? (zB s.heap a b).objs.size=Zz _:=up (up (RH _ rfl));have g2:(zE s.heap a b).get? (zA s.heap a).objs.size=Zz _:=up (up (up (RH _ rfl)));have g1:(zE s.heap a b).get? s.heap.objs.size=Zz _:=up (up (up (up (RH _ rfl))));rw[e2,e3,e4]at g5;rw[e1,e2]at g3;rw[e3]at g4;rw[e1]at g2;rw[e4];exact⟨⟨_,g5,rfl⟩,h _ ⟨g5,g3,⟨_,_,g4⟩,⟨_,g1,rfl,rfl⟩,⟨_,g2,rfl,rfl⟩⟩ λc o x=>up (up (up (up (up x))))⟩
def OF(K:Rs)(ta:TA):TI:=λσ H R=>ta σ H λvs H1=>∃a b xs ys,vs=[.ref a,.ref b]/\j3 K H1 a xs/\qk K H1 b ys/\R (Pe K a b) H1
theorem JF{ts:List Rm}{kk}(hg:Gl X "zip")(hm:X.mg "zip" = Zy)(ha:PA X [a,b] ta)(hs:S8 [a,b] X.env=[(false,eval a X.env),(false,eval b X.env)])(hs2:S8 [b] X.env=[(false,eval b X.env)]):
  PI X (.Tuple ts kk tp) (.Call (.Name "zip" p) [a,b] [] pos) (OF X.K ta):=by
 intro pins s σ H R I h;refine Call_ (kE I hg hm boot_zip (Sk (bR (ha pos pins s σ H _ I h) λus s1 ⟨vs,H1,I1,r1,q1⟩=>?_) (by rw[hs,hs2]) (by rw[hs2];rfl)));obtain⟨x,y,xs,ys,e,q1,q2,q⟩:=q1;subst e;cases r1 with
 |cons r rr =>
  cases rr with
  |cons r' rr =>
   cases rr;cases r;cases r';obtain⟨its,rv,p,_⟩:=I1.tuple q1;obtain⟨jts,rw',p',_⟩:=I1.list q2;have p1:=p;have p2:=vm p';obtain⟨o1,f1,_⟩:=id p1;obtain⟨o2,f2,_⟩:=id p2;refine AA p1 p2 λg S kp=>wpAny_pyIter_zip S.zip ?_
   have I2:=I1.kept (t':=s1.toks) kp;refine⟨_,[s1.heap.objs.size+4,s1.heap.objs.size+2,s1.heap.objs.size+3,s1.heap.objs.size,s1.heap.objs.size+1],_,_,H1,rfl,I2,E9 (zipApart_new (RM f1) (RM f2)),S,λb hb=>?_,q⟩;have hb':s1.heap.objs.size<=b:=by
    simp only[R9,R4,or_false]at hb;rcases hb with rfl|rfl|rfl|rfl|rfl<;>omega
   exact I1.D9 hb' (I1.hok.fresh hb')
theorem IG{kk}(hg:Gl X "zip")(hm:X.mg "zip" = Zy)(ha:PA X [a,b] (tA X.K call gv xr eas))(hs:notStar a=true:=by rfl)(hs2:notStar b=true:=by rfl):PI X (.Tuple ts kk tp) (.Call (.Name "zip" p) [a,b] [] pos) (tI X.K call gv xr (.Pl eas)):=by
 refine PI.mono (JF hg hm ha (by rw[bq hs,bq hs2];rfl) (bq hs2)) ?_;rintro σ H R ⟨env,cm,m,hE,M,ho⟩;rw[ev]at ho;refine⟨env,cm,m,hE,M,ho.bind.mono λws cm1 m1 H1 x1 M1 o1 vs rvs=>?_⟩;unfold Nh at o1;split at o1
 ·split at o1
  ·rename_i hl
   obtain _|⟨r1,_|⟨r2,_|_⟩⟩:=rvs;obtain⟨c,cs,rfl,h1,h2⟩:=RT.j4 r1;obtain⟨d,ds,rfl,h3,n3,h4⟩:=RT.J7 r2;obtain⟨ts,m2,q1,q2⟩:=aR.now o1 M1;cases q1;exact⟨_,_,_,_,rfl,h1,.of h3,q2 _ (.zip h1 ⟨h3,n3⟩ h2 h4 hl.1)⟩
  ·exact o1.elim
 ·exact o1.elim
theorem sH(z:Nat)(y:Nat)(x:Nat)(D:X.calm=true)(q:X.N.Nodup)(m:X.N[z]?=Zz x0:=by rfl)(l:X.N[y]?=Zz x1:=by rfl)(k:X.N[x]?=Zz x2:=by rfl)(f:Loc X.env.scope x0:=by first|exact TQ rfl|exact TD rfl)(e:Loc X.env.scope x1:=by first|exact TQ rfl|exact TD rfl)(d:Loc X.env.scope x2:=by first|exact TQ rfl|exact TD rfl)(p:X.fn x0=true∨X.env.scope.names.lookup x0=Zz .local:=by first|exact .inl rfl|exact .inr rfl)(o:X.fn x1=true∨X.env.scope.names.lookup x1=Zz .local:=by first|exact .inl rfl|exact .inr rfl)(n:X.fn x2=true∨X.env.scope.names.lookup x2=Zz .local:=by first|exact .inl rfl|exact .inr rfl)(j:(RJ [.Name x0 p0,.Name x1 p1,.Name x2 p2] X.env).map (·.2)=assign (.Name x0 p0) X.env::(RJ [.Name x1 p1,.Name x2 p2] X.env).map (·.2):=by rfl)(i:(RJ [.Name x1 p1,.Name x2 p2] X.env).map (·.2)=assign (.Name x1 p1) X.env::(RJ [.Name x2 p2] X.env).map (·.2):=by rfl)(h:(RJ [.Name x2 p2] X.env).map (·.2)=assign (.Name x2 p2) X.env::(RJ [] X.env).map (·.2):=by rfl)(C:(RJ [.Name x0 p0,.Name x1 p1,.Name x2 p2] X.env).length=3:=by rfl)(g:(RJ [.Name x0 p0,.Name x1 p1,.Name x2 p2] X.env).findIdx? (·.1)=Zy:=by rfl):PG X (.Tuple [.Name x0 p0,.Name x1 p1,.Name x2 p2] kk pos) (gT X.K (.tp [z,y,x])):=by
 rintro b s σ H v u Q I r ⟨a,t,G,F,A,E⟩;refine vS D (be (bt q m f p) (be (bt q l e o) (be (bt q k d n) nS h) i) j) C g b s σ H v u Q I r ⟨a,t,G,F,A,?_⟩;obtain⟨B,t,rfl,zq1⟩:=cons_of A;obtain⟨w,t,rfl,zq2⟩:=cons_of zq1;obtain⟨c,t,rfl,zq3⟩:=cons_of zq2;obtain rfl:=SM zq3;exact⟨B,_,rfl,w,_,rfl,c,_,rfl,rfl,E⟩
theorem Gr(i0:Nat)(i1:Nat)(i2:Nat)(i3:Nat)(hc:X.calm=true)(hN:X.N.Nodup)(hi0:X.N[i0]?=Zz x0:=by rfl)(hi1:X.N[i1]?=Zz x1:=by rfl)(hi2:X.N[i2]?=Zz x2:=by rfl)(hi3:X.N[i3]?=Zz x3:=by rfl)(hx0:Loc X.env.scope x0:=by first|exact TQ rfl|exact TD rfl)(hx1:Loc X.env.scope x1:=by first|exact TQ rfl|exact TD rfl)(hx2:Loc X.env.scope x2:=by first|exact TQ rfl|exact TD rfl)(hx3:Loc X.env.scope x3:=by first|exact TQ rfl|exact TD rfl)(hf0:X.fn x0=true∨X.env.scope.names.lookup x0=Zz .local:=by first|exact .inl rfl|exact .inr rfl)(hf1:X.fn x1=true∨X.env.scope.names.lookup x1=Zz .local:=by first|exact .inl rfl|exact .inr rfl)(hf2:X.fn x2=true∨X.env.scope.names.lookup x2=Zz .local:=by first|exact .inl rfl|exact .inr rfl)(hf3:X.fn x3=true∨X.env.scope.names.lookup x3=Zz .local:=by first|exact .inl rfl|exact .inr rfl)(hs0:(RJ [.Name x0 p0,.Name x1 p1,.Name x2 p2,.Name x3 p3] X.env).map (·.2)=assign (.Name x0 p0) X.env::(RJ [.Name x1 p1,.Name x2 p2,.Name x3 p3] X.env).map (·.2):=by rfl)(hs1:(RJ [.Name x1 p1,.Name x2 p2,.Name x3 p3] X.env).map (·.2)=assign (.Name x1 p1) X.env::(RJ [.Name x2 p2,.Name x3 p3] X.env).map (·.2):=by rfl)(hs2:(RJ [.Name x2 p2,.Name x3 p3] X.env).map (·.2)=assign (.Name x2 p2) X.env::(RJ [.Name x3 p3] X.env).map (·.2):=by rfl)(hs3:(RJ [.Name x3 p3] X.env).map (·.2)=assign (.Name x3 p3) X.env::(RJ [] X.env).map (·.2):=by rfl)(hn:(RJ [.Name x0 p0,.Name x1 p1,.Name x2 p2,.Name x3 p3] X.env).length=4:=by rfl)(hst:(RJ [.Name x0 p0,.Name x1 p1,.Name x2 p2,.Name x3 p3] X.env).findIdx? (·.1)=Zy:=by rfl):PG X (.Tuple [.Name x0 p0,.Name x1 p1,.Name x2 p2,.Name x3 p3] kk pos) (gT X.K (.tp [i0,i1,i2,i3])):=by
 rintro pins s σ H v u Q I r ⟨a,xs,e1,h1,h2,h3⟩;refine vS hc (be (bt hN hi0 hx0 hf0) (be (bt hN hi1 hx1 hf1) (be (bt hN hi2 hx2 hf2) (be (bt hN hi3 hx3 hf3) nS hs3) hs2) hs1) hs0) hn hst pins s σ H v u Q I r ⟨a,xs,e1,h1,h2,?_⟩;obtain⟨v0,xs,rfl,zq1⟩:=cons_of h2;obtain⟨v1,xs,rfl,zq2⟩:=cons_of zq1;obtain⟨v2,xs,rfl,zq3⟩:=cons_of zq2;obtain⟨v3,xs,rfl,zq4⟩:=cons_of zq3;obtain rfl:=SM zq4;exact⟨v0,_,rfl,v1,_,rfl,v2,_,rfl,v3,_,rfl,rfl,h3⟩
theorem sM(i0:Nat)(i1:Nat)(i2:Nat)(i3:Nat)(Z:Nat)(Y:Nat)(W:Nat)(hc:X.calm=true)(c:X.N.Nodup)(J:X.N[i0]?=Zz x0:=by rfl)(G:X.N[i1]?=Zz x1:=by rfl)(F:X.N[i2]?=Zz x2:=by rfl)(E:X.N[i3]?=Zz x3:=by rfl)(D:X.N[Z]?=Zz x4:=by rfl)(C:X.N[Y]?=Zz x5:=by rfl)(B:X.N[W]?=Zz x6:=by rfl)(o:Loc X.env.scope x0:=by first|exact TQ rfl|exact TD rfl)(n:Loc X.env.scope x1:=by first|exact TQ rfl|exact TD rfl)(m:Loc X.env.scope x2:=by first|exact TQ rfl|exact TD rfl)(l:Loc X.env.scope x3:=by first|exact TQ rfl|exact TD rfl)(k:Loc X.env.scope x4:=by first|exact TQ rfl|exact TD rfl)(j:Loc X.env.scope x5:=by first|exact TQ rfl|exact TD rfl)(i:Loc X.env.scope x6:=by first|exact TQ rfl|exact TD rfl)(T:X.fn x0=true∨X.env.scope.names.lookup x0=Zz .local:=by first|exact .inl rfl|exact .inr rfl)(S:X.fn x1=true∨X.env.scope.names.lookup x1=Zz .local:=by first|exact .inl rfl|exact .inr rfl)(R:X.fn x2=true∨X.env.scope.names.lookup x2=Zz .local:=by first|exact .inl rfl|exact .inr rfl)(P:X.fn x3=true∨X.env.scope.names.lookup x3=Zz .local:=by first|exact .inl rfl|exact .inr rfl)(O:X.fn x4=true∨X.env.scope.names.lookup x4=Zz .local:=by first|exact .inl rfl|exact .inr rfl)(M:X.fn x5=true∨X.env.scope.names.lookup x5=Zz .local:=by first|exact .inl rfl|exact .inr rfl)(L:X.fn x6=true∨X.env.scope.names.lookup x6=Zz .local:=by first|exact .inl rfl|exact .inr rfl)(A:(RJ [.Name x0 p0,.Name x1 p1,.Name x2 p2,.Name x3 p3,.Name x4 p4,.Name x5 p5,.Name x6 p6] X.env).map (·.2)=assign (.Name x0 p0) X.env::(RJ [.Name x1 p1,.Name x2 p2,.Name x3 p3,.Name x4 p4,.Name x5 p5,.Name x6 p6] X.env).map (·.2):=by rfl)(z:(RJ [.Name x1 p1,.Name x2 p2,.Name x3 p3,.Name x4 p4,.Name x5 p5,.Name x6 p6] X.env).map (·.2)=assign (.Name x1 p1) X.env::(RJ [.Name x2 p2,.Name x3 p3,.Name x4 p4,.Name x5 p5,.Name x6 p6] X.env).map (·.2):=by rfl)(y:(RJ [.Name x2 p2,.Name x3 p3,.Name x4 p4,.Name x5 p5,.Name x6 p6] X.env).map (·.2)=assign (.Name x2 p2) X.env::(RJ [.Name x3 p3,.Name x4 p4,.Name x5 p5,.Name x6 p6] X.env).map (·.2):=by rfl)(x:(RJ [.Name x3 p3,.Name x4 p4,.Name x5 p5,.Name x6 p6] X.env).map (·.2)=assign (.Name x3 p3) X.env::(RJ [.Name x4 p4,.Name x5 p5,.Name x6 p6] X.env).map (·.2):=by rfl)(w:(RJ [.Name x4 p4,.Name x5 p5,.Name x6 p6] X.env).map (·.2)=assign (.Name x4 p4) X.env::(RJ [.Name x5 p5,.Name x6 p6] X.env).map (·.2):=by rfl)(t:(RJ [.Name x5 p5,.Name x6 p6] X.env).map (·.2)=assign (.Name x5 p5) X.env::(RJ [.Name x6 p6] X.env).map (·.2):=by rfl)(q:(RJ [.Name x6 p6] X.env).map (·.2)=assign (.Name x6 p6) X.env::(RJ [] X.env).map (·.2):=by rfl)(hn:(RJ [.Name x0 p0,.Name x1 p1,.Name x2 p2,.Name x3 p3,.Name x4 p4,.Name x5 p5,.Name x6 p6] X.env).length=7:=by rfl)(p:(RJ [.Name x0 p0,.Name x1 p1,.Name x2 p2,.Name x3 p3,.Name x4 p4,.Name x5 p5,.Name x6 p6] X.env).findIdx? (·.1)=Zy:=by rfl):PG X (.Tuple [.Name x0 p0,.Name x1 p1,.Name x2 p2,.Name x3 p3,.Name x4 p4,.Name x5 p5,.Name x6 p6] kk pos) (gT X.K (.tp [i0,i1,i2,i3,Z,Y,W])):=by
 rintro f s σ H v u Q I r ⟨a,U,e1,h1,h2,h3⟩;refine vS hc (be (bt c J o T) (be (bt c G n S) (be (bt c F m R) (be (bt c E l P) (be (bt c D k O) (be (bt c C j M) (be (bt c B i L) nS q) t) w) x) y) z) A) hn p f s σ H v u Q I r ⟨a,U,e1,h1,h2,?_⟩;obtain⟨v0,U,rfl,zq1⟩:=cons_of h2;obtain⟨V,U,rfl,zq2⟩:=cons_of zq1;obtain⟨h,U,rfl,zq3⟩:=cons_of zq2;obtain⟨g,U,rfl,zq4⟩:=cons_of zq3;obtain⟨e,U,rfl,zq5⟩:=cons_of zq4;obtain⟨d,U,rfl,zq6⟩:=cons_of zq5;obtain⟨b,U,rfl,zq7⟩:=cons_of zq6;obtain rfl:=SM zq7;exact⟨v0,_,rfl,V,_,rfl,h,_,rfl,g,_,rfl,e,_,rfl,d,_,rfl,b,_,rfl,rfl,h3⟩
end
end Mi
namespace Mi
theorem bo:∀(ts:List T),(∀t∈ts,∃env',bK tg t env=Zz env'/\f env' m=.ok (g t) m)->cy f tg ts env m=.ok (ts.flatMap g) m
 |[],_=>rfl
 |t::ts,h=>by
  obtain⟨env',e1,e2⟩:=h t RR;rw[cy,e1];show(f env' m).bind _=_;rw[e2];show(cy f tg ts env m).bind _=_;rw[bo ts λt ht=>h t (RG _ ht)];rfl
inductive u7 {α β:Type}(R:α->β->Prop):List α->List β->Prop where
 |nil:u7 R [] []
 |cons {a:α}{b:β}{as:List α}{bs:List β}:R a b->u7 R as bs->u7 R (a::as) (b::bs)
theorem sx{P:Mem->Prop}:∀(ts:List T) (m:Mem),P m->(∀t∈ts,∀m,P m->∃env' xs m',bK tg t env=Zz env'/\f env' m=.ok xs m'/\P m'/\R t xs) ->
  ∃xss m',cy f tg ts env m=.ok xss.flatten m'/\P m'/\u7 R ts xss
 |[],m,hm,_=>⟨[],m,rfl,hm,.nil⟩
 |t::ts,m,hm,h=>by
  obtain⟨env',xs,m1,e1,e2,p1,r1⟩:=h t RR m hm;obtain⟨xss,m2,e3,p2,r2⟩:=sx ts m1 p1 λt ht=>h t (RG _ ht)
  refine⟨xs::xss,m2,?_,p2,.cons r1 r2⟩;rw[cy,e1];show(f env' m).bind _=_;rw[e2];show(cy f tg ts env m1).bind _=_;rw[e3];rfl
theorem rm{P:Env->Mem->Prop}:∀(ts:List T) (env:Env) (m:Mem),P env m->(∀t∈ts,∀env m,P env m->∃env1 env2 m2,bK tg t env=Zz env1/\f env1 m=.ok (.next env2) m2/\P env2 m2) ->
  ∃env' m',ca f tg ts env m=.ok (.next env') m'/\P env' m'
 |[],env,m,hm,_=>⟨env,m,rfl,hm⟩
 |t::ts,env,m,hm,h=>by
  obtain⟨env1,env2,m2,e1,e2,p2⟩:=h t RR env m hm;obtain⟨env3,m3,e3,p3⟩:=rm ts env2 m2 p2 λt ht=>h t (RG _ ht)
  refine⟨env3,m3,?_,p3⟩;rw[ca,e1];show(f env1 m).bind _=_;rw[e2];exact e3
theorem jk{α:Type}{xs:List α}{i:Int}(c:0<=i)(b:i<xs.length):∃x,atT xs i=Zz x/\x∈xs:=by
 have a:i.toNat<xs.length:=by omega
 refine⟨xs[i.toNat],?_,Tv a⟩;unfold atT jq;rw[XU c,XU b];exact Rg a
theorem d6{α:Type}(f:α->Bool):∀xs:List α,em (xs.map λx=>.bl (f x))=Zz (xs.map f)
 |[]=>rfl
 |x::xs=>by
  rw[RN,em,d6 f xs];rfl
theorem strs_map{α:Type}(f:α->List Nat):∀xs:List α,cC (xs.map λx=>.str (f x))=Zz (xs.map f)
 |[]=>rfl
 |x::xs=>by
  rw[RN,cC,strs_map f xs];rfl
theorem uO:∀xs:List (List Nat),ae [] xs=xs.flatten
 |[]=>rfl
 |[x]=>by simp[ae]
 |x::y::r=>by
  show x++[]++ae [] (y::r)=_;rw[uO (y::r)];simp
section
variable{call:Nat->List W->Mem->Res W}{gv:List T}
noncomputable def aY(call:Nat->List W->Mem->Res W)(gv:List T)(cs:Es)(inner:E)(env:Env)(m:Mem):Res (List T):=(tests call gv cs env m).bind λk m=>if k then(ev call gv inner env m).bind mU else .ok [] m
theorem aM(h1:ev call gv it env m=.ok x m0)(h2:bc x m0=.ok ts m1)(h3:cy (aY call gv cs inner) tg ts (RF own Zy++keep.map λi=>(env[i]?).join) m1=.ok out m2)(hz:out.length<=lim):ev call gv (.comp own keep it tg cs inner) env m=.ok (.t (.lst out)) (giveBack x m0 m2):=by
 have e:ev call gv (.comp own keep it tg cs inner) env m=(ev call gv it env m).only.bind λx m0=>(bc x m0).bind λts m =>
  (cy (aY call gv cs inner) tg ts (RF own Zy++keep.map λi=>(env[i]?).join) m).only.bind λout m =>
   if out.length<=lim then .ok (.t (.lst out)) (giveBack x m0 m)else .stuck:=by rw[ev];rfl
 rw[e,h1];show(bc x m0).bind _=_;rw[h2];show(cy (aY call gv cs inner) tg ts (RF own Zy++keep.map λi=>(env[i]?).join) m1).only.bind _=_;rw[h3];exact XU hz
theorem mV(c:ev call gv it env m=.ok x m0)(b:bc x m0=.ok ts m1)(a:ca (ex call gv body) tg ts env m1=.ok (.next env') m2):
  ex call gv (.Bb tg it body k) env m=ex call gv k env' (giveBack x m0 m2):=by
 rw[ex,c];show(bc x m0).bind _=_;rw[b];show(ca (ex call gv body) tg ts env m1).bind _=_;rw[a];rfl
end
section
variable{call:Nat->List W->Mem->Res W}{gv:List T}{env:Env}{m m1 m2:Mem}{k a b:S}{e:E}{w:W}
theorem af{α β:Type}(x:α)(m:Mem)(f:α->Mem->Res β):(Res.ok x m).bind f=f x m:=rfl
theorem Ld{α:Type}(x:α)(m:Mem):(Res.ok x m).only=.ok x m:=rfl
theorem LG(x:T)(m:Mem):view (.t x) m=Zz x:=rfl
theorem NR(x:T)(m:Mem):dy (Zz x) m=.ok (.t x) m:=rfl
theorem Jq(x:Bool)(m:Mem):jV (.t (.bl x)) m=.ok x m:=rfl
theorem zg(x:Bool)(m:Mem):cu (.t (.bl x)) m=.ok x m:=rfl
theorem Nl(x:T)(m:Mem):lR (.t x) m=.ok x m:=rfl
theorem Cn(x:List T)(m:Mem):mU (.t (.lst x)) m=.ok x m:=rfl
theorem L0(x:Int)(m:Mem):CM (.t (.int x)) m=.ok (Zz x) m:=rfl
theorem qx(i j:Int):bx .Lt (.int i) (.int j)=Zz (decide (i<j)):=rfl
theorem KE(i j:Int):bx .LtE (.int i) (.int j)=Zz (decide (i<=j)):=rfl
theorem ND(i j:Int):bx .Gt (.int i) (.int j)=Zz (decide (j<i)):=rfl
theorem Nn(i j:Int):bx .GtE (.int i) (.int j)=Zz (decide (j<=i)):=rfl
theorem jU(i j:Int):bx .Eq (.int i) (.int j)=Zz (i==j):=rfl
theorem Km(i j:Int):bx .NotEq (.int i) (.int j)=Zz (!(i==j)):=rfl
theorem N7(i j:Bool):bx .Eq (.bl i) (.bl j)=Zz (i==j):=rfl
theorem Nj(i j:Bool):bx .NotEq (.bl i) (.bl j)=Zz (!(i==j)):=rfl
theorem fR(i j:List Nat):bx .Eq (.str i) (.str j)=Zz (i==j):=rfl
theorem EQ(i j:List Nat):bx .NotEq (.str i) (.str j)=Zz (!(i==j)):=rfl
theorem Ka(i:Nat)(j:List Nat):bx .In (.str [i]) (.str j)=Zz (decide (i∈j)):=rfl
theorem N5(b x:Bool):bx .Is (.bl x) (.bl b)=Zz (x==b):=rfl
theorem db(i j:Int):kI .Add (.int i) (.int j)=Zz (.int (i+j)):=rfl
theorem yA(i j:Int):kI .Sub (.int i) (.int j)=Zz (.int (i-j)):=rfl
theorem dW{a b:List Nat}(h:a.length+b.length<=lim):kI .Add (.str a) (.str b)=Zz (.str (a++b)):=XU h
theorem uS(h:fV i j=true):kI .Mult (.int i) (.int j)=Zz (.int (i*j)):=XU h
theorem zm(h:0<j/\j<1073741824):kI .FloorDiv (.int i) (.int j)=Zz (.int (i / j)):=XU h
theorem lY(h:0<j):kI .Mod (.int i) (.int j)=Zz (.int (i%j)):=XU h
theorem N8(h:0<=j/\j<=1000/\i.natAbs<2^64):kI .Pow (.int i) (.int j)=Zz (.int (i^j.toNat)):=XU h
theorem Kk(ts:List T)(i:Int):y2 (.tup ts) (.int i)=atT ts i:=rfl
theorem Kv(ts:List T)(i:Int):y2 (.lst ts) (.int i)=atT ts i:=rfl
theorem Kt(ts:List Int)(i:Int):y2 (.dr ts) (.int i)=(atT ts i).map .int:=rfl
theorem Ke(h:cs.length<=lim)(i:Int):y2 (.str cs) (.int i)=(atT cs i).map λc=>.str [c]:=XU h
theorem NG(ts:List T)(lo hi:Option Int):HP (.lst ts) lo hi=Zz (.lst (cut ts lo hi)):=rfl
theorem NT(ts:List Int)(lo hi:Option Int):HP (.dr ts) lo hi=Zz (.lst ((cut ts lo hi).map .int)):=rfl
theorem u6(h:cs.length<=lim):cn .len [.str cs]=Zz (.int cs.length):=XU h
theorem xD(ts:List T):cn .len [.lst ts]=Zz (.int ts.length):=rfl
theorem Ck(ts:List T):cn .len [.tup ts]=Zz (.int ts.length):=rfl
theorem Kw(ts:List Int):cn .len [.dr ts]=Zz (.int ts.length):=rfl
theorem BW(b:Bool):cn .int [.bl b]=Zz (.int (b2i b)):=rfl
theorem kA(h:i.natAbs<2^250):cn .str [.int i]=Zz (.str (aO i)):=XU h
theorem jG(ts:List T):cn .tuple [.lst ts]=Zz (.tup ts):=rfl
theorem vc(h:em ts=Zz bs):cn .all [.lst ts]=Zz (.bl (bs.all id)):=by
 show(em ts).map _=_;rw[h];rfl
theorem pH(h:i<2^62/\-(2^62)<=i):cn .dm [.int i]=Zz (.lst (rangeT 0 i.toNat)):=XU h
theorem BL:views [] m=Zz []:=rfl
theorem Cm(x:T)(ws:List W):views (.t x::ws) m=(views ws m).map (x::·):=rfl
theorem cI:cO [] m=.ok [] m:=rfl
theorem ek(x:T)(ws:List W):cO (.t x::ws) m=(cO ws m).bind λts m=>.ok (x::ts) m:=rfl
theorem av(h:ev call gv e env m=.ok w m1):ex call gv (.asg i e k) env m=ex call gv k (env.set i (Zz w)) m1:=by rw[ex,h];rfl
theorem ai(h:ev call gv e env m=.ok w m1):ex call gv (.ret e k) env m=.ok (.ret w) m1:=by rw[ex,h];rfl
theorem aD(h:ev call gv e env m=.ok (.t (.bl true)) m1)(c:ex call gv a env m1=.ok (.ret w) m2):ex call gv (.bI e a b k) env m=.ok (.ret w) m2:=by
 rw[ex,h];show(ex call gv a env m1).bind _=_;rw[c];rfl
theorem ay(h:ev call gv e env m=.ok (.t (.bl false)) m1):ex call gv (.bI e a .done k) env m=ex call gv k env m1:=by rw[ex,h];rfl
theorem vG(f:ev call gv v env m=.ok (.t x) m1)(e:ev call gv o env m1=.ok (.c c) m1)(d:ev call gv i env m1=.ok (.t (.int j)) m1)(b:m1[c]?=Zz (Zz (false,xs)))(a:jq xs.length j=Zz q):
  ex call gv (.set o i v k) env m=ex call gv k env (m1.set c (Zz (false,xs.set q x))):=by
 rw[ex,f];show((ev call gv o env m1).bind _)=_;rw[e];show((ev call gv i env m1).bind _)=_;rw[d];show(setM (.c c) (.t (.int j)) (.t x) m1).bind _=_;have:setM (.c c) (.t (.int j)) (.t x) m1=.ok () (m1.set c (Zz (false,xs.set q x))):=by
  unfold setM;dsimp only[lR,Res.bind];rw[b];dsimp only;rw[a]
 rw[this];rfl
theorem aq(h:m1.length=n):fin n cell (.ret (.t t)) m1=.ok (.t t) m1:=by
 show Res.ok (W.t t) (m1.take n)=_;rw[<-h,WA]
theorem ax[Decidable c]{k:Nat}(hX:X=if c then(ex call gv b env m).bind λfl m'=>fin k cell fl m' else .stuck)(hc:c)(key:ex call gv b env m=.ok (.ret w) m1)(hf:fin k cell (.ret w) m1=.ok w' m2):X=.ok w' m2:=by
 rw[hX,XU hc,key];exact hf
theorem GF(h:cC xs=Zz ys)(b:(ys.map Rf).sum+ys.length*sep.length<=lim):Kr .join (.t (.str sep)) [.t (.lst xs)] m=.ok (.t (.str (ae sep ys))) m:=by
 show dy ((cC xs).bind λys=>if(ys.map Rf).sum+ys.length*sep.length<=lim then Zz (.str (ae sep ys))else Zy) m=_;rw[h];show dy (if(ys.map Rf).sum+ys.length*sep.length<=lim then Zz (.str (ae sep ys))else Zy) m=_;rw[XU b];rfl
theorem F2:xX .join (.t (.str x)) m=true:=rfl
end
noncomputable def dv:=Rc @af (Rc @Ld (Rc @LG (Rc @NR (Rc @Jq (Rc @zg (Rc @Nl (Rc @Cn (Rc @L0 (Rc @qx (Rc @KE (Rc @ND (Rc @Nn (Rc @jU (Rc @Km (Rc @N7 (Rc @Nj (Rc @fR (Rc @EQ (Rc @Ka (Rc @N5 (Rc @db (Rc @yA (Rc @Kk (Rc @Kv (Rc @Kt (Rc @NG (Rc @NT (Rc @xD (Rc @Ck (Rc @Kw (Rc @BW (Rc @jG (Rc @BL (Rc @Cm (Rc @cI (@ek))))))))))))))))))))))))))))))))))))
end Mi
namespace Mi
open PySem PySem.Spec PyProof.Rows L2
theorem nN:∀{a b:List Nat},cY a b=false->cY b a=false->a=b
 |[],[],_,_=>rfl
 |[],_::_,h,_=>by simp[cY]at h
 |_::_,[],_,h=>by simp[cY]at h
 |a::x,b::y,d,c=>by
  unfold cY at d c;by_cases h:a<b
  ·simp[h]at d
  ·by_cases h':b<a
   ·simp[h']at c
   ·have e:a=b:=by omega
    subst e;simp at d c;rw[nN d c]
theorem AS:∀{a b c:List Nat},cY b a=false->cY c b=false->cY c a=false
 |a,b,[],d,f=>by
  cases b with
  |nil=>cases a with
   |nil=>rfl
   |cons _ _=>simp[cY]at d
  |cons _ _=>simp[cY]at f
 |[],_,_::_,_,_=>rfl
 |a::x,[],c::z,d,f=>by simp[cY]at d
 |a::x,b::y,c::z,d,f=>by
  unfold cY at d f ⊢;by_cases p1:b<a
  ·simp[p1]at d
  ·by_cases p2:c<b
   ·simp[p2]at f
   ·by_cases p3:a<b
    ·have:¬c<a:=by omega
     have q:a<c:=by omega
     simp[this,q]
    ·have e:a=b:=by omega
     subst e;by_cases p4:a<c
     ·simp[p4,p2]
     ·have e:c=a:=by omega
      subst e;simp at d f ⊢;exact AS d f
theorem pD(x:List Nat):∀l,(wv x l).Perm (x::l)
 |[]=>.refl _
 |y::r=>by
  unfold wv;split
  ·exact((pD x r).cons y).trans (.swap x y r)
  ·exact .refl _
theorem gn:∀xs,(gN xs).Perm xs
 |[]=>.refl _
 |x::xs=>(pD x _).trans ((gn xs).cons x)
theorem BE(x:List Nat):∀{l:List (List Nat)},l.Pairwise (λa b=>cY b a=false)->(wv x l).Pairwise (λa b=>cY b a=false)
 |[],_=>Ut _ _
 |y::r,h=>by
  rw[SE]at h;unfold wv;split
  ·rename_i d
   refine SE.mpr ⟨λz f=>?_,BE x h.2⟩;rcases R9.mp ((pD x r).mem_iff.mp f)with rfl|f
   ·cases q:cY z y with
    |false=>rfl
    |true =>
     have:cY y z=false:=by
      rw[oX]at d q ⊢;exact XW λw=>XZ (List.lt_trans (Xa q) w) (List.lt_irrefl _)
     rw[this]at d;cases d
   ·exact h.1 z f
  ·rename_i d
   have d:cY y x=false:=by simpa using d
   refine SE.mpr ⟨λz f=>?_,SE.mpr h⟩;rcases R9.mp f with rfl|f
   ·exact d
   ·exact AS d (h.1 z f)
theorem sI:∀xs:List (List Nat),(gN xs).Pairwise (λa b=>cY b a=false)
 |[]=>.nil
 |x::xs=>BE x (sI xs)
theorem ET:∀a b:List Nat,ltCps a b=cY a b
 |[],[]=>by simp[ltCps,cY]
 |[],_::_=>by simp[ltCps,cY]
 |_::_,[]=>by simp[ltCps,cY]
 |a::x,b::y=>by
  unfold ltCps cY;rw[ET x y];by_cases h:a<b
  ·simp[h]
  ·by_cases h2:b<a
   ·have:¬a=b:=by omega
    simp[h,h2,this]
   ·have:a=b:=by omega
    subst this;simp
theorem kL:∀(l:List (List Nat)) (x:List Nat),risingS ⟨x.toArray⟩ (l.map λc=>(⟨c.toArray⟩:Str))=true->(x::l).Pairwise (λa b=>cY b a=false)
 |[],x,_=>Ut _ _
 |y::l,x,h=>by
  rw[RN,risingS.eq_2,R6]at h;have g:cY y x=false:=by
   have:=h.1;rw[ET]at this;simpa using this
  have f:=kL l y h.2;refine SE.mpr ⟨λz e=>?_,f⟩;rcases R9.mp e with rfl|e
  ·exact g
  ·exact AS g ((SE.mp f).1 z e)
theorem D3(hp:(ys.map λc=>(⟨c.toArray⟩:Str)).Perm (xs.map λc=>(⟨c.toArray⟩:Str)))(hs:sortedS (ys.map λc=>(⟨c.toArray⟩:Str))=true):ys=gN xs:=by
 have hp':ys.Perm xs:=by
  have:=hp.map λs:Str=>s.cps.toList
  simpa[Re,Function.comp_def]using this
 have hw:ys.Pairwise (λa b=>cY b a=false):=by
  cases ys with
  |nil=>exact .nil
  |cons y ys=>exact kL ys y hs
 exact List.Perm.eq_of_pairwise (λa b _ _ h1 h2=>nN h2 h1) hw (sI xs) (hp'.trans (gn xs).symm)
section
variable{K:Rs}{cm:List R3}{m:Mem}{H:Hp}{xr:XR}{X:Cx}{call:Nat->List W->Mem->Res W}{gv:List T}
variable{a b c e:Rm}{es:List Rm}{ea eb ec:E}{eas:Es}{pos p p2:Pos}{rest:List Rt}{k:S}{n:Nat}
theorem uC(h:XC us ss):∃ys:List (List Nat),ss=ys.map (λc=>(⟨c.toArray⟩:Str))/\Vals (ys.map λc=>V.str ⟨c.toArray⟩) us:=by
 induction h with
 |nil=>exact⟨[],rfl,.nil⟩
 |cons y t _ ih =>
  obtain⟨ys,rfl,h2⟩:=ih;exact⟨y.cps.toList::ys,by simp,.cons ⟨t,by simp⟩ h2⟩
theorem B7(ys:List (List Nat)):cH K cm m H (ys.map .str) (ys.map λc=>V.str ⟨c.toArray⟩):=by
 induction ys with
 |nil=>exact .nil
 |cons y ys d=>exact .cons (.str y) d
theorem wG:dq X (.builtin "sorted") (rN X.K xr (nQ .sorted)):=by
 rintro pins s σ H i us Q I r ⟨cm,m,ws,M,j,o⟩;obtain⟨w,v,t,rr,rfl,rfl,rv,e,c,o⟩:=xh j (fH (by decide)) o;cases t with
 |lst ts =>
  have c:((cC ts).bind λi=>if i.length<64 then Zz (T.lst ((gN i).map .str))else Zy)=Zz rr:=c;cases q:cC ts with
  |none=>rw[q]at c;cases c
  |some bs =>
   rw[q]at c;have c:(if bs.length<64 then Zz (T.lst ((gN bs).map .str))else Zy)=Zz rr:=c;split at c<;>cases c;rename_i h64;obtain⟨a,vs,rfl,h1,r1⟩:=aX M rv e;obtain⟨u,rfl,ru⟩:=vals1 r;cases ru;obtain⟨k,g,pl,hz⟩:=I.list (.of h1);cases cH.strs r1 q;have n:=i6 g;have hl:=g.length;rw[Q8]at hl;refine sorted_strs pl.isList n (by omega) λh ss' l f d=>?_
   obtain⟨ys,rfl,hv⟩:=uC l;have ey:=D3 f d;subst ey;obtain⟨ep,p⟩:=sortedAll_at s.heap k h;have hlen:=hv.length;have hsl:=Sh;have hpl:=(gn bs).length_eq;refine⟨.ref (s.heap.objs.size+1),_,I.laid (t':=s.toks) (λb ob q=>sortedAll_old q) (UM _) ?_,rfl,fZ o M (B7 _) (I.hok.fresh (UM _))⟩;refine⟨by rw[Q8];omega,h.toList,ep,hv,?_⟩;simpa[seqObj]using p
 |_=>cases c
theorem xP(c:Gl X "sorted")(b:X.mg "sorted" = Zy)(f:PA X (e::es) (tA X.K call gv xr eas))(d:notStar e=true)(a:es.all notStar=true):PE X (.Call (.Name "sorted" p) (e::es) [] pos) (tE X.K call gv xr (.blt .sorted eas)):=q8 wG (by decide +kernel) c b f (by decide) (by decide) d a
theorem nv{α β:Type}{F:α->β->Prop}:∀{xs:List α}{ys:List β}(k:Nat),Sr F xs ys->Sr F (xs.eraseIdx k) (ys.eraseIdx k)
 |_,_,_,.nil=>.nil
 |_,_,0,.cons _ t=>t
 |_,_,k+1,.cons r t=>.cons r (nv k t)
theorem D7:KA X "list.pop" (rM X.K xr .iX):=by
 rintro f s σ H x u v O Q I R S ⟨cm,m,w,N,M,o,n,h⟩;cases w with
 |t t=>exact h.elim
 |x _ _ _=>exact h.elim
 |c i =>
  have h:aR X.K ((cO N m).bind λl m=>match m[i]? with
   |some (Zz (false,u))=>match vI .iX u l with
    |some (t,e)=>.ok (W.t t) (m.set i (Zz (false,e)))
    |none=>.stuck
   |_=>.stuck) xr cm m H _:=h
  obtain⟨l,m2,e2,g⟩:=ka h;obtain⟨J,r,U⟩:=kX M n e2;obtain⟨a,D,rfl⟩:=o;split at g
  ·rename_i e e3
   split at g
   ·rename_i t zs d
    obtain⟨b,A,C,B,q3,p⟩:=r.at' i _ e3;rw[D]at C;cases C;have V:=p.length;have hz:=aT
    match l,U,d with
    |[.int j],.cons T .nil,d =>
     have d:(match jq e.length j with
      |some k=>(e[k]?).map λt=>(t,e.eraseIdx k)
      |none=>Zy)=Zz (t,zs):=d
     split at d
     ·rename_i k hk
      cases q5:e[k]? with
      |none=>rw[q5]at d;cases d
      |some y =>
       rw[q5]at d;cases d;cases RT.bV T;obtain⟨G,hy,P⟩:=ck p q5;obtain⟨z,E⟩:=mG r e3 D (nv k p);have q:KU A.length j=Zz k:=by rw[<-V];exact hk
       obtain⟨F,z2,z3,z4⟩:=wL q;obtain⟨Y,nn,rr,hho,Z⟩:=I.lst B;have hsl:=Sh;exact F5 f s σ H _ _ v O Q I R S ⟨a,A,j,k,G,rfl,rfl,B,by omega,by omega,F,hy,aR.to g (J.trans z) E _ (RT.ext z r E P)⟩
     ·cases d
    |[],_,d=>cases d
    |L::_::_,_,d=>cases L<;>cases d
    |[.non],_,d=>cases d
    |[.bl _],_,d=>cases d
    |[.str _],_,d=>cases d
    |[.tup _],_,d=>cases d
    |[.lst _],_,d=>cases d
    |[.dct _ _],_,d=>cases d
    |[.dr _],_,d=>cases d
   ·exact g.elim
  ·exact g.elim
theorem ty_cell{b:Mt}(d:b=.append∨b=.iX)(M:aC K cm m H)(r:RW K cm m H w v)(h:xX b w m=true):ML K "list" v H:=by
 cases w with
 |t t=>rcases d with rfl|rfl<;>cases h
 |x _ _ _=>rcases d with rfl|rfl<;>cases h
 |c i =>
  obtain⟨a,k,rfl⟩:=r;have f:(match m[i]? with
   |some (Zz _)=>true
   |_=>false)=true:=by rcases d with rfl|rfl<;>exact h
  split at f
  ·rename_i c e1
   obtain⟨b,g,e,j,_⟩:=M.at' i _ e1;rw[k]at e;cases e;exact .inl ⟨rfl,g,.of j⟩
  ·cases f
theorem IQ(z:PE X o (tE X.K call gv xr ea))(A:PA X [e] (tA X.K call gv xr eas))(b:TV o "pop" X.env (eval o X.env)=eval o X.env:=by rfl)(a:(apos.endLine==cpos.line)=true:=by rfl)(k:notStar e=true:=by rfl):
  PE X (.Call (.Attribute o "pop" apos) [e] [] cpos) (tE X.K call gv xr (.eP .iX ea eas)):=by
 refine PE.mono (sO PySem.F.plainAttrs_list PySem.F.slot_list_pop PySem.F.type_list_pop (D7 (xr:=xr)) z A b (Ao k) a (bq k) (ff rfl)) ?_;rintro σ H Q ⟨c,B,m,n,M,l⟩;rw[ev]at l;refine⟨c,B,m,n,M,l.bind.mono λw i x E r d g v j=>?_⟩;obtain⟨y,g⟩:=jg g;exact⟨ty_cell (.inr rfl) d j y,c,i,x,n.ext r M d,d,g.bind.mono λs h u D q p t C f=>⟨h,u,w,s,p,j.ext q d p,f,t⟩⟩
theorem zy:dq X (.type "list") (λxs H Q=>∃p ys,xs=[.ref p]/\(qk X.K H p ys∨j3 X.K H p ys)/\∀l,H l=Zy->X.K.lookup l=Zy->Q (.ref l) (upd H l (.lst ys))):=by
 intro pins s σ H xs us Q I r h;obtain⟨p,ys,rfl,hq,q⟩:=h;obtain⟨u,rfl,rx⟩:=vals1 r;cases rx;have fin:∀(its:List Q7),Vals ys its->ys.length<=RV->∀(h':Rj) (c':Nat),(∀b o',s.heap.get? b=Zz o'->h'.get? b=Zz o') ->
   h'.get? s.heap.objs.size=Zz { cls:=.type "list",dict:=Zy,data:=.seq its.toArray c',slots:=#[] }->EP X pins σ Q (.ref s.heap.objs.size) { s with heap:=h' }:=λits r' hz h' c' kp e =>
  ⟨.ref s.heap.objs.size,_,I.laid (t':=s.toks) kp (RD _) (show cL X.prog X.w _ h' _ (.lst ys)from⟨hz,its,c',r',e⟩),rfl,q _ (I.hok.fresh (RD _)) (Mi.Inv.Mz I)⟩
 rcases hq with hq|hq
 ·obtain⟨its,r',pl,hz⟩:=I.list hq
  have hlen:=r'.length;obtain⟨o,ho,hc,n,hd⟩:=pl.isList;exact Vx p (.inl rfl) ho hc hd (λh' c' kp e=>fin its r' hz h' c' kp e) (by simp only[R7]<;>omega)
 ·obtain⟨its,r',pl,hz⟩:=I.tuple hq
  have hlen:=r'.length;obtain⟨o,ho,hc,n,hd⟩:=pl;exact Vx p (.inr rfl) ho hc hd (λh' c' kp e=>fin its r' hz h' c' kp e) (by simp only[R7]<;>omega)
theorem Fm(hg:Gl X "list")(hm:X.mg "list" = Zy)(ha:PA X [e] (tA X.K call gv xr (.cons ea .nil)))(he:notStar e=true):PE X (.Call (.Name "list" p) [e] [] pos) (tE X.K call gv xr (.DZ ea)):=by
 refine PE.mono (uH zy hg hm (by decide +kernel) ha (by decide) (by decide) (bq he) (ff rfl)) ?_;rintro σ H Q ⟨d,cm,m,hE,M,b⟩;rw[ev]at b;have e0:evs call gv (.cons ea .nil) d m=(ev call gv ea d m).bind λw m=>.ok [w] m:=by
  rw[evs];cases ev call gv ea d m with
  |ok w f=>simp only[Res.bind,evs]
  |exc x f=>rfl
  |stuck=>rfl
 refine⟨d,cm,m,hE,M,?_⟩;rw[e0];cases q:ev call gv ea d m with
 |stuck=>rw[q]at b;exact b.elim
 |exc x f=>rw[q]at b;exact b
 |ok w f =>
  rw[q]at b;intro cm1 H1 x1 M1 vs rvs;cases rvs with
  |cons rv r0 =>
   cases r0;have b:aR X.K (match view w f with
    |some (.lst h)=>.ok (W.c f.length) (f++[Zz (false,h)])
    |some (.tup h)=>.ok (W.c f.length) (f++[Zz (false,h)])
    |_=>.stuck) xr cm1 f H1 _:=aR.shift b x1
   split at b
   ·rename_i h e1
    obtain⟨a,us,rfl,h1,r1⟩:=aX M1 rv e1;refine⟨a,us,rfl,.inl (.of h1),λl hl hk=>?_⟩;obtain⟨x3,M3,r3⟩:=ki M1 r1 hl hk;exact aR.to b x3 M3 _ r3
   ·rename_i h e1
    obtain⟨a,us,rfl,h1,r1⟩:=(ak rv e1 (λ_ z=>by cases z)).j4;refine⟨a,us,rfl,.inr h1,λl hl hk=>?_⟩;obtain⟨x3,M3,r3⟩:=ki M1 r1 hl hk;exact aR.to b x3 M3 _ r3
   ·exact b.elim
theorem Hu:dY X (SQ .Add) (λx y H Q=>∃l b xs zs,x=.ref l/\y=.ref b/\H l=Zz (.lst xs)/\H b=Zz (.lst zs)/\xs.length+zs.length<=RV/\∀p,H p=Zy->X.K.lookup p=Zy->Q (.ref p) (upd H p (.lst (xs++zs)))):=by
 intro pins s σ H x y v u Q I rx ry h;obtain⟨l,b,xs,zs,rfl,rfl,hH,hB,hz,q⟩:=h;cases rx;cases ry;obtain⟨z,its,n,r,hl,e⟩:=I.zt hH;obtain⟨z2,its2,n2,r2,hl2,e2⟩:=I.zt hB;refine PySem.P.add_list e e2 ?_ (by rw[R7,R7];omega);have ea:its.toArray++its2.toArray=(its++its2).toArray:=by simp
 rw[ea];exact⟨.ref _,_,I.Gm (t':=s.toks) (r.append r2) (by rw[R8];omega),rfl,q _ I.fresh (Mi.Inv.Mz I)⟩
theorem IU:dY X (SQ .Add) (r2 X.K xr Jy):=by
 rintro c s σ H x y v u Q I rx ry ⟨cm,m,a,b,M,ra,rb,d⟩;unfold Jy at d;split at d
 ·rename_i ts e
  obtain⟨ta,tb,ea,eb,e⟩:=kt e;unfold Db at e;have hz:=aT;split at e
  ·cases e
  ·split at e<;>cases e
  ·split at e<;>cases e
  ·split at e<;>cases e
   obtain⟨p,vs,rfl,h1,r1⟩:=aX M ra ea;obtain⟨q,us,rfl,h2,r2⟩:=aX M rb eb;have l1:=r1.length;have l2:=r2.length;refine Hu c s σ H _ _ v u Q I rx ry ⟨p,q,vs,us,rfl,rfl,h1,h2,by omega,λl hl hk=>?_⟩;obtain⟨x3,M3,r3⟩:=ki M (bY r1 r2) hl hk;exact aR.to d x3 M3 _ r3
  ·cases e
 ·exact d.elim
theorem E5(ha:PE X a (tE X.K call gv xr ea))(hb:PE X b (tE X.K call gv xr eb)):PE X (.BinOp a .Add b pos) (tE X.K call gv xr (.LD ea eb)):=
 PE.mono (Kd IU ha hb) (yO λe m=>by rw[ev])
end
theorem BN(a:List Nat):cY a a=false:=by rw[oX];simp
theorem Fz(e:cY a b=true)(d:cY b c=true):cY a c=true:=by
 rw[oX]at *;have e:=Xa e;have d:=Xa d;exact XX (List.lt_trans e d)
theorem Ji(h:cY a b=true):cY b a=false:=by
 cases q:cY b a with
 |false=>rfl
 |true =>
  have:=Fz h q;rw[BN]at this;cases this
theorem sF(x y:List Nat):∀l,y∈rT x l↔y=x∨y∈l
 |[]=>by simp[rT]
 |z::l=>by
  unfold rT;split
  ·simp
  ·split
   ·rw[R9,sF x y l,R9]
    constructor
    ·rintro (h|h|h)
     ·exact .inr (.inl h)
     ·exact .inl h
     ·exact .inr (.inr h)
    ·rintro (h|h|h)
     ·exact .inr (.inl h)
     ·exact .inl h
     ·exact .inr (.inr h)
   ·rename_i h1 h2
    have e:=nN (by simpa using h1) (by simpa using h2);subst e;simp
theorem BU(x:List Nat):∀l,l.Pairwise (λa b=>cY a b=true)->(rT x l).Pairwise (λa b=>cY a b=true)
 |[],_=>Ut _ _
 |z::l,h=>by
  unfold rT;obtain⟨f,g⟩:=SE.mp h;split
  ·rename_i hx
   refine SE.mpr ⟨λy d=>?_,h⟩;rcases R9.mp d with rfl|d
   ·exact hx
   ·exact Fz hx (f y d)
  ·split
   ·rename_i hz
    refine SE.mpr ⟨λy d=>?_,BU x l g⟩;rcases(sF x y l).mp d with rfl|d
    ·exact hz
    ·exact f y d
   ·exact h
theorem gP(y:List Nat):∀xs,y∈bH xs↔y∈xs
 |[]=>by simp[bH]
 |x::xs=>by
  show y∈rT x (bH xs)↔_;rw[sF,gP y xs,R9]
theorem mP:∀xs,(bH xs).Pairwise (λa b=>cY a b=true)
 |[]=>.nil
 |x::xs=>BU x _ (mP xs)
theorem sZ(xs:List (List Nat)):(bH xs).Nodup:=(mP xs).imp λ{a b} h e=>by
 subst e;rw[BN]at h;cases h
theorem Gu(a:Nat->Str)(x:Str):∀n,x∈dd a n↔∃i,i<n/\a i=x
 |0=>by simp[dd]
 |n+1=>by
  have b:=Gu a x n;unfold dd;split
  ·rename_i h
   rw[b];constructor
   ·rintro ⟨i,c,e⟩
    exact⟨i,by omega,e⟩
   ·rintro ⟨i,c,e⟩
    by_cases hn:i=n
    ·subst hn
     rw[e]at h;exact b.mp h
    ·exact⟨i,by omega,e⟩
  ·rw[Rp,b,Ro]
   constructor
   ·rintro (⟨i,c,e⟩|e)
    ·exact⟨i,by omega,e⟩
    ·exact⟨n,by omega,e.symm⟩
   ·rintro ⟨i,c,e⟩
    by_cases hn:i=n
    ·subst hn;exact .inr e.symm
    ·exact .inl ⟨i,by omega,e⟩
theorem BI{a b:List Nat}(h:(⟨a.toArray⟩:Str)=⟨b.toArray⟩):a=b:=by
 injection h with h;simpa using h
theorem K1(hv:∀(i:Nat) c,xs[i]?=Zz c->val i=⟨c.toArray⟩)(hd:(dd val xs.length).Nodup)(hp:(ys.map λc=>(⟨c.toArray⟩:Str)).Perm (dd val xs.length))(hs:sortedS (ys.map λc=>(⟨c.toArray⟩:Str))=true):ys=bH xs:=by
 have hw:ys.Pairwise (λa b=>cY b a=false):=by
  cases ys with
  |nil=>exact .nil
  |cons y ys=>exact kL ys y hs
 have hn:ys.Nodup:=by
  have h1:=hp.nodup_iff.mpr hd;exact(List.pairwise_map.mp h1).imp λ{a b} h e=>h (by rw[e])
 have hm:∀c,c∈ys↔c∈bH xs:=λc=>by
  rw[gP];have h1:c∈ys↔(⟨c.toArray⟩:Str)∈ys.map λc=>(⟨c.toArray⟩:Str):=by
   constructor
   ·exact λh=>RI.mpr ⟨c,h,rfl⟩
   ·intro h
    obtain⟨d,hd,e⟩:=RI.mp h;rw[<-BI e];exact hd
  rw[h1,hp.mem_iff,Gu];constructor
  ·rintro ⟨i,hi,e⟩
   have:=hv i xs[i] (Rg hi);rw[this]at e;rw[<-BI e];exact Tv hi
  ·intro h
   obtain⟨i,hi,rfl⟩:=VU h;exact⟨i,hi,hv i _ (Rg hi)⟩
 have hpm:=(List.perm_ext_iff_of_nodup hn (sZ xs)).mpr hm;exact List.Perm.eq_of_pairwise (λa b _ _ h1 h2=>nN h2 h1) hw ((mP xs).imp λ{a b} h=>Ji h) hpm
section
variable{K:Rs}{cm:List R3}{m:Mem}{H:Hp}{xr:XR}{X:Cx}{call:Nat->List W->Mem->Res W}{gv:List T}
variable{a b c e:Rm}{es:List Rm}{ea eb ec:E}{eas:Es}{pos p p2 pos2:Pos}{rest:List Rt}{k:S}{n:Nat}
theorem Inv.Mo(I:Inv X pins σ H s):Inv X pins σ H { s with drawn:=d }:=
 ⟨I.ok,I.os,I.bare,I.base,I.loc,I.cell,I.free,I.km,I.pin,I.hok,I.len⟩
theorem Mm{xs:List (List Nat)}(h:XC its (xs.map λc=>(⟨c.toArray⟩:Str))):∀(i:Nat) v,its[i]?=Zz v->∃t,v=.str ((xs.map λc=>(⟨c.toArray⟩:Str)).getD i ⟨#[]⟩) t:=by
 generalize xs.map (λc=>(⟨c.toArray⟩:Str))=ss at h
 induction h with
 |nil=>intro i v e;simp at e
 |cons y t _ ih =>
  intro i v e;cases i with
  |zero=>simp at e;exact⟨t,by rw[<-e];rfl⟩
  |succ i =>
   obtain⟨t',h'⟩:=ih i v (by simpa using e);exact⟨t',by rw[h'];rfl⟩
theorem zc(hc:X.calm=true)(hg1:Gl X "sorted")(hm1:X.mg "sorted" = Zy)(hg2:Gl X "set")(hm2:X.mg "set" = Zy)(ha:PA X [e] (tA X.K call gv xr (.cons ea .nil)))(he:notStar e=true:=by rfl):
  PE X (.Call (.Name "sorted" p) [.Call (.Name "set" p2) [e] [] pos2] [] pos) (tE X.K call gv xr (.blt .oE (.cons ea .nil))):=by
 rintro f s σ H Q I ⟨env,cm,m,hE,M,ho⟩;rw[ev]at ho;refine U4 (kE I hg1 hm1 (show Sw "sorted" = Zz (.builtin "sorted")from by decide +kernel) ?_ (by decide) (by decide));refine PyProof.Rows.callWith_builtin1 ?_ rfl rfl;refine Calls.spliced_cons ?_;refine U4 (kE I hg2 hm2 (show Sw "set" = Zz (.type "set")from by decide +kernel) ?_ (by decide) (by decide));refine Sk (bR (ha pos2 f s σ H (λvs H1=>∃cm1 m1 ws,aC X.K cm1 m1 H1/\Dx X.K cm1 m1 H1 ws vs/\aR X.K (nQ .oE ws m1) xr cm1 m1 H1 λw cm' m' H'=>∀v,RW X.K cm' m' H' w v->Q v H') I ⟨env,cm,m,hE,M,ho.bind.mono λws cm1 m1 H1 x1 M1 o1 vs rvs=>⟨cm1,m1,ws,M1,rvs,o1⟩⟩) λus s1 ⟨vs,H1,I1,r1,cm1,m1,ws,M1,rws,o1⟩=>?_) (bq he) rfl;obtain⟨w,v,t,rr,rfl,rfl,rv,eq,eb,ho⟩:=xh rws (fH (by decide)) o1;cases t with
 |lst ts =>
  have eb:((cC ts).bind λxs=>if xs.length<64 then Zz (T.lst ((bH xs).map .str))else Zy)=Zz rr:=eb;cases q:cC ts with
  |none=>rw[q]at eb;cases eb
  |some bs =>
   rw[q]at eb;have eb:(if bs.length<64 then Zz (T.lst ((bH bs).map .str))else Zy)=Zz rr:=eb;split at eb<;>cases eb;rename_i h64;obtain⟨a,vs,rfl,h1,rr1⟩:=aX M1 rv eq;obtain⟨u,rfl,ru⟩:=vals1 r1;cases ru;obtain⟨its,rv',pl,hz⟩:=I1.list (.of h1);cases cH.strs rr1 q;have hsa:=i6 rv';have hl:=rv'.length;rw[Q8]at hl;have hA:=I1.ok.hd hc;refine ui hA pl.isList (λi v hv=>Mm hsa i v (by simpa using hv)) (by unfold V8;simp;omega) λh' tk hS kp=>?_
   have I2:Inv X f σ H1 { s1 with heap:=h',toks:=tk }:=I1.kept kp;refine Q9 ?_;rw[show its.toArray.size=bs.length by simp;omega]at hS;have hlen:=Aw (λi=>(bs.map λc=>(⟨c.toArray⟩:Str)).getD i ⟨#[]⟩) bs.length;have hnd:(dd (λi=>(bs.map λc=>(⟨c.toArray⟩:Str)).getD i ⟨#[]⟩) bs.length).Nodup:=by
    obtain⟨_,_,_,_,_,hE⟩:=hS;exact hE.nd
   refine AB hA hS (by omega) λh2 tk2 d l out ss' ep hso g hsort hat hle kp2 ht=>?_
   obtain⟨ys,rfl,hv⟩:=uC hso;have ey:=K1 (λi c hc=>by simp[List.getD,hc]) hnd g hsort;subst ey;have hvl:=hv.length;have hsl:=Sh;have hpl:(bH bs).length<=bs.length:=by
    have:=g.length_eq;rw[Q8]at this;omega
   have I3:Inv X f σ (upd H1 l (.lst ((bH bs).map λc=>V.str ⟨c.toArray⟩))) { s1 with heap:=h2,toks:=tk2 }:=
    I2.laid (t':=tk2) kp2 hle ⟨by rw[Q8];omega,out,ep,hv,by simpa[seqObj]using hat⟩
   exact⟨.ref l,_,Inv.Mo I3,rfl,fZ ho M1 (B7 _) (I2.hok.fresh hle)⟩
 |_=>cases eb
theorem nU:∀{ks:List Key}{ts:List T}{a:List V}(_:cH K cm m H ts a) (k:Key),(∃t v,bB ks ts k=Zz t/\mI (ks.zip a) k=Zz v/\RT K cm m H t v)∨(bB ks ts k=Zy/\mI (ks.zip a) k=Zy)
 |[],_,_,_,k=>.inr ⟨by simp[bB],by simp[mI]⟩
 |_::_,_,_,.nil,k=>.inr ⟨by simp[bB],by simp[mI]⟩
 |b::ks,t::ts,v::a,.cons r c,k=>by
  by_cases h:b=k
  ·subst h
   exact .inl ⟨t,v,by simp[bB],by simp[mI],r⟩
  ·have e:bB (b::ks) (t::ts) k=bB ks ts k:=by simp[bB,UC,h]
   have d:mI ((b::ks).zip (v::a)) k=mI (ks.zip a) k:=by simp[mI,UC,h]
   rw[e,d];exact nU c k
theorem JK{k:Key}(h:fq t=Zz k)(r:RT K cm m H t v):v=kV k:=by
 unfold fq at h;split at h<;>cases h
 ·cases RT.bV r;rfl
 ·cases RT.cQ r;rfl
end
noncomputable abbrev q1(h:Rj)(a:R3):Rj:=h.push { cls:=.type "list_iterator",data:=.fields #[.ref a,.int 0 0] }
noncomputable abbrev q5(h:Rj)(a b c d:R3):Rj:=(q1 (q1 (q1 (q1 h a) b) c) d).push { cls:=.type "tuple",data:=.seq #[.ref h.objs.size,.ref (q1 h a).objs.size,.ref (q1 (q1 h a) b).objs.size,.ref (q1 (q1 (q1 h a) b) c).objs.size] }
noncomputable abbrev q6(h:Rj)(a b c d:R3):Rj:=(q5 h a b c d).push { cls:=.type "tuple",data:=.seq #[.none,.none,.none,.none] }
noncomputable abbrev q7(h:Rj)(a b c d:R3):Rj:=(q6 h a b c d).push { cls:=.type "zip",data:=.fields #[.none,.bool false,.bool false,.ref (q1 (q1 (q1 (q1 h a) b) c) d).objs.size,.ref (q5 h a b c d).objs.size] }
set_option maxHeartbeats 4000000 in
theorem Res.EJ{α β γ:Type}(r:Res α)(f:α->Mem->Res β)(g:β->Mem->Res γ):(r.bind f).bind g=r.bind λa m=>(f a m).bind g:=by cases r<;>rfl
section
variable{K:Rs}{cm cm':List R3}{m m':Mem}{H H':Hp}{xr:XR}{X:Cx}{call:Nat->List W->Mem->Res W}{gv:List T}
variable{a b c e:Rm}{es:List Rm}{ea eb ec:E}{eas:Es}{pos p p2:Pos}{rest:List Rt}{k:S}{n:Nat}
def PP(X:Cx)(call:Nat->List W->Mem->Res W)(gv:List T)(xr:XR)(p:Rm)(ea:E):Prop:=
 ∀(pins:List (R3×Obj)) (s:R1) (σ:L2.St) (H:Hp) (cm:List R3) (m:Mem) (env:Env) (acc:List Nat) (Q:List Nat->List R3->Mem->Hp->Prop),Inv X pins σ H s->bg X.K cm m H env σ->aC X.K cm m H ->
  aR X.K ((ev call gv ea env m).bind λw m=>iF acc w m) xr cm m H Q ->
  RK (RS X.prog X.w) X.A (eval p X.env) (λv s'=>∃H' cm' m' a tk,Inv X pins σ H' s'/\dJ cm m H cm' m' H'/\aC X.K cm' m' H'/\v=.str ⟨List.toArray a⟩ tk/\acc.length+a.length<=lim/\Q (acc++a) cm' m' H') X.xe s
theorem BV(h:aR K (iF acc w m) xr cm m H Q)(M:aC K cm m H):∃t a,w=.t t/\kw t=Zz a/\acc.length+a.length<=lim/\Q (acc++a) cm m H:=by
 unfold iF at h;split at h
 ·rename_i a e
  split at h
  ·rename_i hl
   cases w with
   |t t=>exact⟨t,a,rfl,e,hl,h.now M⟩
   |x _ _ _=>cases e
   |c i =>
    exfalso;unfold view at e;dsimp only at e;split at e<;>cases e
  ·exact h.elim
 ·exact h.elim
theorem KW{j}(h:x.cps.toList=cs):PP X call gv xr (.Constant (.str x) j pos) (.con (.str cs)):=by
 intro pins s σ H cm m env acc Q I hE M ho;rw[ev]at ho;obtain⟨t,a,e1,e2,hl,q⟩:=BV (show aR X.K (iF acc (.t (.str cs)) m) xr cm m H Q from ho) M;cases e1;cases e2;rw[mB h];exact Calls.Constant_str ⟨H,cm,m,cs,_,I.tok _,.refl,M,rfl,hl,q⟩
theorem Lr(h:PE X e (tE X.K call gv xr ea)):PP X call gv xr (.FormattedValue e (-1) Zy pos) ea:=by
 intro pins s σ H cm m env acc Q I hE M ho;refine FormattedValue_plain (bR (h pins s σ H (λv H1=>∃cm1 m1 w,dJ cm m H cm1 m1 H1/\aC X.K cm1 m1 H1/\RW X.K cm1 m1 H1 w v/\aR X.K (iF acc w m1) xr cm1 m1 H1 Q) I ⟨env,cm,m,hE,M,ho.bind.mono λw cm1 m1 H1 x1 M1 o1 v rv=>⟨cm1,m1,w,x1,M1,rv,o1⟩⟩) ?_);rintro u s1 ⟨v,H1,I1,ru,cm1,m1,w,x1,M1,rv,o1⟩;obtain⟨t,a,rfl,e2,hl,q⟩:=BV o1 M1;have hz:=aT;cases t with
 |str cs =>
  cases e2;cases RT.cQ rv;obtain⟨tk,rfl⟩:=ru;exact formatField_str (λt' k'=>⟨H1,cm1,m1,a,t',I1.tok _,x1,M1,rfl,hl,q⟩) (by show a.toArray.size<=_;rw[R7];omega)
 |int i =>
  have e2:(if i.natAbs<2^250 then Zz (aO i)else Zy)=Zz a:=e2;split at e2<;>cases e2;rename_i hc;cases RT.bV rv;obtain⟨tk,rfl⟩:=ru;have hd:i.natAbs.log2<1920:=by
   by_cases h0:i.natAbs=0
   ·rw[h0];decide
   ·have:i.natAbs.log2<250:=(Nat.log2_lt h0).mpr hc
    omega
  refine formatField_int_small hd ⟨H1,cm1,m1,aO i,s1.toks+1,I1.tok _,x1,M1,?_,hl,q⟩
  congr 1
 |_=>cases e2
def MH(X:Cx)(call:Nat->List W->Mem->Res W)(gv:List T)(xr:XR):List Rm->Es->Prop
 |[],.nil=>True
 |p::ps,.cons e es=>PP X call gv xr p e/\MH X call gv xr ps es
 |_,_=>False
theorem Lz:MH X call gv xr [] .nil:=T8
theorem HW(h1:PP X call gv xr e ea)(h2:MH X call gv xr es eas):MH X call gv xr (e::es) (.cons ea eas):=⟨h1,h2⟩
theorem xR:∀{ps:List Rm}{eas:Es}{s:R1}{H:Hp}{cm:List R3}{m:Mem}{acc:List Nat},MH X call gv xr ps eas->Inv X pins σ H s->bg X.K cm m H env σ->aC X.K cm m H->acc.length<=lim ->
  aR X.K ((tz call gv eas acc env m).bind λcs m=>.ok (W.t (.str cs)) m) xr cm m H (λw cm' m' H'=>∀v,RW X.K cm' m' H' w v->Q v H')->RK (RS X.prog X.w) X.A (joinParts ⟨acc.toArray⟩ (evalEach ps X.env)) (EP X pins σ Q) X.xe s
 |[],.nil,s,H,cm,m,acc,_,I,hE,M,hl,ho=>by
  rw[tz]at ho;have hz:=aT;exact joinParts_nil ⟨.str ⟨acc.toArray⟩,H,I.tok _,⟨_,rfl⟩,ans ho M (.str acc)⟩ (by show acc.toArray.size<=_;rw[R7];omega)
 |p::ps,.cons e es,s,H,cm,m,acc,hp,I,hE,M,hl,ho=>by
  rw[tz,Res.EJ]at ho;have e0:((ev call gv e env m).bind λw m=>((iF acc w m).bind λacc m=>tz call gv es acc env m).bind λcs m=>.ok (W.t (.str cs)) m)=((ev call gv e env m).bind λw m=>iF acc w m).bind λacc m=>(tz call gv es acc env m).bind λcs m=>.ok (W.t (.str cs)) m:=by
   rw[Res.EJ]
   congr 1
   funext w m
   rw[Res.EJ]
  rw[e0]at ho;refine joinParts_cons (bR (hp.1 pins s σ H cm m env acc _ I hE M ho.bind) ?_);rintro v s1 ⟨H1,cm1,m1,a,tk,I1,x1,M1,rfl,hl1,o1⟩;have hz:=aT;have hap:(⟨acc.toArray⟩:Str)++(⟨a.toArray⟩:Str)=⟨(acc++a).toArray⟩:=by
   show(⟨acc.toArray++a.toArray⟩:Str)=_;simp
  refine⟨?_,?_⟩
  ·rw[hap]
   show(acc++a).toArray.size<=_;rw[R7,R8];omega
  ·rw[hap]
   exact xR hp.2 I1 (hE.ext x1 M M1) M1 (by rw[R8];exact hl1) o1
 |[],.cons _ _,_,_,_,_,_,hp,_,_,_,_,_=>hp.elim
 |_::_,.nil,_,_,_,_,_,hp,_,_,_,_,_=>hp.elim
theorem HF(h:MH X call gv xr ps eas)(h2:2<=ps.length):PE X (.JoinedStr ps pos) (tE X.K call gv xr (.fst eas)):=by
 rintro pins s σ H Q I ⟨env,cm,m,hE,M,ho⟩;rw[ev]at ho
 match ps,h2,h with
 |p1::p2::r,_,h=>exact JoinedStr_many (xR h I hE M (Sy _) ho)
theorem EC:dh X sts (tS X.K call gv xr n .xC):=by
 rintro pins s σ H D I ⟨hl,env,cm,m,hE,M,ho⟩;rw[ex]at ho;exact ho.elim
theorem gJ{c:Nat}:∀{ws:List (List Nat)},ws≠[]->(∀w∈ws,c∉w)->aZ c (ae [c] ws)=ws
 |[],h,_=>XZ rfl h
 |[w],j,b=>by
  show aZ c w=[w]
  have d:=b w (Ro.mpr rfl);clear b j
  induction w with
  |nil=>rfl
  |cons a r i =>
   rw[aZ,XV (λz=>d (by rw[z];exact RR)),i λz=>d (RG _ z)]
 |w::v::r,j,b=>by
  have i:=gJ (by simp) λu k=>b u (RG _ k)
  show aZ c (w++[c]++ae [c] (v::r))=_;have d:=b w RR;clear b j
  induction w with
  |nil =>
   show aZ c (c::ae [c] (v::r))=_;rw[aZ,XU rfl,i]
  |cons a w g =>
   show aZ c (a::(w++[c]++ae [c] (v::r)))=_;rw[aZ,XV (λz=>d (by rw[z];exact RR)),g λz=>d (RG _ z)]
theorem y7(c:Nat)(cs:List Nat):V9 ⟨cs.toArray⟩ ⟨#[c]⟩=(aZ c cs).map λw=>(⟨w.toArray⟩:Str):=by
 have g:=StrLaws.join_split ⟨cs.toArray⟩ ⟨#[c]⟩;have f:=StrLaws.split_free ⟨cs.toArray⟩ c;have a:=split_pos (⟨cs.toArray⟩:Str) ⟨#[c]⟩;generalize d:V9 ⟨cs.toArray⟩ ⟨#[c]⟩=ps at g f a;have e:ps=(ps.map λp=>p.cps.toList).map λw=>(⟨w.toArray⟩:Str):=by
  rw[Re];exact(V1 (l:=ps)).symm.trans (List.map_congr_left λx _=>by cases x;simp)
 have i:ae [c] (ps.map λp=>p.cps.toList)=cs:=by
  have:=rg [c] (ps.map λp=>p.cps.toList);rw[<-e]at this;have k:=g.symm.trans this;have j:=congrArg (λz:Str=>z.cps.toList) k;simpa using j.symm
 have b:=gJ (ws:=ps.map λp=>p.cps.toList) (by
  intro z;have:ps=[]:=List.map_eq_nil_iff.mp z;rw[this]at a;simp at a) (λw h=>by
  obtain⟨q,d,rfl⟩:=RI.mp h;exact f q d)
 rw[i]at b;rw[b];exact e
theorem DU{E:Q7->R1->Prop}(b:(y.length==0)=false)(f:x.length+2<=RV)(h:∀(l:List (Str×Tok)) (k:Nat),l.map (·.1)=V9 x y->Q (.ref s.heap.objs.size) { s with heap:=s.heap.push { cls:=.type "list",data:=.seq (XA l).toArray },toks:=k }):
  RK (RS prog w) A (U7 (.builtin "str.split") [.str x t,.str y u]) Q E s:=by
 have a:(Uc x (S5 x y 0 x.length (x.length+1)) y.length).length<=RV:=by
  have:=StrLaws.occ_length_le x y 0 x.length (x.length+1);rw[length_partsBetween];omega
 by_cases h1:(decide (x.length<y.length) || decide (Builtin.Str.strKind x<Builtin.Str.strKind y))=true
 ·refine Sg U2 (U5 _ _ _) Tp (Vi _ _) (meets_str_split_cannot_occur x y t u h1) ?_
  exact h [(x,t)] s.toks (XU h1).symm
 ·have d:=SJ.mpr h1
  by_cases h2:(S5 x y 0 x.length (x.length+1)).isEmpty=true
  ·refine Sg U2 (U5 _ _ _) Tp (Vi _ _) (meets_str_split_not_found x y t u d b h2) ?_
   exact h [(x,t)] s.toks ((XV h1).trans (XU h2)).symm
  ·have e:=SJ.mpr h2
   refine Sg U2 (U5 _ _ _) Tp (Vi _ _) (meets_str_split_sep x y t u d b e (by omega) a) ?_;have q:=h (numbered s.toks (Uc x (S5 x y 0 x.length (x.length+1)) y.length)) (s.toks+(Uc x (S5 x y 0 x.length (x.length+1)) y.length).length) ((numbered_texts _ _).trans ((XV h1).trans (XV h2)).symm);rw[<-strsFrom_eq]at q;exact q
theorem kq:∀{l:List (Str×Tok)}{xs:List Str},l.map (·.1)=xs->Vals (xs.map V.str) (XA l)
 |[],_,e=>by cases e;exact .nil
 |q::l,_,e=>by cases e;exact .cons ⟨q.2,rfl⟩ (kq rfl)
theorem rP:∀(ws:List (List Nat)),cH K cm m H (ws.map T.str) (ws.map λw=>V.str ⟨w.toArray⟩)
 |[]=>.nil
 |w::ws=>.cons (.str w) (rP ws)
theorem mq(c:Nat):∀x:List Nat,(aZ c x).length<=x.length+1
 |[]=>by rw[aZ];simp
 |a::r=>by
  have b:=mq c r;rw[aZ];split
  ·simp only[RE];omega
  ·split
   ·rename_i e;rw[e]at b;simp only[RE]at b ⊢;omega
   ·simp only[RE,Rh];omega
theorem CT:KA X "str.split" (rM X.K xr .split):=by
 rintro f s σ H x xs v us Q I rx rs ⟨cm,m,w,ws,M,b,a,h⟩;obtain⟨tw,ts,t,q1,q2,e,d⟩:=sV h;clear h;unfold iV at e;dsimp only at e;split at e
 ·rename_i cs
  split at e
  ·rename_i c
   split at e<;>cases e;rename_i hl;obtain⟨w1,rfl,e1⟩:=iL q2;cases(ak b q1 (λ_ z=>by cases z)).cQ;cases a with
   |cons r1 r0 =>
    cases r0;cases(ak r1 e1 (λ_ z=>by cases z)).cQ;obtain⟨tt,rfl⟩:=rx;obtain⟨u1,rfl,tu,rfl⟩:=vals1 rs;have hz:=aT;unfold lim at hz;refine DU rfl (by show cs.toArray.size+2<=_;rw[R7];omega) λl k' j=>?_
    rw[y7 c cs]at j;have g:=kq j;rw[Re]at g;have i:=mq c cs;have I':=I.Gm (t':=k') g (by rw[Q8];omega);exact⟨.ref s.heap.objs.size,_,I',rfl,fZ d M (rP _) I.fresh⟩
  ·cases e
 ·cases e
theorem vp(r:RW K cm m H w v)(h:xX .split w m=true):ML K "str" v H:=by
 have a:(match view w m with|some (.str _)=>true|_=>false)=true:=h;split at a
 ·rename_i cs e
  cases(ak r e (λ_ z=>by cases z)).cQ;rfl
 ·cases a
theorem DM(z:PE X o (tE X.K call gv xr ea))(A:PA X [e] (tA X.K call gv xr eas))(b:TV o "split" X.env (eval o X.env)=eval o X.env:=by rfl)(a:(apos.endLine==cpos.line)=true:=by rfl)(k:notStar e=true:=by rfl):
  PE X (.Call (.Attribute o "split" apos) [e] [] cpos) (tE X.K call gv xr (.eP .split ea eas)):=by
 refine PE.mono (sO TN PySem.F.slot_str_split PySem.F.type_str_split (CT (xr:=xr)) z A b (Ao k) a (bq k) (ff rfl)) ?_;rintro σ H Q ⟨c,B,m,n,M,l⟩;rw[ev]at l;refine⟨c,B,m,n,M,l.bind.mono λw h x E r i f v j=>?_⟩;obtain⟨y,f⟩:=jg f;refine⟨vp j y,c,h,x,n.ext r M i,i,f.bind.mono λs g u D q p t C d=>?_⟩;exact⟨g,u,w,s,p,j.ext q i p,d,t⟩
end
inductive pR (P:Rk) (w:Rx) (K:Rs) (mg:Str->Option Q7) (x:Str) (ks:List Key) (ts:List T)  : Prop where
 |mk (a:R3) (us:List Q7) (ys:List V) (_:mg x=Zz (.ref a)) (_:(∀h:Rj,K.In h->h.DictOf (dA P w) a (ks.zip us))) (_:(a==Uh)=false) (_:Vals ys us) (_:ks.length=us.length) (_:∀cm m H,cH K cm m H ts ys)
section
variable{K:Rs}{cm cm':List R3}{m m':Mem}{H H':Hp}{xr:XR}{X:Cx}{call:Nat->List W->Mem->Res W}{gv:List T}
variable{a b c e:Rm}{es:List Rm}{ea eb ec:E}{eas:Es}{pos p p2:Pos}{rest:List Rt}{k:Nat}{n:Nat}
theorem wY:∀{ks:List Key}{ys:List V}{us:List Q7},Vals ys us->KV (ks.zip ys) (ks.zip us)
 |[],_,_,_=>.nil
 |_::_,_,_,.nil=>.nil
 |_::_,_,_,.cons r a=>.cons ⟨rfl,r⟩ (wY a)
theorem kQ(h:ni o f=Zz t):∃ks ts,o=Zz (.dct ks ts)/\f ks ts=Zz t:=by
 unfold ni at h;split at h
 ·exact⟨_,_,rfl,h⟩
 ·cases h
theorem oZ(r:RW K cm m H w v)(e:view w m=Zz t)(a:fq t=Zz kk):v=kV kk:=by
 refine JK a (ak r e λb z=>?_);subst z;cases a
theorem BO(hg:Gl X x)(hk:gv[k]?=Zz (.dct ks ts))(ok:pR X.prog X.w X.K X.mg x ks ts)(hb:PE X b (tE X.K call gv xr eb))(hs:NL b)(hd:(x==("__debug__" : Str))=false):PE X (.Subscript (.Name x p) b pos) (tE X.K call gv xr (.MA k eb)):=by
 obtain⟨a,us,ys,h1,h2,h3,h4,h5,h6⟩:=ok;rintro pins s σ H Q I ⟨env,cm,m,hE,M,ho⟩;rw[ev]at ho;refine Hy PySem.F.slot_dict_getitem.lookup hs (oG I hg h1 (bR (hb pins s σ H (λv H1=>∃cm1 m1 w,aC X.K cm1 m1 H1/\RW X.K cm1 m1 H1 w v/\aR X.K (dy ((view w m1).bind λx=>ni gv[k]? λks vs=>(fq x).bind (bB ks vs)) m1) xr cm1 m1 H1 λw cm' m' H'=>∀v,RW X.K cm' m' H' w v->Q v H') I ⟨env,cm,m,hE,M,ho.bind.mono λw cm1 m1 H1 x1 M1 o1 v rv=>⟨cm1,m1,w,M1,rv,o1⟩⟩) ?_) hd);rintro u s1 ⟨v,H1,I1,ru,cm1,m1,w,M1,rv,o1⟩;obtain⟨t,e,o1⟩:=ci o1;have dd:=h2 _ I1.qv;refine⟨dd.typeIs,?_⟩;cases q:view w m1 with
 |none=>rw[q]at e;cases e
 |some tw =>
  rw[q]at e;obtain⟨ks',ts',e1,e2⟩:=kQ (show ni gv[k]? (λks vs=>(fq tw).bind (bB ks vs))=Zz t from e);rw[hk]at e1;cases e1;cases q2:fq tw with
  |none=>rw[q2]at e2;cases e2
  |some kk =>
   rw[q2]at e2;have e2:bB ks ts kk=Zz t:=e2;cases oZ rv q q2;rcases nU (ks:=ks) (h6 cm1 m1 H1) kk with⟨t',v',f1,f2,f3⟩|⟨f1,_⟩
   ·rw[e2]at f1;cases f1
    obtain⟨u',g1,g2⟩:=oJ.some_of (v:=v') (o:=WD (ks.zip us) kk) (by rw[<-f2];exact(wY h4).val kk);exact wpAny_getItem_of (Cc ru) dd.mapOf g1 ⟨v',H1,I1.tok _,g2,ans o1 M1 f3⟩
   ·rw[e2]at f1;cases f1
noncomputable def Fi(neg:Bool):Vm:=if neg then .NotIn else .In
theorem JI(hg:Gl X x)(hk:gv[k]?=Zz (.dct ks ts))(ok:pR X.prog X.w X.K X.mg x ks ts)(hb:PE X b (tE X.K call gv xr eb))(hd:(x==("__debug__" : Str))=false):PC X (Fi neg) b (.Name x p) (tE X.K call gv xr (.L7 k neg eb)):=by
 obtain⟨a,us,ys,h1,h2,h3,h4,h5,h6⟩:=ok;rintro pins s σ H Q I ⟨env,cm,m,hE,M,ho⟩;rw[ev]at ho;refine bR (hb pins s σ H (λv H1=>∃cm1 m1 w,aC X.K cm1 m1 H1/\RW X.K cm1 m1 H1 w v/\aR X.K (dy ((view w m1).bind λx=>ni gv[k]? λks vs=>(fq x).map λk=>T.bl (if neg then !(bB ks vs k).isSome else(bB ks vs k).isSome)) m1) xr cm1 m1 H1 λw cm' m' H'=>∀v,RW X.K cm' m' H' w v->Q v H') I ⟨env,cm,m,hE,M,ho.bind.mono λw cm1 m1 H1 x1 M1 o1 v rv=>⟨cm1,m1,w,M1,rv,o1⟩⟩) ?_;rintro u s1 ⟨v,H1,I1,ru,cm1,m1,w,M1,rv,o1⟩;refine oG I1 hg h1 ?_ hd;obtain⟨t,e,o1⟩:=ci o1;have dd:=h2 _ I1.qv;cases q:view w m1 with
 |none=>rw[q]at e;cases e
 |some tw =>
  rw[q]at e;obtain⟨ks',ts',e1,e2⟩:=kQ (show ni gv[k]? (λks vs=>(fq tw).map λk=>T.bl (if neg then !(bB ks vs k).isSome else(bB ks vs k).isSome))=Zz t from e);rw[hk]at e1;cases e1;cases q2:fq tw with
  |none=>rw[q2]at e2;cases e2
  |some kk =>
   rw[q2]at e2;cases e2;cases oZ rv q q2;have hv:(WD (ks.zip us) kk).isSome=(bB ks ts kk).isSome:=by
    have r:=(wY (ks:=ks) h4).val kk;rcases nU (ks:=ks) (h6 cm1 m1 H1) kk with⟨t',v',f1,f2,f3⟩|⟨f1,f2⟩
    ·rw[f2]at r
     obtain⟨u',g1,_⟩:=oJ.some_of r;rw[g1,f1];rfl
    ·rw[f2]at r
     rw[oJ.none_of r,f1];rfl
   cases neg with
   |true =>
    refine wpAny_notIn_of (Cc ru) h3 dd.mapOf ?_;rw[hv];exact⟨.bl _,H1,I1.tok _,rfl,ans o1 M1 (.bl _)⟩
   |false =>
    refine wpAny_in_of (Cc ru) h3 dd.mapOf ?_;rw[hv];exact⟨.bl _,H1,I1.tok _,rfl,ans o1 M1 (.bl _)⟩
theorem ME(h:ev call gv (.L7 k neg eb) env m=.ok w m'):∃k,w=.t (.bl k):=by
 rw[ev]at h;obtain⟨x,b,_,h⟩:=aS h;unfold dy at h;split at h
 ·rename_i t e
  obtain⟨rfl,rfl⟩:W.t t=w/\b=m':=by cases h;exact⟨rfl,rfl⟩
  cases q:view x b with
  |none=>rw[q]at e;cases e
  |some c =>
   rw[q]at e;obtain⟨f,d,i,a⟩:=kQ e;cases q2:fq c with
   |none=>rw[q2]at a;cases a
   |some g=>rw[q2]at a;cases a;exact⟨_,rfl⟩
 ·cases h
theorem Ht(d:Gl X x)(c:gv[k]?=Zz (.dct ks ts))(ok:pR X.prog X.w X.K X.mg x ks ts)(g:PE X b (tE X.K call gv xr eb))(e:(x==("__debug__" : Str))=false)(a:Tr (Fi neg) (.Name x p)=false):PT X (.Compare b [Fi neg] [.Name x p] pos) (tT X.K call gv xr (.L7 k neg eb)):=
 vW (f:=λ_ _=>.stuck) (te:=tE X.K call gv xr (.L7 k neg eb)) (PT.mono (KR (JI (neg:=neg) d c ok g e) a) λσ H Q q=>q) (λi m w j h=>ME h) (λσ H Q q=>q)
theorem AI{ks:List (List Nat)}(h:ks.Nodup):(ks.map λk=>(Vl ⟨k.toArray⟩:Key)).Nodup:=by
 refine List.Pairwise.map _ (λa b c z=>c ?_) h;have:=congrArg (λq:Key=>match q with|.inr x=>x.cps.toList|.inl _=>[]) z;simpa using this
theorem BJ{α β:Type}:∀{xs:List α}{ys:List β},xs.length=ys.length->(xs.zip ys).map (·.1)=xs
 |[],_,_=>rfl
 |_::_,[],h=>by simp at h
 |x::xs,y::ys,h=>by simp[BJ (xs:=xs) (ys:=ys) (by simpa using h)]
inductive eT (w:Rx):List (List Nat)->List Q7->List VZ->Prop where
 |nil:eT w [] [] []
 |cons {y:Str}{t:Tok}{cs:List Nat}{h:Int}{u:Q7}{css:List (List Nat)}{us:List Q7}{es:List VZ}:y.cps.toList=cs->h=hashStr w y->eT w css us es->eT w (cs::css) (u::us) (⟨h,.str y t,u⟩::es)
def VT(K:Rs)(u:Q7)(t:T):Prop:=∃v,RelV v u/\∀cm m H,RT K cm m H t v
inductive dz (K:Rs):List Q7->List T->Prop where
 |nil:dz K [] []
 |cons {u:Q7}{t:T}{us:List Q7}{ts:List T}:VT K u t->dz K us ts->dz K (u::us) (t::ts)
theorem bp(h:y.cps.toList=cs):VT K (.str y t) (.str cs):=⟨.str y,⟨t,rfl⟩,λa m H=>by rw[mB h];exact .str cs⟩
theorem dz.get:∀{us:List Q7}{ts:List T},dz K us ts->∃ys,Vals ys us/\∀cm m H,cH K cm m H ts ys
 |_,_,.nil=>⟨[],.nil,λ_ _ _=>.nil⟩
 |_,_,.cons ⟨v,h1,h2⟩ r=>let⟨ys,h3,h4⟩:=r.get;⟨v::ys,.cons h1 h3,λcm m H=>.cons (h2 cm m H) (h4 cm m H)⟩
theorem il{a:R3}(l:K.lookup a=Zz ⟨.type "tuple",Zy,.seq its nn,sl⟩)(hz:its.size<=RV)(hs:dz K its.toList ts):VT K (.ref a) (.tup ts):=by
 obtain⟨ys,h1,h2⟩:=hs.get;exact⟨.ref a,rfl,λcm m H=>.yj (.inr ⟨_,its,nn,l,rfl,rfl,hz,h1,rfl⟩) (h2 cm m H)⟩
theorem eT.pairs:∀{c:List (List Nat)}{us:List Q7}{es:List VZ},eT w c us es->(∀e∈es,∃k,(dA P w).is k e.key=true/\e.hash=(dA P w).hash k)/\Pairs (dA P w) es ((c.map λk=>(Vl ⟨k.toArray⟩:Key)).zip us)/\c.length=us.length
 |_,_,_,.nil=>Rc (λe he=>nomatch he) (Rc Pairs.nil rfl)
 |_,_,_,@eT.cons _ y t cs h u c us es e1 e2 r=>by
  obtain⟨h1,h2,h3⟩:=eT.pairs (P:=P) r;refine⟨λe he=>?_,.cons (kv:=(.inr ⟨cs.toArray⟩,u)) ?_ rfl h2,by simp[h3]⟩
  ·rcases R9.mp he with rfl|he
   ·exact⟨.inr y,oV y t,e2⟩
   ·exact h1 e he
  ·show r6 (.inr ⟨cs.toArray⟩) (.str y t)=true
   rw[<-mB e1];exact oV y t
theorem oW{a:R3}{es:Array VZ}(h:mg x=Zz (.ref a))(l:K.lookup a=Zz ⟨.type "dict",Zy,.dict es nn,#[]⟩)(hz:(a==Uh)=false)(he:eT w css us es.toList)(nd:css.Nodup)(hv:dz K us ts):pR P w K mg x (css.map λk=>.inr ⟨k.toArray⟩) ts:=by
 obtain⟨ys,h1,h2⟩:=hv.get;obtain⟨p1,p2,p3⟩:=he.pairs (P:=P);refine⟨a,us,ys,h,λhh hK=>⟨_,es,nn,hK a _ l,⟨rfl,rfl,rfl⟩,rfl,λe hm=>p1 e (Array.mem_toList_iff.mpr hm),p2,?_⟩,hz,h1,by rw[Q8];exact p3,h2⟩;rw[BJ (by rw[Q8];exact p3)];exact AI nd
end
end Mi
namespace So
open PySem PySem.W PyProof.Rows
variable{n:Nat}{R:Nat->Nat->Bool}{cmp:Nat->Nat->(Bool->R1->Prop)->R1->Prop}{s:R1}{p:Array Nat}
structure OC (n:Nat) (R:Nat->Nat->Bool):Prop where
 tr:∀i j k,i<n->j<n->k<n->R i j=true->R j k=true->R i k=true
 tot:∀i j,i<n->j<n->i≠j->R i j=false->R j i=true
 P6:∀i j,i<n->j<n->R i j=true->R j i=false
def Pm(n:Nat)(p:Array Nat):Prop:=p.toList.Perm (SA n)
theorem Pm.size(h:Pm n p):p.size=n:=by
 have:=h.length_eq;simpa using this
theorem Pm.lt(h:Pm n p)(b:k<n):p.getD k 0<n:=by
 have a:=h.size;have e:p.getD k 0=p[k]'(by omega):=by simp[X0,a,b]
 rw[e];have:p[k]'(by omega)∈p.toList:=by simp
 have:=h.mem_iff.1 this;simpa using this
theorem Pm.ne(h:Pm n p)(hi:i<n)(g:j<n)(a:i≠j):p.getD i 0≠p.getD j 0:=by
 have d:=h.size;have f:p.toList.Nodup:=h.nodup_iff.2 List.nodup_range;have l:p.getD i 0=p.toList[i]'(by simp;omega):=by simp[X0,d,hi]
 have k:p.getD j 0=p.toList[j]'(by simp;omega):=by simp[X0,d,g]
 rw[l,k];have b:=List.pairwise_iff_getElem.1 f;rcases Nat.lt_or_gt_of_ne a with c|c
 ·exact b i j _ _ c
 ·exact λe=>b j i _ _ c e.symm
def Up(R:Nat->Nat->Bool)(p:Array Nat)(m:Nat):Prop:=∀i j,i<j->j<m->R (p.getD i 0) (p.getD j 0)=true
def Dn(R:Nat->Nat->Bool)(p:Array Nat)(m:Nat):Prop:=∀i j,i<j->j<m->R (p.getD j 0) (p.getD i 0)=true
theorem Up.succ(O:OC n R)(P:Pm n p)(k:1<=m)(b:m<n)(u:Up R p m)(e:R (p.getD (m-1) 0) (p.getD m 0)=true):Up R p (m+1):=by
 intro i j a h;by_cases c:j<m
 ·exact u i j a c
 have:j=m:=by omega
 subst this;by_cases d:i=j-1
 ·subst d;exact e
 have g:i<j-1:=by omega
 have f:j-1<j:=by omega
 exact O.tr _ _ _ (P.lt (VX a b)) (P.lt (VX f b)) (P.lt b) (u i (j-1) g f) e
theorem Dn.succ(O:OC n R)(P:Pm n p)(k:1<=m)(b:m<n)(u:Dn R p m)(e:R (p.getD m 0) (p.getD (m-1) 0)=true):Dn R p (m+1):=by
 intro i j a h;by_cases c:j<m
 ·exact u i j a c
 have:j=m:=by omega
 subst this;by_cases d:i=j-1
 ·subst d;exact e
 have g:i<j-1:=by omega
 have f:j-1<j:=by omega
 exact O.tr _ _ _ (P.lt b) (P.lt (VX f b)) (P.lt (VX a b)) e (u i (j-1) g f)
section
variable(O:OC n R) (hc:∀i j (C:Bool->R1->Prop),i<n->j<n->C (R i j) s->cmp i j C s)
include O hc
end
end So
end
section
set_option backward.eqns.nonrecursive false
set_option backward.eqns.deepRecursiveSplit false
set_option maxHeartbeats 1000000
namespace Mi
open PySem PySem.Spec PyProof.Rows L2
section
open PySem.W
variable{prog:Rk}{w:Rx}{A:SO}{E:Q7->R1->Prop}{s:R1}
def TI(h:Rj)(v:Q7)(k:List Int):Prop:=∃a o its n,v=.ref a/\h.get? a=Zz o/\o.cls=.type "tuple"/\o.data=.seq its n/\Wj its.toList k
open Classical in
end
section
variable{K:Rs}{cm:List R3}{m:Mem}{H:Hp}{xr:XR}{X:Cx}{call:Nat->List W->Mem->Res W}{gv:List T}
variable{e:Rm}{es:List Rm}{ea:E}{eas:Es}{pos p p2:Pos}{rest:List Rt}{k:S}{n:Nat}
theorem Ln{k:Nat}(hc:X.calm=true)(h:MU X es t)(hn:(RJ es X.env).length=n:=by rfl)(hst:(RJ es X.env).findIdx? (·.1)=Zy:=by rfl):PG X (.Tuple es k pos) (λv σ H Q=>∃a xs,v=.ref a/\H a=Zz (.lst xs)/\xs.length=n/\t xs σ H Q):=by
 intro pins s σ H v u Q I r hw;obtain⟨a,xs,e1,hq,hl,hw⟩:=hw;subst e1;cases r;obtain⟨its,rv,ht,hz⟩:=I.list (.of hq);have hlen:=rv.length;rw[assign_Tuple];refine Q6 (TR ?_);unfold unpack;rw[hn,hst,show n=its.toArray.size by simp;omega];refine Q6 (Sc (PySem.W.kun_itemsOf (I.ok.hd hc) ht.isList λh' hx=>?_));have I1:Inv X pins σ H { s with heap:=h' }:=I.kept (t':=s.toks) λb o e=>hx b o (Rn (RM e)) e
 exact h pins _ σ H xs _ Q I1 (by simpa using rv) hw
inductive PJ (is:List Nat) (v:V) (σ:L2.St) (H:Hp) (Q:L2.St->Hp->Prop):Prop where
 |mk (a xs) (_:v=.ref a) (_:H a=Zz (.lst xs)) (_:xs.length=is.length) (_:Q (cr is xs σ) H)
theorem D5(hN:∀i∈f,i<n)(h:PE X e (tE X.K call gv xr ea))(hg:PG X tg (PJ f))(hk:dh X rest (tS X.K call gv xr n k))(hs:Vt [tg] e pos.line X.env=pure false:=by rfl)(hw:Vu [tg] e X.env=pure Zy:=by rfl)(h1:(RJ [tg] X.env).map (·.2)=[assign tg X.env]:=by rfl):dh X (.Assign [tg] e pos::rest) (tS X.K call gv xr n (.H9 f ea k)):=by
 refine dh.mono (cz (zF h hg hs hw h1) hk) ?_;rintro D σ H ⟨s,b,cm,m,u,M,r⟩;rw[ex]at r;refine⟨b,cm,m,u,M,r.bind.mono λw l o H1 A z d v C=>?_⟩;cases w with
 |x _ _ _=>exact d.elim
 |c i=>exact d.elim
 |t t =>
  cases t with
  |lst g =>
   have d:aR X.K (match bK (.tp f) (.tup g) b with
    |some b=>ex call gv k b o
    |none=>.stuck) xr l o H1 _:=d
   have y:bK (.tp f) (.tup g) b=if g.length=f.length then Zz ((f.zip g).foldl (λb p=>b.set p.1 (Zz (.t p.2))) b)else Zy:=rfl
   by_cases hlen:g.length=f.length
   ·rw[y,XU hlen]at d
    obtain⟨a,B,rfl,h2,_,q⟩:=RT.J7 C;exact⟨a,B,rfl,h2,by rw[<-q.length];exact hlen,(iA _ _ _).trans s,_,l,o,bg.cr (u.ext A M z) q (λj hj=>by rw[s];exact hN j hj),z,d⟩
   ·rw[y,XV hlen]at d
    exact d.elim
  |_=>exact d.elim
noncomputable def iv:Q7->Int
 |.int n _=>n
 |_=>0
end
section
variable{K:Rs}{cm:List R3}{m:Mem}{H:Hp}{xr:XR}{X:Cx}{call:Nat->List W->Mem->Res W}{gv:List T}
variable{e e2:Rm}{es:List Rm}{ea:E}{eas:Es}{pos p p2:Pos}{rest:List Rt}{k:S}{n:Nat}
theorem Pa(a:[e,e2].all notStar=true):((backTo cpos (S8 [e,e2] X.env)).all (λx=>!x.1)&&(XG cpos (Wt [] X.env)).all (λx=>x.1.isSome)
  && decide ([e,e2].length+([]:List WU).length+(if([]:List WU).isEmpty then 0 else 1)<30))=true:=by
 rw[v7 a];rfl
end
section
variable{X:Cx}{params:X4}{body:Rm}{scope:Uu}{pos:Pos}{q:Str}
structure PH (X:Cx) (y:Str) (scope:Uu):Prop where
 kind:scope.kind=.function
 co:scope.isCoroutine=false
 gen:scope.isGenerator=false
 O1:∀x∈scope.names,x.2≠.cell
 O0:scope.names.lookup y=Zz .local
 look:∀p∈scope.names,scope.names.lookup p.1=Zz p.2
 free:∀x,(x,S2)∈scope.names->X.env.kindOf x=Zz .cell∨X.env.kindOf x=Zz .free
end
noncomputable def bF(ps:List R3)(K:Rs):Rs:=K.filter λp=>!ps.contains p.1
theorem lp:∀(K:Rs),(bF ps K).lookup a=if ps.contains a then Zy else K.lookup a
 |[]=>by cases ps.contains a<;>rfl
 |(b,o)::K=>by
  have c:=lp (ps:=ps) (a:=a) K;unfold bF at c ⊢;rw[List.filter_cons];by_cases hb:a=b
  ·subst hb
   cases hc:ps.contains a with
   |true =>
    simp only[hc,TW,Rb,if_false,if_true]at c ⊢;exact c
   |false=>simp only[hc,Bool.not_false,if_true,Rb,if_false,SG,beq_self_eq_true]
  ·have e:=XY.mpr hb
   rw[SG,e];cases hc:ps.contains b with
   |true =>
    simp only[hc,TW,Rb,if_false];exact c
   |false =>
    simp only[hc,Bool.not_false,if_true,SG,e];exact c
noncomputable def Jb(_:List R3)(_:Rs):Bool:=true
section
variable{ps:List R3}{K:Rs}(T:∀P∈ps,K.lookup P=Zz (tabObj #[]))
include T
theorem b8(l:K.lookup a=Zz o)(b:o.data≠.fields #[]):(bF ps K).lookup a=Zz o:=by
 rw[lp,XV λz=>?_]
 ·exact l
 ·have:=T a (V4.mp z)
  rw[l]at this;cases this;exact b rfl
theorem Cj(e:codeIn K cd x=true):codeIn (bF ps K) cd x=true:=by
 cases cd with
 |ref c =>
  have:(bF ps K).lookup c=K.lookup c:=by
   rw[lp,XV λz=>?_];have:=T c (V4.mp z);unfold codeIn at e;dsimp only at e;rw[this]at e;cases e
  unfold codeIn at e ⊢;dsimp only at e ⊢;rw[this];exact e
 |_=>cases e
theorem BM(l:K.lookup f=Zz ⟨oc,od,.func fd,sl⟩):keepIn (bF ps K) (.ref f)=true:=by
 have:=b8 T l (λz=>by cases z);unfold keepIn;dsimp only;rw[this]
end
theorem law_callT{K:Rs}(KX:K.In s₁.heap)(T:∀P∈ps,K.lookup P=Zz (tabObj #[]))(C:∀P∈ps,∃c,XO K c P=true)(B:Jb ps K=true)(hns:s₁.heap.Ns RQ mg)(hb:s₁.heap.Ns Ui mb)(hbb:∀x:Str,x≠"__name__"->mb x=Sw x)(hlim:s₁.heap.NoLimit)(hbm:∃bm ob,mg "__builtins__" = Zz (.ref bm)/\bm≠Ui/\s₁.heap.get? bm=Zz ob/\ob.cls=.type "module"/\ob.dict=Zz Ui/\ob.data=.plain)(hg:s₁.gens=#[])(ha:s₁.heap.get? a=Zz { cls:=.type "list",data:=.seq vs.toArray })(hi:Wj vs ns)(hl:ns.length<=RV)(hr:jF k WV)(F:∀base:Rj,(bF ps K).In base->base.Ns RQ mg->oQ P w (bF ps K) mg base CX k fa fd [x] sp)(hbind:∀(s:R1) (u:Q7),WS s fd ⟨[u],[]⟩ [(x,u)])(hsp:∀H:Hp,rJ (bF ps K) H->kr (bF ps K) H a ns->sp [.ref a] H (λv _=>v=.bl true) λ_ _ _=>False)(hCX:∀H e s',CX [] H s₁ (λ_ _ _=>False) e s'->False):
  UI (RS P w) WV (.call (.ref fa) ⟨[.ref a],[]⟩) (λr s'=>r=.ok (.ret (.bool true))/\OldK s₁.heap s'.heap/\s'.os=s₁.os/\VV s'.gens) s₁:=by
 have rv:=uR hi;have lenV:=hi.length;have TH:=λP hP=>KX P _ (T P hP)
 have aps:a∉ps:=λz=>by have:=TH a z;rw[ha]at this;cases this
 have core:∀(H:Hp),kr (bF ps K) H a ns->pf P w H s₁.heap->(∀b u,H b=Zz u->(b=a/\∃o xs,u=.lR o (.lst xs))∨(b∈ps/\u=.zo #[]))->(∀b∈ps,H b=Zz (.zo #[]))->(H a≠Zy->K.lookup a=Zy) ->
   UI (RS P w) WV (.call (.ref fa) ⟨[.ref a],[]⟩) (λr s'=>r=.ok (.ret (.bool true))/\OldK s₁.heap s'.heap/\s'.os=s₁.os/\VV s'.gens) s₁:=by
  intro H hS hok hA hT hK;have i:∀{b:R3}{o:Obj},s₁.heap.get? b=Zz o->H b=Zy->(vE s₁.heap H).get? b=Zz o:=λe n=>Gi e n
  have noA:∀{b:R3}{o:Obj},s₁.heap.get? b=Zz o->o.cls≠.type "list"∨(∀its n,o.data≠.seq its n)->(∀gs,o.data≠.fields gs)->H b=Zy:=λ{b o} e d1 d2=>by
   cases q:H b with
   |none=>rfl
   |some u =>
    rcases hA b u q with⟨e',_⟩|⟨e',_⟩
    ·subst e'
     rw[ha]at e;cases e;rcases d1 with d|d
     ·exact XZ rfl d
     ·exact XZ rfl (d _ _)
    ·have:=TH b e'
     rw[this]at e;cases e;exact XZ rfl (d2 _)
  have nsK:∀{b:R3}{m:Str->Option Q7},s₁.heap.Ns b m->(vE s₁.heap H).Ns b m:=λ{b m} ⟨o,es,ep,e,d,r⟩=>⟨o,es,ep,i e (noA e (.inr λ_ _ z=>by rw[d]at z;cases z) λ_ z=>by rw[d]at z;cases z),d,r⟩
  have hKb:(bF ps K).In (vE s₁.heap H):=λb o e=>by
   rw[lp]at e;split at e
   ·cases e
   ·rename_i z
    refine i (KX b o e) ?_;cases q:H b with
    |none=>rfl
    |some u =>
     rcases hA b u q with⟨e',_⟩|⟨e',_⟩
     ·subst e'
      rw[hK (by rw[q];simp)]at e;cases e
     ·exact XZ (V4.mpr e') z
  have hM:Mod (bF ps K) mg (vE s₁.heap H):=⟨hKb,nsK hns,⟨mb,nsK hb,hbb⟩,let⟨mc,h1,h2⟩:=hlim;⟨mc,nsK h1,h2⟩,by
   obtain⟨bm,ob,b1,b2,b3,b4,b5,b6⟩:=hbm;exact⟨bm,ob,b1,b2,i b3 (noA b3 (.inr λ_ _ z=>by rw[b6]at z;cases z) λ_ z=>by rw[b6]at z;cases z),b4,b5,b6⟩⟩
  have e0:J4 P w (bF ps K) mg (vE s₁.heap H) WV [] s₁ H:=⟨rfl,hM,λb o e=>HX e,Wo (DE _ _),trivial,λb hb=>XZ (show b∈([]:List R3)from hb) (by simp),hok,.of_eq hg⟩
  have tab:rJ (bF ps K) H:=trivial;refine UR ((F _ hKb (nsK hns)).run WV [] s₁ H ⟨[.ref a],[]⟩ [.ref a] [.ref a] _ _ hr e0 (hbind s₁ (.ref a)) (.cons rfl .nil) (hsp H tab hS)) λr s' h=>?_
  cases r with
  |error e=>exact(hCX H e s' h).elim
  |ok fl =>
   cases fl with
   |next=>exact UK h
   |brk=>exact UK h
   |cont=>exact UK h
   |ret u =>
    obtain⟨v,H',os,bare,un,hok',r',q⟩:=h;have q':=q;subst q';obtain rfl:u=Sf true:=r';have all:∀b o,s₁.heap.get? b=Zz o->s'.heap.get? b=Zz o∨(b∈ps/\∃more,s'.heap.get? b=Zz (tabObj more)):=λb o e=>by
     cases q:H b with
     |none=>exact .inl (un.keep b o e q (by intro z;exact XZ (show b∈([]:List R3)from z) (by simp)) (by simp))
     |some u =>
      rcases hA b u q with⟨_,ob,xs,z⟩|⟨z1,z⟩
      ·subst z
       have z2:=un.cO b ob _ q;obtain⟨e1,_⟩:=hok b _ q;obtain⟨e2,_⟩:=hok' b _ z2;rw[e]at e1;cases e1;exact .inl e2
      ·subst z
       obtain⟨more,z2⟩:=un.pb b _ q;exact .inr ⟨z1,_,hok' b _ z2⟩
    refine⟨rfl,⟨λb o e=>?_,λb o e=>?_⟩,os,bare⟩
    ·rcases all b o e with z|⟨z1,more,z⟩
     ·exact .inl z
     ·have e':=TH b z1
      rw[e]at e';cases e';obtain⟨c,hc⟩:=C b z1;exact .inr (.inl ⟨((PySem.W.codeHd_of_K KX hc).tab e).isCodeTable,rfl,#[],more,rfl,by rw[z];simp⟩)
    ·rcases all b o e with z|⟨_,more,z⟩
     ·exact⟨_,z⟩
     ·exact⟨_,z⟩
 have tabOk:∀{H:Hp}{b:R3},b∈ps->cL P w H s₁.heap b (.zo #[]):=λhb=>TH _ hb
 cases hk:K.lookup a with
 |some o =>
  have e:=KX a o hk;rw[ha]at e;cases e;refine core (λb=>if b∈ps then Zz (.zo #[])else Zy) (.inr ⟨_,vs.toArray,_,b8 T hk (λz=>by cases z),rfl,rfl,rfl,by rw[R7,lenV];exact hl,by simpa using rv⟩) (λb u z=>?_) (λb u z=>?_) (λb hb=>XU hb) λz=>XZ (XV aps) z
  ·by_cases hb:b∈ps
   ·have z:=(XU hb).symm.trans z
    cases z;exact tabOk hb
   ·have z:=(XV hb).symm.trans z
    cases z
  ·by_cases hb:b∈ps
   ·have z:=(XU hb).symm.trans z
    cases z;exact .inr ⟨hb,rfl⟩
   ·have z:=(XV hb).symm.trans z
    cases z
 |none =>
  generalize hH:(λb=>if b=a then Zz (.lR { cls:=.type "list",data:=.seq vs.toArray } (.lst (ns.map V.int)))else if b∈ps then Zz (.zo #[])else Zy:Hp)=H;have Ha:H a=Zz (.lR { cls:=.type "list",data:=.seq vs.toArray } (.lst (ns.map V.int))):=by rw[<-hH];exact XU rfl
  have Hp':∀b∈ps,H b=Zz (.zo #[]):=λb hb=>by
   rw[<-hH];exact(XV λz=>aps (by rw[<-z];exact hb)).trans (XU hb)
  have Hc:∀b u,H b=Zz u->(b=a/\u=.lR { cls:=.type "list",data:=.seq vs.toArray } (.lst (ns.map V.int)))∨(b∈ps/\u=.zo #[]):=λb u z=>by
   by_cases hb:b=a
   ·subst hb
    rw[Ha]at z;cases z;exact .inl ⟨rfl,rfl⟩
   ·by_cases hb':b∈ps
    ·rw[Hp' b hb']at z;cases z
     exact .inr ⟨hb',rfl⟩
    ·rw[<-hH]at z
     have z:Zy=Zz u:=((XV hb).trans (XV hb')).symm.trans z;cases z
  refine core H (.inl ⟨_,Ha⟩) (λb u z=>?_) (λb u z=>?_) Hp' λ_=>hk
  ·rcases Hc b u z with⟨rfl,rfl⟩|⟨h1,rfl⟩
   ·exact⟨ha,by rw[Q8];exact hl,vs,_,rv,ha⟩
   ·exact tabOk h1
  ·rcases Hc b u z with⟨h1,rfl⟩|h
   ·exact .inl ⟨h1,_,_,rfl⟩
   ·exact .inr h
theorem GJ{l:Wk}{K:XS->Rs}{CX:Rx->Js}{sp:Rx->Sp}(S:l.most=Zz n)(E:n<=RV)(J:d.params.defaults=[])(R:jF k WV)(Z:∀(w:Rx) (h:Rj),YP w h->(K w.params).In h)(T:∀(w:Rx) P,P∈ps->(K w.params).lookup P=Zz (tabObj #[]))(C:∀(w:Rx) P,P∈ps->∃c,XO (K w.params) c P=true)(B:∀w:Rx,Jb ps (K w.params)=true)(F:∀(w:Rx) (p:Str->Option Q7) (z:R3) (h:Rj),(K w.params).In h->h.Ns RQ p->p d.name=Zz (.ref z) ->
   ∃M:TK,(∀(s:R1) (u:Q7),WS s M ⟨[u],[]⟩ [(x,u)]) /\
    ∀i:Rj,(bF ps (K w.params)).In i->i.Ns RQ p->oQ l.prog w (bF ps (K w.params)) p i (CX w) k z M [x] (sp w))(D:∀(w:Rx) (H:Hp) (a:R3) (y:List Int),y.length<=n->rJ (bF ps (K w.params)) H->kr (bF ps (K w.params)) H a y->sp w [.ref a] H (λv _=>v=.bl true) λ_ _ _=>False)(L:∀(w:Rx) (H:Hp) (s:R1) (e:Q7) (A:R1),CX w [] H s (λ_ _ _=>False) e A->False):
  PySem.W.WalkO q loose XP YP l.row.toRowW d [] (λf N=>U7 f N):=by
 refine Att.y4 S J λw O r p mb z o pm cd doc a N y G Y ho hd V I t m j U=>?_
 have Q:=Z w _ Y;obtain⟨M,X,hF⟩:=F w p z _ Q G.T.g I;exact law_callT Q (T w) (C w) (B w) G.T.g G.T.b G.T.builtins G.T.nolimit G.T.bmain U t m (RZ j E) R hF X (λH hO hS=>D w H a y j hO hS) λH e A=>L w H r e A
end Mi
end
section
set_option backward.eqns.nonrecursive false
set_option backward.eqns.deepRecursiveSplit false
namespace Mi
open PySem PySem.Spec PyProof.Rows L2 PySem.Builtin PySem.Builtin.Str
section
variable{X:L2.Cx}{call:Nat->List W->Mem->Res W}{gv:List T}{xr:XR}
theorem G9:KA X "str.partition" (rM X.K xr .partition):=by
 rintro h s σ H x xs v us Q I rx rs ⟨cm,m,w,ws,M,u,p,B⟩;obtain⟨tw,ts,t,q1,q2,e,f⟩:=sV B;clear B;unfold iV at e;dsimp only at e;split at e
 ·rename_i cs
  split at e
  ·rename_i c sep
   split at e<;>cases e;rename_i hl;obtain⟨w1,rfl,e1⟩:=iL q2;cases(ak u q1 (λ_ z=>by cases z)).cQ;obtain _|⟨r1,_|_⟩:=p;cases(ak r1 e1 (λ_ z=>by cases z)).cQ;obtain⟨tt,rfl⟩:=rx;obtain⟨u1,rfl,tu,rfl⟩:=vals1 rs;have A:=aT;unfold lim at A;refine Sg F.slot_str_partition (U5 _ _ _) F.entry_str_partition (F.args_str_partition_2 _ _) (meets_str_partition _ _ tt tu rfl (by show cs.toArray.size<=_;rw[R7];omega)) ?_;have d:∀(a b g:Str) (n l j:Tok) (k:Nat),(a,b,g)=Wa ⟨cs.toArray⟩ ⟨(c::sep).toArray⟩ ->
     EP X h σ Q (.ref s.heap.objs.size) { s with toks:=k,heap:=s.heap.push { cls:=.type "tuple",data:=.seq [.str a n,.str b l,.str g j].toArray } }:=λa b g n l j k e=>by
    have hr:cH X.K cm m H [.str a.cps.toList,.str b.cps.toList,.str g.cps.toList] [.str a,.str b,.str g]:=.cons (.str _) (.cons (.str _) (.cons (.str _) .nil));refine⟨.ref s.heap.objs.size,_,I.laid (t':=k) (o:=.tup [.str a,.str b,.str g]) (λ_ _ q=>R0 _ q) (RD _) ⟨RZ (show 3<=1000000 by decide) A,_,.cons ⟨n,rfl⟩ (.cons ⟨l,rfl⟩ (.cons ⟨j,rfl⟩ .nil)),sn.new _ _⟩,rfl,mx (xr:=xr) (ts:=[.str a.cps.toList,.str b.cps.toList,.str g.cps.toList]) ?_ M hr I.fresh⟩;unfold kl at f;rw[<-e]at f;exact f
   unfold Wa at d;revert d;cases occurrences ⟨cs.toArray⟩ ⟨(c::sep).toArray⟩ 0 (SN ⟨cs.toArray⟩) 1 with
   |nil=>exact λd=>d _ _ _ _ _ _ _ rfl
   |cons i r=>exact λd=>d _ _ _ _ _ _ _ rfl
  ·cases e
 ·cases e
theorem IW{K:Rs}(r:RW K cm m H w v)(h:xX .partition w m=true):ML K "str" v H:=vp r h
theorem Fo(z:PE X o (tE X.K call gv xr ea))(A:PA X [e] (tA X.K call gv xr eas))(b:TV o "partition" X.env (eval o X.env)=eval o X.env:=by rfl)(a:(apos.endLine==cpos.line)=true:=by rfl)(k:notStar e=true:=by rfl):
  PE X (.Call (.Attribute o "partition" apos) [e] [] cpos) (tE X.K call gv xr (.eP .partition ea eas)):=by
 refine PE.mono (sO TN PySem.F.slot_str_partition PySem.F.type_str_partition (G9 (xr:=xr)) z A b (Ao k) a (bq k) (ff rfl)) ?_;rintro σ H Q ⟨c,B,m,n,M,l⟩;rw[ev]at l;refine⟨c,B,m,n,M,l.bind.mono λw h x E r i f v j=>?_⟩;obtain⟨y,f⟩:=jg f;refine⟨IW j y,c,h,x,n.ext r M i,i,f.bind.mono λs g u D q p t C d=>?_⟩;exact⟨g,u,w,s,p,j.ext q i p,d,t⟩
theorem LC{rest:List Rm}(ha:PE X a ta)(hb:PE X (.BoolOp .Or (b::rest) pos) tb):PE X (.BoolOp .Or (a::b::rest) pos) (λσ H Q=>ta σ H λx H1=>∃k,Hs X.K x H1 k/\if k=true then Q x H1 else tb σ H1 Q):=by
 intro pins s σ H Q I h;refine BoolOp_or (bR (ha pins s σ H _ I h) λv s1 ⟨x,H1,I1,r1,k,tk,q1⟩=>?_);refine Sv (Fw pins s1 σ H1 x v (λc H2=>if c=true then Q x H2 else tb σ H2 Q) I1 r1 ⟨k,tk,q1⟩) (λc s2 ⟨H2,I2,q2⟩=>?_) λ_ _ z=>z
 cases c with
 |true=>exact⟨x,H2,I2,r1,q2⟩
 |false=>exact hb pins s2 σ H2 Q I2 q2
theorem Hw(hk:gv[k]?=Zz t)(ha:PE X a (tE X.K call gv xr ea))(hb:PE X b (tE X.K call gv xr (.gl k))):PE X (.BoolOp .Or [a,b] pos) (tE X.K call gv xr (.blt .Oo (.cons ea (.cons (.gl k) .nil)))):=by
 refine PE.mono (LC ha (Fu hb)) ?_;rintro σ H Q ⟨env,cm,m,hE,M,ho⟩;rw[ev,evs]at ho;refine⟨env,cm,m,hE,M,ho.bind.bind.mono λw cm1 m1 H1 x1 M1 o1 v rv=>?_⟩;have e0:evs call gv (.cons (.gl k) .nil) env m1=.ok [.t t] m1:=by
  simp only[evs,ev,hk];rfl
 rw[e0]at o1;obtain⟨u,e,ho⟩:=ci (aR.now o1 M1);cases q:view w m1 with
 |none=>unfold views at e;rw[q]at e;cases e
 |some y =>
  unfold views at e;rw[q]at e;cases y with
  |str cs =>
   have e:(if cs.length<=lim then Zz (if cs.isEmpty=true then t else T.str cs)else Zy)=Zz u:=e;split at e<;>cases e;rename_i hl;refine⟨!cs.isEmpty,EK M1 rv q (XX hl),?_⟩;cases cs with
   |nil=>exact⟨env,cm1,m1,hE.ext x1 M M1,M1,by rw[ev,hk];exact ho⟩
   |cons c cs =>
    cases(ak rv q (λ_ z=>by cases z)).cQ;exact aR.now ho M1 _ (.str _)
  |_=>cases e
theorem Ge(G F E D:Nat)(L:X.calm=true)(e:X.N.Nodup)(w:X.N[G]?=Zz x0:=by rfl)(t:X.N[F]?=Zz x1:=by rfl)(q:X.N[E]?=Zz x2:=by rfl)(p:X.N[D]?=Zz x3:=by rfl)(j:Loc X.env.scope x0:=by first|exact TQ rfl|exact TD rfl)(i:Loc X.env.scope x1:=by first|exact TQ rfl|exact TD rfl)(h:Loc X.env.scope x2:=by first|exact TQ rfl|exact TD rfl)(g:Loc X.env.scope x3:=by first|exact TQ rfl|exact TD rfl)(A:X.fn x0=true∨X.env.scope.names.lookup x0=Zz .local:=by first|exact .inl rfl|exact .inr rfl)(z:X.fn x1=true∨X.env.scope.names.lookup x1=Zz .local:=by first|exact .inl rfl|exact .inr rfl)(y:X.fn x2=true∨X.env.scope.names.lookup x2=Zz .local:=by first|exact .inl rfl|exact .inr rfl)(x:X.fn x3=true∨X.env.scope.names.lookup x3=Zz .local:=by first|exact .inl rfl|exact .inr rfl)(o:(RJ [.Name x0 p0,.Name x1 p1,.Name x2 p2,.Name x3 p3] X.env).map (·.2)=assign (.Name x0 p0) X.env::(RJ [.Name x1 p1,.Name x2 p2,.Name x3 p3] X.env).map (·.2):=by rfl)(n:(RJ [.Name x1 p1,.Name x2 p2,.Name x3 p3] X.env).map (·.2)=assign (.Name x1 p1) X.env::(RJ [.Name x2 p2,.Name x3 p3] X.env).map (·.2):=by rfl)(m:(RJ [.Name x2 p2,.Name x3 p3] X.env).map (·.2)=assign (.Name x2 p2) X.env::(RJ [.Name x3 p3] X.env).map (·.2):=by rfl)(l:(RJ [.Name x3 p3] X.env).map (·.2)=assign (.Name x3 p3) X.env::(RJ [] X.env).map (·.2):=by rfl)(K:(RJ [.Name x0 p0,.Name x1 p1,.Name x2 p2,.Name x3 p3] X.env).length=4:=by rfl)(k:(RJ [.Name x0 p0,.Name x1 p1,.Name x2 p2,.Name x3 p3] X.env).findIdx? (·.1)=Zy:=by rfl):PG X (.Tuple [.Name x0 p0,.Name x1 p1,.Name x2 p2,.Name x3 p3] kk pos) (PJ [G,F,E,D]):=by
 rintro c s σ H v u Q I r ⟨a,B,P,O,b,M⟩;refine Ln L (be (bt e w j A) (be (bt e t i z) (be (bt e q h y) (be (bt e p g x) nS l) m) n) o) K k c s σ H v u Q I r ⟨a,B,P,O,b,?_⟩;rcases B with _|⟨J,_|⟨C,_|⟨f,_|⟨d,_|⟨R,r⟩⟩⟩⟩⟩
 ·cases b
 ·cases b
 ·cases b
 ·cases b
 ·exact⟨J,[C,f,d],rfl,C,[f,d],rfl,f,[d],rfl,d,[],rfl,rfl,M⟩
 ·cases b
theorem CL{suite rest:List Rt}(hb:∀xe pn xr',Go (asX X xe pn) xr'->dh (asX X xe pn) body (tS X.K call gv xr' n sb))(hk:dh X rest (tS X.K call gv xr n k)):
  dh X (.Try body [.ExceptHandler (Zz (.Name y yp)) nmo (b0::suite) hpos] [] [] pos::rest) (tS X.K call gv xr n (.tri sb [] Zy .xC k)):=by
 rintro pins s σ H D0 I ⟨hl,env,cm,m,hE,M,ho⟩;refine wpAny_execs_cons (wpAny_Try_except ?_);rw[ex]at ho;cases r:ex call gv sb env m with
 |stuck=>rw[r]at ho;exact ho.elim
 |exc x m1=>rw[r]at ho;exact(show aR X.K (if x.cls∈[]then _ else _) xr cm m H _ from ho).elim
 |ok fl m1 =>
  rw[r]at ho;refine Sv (hb _ (X.pn++pins) MJ ⟨Pu,PassesOwn.looking⟩ [] s σ H { D0 with nx:=tS X.K call gv xr n k D0 } (LH I _) ⟨hl,env,cm,m,hE,M,?_⟩) (λf s1 q=>?_) λ_ _ z=>z
  ·rw[r]
   refine λcm1 H1 x1 M1=>?_
   cases fl with
   |next env'=>exact λσ' hl' hE'=>⟨hl',env',cm1,m1,hE',M1,aR.shift ho x1⟩
   |ret w=>show sQ X.K n D0 (.ret w) cm1 m1 H1;exact aR.to (xr:=xr) (a:=Flow.ret w) ho x1 M1
  ·cases f with
   |next =>
    obtain⟨σ',H',I',q⟩:=q;exact VI (hk pins s1 σ' H' D0 (xp I') q)
   |ret u=>obtain⟨v,σ',H',I',r,q⟩:=q;exact⟨v,σ',H',xp I',r,q⟩
   |brk=>obtain⟨σ',H',I',q⟩:=q;exact⟨σ',H',xp I',q⟩
   |cont=>obtain⟨σ',H',I',q⟩:=q;exact⟨σ',H',xp I',q⟩
end
end Mi
namespace Mi
open PySem PySem.Spec PyProof.Rows L2 PySem.Builtin PySem.Builtin.Str PySem.StrLaws
theorem zf:∀(l:List Nat) (st:Array Nat×Nat),k<=st.fst.size->(forIn l st (occBody x y hi k)).run.fst=st.fst
 |[],_,_=>rfl
 |a::l,st,h=>by
  rw[Sd];unfold occBody;rw[XV (λz=>We.mpr h z.1.1.1)];exact zf l _ h
theorem rK:∀(l:List Nat) (st:Array Nat×Nat),k<=st.fst.size->(forIn l st (occBody x y hi L)).run.fst.toList.take k=st.fst.toList.take k
 |[],_,_=>rfl
 |a::l,st,h=>by
  rw[Sd];unfold occBody;split
  ·refine(rK l _ (RZ h (by simp))).trans ?_
   rw[Vp];exact List.take_append_of_le_length h
  ·exact rK l _ h
theorem vo(hk:k<=L):∀(l:List Nat) (st:Array Nat×Nat),st.fst.size<=k->(forIn l st (occBody x y hi k)).run.fst.toList=(forIn l st (occBody x y hi L)).run.fst.toList.take k
 |[],st,h=>(V2 h).symm
 |a::l,st,h=>by
  by_cases e:st.fst.size=k
  ·rw[zf (a::l) st (Wo e.symm),rK (a::l) st (Wo e.symm)]
   exact(V2 h).symm
  ·have hl:st.fst.size<k:=Nat.lt_of_le_of_ne h e
   rw[Sd,Sd];by_cases c:((st.fst.size<k/\st.snd<=a)/\a+y.length<=hi)/\subAt x y a=true
   ·rw[show occBody x y hi k a st=_ from XU c,show occBody x y hi L a st=_ from XU ⟨⟨⟨RU hl hk,c.1.1.2⟩,c.1.2⟩,c.2⟩]
    exact vo hk l _ (by rw[Array.size_push];exact hl)
   ·rw[show occBody x y hi k a st=_ from XV c,show occBody x y hi L a st=_ from XV λz=>c ⟨⟨⟨hl,z.1.1.2⟩,z.1.2⟩,z.2⟩]
    exact vo hk l _ h
theorem uE:∀(k:Nat) (cuts:List Nat) (a f:Nat),ChainTo x y x.length a cuts f ->
  partsFrom x y.length a (cuts.take k)=if(partsFrom x y.length a cuts).length<=k then partsFrom x y.length a cuts else(partsFrom x y.length a cuts).take k++[Wn y ((partsFrom x y.length a cuts).drop k)]
 |0,cuts,a,f,h=>by
  obtain⟨p,q,e⟩:=partsFrom_ne x y.length a cuts;rw[XV (by rw[e];simp)];show[strSub x a x.length]=[Wn y _]
  rw[<-join_partsFrom x y cuts a f h];rfl
 |k+1,[],a,f,h=>by rw[List.take_nil,XU (by show 1<=k+1;omega)]
 |k+1,c::r,a,f,h=>by
  have ih:=uE k r (c+y.length) f h.2.2;show strSub x a c::partsFrom x y.length (c+y.length) (r.take k)=_;rw[ih];show _=if(partsFrom x y.length (c+y.length) r).length+1<=k+1 then _ else _
  split
  ·rw[XU (by omega)];rfl
  ·rw[XV (by omega)];rfl
theorem yG(c:Nat)(cs:List Nat)(k:Nat)(h1:1<=k)(h2:k<=cs.length):VY ⟨cs.toArray⟩ ⟨#[c]⟩ (k:Int)=(jK c k cs).map λw=>(⟨w.toArray⟩:Str):=by
 have hx:(⟨cs.toArray⟩:Str).length=cs.length:=by show cs.toArray.size=_;simp
 have e:=y7 c cs;have key:VY ⟨cs.toArray⟩ ⟨#[c]⟩ (k:Int)=if(V9 ⟨cs.toArray⟩ ⟨#[c]⟩).length<=k then V9 ⟨cs.toArray⟩ ⟨#[c]⟩else(V9 ⟨cs.toArray⟩ ⟨#[c]⟩).take k++[Wn ⟨#[c]⟩ ((V9 ⟨cs.toArray⟩ ⟨#[c]⟩).drop k)]:=by
  have hlim:WW ⟨cs.toArray⟩ (k:Int)=k:=by unfold WW;rw[XV (by omega)];rfl
  have ho:occurrences ⟨cs.toArray⟩ ⟨#[c]⟩ 0 (SN ⟨cs.toArray⟩) k=(occurrences ⟨cs.toArray⟩ ⟨#[c]⟩ 0 (SN ⟨cs.toArray⟩) (SN ⟨cs.toArray⟩+1)).take k:=by
   rw[occ_eq,occ_eq];exact vo (by omega) _ _ (Sy _)
  unfold VY V9;rw[hlim,ho];split
  ·rw[XU (by simpa using h1)]
  ·rename_i hn
   obtain⟨f,hc⟩:=occ_chain ⟨cs.toArray⟩ ⟨#[c]⟩ (SN ⟨cs.toArray⟩+1);generalize occurrences ⟨cs.toArray⟩ ⟨#[c]⟩ 0 (SN ⟨cs.toArray⟩) (SN ⟨cs.toArray⟩+1)=o at hc;cases o with
   |nil=>rw[List.take_nil];exact(XU h1).symm
   |cons i r =>
    obtain⟨k,rfl⟩:∃j,k=j+1:=⟨k-1,by omega⟩
    have h:=uE (k+1) (i::r) 0 f hc;rw[<-partsBetween_eq,<-partsBetween_eq]at h;exact h
 rw[key,e,Q8];unfold jK;split
 ·rfl
 ·rw[VL,List.map_take,<-List.map_drop,show(⟨#[c]⟩:Str)=⟨[c].toArray⟩from rfl,rg]
  rfl
theorem zw(c k:Nat)(cs:List Nat):(jK c k cs).length<=cs.length+1:=by
 have:=mq c cs;unfold jK;split
 ·exact this
 ·rw[R8,SF];show _+1<=_;omega
section
variable{X:L2.Cx}{call:Nat->List W->Mem->Res W}{gv:List T}{xr:XR}
theorem Ac:KA X "str.split" (rM X.K xr .mF):=by
 rintro pins s σ H x xs v us Q I rx rs ⟨cm,m,w,ws,M,rw',rws,ho⟩;obtain⟨tw,ts,t,q1,q2,e,hz9⟩:=sV ho;clear ho;unfold iV at e;dsimp only at e;split at e
 ·rename_i cs
  split at e
  ·rename_i c k
   split at e<;>cases e;rename_i hl;obtain⟨k,rfl⟩:=Int.eq_ofNat_of_zero_le (show 0<=k by omega);obtain⟨w1,w2,rfl,e1,e2⟩:=Ec q2;cases(ak rw' q1 (λ_ z=>by cases z)).cQ;obtain _|⟨r1,_|⟨r2,_|_⟩⟩:=rws;cases(ak r1 e1 (λ_ z=>by cases z)).cQ;cases(ak r2 e2 (λ_ z=>by cases z)).bV;obtain⟨tt,rfl⟩:=rx;obtain _|⟨⟨tu,rfl⟩,_|⟨⟨tv,rfl⟩,_|_⟩⟩:=rs;have hz:=aT;unfold lim at hz;have hx:(⟨cs.toArray⟩:Str).length=cs.length:=by show cs.toArray.size=_;simp
   have hlen:=zw c k cs;have el:=yG c cs k (by omega) (by omega);have go:∀(l:List (Str×Tok)) (k':Nat),l.map (·.1)=VY ⟨cs.toArray⟩ ⟨#[c]⟩ (k:Int)->EP X pins σ Q (.ref s.heap.objs.size) { s with heap:=s.heap.push { cls:=.type "list",data:=.seq (XA l).toArray },toks:=k' }:=λl k' e=>by
    rw[el]at e;have hv:=kq e;rw[Re]at hv;exact⟨.ref s.heap.objs.size,_,I.Gm (t':=k') hv (by rw[Q8];omega),rfl,fZ hz9 M (rP _) I.fresh⟩
   have hk:(decide ((k:Int) < -(2^63:Int)) || decide ((k:Int) ≥ 2^63))=false:=by simp;omega
   have hn:(partsBetween ⟨cs.toArray⟩ (occurrences ⟨cs.toArray⟩ ⟨#[c]⟩ 0 (SN ⟨cs.toArray⟩) (WW ⟨cs.toArray⟩ k)) (SN ⟨#[c]⟩)).length<=RV:=by
    have e1:=StrLaws.occ_length_le_len ⟨cs.toArray⟩ ⟨#[c]⟩ 0 (SN ⟨cs.toArray⟩) (WW ⟨cs.toArray⟩ k);rw[length_partsBetween];omega
   unfold VY at go;cases h1:(decide (SN ⟨cs.toArray⟩<SN ⟨#[c]⟩) || decide (strKind ⟨cs.toArray⟩<strKind ⟨#[c]⟩))
   ·rw[h1]at go
    cases hf:(occurrences ⟨cs.toArray⟩ ⟨#[c]⟩ 0 (SN ⟨cs.toArray⟩) (WW ⟨cs.toArray⟩ k)).isEmpty
    ·rw[hf]at go
     refine Sg U2 (U5 _ _ _) Tp (Vj _ _ _) (meets_str_split_sep_max _ _ k tt tu tv hk h1 rfl hf (by omega) hn) ?_;have q:=go (numbered s.toks (partsBetween ⟨cs.toArray⟩ (occurrences ⟨cs.toArray⟩ ⟨#[c]⟩ 0 (SN ⟨cs.toArray⟩) (WW ⟨cs.toArray⟩ k)) (SN ⟨#[c]⟩))) (s.toks+(partsBetween ⟨cs.toArray⟩ (occurrences ⟨cs.toArray⟩ ⟨#[c]⟩ 0 (SN ⟨cs.toArray⟩) (WW ⟨cs.toArray⟩ k)) (SN ⟨#[c]⟩)).length) (numbered_texts _ _);rw[<-strsFrom_eq]at q;exact q
    ·rw[hf]at go
     exact Sg U2 (U5 _ _ _) Tp (Vj _ _ _) (meets_str_split_max_not_found _ _ k tt tu tv hk h1 rfl hf) (go [(_,tt)] s.toks rfl)
   ·rw[h1]at go
    exact Sg U2 (U5 _ _ _) Tp (Vj _ _ _) (meets_str_split_max_cannot_occur _ _ k tt tu tv hk h1) (go [(_,tt)] s.toks rfl)
  ·cases e
 ·cases e
theorem D4(cs p:List Nat):Txt.startswith ⟨cs.toArray⟩ ⟨p.toArray⟩=p.isPrefixOf cs:=by
 have e:subAt ⟨cs.toArray⟩ ⟨p.toArray⟩ 0=(cs.take p.length==p):=by
  rw[subAt_eq];simp[SN]
 unfold Txt.startswith
 rw[e,show(⟨cs.toArray⟩:Str).length=cs.length by show cs.toArray.size=_;simp,show(⟨p.toArray⟩:Str).length=p.length by show p.toArray.size=_;simp];rw[T7];simp only[R6,decide_eq_true_eq,beq_iff_eq,List.isPrefixOf_iff_prefix];rw[List.prefix_iff_eq_take];constructor
 ·exact λz=>z.2.symm
 ·intro z
  refine⟨?_,z.symm⟩;have:=congrArg Rf z;rw[SF]at this;omega
theorem Bl:KA X "str.startswith" (rM X.K xr .starts):=by
 rintro pins s σ H x xs v us Q I rx rs ⟨cm,m,w,ws,M,rw',rws,ho⟩;obtain⟨tw,ts,t,q1,q2,e,hz9⟩:=sV ho;clear ho;unfold iV at e;dsimp only at e;split at e
 ·rename_i cs
  split at e
  ·cases e
   obtain⟨w1,rfl,e1⟩:=iL q2;cases(ak rw' q1 (λ_ z=>by cases z)).cQ;obtain _|⟨r1,_|_⟩:=rws;cases(ak r1 e1 (λ_ z=>by cases z)).cQ;obtain⟨tt,rfl⟩:=rx;obtain⟨u1,rfl,tu,rfl⟩:=vals1 rs;refine SC.startswith ⟨.bl _,H,I,rfl,?_⟩
   rw[D4];exact ans hz9 M (.bl _)
  ·cases e
 ·cases e
theorem GS(hm:b=.starts∨b=.mF)(hq:aR X.K (ev call gv (.eP b ea eas) env m) xr cm m H λw cm' m' H'=>∀v,RW X.K cm' m' H' w v->Q v H')(hE:bg X.K cm m H env σ)(M:aC X.K cm m H):PF X.K "str" (rM X.K xr b) (tE X.K call gv xr ea) (tA X.K call gv xr eas) σ H Q:=by
 rw[ev]at hq;refine⟨env,cm,m,hE,M,hq.bind.mono λw cm1 m1 H1 x1 M1 o1 v rv=>?_⟩;obtain⟨ht,o1⟩:=jg o1;refine⟨vp rv (by rcases hm with rfl|rfl<;>exact ht),env,cm1,m1,hE.ext x1 M M1,M1,o1.bind.mono λws cm2 m2 H2 x2 M2 o2 vs rvs=>?_⟩;exact⟨cm2,m2,w,ws,M2,rv.ext x2 M1 M2,rvs,o2⟩
theorem AL(ho:PE X o (tE X.K call gv xr ea))(ha:PA X [e] (tA X.K call gv xr eas))(hbase:TV o "startswith" X.env (eval o X.env)=eval o X.env:=by rfl)(hline:(apos.endLine==cpos.line)=true:=by rfl)(hs:notStar e=true:=by rfl):
  PE X (.Call (.Attribute o "startswith" apos) [e] [] cpos) (tE X.K call gv xr (.eP .starts ea eas)):=
 PE.mono (sO TN PySem.F.slot_str_startswith PySem.F.type_str_startswith (Bl (xr:=xr)) ho ha hbase (Ao hs) hline (bq hs) (ff rfl)) λ_ _ _ ⟨_,_,_,hE,M,hq⟩=>GS (.inl rfl) hq hE M
theorem zM(ho:PE X o (tE X.K call gv xr ea))(ha:PA X [e,e2] (tA X.K call gv xr eas))(hbase:TV o "split" X.env (eval o X.env)=eval o X.env:=by rfl)(hline:(apos.endLine==cpos.line)=true:=by rfl)(hs:[e,e2].all notStar=true:=by rfl)(h1:notStar e=true:=by rfl)(h2:[e2].all notStar=true:=by rfl):
  PE X (.Call (.Attribute o "split" apos) [e,e2] [] cpos) (tE X.K call gv xr (.eP .mF ea eas)):=
 PE.mono (sO TN PySem.F.slot_str_split PySem.F.type_str_split (Ac (xr:=xr)) ho ha hbase (Pa hs) hline (bq h1) (ff h2)) λ_ _ _ ⟨_,_,_,hE,M,hq⟩=>GS (.inr rfl) hq hE M
theorem HJ(hg:Gl X x)(hk:gv[k]?=Zz (.dct ks ts))(ok:pR X.prog X.w X.K X.mg x ks ts)(ha:PE X b (tE X.K call gv xr eb))(hd:(x==("__debug__" : Str))=false)(hbase:TV (.Name x p) "get" X.env (eval (.Name x p) X.env)=eval (.Name x p) X.env:=by rfl)(hline:(apos.endLine==cpos.line)=true:=by rfl)(hs:notStar b=true:=by rfl):
  PE X (.Call (.Attribute (.Name x p) "get" apos) [b] [] cpos) (tE X.K call gv xr (.Op k eb)):=by
 obtain⟨a,us,ys,h1,h2,h3,h4,h5,h6⟩:=ok;rintro pins s σ H Q I ⟨env,cm,m,hE,M,ho⟩;rw[ev]at ho;have dd:=h2 _ I.qv;have z:∃o,s.heap.get? a=Zz o/\o.ExactDict:=by
  obtain⟨o,_,_,e,ex,_⟩:=dd;exact⟨o,e,ex⟩
 obtain⟨o,e,ex⟩:=z;refine wpAny_Call_method_late hbase (Ao hs) hline rfl (oG I hg h1 ⟨"dict","dict.get",PySem.F.plainAttrs_dict,PySem.F.slot_dict_get,PySem.F.type_dict_get,dd.typeIs,λa' e2=>by cases e2;exact⟨o,e,ex.2.1⟩,?_⟩ hd);rw[bq hs];refine Calls.callWith_builtin rfl (Calls.evalArgs_plain ?_);have hA:=qW ha Aa (bq hs) cpos pins s σ H (λvs H1=>∃v cm1 m1 w,vs=[v]/\aC X.K cm1 m1 H1/\RW X.K cm1 m1 H1 w v/\aR X.K (dy ((view w m1).bind λx=>ni gv[k]? λks vs=>(fq x).map λk=>(bB ks vs k).getD .non) m1) xr cm1 m1 H1 λw cm' m' H'=>∀v,RW X.K cm' m' H' w v->Q v H') I
  ⟨env,cm,m,hE,M,ho.bind.mono λw cm1 m1 H1 x1 M1 o1 v rv=>⟨v,cm1,m1,w,rfl,M1,rv,o1⟩⟩
 rw[bq hs]at hA;refine bR hA ?_;rintro us' s1 ⟨vs,H1,I1,ru,v,cm1,m1,w,rfl,M1,rv,o1⟩;obtain⟨u,rfl,ru2⟩:=vals1 ru;have dd:=h2 _ I1.qv;obtain⟨t,e,o1⟩:=ci o1;cases q:view w m1 with
 |none=>rw[q]at e;cases e
 |some tw =>
  rw[q]at e;obtain⟨ks',ts',e1,e2⟩:=kQ (show ni gv[k]? (λks vs=>(fq tw).map λk=>(bB ks vs k).getD .non)=Zz t from e);rw[hk]at e1;cases e1;cases q2:fq tw with
  |none=>rw[q2]at e2;cases e2
  |some kk =>
   rw[q2]at e2;cases e2;cases oZ rv q q2;refine call_meetsIn PySem.F.slot_dict_get dd.typeIs PySem.F.entry_dict_get (PySem.F.args_dict_get_2 _ _) (meets_dict_get (dA X.prog X.w) a (Cc ru2) h3) ⟨_,dd.mapOf,?_⟩;refine⟨(mI (ks.zip ys) kk).getD .non,H1,I1.tok _,((wY h4).val kk).getD rfl,?_⟩;rcases nU (ks:=ks) (h6 cm1 m1 H1) kk with⟨t',v',f1,f2,f3⟩|⟨f1,f2⟩
   ·dsimp only at o1;rw[f1]at o1;rw[f2];exact ans o1 M1 f3
   ·dsimp only at o1;rw[f1]at o1;rw[f2];exact ans o1 M1 .non
theorem D2{rest:List Rt}{N':List Str}{scope:Uu}{own:Nat}{keep:List Nat}{elt target iter:Rm}{ifs:List Rm}{gs:List VF}{it:E}{tg:Tg}{cs:Es}{inner:E}{pos px spos:Pos}(hc:X.calm=true)(kk:y1 X MJ call gv N' scope own keep elt target iter ifs gs it tg cs inner)(hN:X.N.Nodup)(hn:X.N.length=n)(hi:X.N[i]?=Zz x)(hx:X.env.scope.names.lookup x=Zz .local)(hk:dh X rest (tS X.K call gv xr n k))(hsw:V6 (.ListComp elt (⟨target,iter,ifs,0⟩::gs) scope pos) (Zz (.Name x px)) spos.line X.env=pure true:=by rfl):
  dh X (.Assign [.Name x px] (.ListComp elt (⟨target,iter,ifs,0⟩::gs) scope pos) spos::rest) (tS X.K call gv xr n (.asg i (.DZ (.comp own keep it tg cs inner)) k)):=by
 have h1:PS X (.Assign [.Name x px] (.ListComp elt (⟨target,iter,ifs,0⟩::gs) scope pos) spos) (λD σ H=>∃env cm m m' out,bg X.K cm m H env σ/\aC X.K cm m H/\ev call gv (.comp own keep it tg cs inner) env m=.ok (.t (.lst out)) m' /\
   ∀(p:R3) (H3:Hp) (cm3:List R3) (vs:List V),H3 p=Zy->X.K.lookup p=Zy->dJ cm m H cm3 m' H3->aC X.K cm3 m' H3->cH X.K cm3 m' H3 out vs->D.nx (σ.set i (Zz (.ref p))) (upd H3 p (.lst vs))):=
  λpins s σ H D I ⟨env,cm,m,m',out,hE,M,ok,q⟩=>zl hc kk hN hi hx hsw I hE M ok q
 refine dh.mono (cz h1 hk) ?_;rintro D σ H ⟨hl,env,cm,m,hE,M,ho⟩;rw[ex,ev]at ho;cases h:ev call gv (.comp own keep it tg cs inner) env m with
 |stuck=>rw[h]at ho;exact ho.elim
 |exc e m'=>exact XZ h (mO e m')
 |ok w m' =>
  obtain⟨out,rfl⟩:=pv h;rw[h]at ho;refine⟨env,cm,m,m',out,hE,M,h,λp H3 cm3 vs hp hK x3 M3 r3=>?_⟩;have hi':i<σ.length:=by rw[hl,<-hn];exact(RA.mp hi).1
  obtain⟨x4,M4,r4⟩:=ki M3 r3 hp hK;have x5:=x3.trans x4;exact⟨by rw[SR];exact hl,_,_,_,bg.set (hE.ext x5 M M4) r4 i hi',M4,aR.shift (ho) x5⟩
end
end Mi
end
namespace My
open Mi
noncomputable abbrev aH(a:E):Es:=.cons a .nil
noncomputable abbrev bj(a b:E):Es:=.cons a (aH b)
noncomputable abbrev mL(a b c:E):Es:=.cons a (bj b c)
noncomputable abbrev mS(a b c d:E):Es:=.cons a (mL b c d)
noncomputable abbrev aj(i:Int):E:=.con (.int i)
noncomputable abbrev ap(s:List Nat):E:=.con (.str s)
noncomputable abbrev CC(b:Bool):E:=.con (.bl b)
noncomputable abbrev ac(i:Nat):E:=.var i
noncomputable def d8:E:=(.emit (.cmp .In (ac 0) (.gl 0)))
noncomputable def iS:E:=(.comp 1 [] (ac 0) (.nm 0) .nil d8)
noncomputable def cR:S:=(.ret (.and (.cmp .Gt (.blt .len (aH (ac 0))) (aj 0)) (.and (.cmp .NotIn (ac 0) (.gl 2)) (.blt .all (aH iS)))) .done)
noncomputable def d4:S:=(.ret (.and (.uo (ac 0) .str) (.and (.cmp .LtE (.blt .len (aH (ac 0))) (.gl 1)) (.call 0 (aH (ac 0))))) .done)
noncomputable def jm:S:=(.ret (.and (.uo (ac 0) .int) (.not (.uo (ac 0) .bool))) .done)
noncomputable def eF:S:=(.ret (.and (.call 2 (aH (ac 0))) (.J6 .LtE .LtE (aj 0) (ac 0) (.gl 3))) .done)
noncomputable def lI:S:=(.ret (.call 3 (aH (ac 0))) .done)
noncomputable def m7:E:=(.emit (.cmp .Lt (.ix (ac 1) (.bin .Sub (ac 0) (aj 1))) (.ix (ac 1) (ac 0))))
noncomputable def yC:E:=(.comp 1 [0] (.blt .kf (bj (aj 1) (.blt .len (aH (ac 0))))) (.nm 0) .nil m7)
noncomputable def sv:S:=(.ret (.blt .all (aH yC)) .done)
noncomputable def io:E:=(.emit (.call 1 (aH (ac 0))))
noncomputable def l9:E:=(.comp 1 [] (ac 0) (.nm 0) .nil io)
noncomputable def eI:S:=(.bI (.or (.not (.uo (ac 0) .tuple)) (.cmp .Gt (.blt .len (aH (ac 0))) (.gl 4))) (.ret (CC false) .done) .done (.ret (.and (.blt .all (aH l9)) (.call 5 (aH (ac 0)))) .done))
noncomputable def i8:S:=(.ret (.and (.uo (ac 0) .tuple) (.and (.cmp .Eq (.blt .len (aH (ac 0))) (aj 2)) (.and (.call 1 (aH (.ix (ac 0) (aj 0)))) (.call 3 (aH (.ix (ac 0) (aj 1))))))) .done)
noncomputable def iu:E:=(.emit (.ix (ac 0) (aj 0)))
noncomputable def lZ:E:=(.comp 1 [] (ac 0) (.nm 0) .nil iu)
noncomputable def iB:E:=(.emit (.call 7 (aH (ac 0))))
noncomputable def ma:E:=(.comp 1 [] (ac 0) (.nm 0) .nil iB)
noncomputable def eX:S:=(.bI (.or (.not (.uo (ac 0) .tuple)) (.cmp .Gt (.blt .len (aH (ac 0))) (.gl 5))) (.ret (CC false) .done) .done (.ret (.and (.blt .all (aH ma)) (.call 5 (aH lZ))) .done))
noncomputable def iQ:S:=(.bI (.or (.not (.uo (ac 0) .tuple)) (.cmp .NotEq (.blt .len (aH (ac 0))) (aj 4))) (.ret (CC false) .done) .done (.ret (.and (.call 1 (aH (.ix (ac 0) (aj 0)))) (.and (.call 1 (aH (.ix (ac 0) (aj 1)))) (.and (.call 6 (aH (.ix (ac 0) (aj 2)))) (.call 8 (aH (.ix (ac 0) (aj 3))))))) .done))
noncomputable def gW:S:=(.ret (.and (.uo (ac 0) .str) (.cmp .In (ac 0) (ac 1))) .done)
noncomputable def cD:S:=(.bI (.not (.uo (ac 0) .tuple)) (.ret (CC false) .done) .done (.bI (.cmp .Eq (.blt .len (aH (ac 0))) (aj 1)) (.ret (.call 10 (bj (.ix (ac 0) (aj 0)) (.tup (aH (ap [97,110,121]))))) .done) .done (.bI (.cmp .Eq (.blt .len (aH (ac 0))) (aj 2)) (.ret (.and (.call 10 (bj (.ix (ac 0) (aj 0)) (.tup (bj (ap [105,115]) (ap [98,121]))))) (.call 1 (aH (.ix (ac 0) (aj 1))))) .done) .done (.bI (.cmp .Eq (.blt .len (aH (ac 0))) (aj 3)) (.ret (.and (.call 10 (bj (.ix (ac 0) (aj 0)) (.tup (bj (ap [108,101,97,115,116]) (ap [109,111,115,116]))))) (.and (.call 1 (aH (.ix (ac 0) (aj 1)))) (.call 3 (aH (.ix (ac 0) (aj 2)))))) .done) .done (.ret (CC false) .done)))))
noncomputable def dR:S:=(.ret (.and (.uo (ac 0) .tuple) (.J6 .LtE .LtE (.gl 8) (.blt .len (aH (ac 0))) (.gl 9))) .done)
noncomputable def eJ:S:=(.bI (.or (.not (.uo (ac 0) .tuple)) (.cmp .NotEq (.blt .len (aH (ac 0))) (aj 2))) (.ret (.tup .nil) .done) .done (.bI (.call 10 (bj (.ix (ac 0) (aj 0)) (.tup (aH (ap [110,111,116]))))) (.ret (.tup (aH (.ix (ac 0) (aj 1)))) .done) .done (.bI (.and (.call 10 (bj (.ix (ac 0) (aj 0)) (.tup (bj (ap [97,110,100]) (ap [111,114]))))) (.call 12 (aH (.ix (ac 0) (aj 1))))) (.ret (.ix (ac 0) (aj 1)) .done) .done (.ret (.tup .nil) .done))))
noncomputable def gj:S:=(.ret (.or (.call 11 (aH (ac 0))) (.cmp .Gt (.blt .len (aH (.call 13 (aH (ac 0))))) (aj 0))) .done)
noncomputable def du:E:=(.more (.call 13 (aH (ac 0))) (.nm 1) .nil (.emit (ac 1)))
noncomputable def qf:E:=(.comp 2 [] (ac 1) (.nm 0) .nil du)
noncomputable def kC:E:=(.emit (.call 14 (aH (ac 0))))
noncomputable def qc:E:=(.comp 1 [] (ac 1) (.nm 0) .nil kC)
noncomputable def a9:S:=(.aug 2 .Add (.blt .len (aH (ac 1))) (.bI (.or (.cmp .Gt (ac 2) (.gl 7)) (.not (.blt .all (aH qc)))) (.ret (CC false) .done) .done (.asg 1 qf .done)))
noncomputable def iR:S:=(.asg 1 (.lst (aH (ac 0))) (.asg 2 (aj 0) (.Bb (.nm 3) (.blt .dm (aH (.gl 6))) a9 (.ret (.cmp .Eq (.blt .len (aH (ac 1))) (aj 0)) .done))))
noncomputable def dB:S:=(.ret (.and (.call 2 (aH (ac 0))) (.J6 .LtE .LtE (ac 1) (ac 0) (ac 2))) .done)
noncomputable def gh:S:=(.bI (.or (.not (.uo (ac 0) .tuple)) (.cmp .NotEq (.blt .len (aH (ac 0))) (aj 7))) (.ret (CC false) .done) .done (.lP [1,2,3,4,5,6,7] (ac 0) (.bI (.or (.not (.call 10 (bj (ac 1) (.gl 10)))) (.or (.not (.call 9 (aH (ac 2)))) (.not (.call 15 (aH (ac 3)))))) (.ret (CC false) .done) .done (.bI (.or (.not (.call 16 (mL (ac 4) (aj 1) (.gl 11)))) (.not (.call 16 (mL (ac 5) (aj 1) (ac 4))))) (.ret (CC false) .done) .done (.ret (.and (.call 16 (mL (ac 6) (aj 0) (.gl 12))) (.call 4 (aH (ac 7)))) .done)))))
noncomputable def um:E:=(.emit (.call 19 (bj (ac 1) (ac 0))))
noncomputable def tM:E:=(.comp 1 [1] (.ix (ac 0) (aj 1)) (.nm 0) .nil um)
noncomputable def bT:S:=(.asg 1 (.ix (ac 0) (aj 0)) (.bI (.cmp .Eq (ac 1) (ap [97,110,121])) (.ret (ac 1) .done) .done (.bI (.cmp .In (ac 1) (.tup (bj (ap [105,115]) (ap [98,121])))) (.ret (.fst (mL (ac 1) (ap [32]) (.ix (ac 0) (aj 1)))) .done) .done (.bI (.cmp .Eq (ac 1) (ap [108,101,97,115,116])) (.ret (.fst (mL (.ix (ac 0) (aj 1)) (ap [32,62,61,32]) (.ix (ac 0) (aj 2)))) .done) .done (.bI (.cmp .Eq (ac 1) (ap [109,111,115,116])) (.ret (.fst (mL (.ix (ac 0) (aj 1)) (ap [32,60,61,32]) (.ix (ac 0) (aj 2)))) .done) .done (.bI (.cmp .Eq (ac 1) (ap [110,111,116])) (.ret (.fst (bj (ap [110,111,116,32]) (.call 19 (bj (ac 1) (.ix (ac 0) (aj 1)))))) .done) .done (.asg 2 (.fst (mL (ap [32]) (ac 1) (ap [32]))) (.ret (.eP .join (ac 2) (aH tM)) .done))))))))
noncomputable def c6:S:=(.asg 2 (.call 18 (aH (ac 1))) (.bI (.cmp .In (.ix (ac 1) (aj 0)) (.MA 18 (ac 0))) (.ret (.fst (mL (ap [40,32]) (ac 2) (ap [32,41]))) .done) .done (.ret (ac 2) .done)))
noncomputable def fU:E:=(.emit (.cmp .In (ac 0) (.gl 13)))
noncomputable def dk:E:=(.comp 1 [] (ac 0) (.nm 0) .nil fU)
noncomputable def b9:S:=(.bI (.or (.not (.J6 .LtE .LtE (aj 1) (.blt .len (aH (ac 0))) (.gl 14))) (.not (.blt .all (aH dk)))) (.ret (CC false) .done) .done (.ret (.or (.cmp .Eq (ac 0) (ap [48])) (.cmp .NotEq (.ix (ac 0) (aj 0)) (ap [48]))) .done))
noncomputable def i4:S:=(.bI (.cmp .Lt (ac 1) (.blt .len (aH (ac 0)))) (.ret (.ix (ac 0) (ac 1)) .done) .done (.ret (ap []) .done))
noncomputable def iD:S:=(.asg 2 (.call 21 (bj (ac 0) (ac 1))) (.bI (.not (.call 0 (aH (ac 2)))) .xC .done (.ret (ac 2) .done)))
noncomputable def eQ:S:=(.asg 2 (.call 21 (bj (ac 0) (ac 1))) (.bI (.not (.call 20 (aH (ac 2)))) .xC .done (.ret (.blt .int (aH (ac 2))) .done)))
noncomputable def dP:S:=(.asg 2 (.call 21 (bj (ac 0) (ac 1))) (.bI (.cmp .Eq (ac 2) (ap [97,110,121])) (.ret (.tup (bj (.tup (aH (ac 2))) (.bin .Add (ac 1) (aj 1)))) .done) .done (.bI (.cmp .In (ac 2) (.tup (bj (ap [105,115]) (ap [98,121])))) (.ret (.tup (bj (.tup (bj (ac 2) (.call 22 (bj (ac 0) (.bin .Add (ac 1) (aj 1)))))) (.bin .Add (ac 1) (aj 2)))) .done) .done (.asg 3 (.call 22 (bj (ac 0) (ac 1))) (.asg 4 (.call 21 (bj (ac 0) (.bin .Add (ac 1) (aj 1)))) (.bI (.L7 16 true (ac 4)) .xC .done (.ret (.tup (bj (.tup (mL (.MA 16 (ac 4)) (ac 3) (.call 23 (bj (ac 0) (.bin .Add (ac 1) (aj 2)))))) (.bin .Add (ac 1) (aj 3)))) .done)))))))
noncomputable def cq:S:=(.asg 3 (.call 21 (bj (ac 0) (ac 1))) (.bI (.cmp .NotIn (ac 3) (.tup (bj (ap [110,111,116]) (ap [40])))) (.ret (.call 24 (bj (ac 0) (ac 1))) .done) .done (.bI (.cmp .Eq (ac 2) (.gl 15)) .xC .done (.bI (.cmp .Eq (ac 3) (ap [110,111,116])) (.lP [4,5] (.call 25 (mL (ac 0) (.bin .Add (ac 1) (aj 1)) (.bin .Add (ac 2) (aj 1)))) (.ret (.tup (bj (.tup (bj (ap [110,111,116]) (ac 4))) (ac 5))) .done)) .done (.lP [4,5] (.call 26 (mS (ac 0) (.bin .Add (ac 1) (aj 1)) (.bin .Add (ac 2) (aj 1)) (.gl 17))) (.bI (.cmp .NotEq (.call 21 (bj (ac 0) (ac 5))) (ap [41])) .xC .done (.ret (.tup (bj (ac 4) (.bin .Add (ac 5) (aj 1)))) .done)))))))
noncomputable def de:S:=(.lP [4,5] (.call 26 (mS (ac 0) (.bin .Add (ac 5) (aj 1)) (ac 2) (.Hq (ac 3) (aj 1) .hole))) (.expr (.eP .append (ac 6) (aH (ac 4))) .done))
noncomputable def bZ:S:=(.bI (.cmp .Eq (.blt .len (aH (ac 3))) (aj 0)) (.ret (.call 25 (mL (ac 0) (ac 1) (ac 2))) .done) .done (.lP [4,5] (.call 26 (mS (ac 0) (ac 1) (ac 2) (.Hq (ac 3) (aj 1) .hole))) (.asg 6 (.zn (aH (ac 4))) (.Lw (.cmp .Eq (.call 21 (bj (ac 0) (ac 5))) (.ix (ac 3) (aj 0))) de (.bI (.cmp .Eq (.blt .len (aH (ac 6))) (aj 1)) (.ret (.tup (bj (ac 4) (ac 5))) .done) .done (.ret (.tup (bj (.tup (bj (.ix (ac 3) (aj 0)) (.blt .tuple (aH (ac 6))))) (ac 5))) .done))))))
noncomputable def eU:S:=(.bI (.not (.uo (ac 0) .str)) .xC .done (.asg 1 (.eP .split (ac 0) (aH (ap [32]))) (.lP [2,3] (.call 26 (mS (ac 1) (aj 0) (aj 0) (.gl 17))) (.bI (.or (.cmp .Lt (ac 3) (.blt .len (aH (ac 1)))) (.not (.call 15 (aH (ac 2))))) .xC .done (.ret (ac 2) .done)))))
noncomputable def eK:S:=(.ret (.blt .Oo (bj (.eP .join (ap [44]) (aH (ac 0))) (.gl 19))) .done)
noncomputable def eS:S:=(.bI (.cmp .Eq (ac 0) (.gl 19)) (.ret (.lst .nil) .done) .done (.ret (.eP .split (ac 0) (aH (ap [44]))) .done))
noncomputable def gp:E:=(.emit (.fst (mL (ac 0) (ap [61]) (ac 1))))
noncomputable def ko:E:=(.comp 2 [] (ac 11) (.tp [0,1]) .nil gp)
noncomputable def dD:S:=(.lP [1,2,3,4,5,6,7] (ac 0) (.lP [8,9,10,11] (ac 2) (.asg 12 (.call 28 (aH ko)) (.ret (.fst (.cons (ac 1) (.cons (ap [32]) (.cons (ac 8) (.cons (ap [32]) (.cons (ac 9) (.cons (ap [32]) (.cons (.call 28 (aH (ac 10))) (.cons (ap [32]) (.cons (ac 12) (.cons (ap [32]) (.cons (ac 4) (.cons (ap [32]) (.cons (ac 5) (.cons (ap [32]) (.cons (ac 6) (mS (ap [32]) (ac 7) (ap [32,124,32]) (.call 18 (aH (ac 3)))))))))))))))))))) .done))))
noncomputable def vP:E:=(.emit (.blt .str (aH (ac 0))))
noncomputable def xw:E:=(.comp 1 [] (ac 0) (.nm 0) .nil vP)
noncomputable def v9:E:=(.emit (.blt .str (aH (ac 0))))
noncomputable def vn:E:=(.comp 1 [] (.ix (ac 0) (aj 2)) (.nm 0) .nil v9)
noncomputable def cv:S:=(.asg 1 (.ix (ac 0) (aj 0)) (.bI (.cmp .In (ac 1) (.tup (bj (ap [99,111,109,101]) (ap [99,104,97,110,103,101])))) (.ret (.fst (.cons (ac 1) (.cons (ap [32]) (.cons (.ix (ac 0) (aj 1)) (mS (ap [32]) (.ix (ac 0) (aj 3)) (ap [32]) (.call 30 (aH (.ix (ac 0) (aj 2))))))))) .done) .done (.bI (.cmp .Eq (ac 1) (ap [109,101,101,116])) (.asg 2 (.eP .join (ap [32]) (aH vn)) (.ret (.fst (.cons (ac 1) (.cons (ap [32]) (.cons (.ix (ac 0) (aj 1)) (mS (ap [32]) (.ix (ac 0) (aj 3)) (ap [32]) (ac 2)))))) .done)) .done (.ret (.eP .join (ap [32]) (aH xw)) .done))))
noncomputable def ir:E:=(.emit (.call 31 (aH (ac 0))))
noncomputable def md:E:=(.comp 1 [] (ac 0) (.nm 0) .nil ir)
noncomputable def eL:S:=(.ret (.eP .join (ap [10]) (aH md)) .done)
noncomputable def eR:S:=(.bI (.and (.call 20 (aH (ac 0))) (.call 3 (aH (.blt .int (aH (ac 0)))))) (.ret (.blt .int (aH (ac 0))) .done) .done (.ret (.con .non) .done))
noncomputable def i9:S:=(.lP [1,2,3] (.eP .partition (ac 0) (aH (ap [61]))) (.ret (.tup (bj (ac 1) (.call 33 (aH (ac 3))))) .done))
noncomputable def iC:S:=(.tri (.ret (.call 27 (aH (ac 0))) .done) [] Zy .xC .done)
noncomputable def jl:E:=(.emit (.call 33 (aH (ac 0))))
noncomputable def nr:E:=(.comp 1 [] (.Hq (ac 4) (aj 5) .hole) (.nm 0) .nil jl)
noncomputable def jO:E:=(.emit (.call 34 (aH (ac 0))))
noncomputable def mX:E:=(.comp 1 [] (.call 29 (aH (.ix (ac 4) (aj 4)))) (.nm 0) .nil jO)
noncomputable def fW:S:=(.lP [1,2,3] (.eP .partition (ac 0) (aH (ap [32,124,32]))) (.asg 4 (.eP .split (ac 1) (aH (ap [32]))) (.bI (.cmp .NotEq (.blt .len (aH (ac 4))) (aj 9)) (.ret (.con .non) .done) .done (.asg 5 (.blt .tuple (aH (.call 29 (aH (.ix (ac 4) (aj 3)))))) (.asg 6 (.blt .tuple (aH mX)) (.H9 [7,8,9,10] nr (.asg 11 (.tup (.cons (.ix (ac 4) (aj 0)) (.cons (.tup (mS (.ix (ac 4) (aj 1)) (.ix (ac 4) (aj 2)) (ac 5) (ac 6))) (.cons (.call 35 (aH (ac 3))) (mS (ac 7) (ac 8) (ac 9) (ac 10)))))) (.bI (.call 17 (aH (ac 11))) (.ret (ac 11) .done) .done (.ret (.con .non) .done)))))))))
noncomputable def bG:S:=(.bI (.cmp .Eq (ac 0) (ap [111,102,102,101,114])) (.ret (.call 36 (aH (ac 1))) .done) .done (.bI (.cmp .Eq (ac 0) (ap [110,97,109,101])) (.ret (.ite (.call 1 (aH (ac 1))) (ac 1) (.con .non)) .done) .done (.asg 2 (.call 33 (aH (ac 1))) (.ret (.ite (.and (.cmp .Eq (ac 0) (ap [109,97,110,121])) (.cmp .Eq (ac 2) (aj 0))) (.con .non) (ac 2)) .done))))
noncomputable def di:S:=(.bI (.or (.eP .starts (ac 0) (aH (ap [99,111,109,101,32]))) (.eP .starts (ac 0) (aH (ap [99,104,97,110,103,101,32])))) (.ret (.eP .mF (ac 0) (bj (ap [32]) (aj 3))) .done) .done (.ret (.eP .split (ac 0) (aH (ap [32]))) .done))
noncomputable def ee:S:=(.asg 1 (.Op 20 (.ix (ac 0) (aj 0))) (.bI (.and (.cmp .Eq (.ix (ac 0) (aj 0)) (ap [109,101,101,116])) (.cmp .Eq (.blt .len (aH (ac 0))) (aj 6))) (.ret (.bin .Add (ac 1) (.tup (aH (ap [110,117,109,98,101,114])))) .done) .done (.ret (ac 1) .done)))
noncomputable def mM:E:=(.emit (.call 37 (bj (ac 0) (ac 1))))
noncomputable def sE:E:=(.comp 2 [] (.Pl (bj (ac 2) (.Hq (ac 1) (aj 1) .hole))) (.tp [0,1]) .nil mM)
noncomputable def gi:S:=(.asg 1 (.call 38 (aH (ac 0))) (.asg 2 (.call 39 (aH (ac 1))) (.bI (.or (.cmp .Is (ac 2) (.con .non)) (.cmp .NotEq (.blt .len (aH (ac 1))) (.bin .Add (.blt .len (aH (ac 2))) (aj 1)))) (.ret (.con .non) .done) .done (.asg 3 sE (.bI (.cmp .In (.con .non) (ac 3)) (.ret (.con .non) .done) .done (.asg 4 (.ix (ac 1) (aj 0)) (.bI (.cmp .In (ac 4) (.tup (bj (ap [99,111,109,101]) (ap [99,104,97,110,103,101])))) (.ret (.tup (mS (ac 4) (.ix (ac 3) (aj 0)) (.ix (ac 3) (aj 2)) (.ix (ac 3) (aj 1)))) .done) .done (.bI (.cmp .Eq (ac 4) (ap [109,101,101,116])) (.ret (.tup (mS (ac 4) (.ix (ac 3) (aj 0)) (.blt .tuple (aH (.Hq (ac 3) (aj 2) .hole))) (.ix (ac 3) (aj 1)))) .done) .done (.ret (.blt .tuple (aH (.bin .Add (.lst (aH (ac 4))) (ac 3)))) .done)))))))))
noncomputable def ip:E:=(.emit (.call 40 (aH (ac 0))))
noncomputable def lX:E:=(.comp 1 [] (.eP .split (ac 0) (aH (ap [10]))) (.nm 0) .nil ip)
noncomputable def eG:S:=(.bI (.not (.uo (ac 0) .str)) .xC .done (.bI (.cmp .Eq (ac 0) (ap [])) (.ret (.zn .nil) .done) .done (.asg 1 (.DZ lX) (.bI (.cmp .In (.con .non) (ac 1)) .xC .done (.ret (ac 1) .done)))))
noncomputable def nH:S:=(.bI (.cmp .Lt (ac 1) (.blt .len (aH (ac 0)))) (.ret (.ix (ac 0) (ac 1)) .done) .done (.ret (aj 0) .done))
noncomputable def kb:S:=(.asg 2 (.bin .Mod (.bin .Mult (.bin .Add (.bin .Add (ac 0) (.bin .Mult (aj 7919) (ac 1))) (aj 1)) (aj 48271)) (aj 2147483647)) (.ret (.bin .Mod (.bin .Mult (ac 2) (.bin .Add (.bin .FloorDiv (ac 2) (aj 1009)) (aj 69621))) (aj 2147483647)) .done))
noncomputable def kg:S:=(.asg 2 (.bin .Mod (.bin .Mult (.bin .Add (.bin .Add (.call 43 (bj (ac 0) (ac 1))) (.bin .Mult (aj 104729) (ac 1))) (aj 11)) (aj 69621)) (aj 2147483647)) (.ret (.bin .Mod (.bin .Mult (ac 2) (.bin .Add (.bin .FloorDiv (ac 2) (aj 1013)) (aj 48271))) (aj 2147483647)) .done))
noncomputable def ox:S:=(.asg 2 (.call 42 (bj (ac 0) (ac 1))) (.ret (.zn (mL (.ix (.lst (bj (aj 0) (ac 2))) (.blt .int (aH (.cmp .GtE (ac 2) (.bin .Pow (aj 10) (aj 18)))))) (aj 0) (.bin .Add (ac 2) (ac 1)))) .done))
noncomputable def oF:S:=(.bI (.cmp .Gt (.ix (ac 0) (aj 0)) (aj 0)) (.asg 2 (.bin .Mod (.ix (ac 0) (aj 0)) (ac 1)) (.set (ac 0) (aj 0) (.bin .FloorDiv (.ix (ac 0) (aj 0)) (ac 1)) (.ret (ac 2) .done))) .done (.set (ac 0) (aj 1) (.bin .Add (.ix (ac 0) (aj 1)) (aj 1)) (.ret (.bin .Mod (.call 44 (bj (.ix (ac 0) (aj 2)) (.ix (ac 0) (aj 1)))) (ac 1)) .done)))
noncomputable def jd:S:=(.expr (.eP .append (ac 4) (aH (.eP .iX (ac 3) (aH (.call 46 (bj (ac 0) (.blt .len (aH (ac 3))))))))) .done)
noncomputable def nu:S:=(.asg 3 (.DZ (ac 1)) (.asg 4 (.zn .nil) (.Bb (.nm 5) (.blt .dm (aH (.call 46 (bj (ac 0) (.bin .Add (ac 2) (aj 1)))))) jd (.ret (.blt .tuple (aH (.blt .sorted (aH (ac 4))))) .done))))
noncomputable def iY:S:=(.ret (.ix (.lst (mL (.call 46 (bj (ac 0) (aj 10))) (.call 46 (bj (ac 0) (aj 10))) (.bin .Sub (.bin .Pow (aj 10) (aj 9)) (.call 46 (bj (ac 0) (aj 2)))))) (.bin .Mod (.bin .FloorDiv (.call 46 (bj (ac 0) (aj 8))) (aj 3)) (aj 3))) .done)
noncomputable def C2:E:=(.emit (.ix (ac 1) (.call 46 (bj (ac 2) (aj 26)))))
noncomputable def oY:E:=(.comp 1 [1,0] (.blt .dm (aH (.bin .Add (aj 1) (.call 46 (bj (ac 0) (aj 8)))))) (.nm 0) .nil C2)
noncomputable def n5:S:=(.asg 1 (ap [97,98,99,100,101,102,103,104,105,106,107,108,109,110,111,112,113,114,115,116,117,118,119,120,121,122]) (.asg 2 (.eP .join (ap []) (aH oY)) (.bI (.cmp .In (ac 2) (.tup (.cons (ap [97,110,121]) (.cons (ap [105,115]) (mS (ap [98,121]) (ap [110,111,116]) (ap [97,110,100]) (ap [111,114])))))) (.ret (.bin .Add (ac 2) (ap [113])) .done) .done (.ret (ac 2) .done))))
noncomputable def nO:S:=(.bI (.cmp .Eq (.call 46 (bj (ac 0) (aj 3))) (aj 0)) (.ret (.call 49 (aH (ac 0))) .done) .done (.ret (.ix (ac 1) (.call 46 (bj (ac 0) (.blt .len (aH (ac 1)))))) .done))
noncomputable def pF:E:=(.emit (.tup (bj (ac 0) (.call 48 (aH (ac 1))))))
noncomputable def ph:E:=(.comp 1 [0] (.call 47 (mL (ac 0) (.ix (ac 3) (aj 1)) (.blt .min2 (bj (aj 6) (.blt .len (aH (.ix (ac 3) (aj 1)))))))) (.nm 0) .nil pF)
noncomputable def CV:E:=(.emit (.call 49 (aH (ac 1))))
noncomputable def uT:E:=(.comp 1 [1] (.blt .dm (aH (aj 8))) (.nm 0) .nil CV)
noncomputable def Dr:E:=(.emit (.blt .oE (aH (.bin .Add uT (.lst (aH (ap [109,110])))))))
noncomputable def o0:E:=(.comp 1 [0] (.blt .dm (aH (aj 2))) (.nm 0) .nil Dr)
noncomputable def nR:S:=(.asg 1 (.call 50 (bj (ac 0) (.lst (.cons (ap [97,110,110]) (mS (ap [98,111,98]) (ap [99,121]) (ap [122,122,122,122,122,122,122,122]) (ap [112,114,105,99,101])))))) (.asg 2 (.call 50 (bj (ac 0) (.lst (mL (ap [98,114,101,97,100]) (ap [119,111,111,100]) (ap [105,115,108,101]))))) (.asg 3 (.lst (bj (.lst (.cons (ap [97]) (.cons (ap [102,114,101,115,104]) (mS (ap [111,108,100]) (ap [114,121,101]) (ap [97,110,110]) (ap [97,110,121,120]))))) (.lst (mS (ap [97]) (ap [112,114,105,99,101]) (ap [119,105,100,116,104]) (ap [111,108,100]))))) (.bI (.cmp .Eq (.call 46 (bj (ac 0) (aj 2))) (aj 0)) (.asg 3 o0 .done) .done (.asg 4 (.call 47 (mL (ac 0) (.ix (ac 3) (aj 0)) (.blt .min2 (bj (aj 6) (.blt .len (aH (.ix (ac 3) (aj 0)))))))) (.asg 5 (.blt .tuple (aH ph)) (.ret (.tup (mS (ac 1) (ac 2) (ac 4) (ac 5))) .done)))))))
noncomputable def nM:S:=(.asg 1 (.call 46 (bj (ac 0) (aj 8))) (.bI (.cmp .Lt (ac 1) (aj 2)) (.ret (.tup (aH (ap [97,110,121]))) .done) .done (.bI (.cmp .Eq (ac 1) (aj 2)) (.ret (.tup (bj (ap [98,121]) (.call 50 (bj (ac 0) (.lst (mS (ap [97,110,110]) (ap [98,111,98]) (ap [99,121]) (ap [122,122,122,122,122,122,122,122]))))))) .done) .done (.bI (.cmp .Lt (ac 1) (aj 5)) (.ret (.tup (mL (.ix (.lst (bj (ap [108,101,97,115,116]) (ap [109,111,115,116]))) (.bin .Mod (ac 1) (aj 2))) (.call 50 (bj (ac 0) (.lst (mS (ap [97]) (ap [112,114,105,99,101]) (ap [119,105,100,116,104]) (ap [111,108,100]))))) (.call 48 (aH (ac 0))))) .done) .done (.ret (.tup (bj (ap [105,115]) (.call 50 (bj (ac 0) (.lst (.cons (ap [97]) (.cons (ap [102,114,101,115,104]) (mS (ap [111,108,100]) (ap [114,121,101]) (ap [97,110,110]) (ap [119,111,111,100]))))))))) .done)))))
noncomputable def kU:E:=(.emit (.call 53 (mL (ac 1) (.bin .Sub (ac 3) (aj 1)) (ac 2))))
noncomputable def vb:E:=(.comp 1 [0,2,1] (.blt .dm (aH (ac 4))) (.nm 0) .nil kU)
noncomputable def jx:S:=(.set (ac 2) (aj 0) (.bin .Sub (.ix (ac 2) (aj 0)) (aj 1)) (.asg 3 (.call 46 (bj (ac 0) (aj 6))) (.bI (.or (.cmp .Lt (ac 1) (aj 2)) (.or (.cmp .Lt (ac 3) (aj 2)) (.cmp .Lt (.ix (ac 2) (aj 0)) (aj 3)))) (.ret (.call 52 (aH (ac 0))) .done) .done (.bI (.cmp .Eq (ac 3) (aj 2)) (.ret (.tup (bj (ap [110,111,116]) (.call 53 (mL (ac 0) (.bin .Sub (ac 1) (aj 1)) (ac 2))))) .done) .done (.asg 4 (.bin .Add (aj 2) (.call 46 (bj (ac 0) (.ix (.lst (bj (aj 2) (aj 5))) (.bin .FloorDiv (.call 46 (bj (ac 0) (aj 3))) (aj 2)))))) (.ret (.tup (bj (.ix (.lst (bj (ap [97,110,100]) (ap [111,114]))) (.bin .Mod (ac 3) (aj 2))) (.blt .tuple (aH vb)))) .done))))))
noncomputable def cN:S:=(.asg 1 (.ix (.lst (mL (.bin .Add (aj 1) (.call 46 (bj (ac 0) (aj 9)))) (.bin .Add (aj 1) (.call 46 (bj (ac 0) (.bin .Pow (aj 10) (aj 6))))) (.bin .Pow (aj 10) (aj 6)))) (.call 46 (bj (ac 0) (aj 3)))) (.asg 2 (.ix (.lst (mL (aj 1) (.bin .Add (aj 1) (.call 46 (bj (ac 0) (ac 1)))) (ac 1))) (.call 46 (bj (ac 0) (aj 3)))) (.asg 3 (.ix (.lst (mL (aj 0) (aj 1000) (.call 46 (bj (ac 0) (aj 1001))))) (.call 46 (bj (ac 0) (aj 3)))) (.asg 4 (.ix (.lst (mS (aj 0) (.bin .Pow (aj 10) (aj 9)) (.call 46 (bj (ac 0) (.bin .Add (.bin .Pow (aj 10) (aj 9)) (aj 1)))) (.call 46 (bj (ac 0) (aj 30))))) (.call 46 (bj (ac 0) (aj 4)))) (.asg 5 (.call 51 (aH (ac 0))) (.asg 6 (.call 53 (mL (ac 0) (.bin .Add (aj 1) (.call 46 (bj (ac 0) (aj 6)))) (.zn (aH (aj 12))))) (.ret (.tup (.cons (.ix (.lst (mL (ap [103,105,118,101]) (ap [116,97,107,101]) (ap [98,101,97,114]))) (.call 46 (bj (ac 0) (aj 3)))) (.cons (ac 5) (.cons (ac 6) (mS (ac 1) (ac 2) (ac 3) (ac 4)))))) .done)))))))
noncomputable def iP:S:=(.asg 2 (.call 56 (aH (ac 0))) (.bI (.cmp .In (.ix (ac 0) (aj 0)) (ac 1)) (.ret (.bin .Add (.bin .Add (ap [40,32]) (ac 2)) (ap [32,41])) .done) .done (.ret (ac 2) .done)))
noncomputable def rE:E:=(.emit (.call 55 (bj (ac 0) (.tup (aH (ap [111,114]))))))
noncomputable def rL:E:=(.comp 1 [] (.ix (ac 0) (aj 1)) (.nm 0) .nil rE)
noncomputable def sR:E:=(.emit (.call 55 (bj (ac 0) (.tup (bj (ap [97,110,100]) (ap [111,114]))))))
noncomputable def tj:E:=(.comp 1 [] (.ix (ac 0) (aj 1)) (.nm 0) .nil sR)
noncomputable def bD:S:=(.asg 1 (.ix (ac 0) (aj 0)) (.bI (.cmp .In (ac 1) (.tup (bj (ap [108,101,97,115,116]) (ap [109,111,115,116])))) (.ret (.bin .Add (.bin .Add (.ix (ac 0) (aj 1)) (.ix (.lst (bj (ap [32,60,61,32]) (ap [32,62,61,32]))) (.blt .int (aH (.cmp .Eq (ac 1) (ap [108,101,97,115,116])))))) (.blt .str (aH (.ix (ac 0) (aj 2))))) .done) .done (.bI (.cmp .Eq (ac 1) (ap [110,111,116])) (.ret (.bin .Add (ap [110,111,116,32]) (.call 55 (bj (.ix (ac 0) (aj 1)) (.tup (bj (ap [97,110,100]) (ap [111,114])))))) .done) .done (.bI (.cmp .Eq (ac 1) (ap [97,110,100])) (.ret (.eP .join (ap [32,97,110,100,32]) (aH tj)) .done) .done (.bI (.cmp .Eq (ac 1) (ap [111,114])) (.ret (.eP .join (ap [32,111,114,32]) (aH rL)) .done) .done (.ret (.eP .join (ap [32]) (aH (ac 0))) .done))))))
noncomputable def iK:S:=(.ret (.ix (.lst (bj (.eP .join (ap [44]) (aH (ac 0))) (ap [45]))) (.blt .int (aH (.cmp .Eq (ac 0) (.lst .nil))))) .done)
noncomputable def fc:E:=(.emit (.blt .str (aH (ac 0))))
noncomputable def jS:E:=(.comp 1 [] (.lst (mS (ac 4) (ac 5) (ac 6) (ac 7))) (.nm 0) .nil fc)
noncomputable def fe:E:=(.emit (.bin .Add (.bin .Add (ac 0) (ap [61])) (.blt .str (aH (ac 1)))))
noncomputable def jR:E:=(.comp 2 [] (.ix (ac 2) (aj 3)) (.tp [0,1]) .nil fe)
noncomputable def c9:S:=(.lP [1,2,3,4,5,6,7] (ac 0) (.asg 8 (.zn (mS (ac 1) (.ix (ac 2) (aj 0)) (.ix (ac 2) (aj 1)) (.call 57 (aH (.blt .list (aH (.ix (ac 2) (aj 2)))))))) (.expr (.eP .append (ac 8) (aH (.call 57 (aH jR)))) (.asg 8 (.LD (ac 8) jS) (.ret (.bin .Add (.bin .Add (.eP .join (ap [32]) (aH (ac 8))) (ap [32,124,32])) (.call 56 (aH (ac 3)))) .done)))))
noncomputable def m9:S:=(.ret (.ix (.lst (mS (aj 0) (.bin .Pow (aj 10) (aj 9)) (.call 46 (bj (ac 0) (aj 30))) (.call 46 (bj (ac 0) (.bin .Pow (aj 10) (aj 9)))))) (.call 46 (bj (ac 0) (aj 4)))) .done)
noncomputable def Hg:E:=(.emit (.call 59 (aH (ac 1))))
noncomputable def yQ:E:=(.comp 1 [0] (.blt .dm (aH (.bin .Add (aj 2) (.call 46 (bj (ac 0) (aj 2)))))) (.nm 0) .nil Hg)
noncomputable def fj:S:=(.asg 1 (.call 46 (bj (ac 0) (aj 7))) (.asg 2 (.call 59 (aH (ac 0))) (.asg 3 (.call 50 (bj (ac 0) (.lst (mS (ap [97,110,110]) (ap [122,122,122,122,122,122,122,122]) (ap [98]) (ap [112,114,105,99,101]))))) (.bI (.cmp .Lt (ac 1) (aj 2)) (.ret (.tup (mS (.ix (.lst (bj (ap [99,111,109,101]) (ap [99,104,97,110,103,101]))) (ac 1)) (ac 2) (.call 54 (aH (ac 0))) (.call 59 (aH (ac 0))))) .done) .done (.bI (.cmp .Eq (ac 1) (aj 2)) (.ret (.tup (mL (ap [111,102,102]) (ac 2) (ac 3))) .done) .done (.bI (.cmp .Eq (ac 1) (aj 3)) (.ret (.tup (mS (ap [108,101,115,115]) (ac 2) (ac 3) (.ix (.lst (mL (aj 1) (.bin .Pow (aj 10) (aj 9)) (.bin .Add (aj 1) (.call 46 (bj (ac 0) (aj 30)))))) (.call 46 (bj (ac 0) (aj 3)))))) .done) .done (.bI (.cmp .Eq (ac 1) (aj 4)) (.ret (.tup (mS (ap [119,97,105,116]) (ac 2) (ac 3) (.call 59 (aH (ac 0))))) .done) .done (.bI (.cmp .Eq (ac 1) (aj 5)) (.asg 4 (.blt .tuple (aH yQ)) (.ret (.tup (mS (ap [109,101,101,116]) (ac 2) (ac 4) (.ix (.lst (mL (aj 1) (.bin .Pow (aj 10) (aj 9)) (.bin .Add (aj 1) (.call 46 (bj (ac 0) (aj 30)))))) (.call 46 (bj (ac 0) (aj 3)))))) .done)) .done (.ret (.tup (mL (ap [111,117,116]) (ac 2) (.call 59 (aH (ac 0))))) .done)))))))))
noncomputable def uv:E:=(.emit (.blt .str (aH (ac 0))))
noncomputable def ut:E:=(.comp 1 [] (ac 0) (.nm 0) .nil uv)
noncomputable def tY:E:=(.emit (.blt .str (aH (ac 0))))
noncomputable def tV:E:=(.comp 1 [] (.ix (ac 0) (aj 2)) (.nm 0) .nil tY)
noncomputable def bU:S:=(.bI (.cmp .In (.ix (ac 0) (aj 0)) (.tup (bj (ap [99,111,109,101]) (ap [99,104,97,110,103,101])))) (.ret (.eP .join (ap [32]) (aH (.lst (mS (.ix (ac 0) (aj 0)) (.blt .str (aH (.ix (ac 0) (aj 1)))) (.blt .str (aH (.ix (ac 0) (aj 3)))) (.call 58 (aH (.ix (ac 0) (aj 2)))))))) .done) .done (.bI (.cmp .Eq (.ix (ac 0) (aj 0)) (ap [109,101,101,116])) (.ret (.eP .join (ap [32]) (aH (.bin .Add (.lst (mL (ap [109,101,101,116]) (.blt .str (aH (.ix (ac 0) (aj 1)))) (.blt .str (aH (.ix (ac 0) (aj 3)))))) tV))) .done) .done (.ret (.eP .join (ap [32]) (aH ut)) .done)))
noncomputable def f9:S:=(.lP [1,2,3] (.eP .partition (.call 61 (aH (ac 0))) (aH (ap [32,124,32]))) (.bI (.cmp .Eq (ac 2) (ap [])) (.ret (ac 1) .done) .done (.ret (.bin .Add (.bin .Add (.bin .Add (.bin .Add (ac 1) (ac 2)) (ap [40,32,40,32])) (ac 3)) (ap [32,41,32,41])) .done)))
noncomputable def wS:E:=(.emit (.call 62 (aH (ac 0))))
noncomputable def CH:E:=(.comp 1 [] (ac 3) (.nm 0) .nil wS)
noncomputable def Ce:E:=(.emit (ac 0))
noncomputable def BD:E:=(.comp 1 [] (ac 7) (.nm 0) (aH (.not (.uo (ac 0) .tuple))) Ce)
noncomputable def rj:S:=(.asg 7 (.call 41 (aH (ac 5))) (.bI (.or (.not (.uo (ac 7) .list)) (.or (.cmp .NotEq (ac 7) (ac 3)) (.cmp .NotEq (.call 32 (aH (ac 7))) (ac 5)))) (.ret (CC false) .done) .done (.bI (.cmp .NotEq BD (.lst .nil)) (.ret (CC false) .done) .done (.expr (.eP .append (ac 7) (aH (.con .non))) .done))))
noncomputable def wQ:E:=(.emit (.call 61 (aH (ac 0))))
noncomputable def BS:E:=(.comp 1 [] (ac 3) (.nm 0) .nil wQ)
noncomputable def IL:E:=(.emit (.call 60 (aH (ac 1))))
noncomputable def Cw:E:=(.comp 1 [2] (.blt .dm (aH (.call 46 (bj (ac 2) (aj 13))))) (.nm 0) .nil IL)
noncomputable def rf:S:=(.asg 2 (.call 45 (bj (ac 0) (ac 1))) (.asg 3 Cw (.asg 4 (.blt .list (aH (ac 3))) (.asg 5 (.eP .join (ap [10]) (aH BS)) (.bI (.or (.cmp .NotEq (.call 32 (aH (ac 4))) (ac 5)) (.cmp .NotEq (ac 4) (ac 3))) (.ret (CC false) .done) .done (.Bb (.nm 6) (.blt .dm (aH (aj 2))) rj (.bI (.cmp .NotEq (.call 41 (aH (.eP .join (ap [10]) (aH CH)))) (ac 3)) (.ret (CC false) .done) .done .done)))))))
noncomputable def va:S:=(.Bb (.nm 1) (.blt .dm (aH (aj 3))) rf (.ret (.and (.cmp .Eq (.call 41 (aH (ap []))) (.lst .nil)) (.cmp .Eq (.call 32 (aH (.lst .nil))) (ap []))) .done))
noncomputable def fns:List Fn:=[⟨1,1,cR,false⟩,⟨1,1,d4,false⟩,⟨1,1,jm,false⟩,⟨1,1,eF,false⟩,⟨1,1,lI,false⟩,⟨1,1,sv,false⟩,⟨1,1,eI,false⟩,⟨1,1,i8,false⟩,⟨1,1,eX,false⟩,⟨1,1,iQ,false⟩,⟨2,2,gW,false⟩,⟨1,1,cD,false⟩,⟨1,1,dR,false⟩,⟨1,1,eJ,false⟩,⟨1,1,gj,false⟩,⟨1,4,iR,false⟩,⟨3,3,dB,false⟩,⟨1,8,gh,false⟩,⟨1,3,bT,false⟩,⟨2,3,c6,false⟩,⟨1,1,b9,false⟩,⟨2,2,i4,false⟩,⟨2,3,iD,false⟩,⟨2,3,eQ,false⟩,⟨2,5,dP,false⟩,⟨3,6,cq,false⟩,⟨4,7,bZ,false⟩,⟨1,4,eU,false⟩,⟨1,1,eK,false⟩,⟨1,1,eS,false⟩,⟨1,13,dD,false⟩,⟨1,3,cv,false⟩,⟨1,1,eL,false⟩,⟨1,1,eR,false⟩,⟨1,4,i9,false⟩,⟨1,1,iC,false⟩,⟨1,12,fW,false⟩,⟨2,3,bG,false⟩,⟨1,1,di,false⟩,⟨1,2,ee,false⟩,⟨1,5,gi,false⟩,⟨1,2,eG,true⟩,⟨2,2,nH,false⟩,⟨2,3,kb,false⟩,⟨2,3,kg,false⟩,⟨2,3,ox,true⟩,⟨2,3,oF,false⟩,⟨3,6,nu,false⟩,⟨1,1,iY,false⟩,⟨1,3,n5,false⟩,⟨2,2,nO,false⟩,⟨1,6,nR,false⟩,⟨1,2,nM,false⟩,⟨3,5,jx,false⟩,⟨1,7,cN,false⟩,⟨2,3,iP,false⟩,⟨1,2,bD,false⟩,⟨1,1,iK,false⟩,⟨1,9,c9,false⟩,⟨1,1,m9,false⟩,⟨1,5,fj,false⟩,⟨1,1,bU,false⟩,⟨1,4,f9,false⟩,⟨1,8,va,false⟩]
noncomputable def gv:List T:=[(.str [97,98,99,100,101,102,103,104,105,106,107,108,109,110,111,112,113,114,115,116,117,118,119,120,121,122]),(.int 8),(.tup [(.str [97,110,121]),(.str [105,115]),(.str [98,121]),(.str [110,111,116]),(.str [97,110,100]),(.str [111,114])]),(.int 1000000000),(.int 6),(.int 6),(.int 6),(.int 40),(.int 2),(.int 6),(.tup [(.str [103,105,118,101]),(.str [116,97,107,101]),(.str [98,101,97,114])]),(.int 1000000),(.int 1000),(.str [48,49,50,51,52,53,54,55,56,57]),(.int 10),(.int 12),(.dct (Ud (λk=>.inr ⟨k.toArray⟩) [[62,61],[60,61]]) [(.str [108,101,97,115,116]),(.str [109,111,115,116])]),(.tup [(.str [111,114]),(.str [97,110,100])]),(.dct (Ud (λk=>.inr ⟨k.toArray⟩) [[110,111,116],[97,110,100],[111,114]]) [(.tup [(.str [97,110,100]),(.str [111,114])]),(.tup [(.str [97,110,100]),(.str [111,114])]),(.tup [(.str [111,114])])]),(.str [45]),(.dct (Ud (λk=>.inr ⟨k.toArray⟩) [[99,111,109,101],[111,102,102],[99,104,97,110,103,101],[108,101,115,115],[119,97,105,116],[109,101,101,116],[111,117,116]]) [(.tup [(.str [110,117,109,98,101,114]),(.str [110,117,109,98,101,114]),(.str [111,102,102,101,114])]),(.tup [(.str [110,117,109,98,101,114]),(.str [110,97,109,101])]),(.tup [(.str [110,117,109,98,101,114]),(.str [110,117,109,98,101,114]),(.str [111,102,102,101,114])]),(.tup [(.str [110,117,109,98,101,114]),(.str [110,97,109,101]),(.str [109,97,110,121])]),(.tup [(.str [110,117,109,98,101,114]),(.str [110,97,109,101]),(.str [110,117,109,98,101,114])]),(.tup [(.str [110,117,109,98,101,114]),(.str [109,97,110,121]),(.str [110,117,109,98,101,114]),(.str [110,117,109,98,101,114])]),(.tup [(.str [110,117,109,98,101,114]),(.str [110,117,109,98,101,114])])])]
noncomputable abbrev cf:=f8 fns gv
abbrev CF(k:Nat)(b:S)(p q:Nat)(c:Bool):Prop:=∀(n:Nat) (ws:List W) (m:Mem),cf (n+1) k ws m=if ws.length=p then(ex (cf n) gv b (ws.map Zz++RF (q-p) Zy) m).bind λfl m'=>fin m.length c fl m' else .stuck
theorem qm:CF 0 cR 1 1 false:=λ_ _ _=>rfl
theorem sA:CF 1 d4 1 1 false:=λ_ _ _=>rfl
theorem yt:CF 2 jm 1 1 false:=λ_ _ _=>rfl
theorem wP:CF 3 eF 1 1 false:=λ_ _ _=>rfl
theorem zL:CF 4 lI 1 1 false:=λ_ _ _=>rfl
theorem Hx:CF 5 sv 1 1 false:=λ_ _ _=>rfl
theorem vK:CF 6 eI 1 1 false:=λ_ _ _=>rfl
theorem Af:CF 7 i8 1 1 false:=λ_ _ _=>rfl
theorem vH:CF 8 eX 1 1 false:=λ_ _ _=>rfl
theorem AK:CF 9 iQ 1 1 false:=λ_ _ _=>rfl
theorem vB:CF 10 gW 2 2 false:=λ_ _ _=>rfl
theorem oP:CF 11 cD 1 1 false:=λ_ _ _=>rfl
theorem ua:CF 12 dR 1 1 false:=λ_ _ _=>rfl
theorem wq:CF 13 eJ 1 1 false:=λ_ _ _=>rfl
theorem yF:CF 14 gj 1 1 false:=λ_ _ _=>rfl
theorem A7:CF 15 iR 1 4 false:=λ_ _ _=>rfl
theorem uf:CF 16 dB 3 3 false:=λ_ _ _=>rfl
theorem yg:CF 17 gh 1 8 false:=λ_ _ _=>rfl
theorem jC:CF 18 bT 1 3 false:=λ_ _ _=>rfl
theorem sh:CF 19 c6 2 3 false:=λ_ _ _=>rfl
theorem oy:CF 20 b9 1 1 false:=λ_ _ _=>rfl
theorem zS:CF 21 i4 2 2 false:=λ_ _ _=>rfl
theorem zq:CF 22 iD 2 3 false:=λ_ _ _=>rfl
theorem xq:CF 23 eQ 2 3 false:=λ_ _ _=>rfl
theorem uc:CF 24 dP 2 5 false:=λ_ _ _=>rfl
theorem kh:CF 25 cq 3 6 false:=λ_ _ _=>rfl
theorem ky:CF 26 bZ 4 7 false:=λ_ _ _=>rfl
theorem xm:CF 27 eU 1 4 false:=λ_ _ _=>rfl
theorem wF:CF 28 eK 1 1 false:=λ_ _ _=>rfl
theorem vU:CF 29 eS 1 1 false:=λ_ _ _=>rfl
theorem uh:CF 30 dD 1 13 false:=λ_ _ _=>rfl
theorem kn:CF 31 cv 1 3 false:=λ_ _ _=>rfl
theorem wz:CF 32 eL 1 1 false:=λ_ _ _=>rfl
theorem wg:CF 33 eR 1 1 false:=λ_ _ _=>rfl
theorem Bf:CF 34 i9 1 4 false:=λ_ _ _=>rfl
theorem Ab:CF 35 iC 1 1 false:=λ_ _ _=>rfl
theorem x9:CF 36 fW 1 12 false:=λ_ _ _=>rfl
theorem gF:CF 37 bG 2 3 false:=λ_ _ _=>rfl
theorem pM:CF 38 di 1 1 false:=λ_ _ _=>rfl
theorem sP:CF 39 ee 1 2 false:=λ_ _ _=>rfl
theorem De:CF 40 gi 1 5 false:=λ_ _ _=>rfl
theorem wE:CF 41 eG 1 2 true:=λ_ _ _=>rfl
theorem F9:CF 42 nH 2 2 false:=λ_ _ _=>rfl
theorem Ej:CF 43 kb 2 3 false:=λ_ _ _=>rfl
theorem DK:CF 44 kg 2 3 false:=λ_ _ _=>rfl
theorem EZ:CF 45 ox 2 3 true:=λ_ _ _=>rfl
theorem Fy:CF 46 oF 2 3 false:=λ_ _ _=>rfl
theorem G8:CF 47 nu 3 6 false:=λ_ _ _=>rfl
theorem Bq:CF 48 iY 1 1 false:=λ_ _ _=>rfl
theorem ER:CF 49 n5 1 3 false:=λ_ _ _=>rfl
theorem FJ:CF 50 nO 2 2 false:=λ_ _ _=>rfl
theorem FF:CF 51 nR 1 6 false:=λ_ _ _=>rfl
theorem FD:CF 52 nM 1 2 false:=λ_ _ _=>rfl
theorem xZ:CF 53 jx 3 5 false:=λ_ _ _=>rfl
theorem qr:CF 54 cN 1 7 false:=λ_ _ _=>rfl
theorem Bp:CF 55 iP 2 3 false:=λ_ _ _=>rfl
theorem iq:CF 56 bD 1 2 false:=λ_ _ _=>rfl
theorem AJ:CF 57 iK 1 1 false:=λ_ _ _=>rfl
theorem tF:CF 58 c9 1 9 false:=λ_ _ _=>rfl
theorem He:CF 59 m9 1 1 false:=λ_ _ _=>rfl
theorem H8:CF 60 fj 1 5 false:=λ_ _ _=>rfl
theorem jE:CF 61 bU 1 1 false:=λ_ _ _=>rfl
theorem uW:CF 62 f9 1 4 false:=λ_ _ _=>rfl
theorem Lm:CF 63 va 1 8 false:=λ_ _ _=>rfl
theorem Bc:gv[0]?=Zz (.str [97,98,99,100,101,102,103,104,105,106,107,108,109,110,111,112,113,114,115,116,117,118,119,120,121,122]):=rfl
theorem jW:gv[1]?=Zz (.int 8):=rfl
theorem me:gv[2]?=Zz (.tup [(.str [97,110,121]),(.str [105,115]),(.str [98,121]),(.str [110,111,116]),(.str [97,110,100]),(.str [111,114])]):=rfl
theorem mh:gv[3]?=Zz (.int 1000000000):=rfl
theorem lU:gv[4]?=Zz (.int 6):=rfl
theorem l7:gv[5]?=Zz (.int 6):=rfl
theorem zJ:gv[6]?=Zz (.int 6):=rfl
theorem iy:gv[7]?=Zz (.int 40):=rfl
theorem iU:gv[8]?=Zz (.int 2):=rfl
theorem j8:gv[9]?=Zz (.int 6):=rfl
theorem FT:gv[10]?=Zz (.tup [(.str [103,105,118,101]),(.str [116,97,107,101]),(.str [98,101,97,114])]):=rfl
theorem pB:gv[11]?=Zz (.int 1000000):=rfl
theorem mC:gv[12]?=Zz (.int 1000):=rfl
theorem Ae:gv[13]?=Zz (.str [48,49,50,51,52,53,54,55,56,57]):=rfl
theorem qh:gv[14]?=Zz (.int 10):=rfl
theorem kB:gv[15]?=Zz (.int 12):=rfl
theorem yB:gv[16]?=Zz (.dct (Ud (λk=>.inr ⟨k.toArray⟩) [[62,61],[60,61]]) [(.str [108,101,97,115,116]),(.str [109,111,115,116])]):=rfl
theorem ya:gv[17]?=Zz (.tup [(.str [111,114]),(.str [97,110,100])]):=rfl
theorem vN:gv[18]?=Zz (.dct (Ud (λk=>.inr ⟨k.toArray⟩) [[110,111,116],[97,110,100],[111,114]]) [(.tup [(.str [97,110,100]),(.str [111,114])]),(.tup [(.str [97,110,100]),(.str [111,114])]),(.tup [(.str [111,114])])]):=rfl
theorem jt:gv[19]?=Zz (.str [45]):=rfl
end My
section
set_option maxRecDepth 20000
namespace My
open Mi
def bv(s:List T):Prop:=∃a b c:Int,s=[.int a,.int b,.int c]
noncomputable def put(m:Mem)(i:Nat)(s:List T):Mem:=m.set i (Zz (false,s))
theorem Al{m:Mem}{i:Nat}{s:List T}(h:i<m.length):(put m i s)[i]?=Zz (Zz (false,s)):=Ri h
theorem aF{m:Mem}{i:Nat}{s:List T}:(put m i s).length=m.length:=SR
theorem Ch{m:Mem}{i:Nat}{s s':List T}:(put m i s).set i (Zz (false,s'))=put m i s':=List.set_set _
theorem IS{i j:Int}(h:0<=i)(h':i<4294967296):fV i j=true:=by
 have:i.natAbs<2^64:=by omega
 simp[fV,small,this]
theorem N3{i j:Int}(h:0<=j)(h':j<4294967296):fV i j=true:=by
 have:j.natAbs<2^64:=by omega
 simp[fV,small,this]
section
variable{call:Nat->List W->Mem->Res W}{gv:List T}{env:Env}{m m1 m2 m3:Mem}{a b c e o v i:E}{x y z r:T}{w w1 w2:W}{f:Nat}{bb:B}{k:Bool}
theorem az{op:PySem.Operator}(h1:ev call gv a env m=.ok (.t x) m1)(h2:ev call gv b env m1=.ok (.t y) m2)(h3:kI op x y=Zz r):ev call gv (.bin op a b) env m=.ok (.t r) m2:=by
 rw[ev,h1,af,h2,af];show dy (kI op x y) m2=_;rw[h3];rfl
theorem aw{op:PySem.CmpOp}(h1:ev call gv a env m=.ok (.t x) m1)(h2:ev call gv b env m1=.ok (.t y) m2)(h3:bx op x y=Zz k):ev call gv (.cmp op a b) env m=.ok (.t (.bl k)) m2:=by
 rw[ev,h1,af,h2,af];show dy ((bx op x y).map .bl) m2=_;rw[h3];rfl
theorem ab(t:T):ev call gv (.con t) env m=.ok (.t t) m:=by rw[ev]
theorem aa{i:Nat}{w:W}(h:env[i]?=Zz (Zz w)):ev call gv (.var i) env m=.ok w m:=by rw[ev,h]
theorem kG{c j:Nat}{k:Int}{xs:List T}(h:env[c]?=Zz (Zz (.c j)))(hm:m[j]?=Zz (Zz (false,xs)))(hx:atT xs k=Zz r):ev call gv (.ix (.var c) (.con (.int k))) env m=.ok (.t r) m:=by
 rw[ev,aa h,af,ab,af];simp only[view,hm,SX,y2,hx];rfl
theorem aV(h1:ev call gv a env m=.ok (.t x) m1)(h2:ev call gv b env m1=.ok (.t y) m2)(h3:y2 x y=Zz r):ev call gv (.ix a b) env m=.ok (.t r) m2:=by
 rw[ev,h1,af,h2,af];show dy (y2 x y) m2=_;rw[h3];rfl
theorem aB(h:ev call gv e env m=.ok (.t x) m1)(hb:cn bb [x]=Zz r):ev call gv (.blt bb (.cons e .nil)) env m=.ok (.t r) m1:=by
 rw[ev,evs,h];show dy (cn bb [x]) m1=_;rw[hb];rfl
theorem ar(h:ev call gv e env m=.ok w m1):ev call gv (.call f (.cons e .nil)) env m=call f [w] m1:=by
 rw[ev,evs,h];rfl
theorem al(h1:ev call gv a env m=.ok w m1)(h2:ev call gv b env m1=.ok w1 m2):ev call gv (.call f (.cons a (.cons b .nil))) env m=call f [w,w1] m2:=by
 simp only[ev,evs,h1,h2,af]
theorem jc(h1:ev call gv a env m=.ok w m1)(h2:ev call gv b env m1=.ok w1 m2)(h3:ev call gv c env m2=.ok w2 m3):ev call gv (.call f (.cons a (.cons b (.cons c .nil)))) env m=call f [w,w1,w2] m3:=by
 simp only[ev,evs,h1,h2,h3,af]
theorem rk(h1:ev call gv a env m=.ok (.t x) m1):ev call gv (.tup (.cons a .nil)) env m=.ok (.t (.tup [x])) m1:=by
 simp only[ev,evs,h1,af,ek,cI];exact XU (by simp[lim])
theorem bd(h1:ev call gv a env m=.ok (.t x) m1)(h2:ev call gv b env m1=.ok (.t y) m2):ev call gv (.tup (.cons a (.cons b .nil))) env m=.ok (.t (.tup [x,y])) m2:=by
 simp only[ev,evs,h1,h2,af,ek,cI];exact XU (by simp[lim])
theorem m6(h1:ev call gv a env m=.ok (.t x) m1)(h2:ev call gv b env m1=.ok (.t y) m2)(h3:ev call gv c env m2=.ok (.t z) m3):ev call gv (.tup (.cons a (.cons b (.cons c .nil)))) env m=.ok (.t (.tup [x,y,z])) m3:=by
 simp only[ev,evs,h1,h2,h3,af,ek,cI];exact XU (by simp[lim])
theorem fk(h1:ev call gv a env m=.ok (.t x) m1)(h2:ev call gv b env m1=.ok (.t y) m2):ev call gv (.lst (.cons a (.cons b .nil))) env m=.ok (.t (.lst [x,y])) m2:=by
 simp only[ev,evs,h1,h2,af,ek,cI];exact XU (by simp[lim])
theorem jP(h:ev call gv a env m=.ok (.t (.bl true)) m1):ev call gv (.and a b) env m=ev call gv b env m1:=by rw[ev,h];rfl
theorem xc(h:ev call gv a env m=.ok (.t (.bl false)) m1):ev call gv (.and a b) env m=.ok (.t (.bl false)) m1:=by rw[ev,h];rfl
theorem bA(h:ev call gv a env m=.ok (.t (.bl k)) m1):ev call gv (.not a) env m=.ok (.t (.bl (!k))) m1:=by rw[ev,h];rfl
theorem j9(h:ev call gv a env m=.ok (.t (.bl true)) m1):ev call gv (.or a b) env m=.ok (.t (.bl true)) m1:=by rw[ev,h];rfl
theorem bN(h:ev call gv a env m=.ok (.t (.bl false)) m1):ev call gv (.or a b) env m=ev call gv b env m1:=by rw[ev,h];rfl
theorem zQ{ty:Ty}(h:ev call gv a env m=.ok (.t x) m1)(hk:cF x ty=k):ev call gv (.uo a ty) env m=.ok (.t (.bl k)) m1:=by rw[ev,h,<-hk];rfl
end
section
variable{call:Nat->List W->Mem->Res W}{gv:List T}{env:Env}{m m1 m2 m3:Mem}{a lo hi:E}{es:Es}{x y z r:T}{w:W}{ws:List W}{ts:List T}{f:Nat}{bb:B}
theorem bi{ts:List T}(h:ts.length<=1000:=by exact Nat.le_of_ble_eq_true rfl):ts.length<=lim:=RZ h (by decide)
theorem a8:evs call gv .nil env m=.ok [] m:=by rw[evs]
theorem am(h1:ev call gv a env m=.ok w m1)(h2:evs call gv es env m1=.ok ws m2):evs call gv (.cons a es) env m=.ok (w::ws) m2:=by rw[evs,h1,af,h2];rfl
theorem bL(h:evs call gv es env m=.ok ws m1)(h2:cO ws m1=.ok ts m1)(hl:ts.length<=lim):ev call gv (.lst es) env m=.ok (.t (.lst ts)) m1:=by rw[ev,h,af,h2,af,XU hl]
theorem pw(h:evs call gv es env m=.ok ws m1)(h2:cO ws m1=.ok ts m1)(hl:ts.length<=lim):ev call gv (.tup es) env m=.ok (.t (.tup ts)) m1:=by rw[ev,h,af,h2,af,XU hl]
theorem jN(h:evs call gv es env m=.ok ws m1):ev call gv (.call f es) env m=call f ws m1:=by rw[ev,h];rfl
theorem K3(h:evs call gv es env m=.ok ws m1)(h2:views ws m1=Zz ts)(h3:cn bb ts=Zz r):ev call gv (.blt bb es) env m=.ok (.t r) m1:=by
 rw[ev,h,af,h2];show dy (cn bb ts) m1=_;rw[h3];rfl
theorem jZ{k:Nat}(h:gv[k]?=Zz x):ev call gv (.gl k) env m=.ok (.t x) m:=by rw[ev,h];rfl
theorem BH{k:Int}(h1:ev call gv a env m=.ok (.t x) m1)(h2:ev call gv lo env m1=.ok (.t (.int k)) m2)(h3:HP x (Zz k) Zy=Zz r)(hh:aA lo=false:=by rfl):ev call gv (.Hq a lo .hole) env m=.ok (.t r) m2:=by
 rw[ev,h1,af,hh,XV RL,h2];show dy (HP x (Zz k) Zy) m2=_;rw[h3];rfl
end
section
variable{call:Nat->List W->Mem->Res W}{gv:List T}{env env':Env}{m m1 m2:Mem}{k a b:S}{e:E}{w:W}
theorem Lj(h:ev call gv e env m=.ok (.t (.bl true)) m1)(h2:ex call gv a env m1=.ok (.next env') m2):ex call gv (.bI e a b k) env m=ex call gv k env' m2:=by
 rw[ex,h];show(ex call gv a env m1).bind _=_;rw[h2];rfl
theorem qG(h:ev call gv e env m=.ok w m1):ex call gv (.expr e k) env m=ex call gv k env m1:=by rw[ex,h];rfl
end
section
variable{call:Nat->List W->Mem->Res W}{gv:List T}{env:Env}{m m1 m2:Mem}{a c inner:E}{x:T}{xs:List T}
theorem bS(h:ev call gv a env m=.ok (.t x) m1):ev call gv (.emit a) env m=.ok (.t (.lst [x])) m1:=by rw[ev,h];rfl
theorem LF(h:ev call gv c env m=.ok (.t (.bl false)) m1):aY call gv (.cons c .nil) inner env m=.ok [] m1:=by
 unfold aY;rw[tests,h,af,zg,af,XV (by decide),af,XV (by decide)]
theorem eH(h2:ev call gv inner env m=.ok (.t (.lst xs)) m2):aY call gv .nil inner env m=.ok xs m2:=by
 unfold aY;rw[tests,af,XU rfl,h2];rfl
end
theorem at0{α:Type}(a:α)(r:List α):atT (a::r) 0=Zz a:=by simp[atT,jq]
theorem at1{α:Type}(a b:α)(r:List α):atT (a::b::r) 1=Zz b:=by
 have:(1:Int)<(r.length:Int)+1+1:=by omega
 simp[atT,jq,this]
theorem Fk{α:Type}{xs:List α}{i:Int}(h0:0<=i)(h1:i<xs.length):atT xs i=xs[i.toNat]?:=by
 unfold atT jq;rw[XU h0,XU h1];rfl
theorem bP{α β:Type}(f:α->β)(xs:List α):xs.flatMap (λx=>[f x])=xs.map f:=by
 induction xs with
 |nil=>rfl
 |cons x xs ih=>simp[ih]
section
variable{m:Mem}
theorem Pq{n f:Nat}{a b t:T}{body:S}{k:Nat}(hcf:∀ws:List W,cf (n+1) f ws m=if ws.length=2 then(ex (cf n) gv body (ws.map Zz++RF (2+k-2) Zy) m).bind λfl m'=>fin m.length false fl m' else .stuck)(h:ex (cf n) gv body ([Zz (.t a),Zz (.t b)]++RF k Zy) m=.ok (.ret (.t t)) m):cf (n+1) f [.t a,.t b] m=.ok (.t t) m:=by
 rw[hcf];rw[XU (show[W.t a,W.t b].length=2 from rfl)];have:2+k-2=k:=by omega
 rw[this];show(ex (cf n) gv body ([Zz (.t a),Zz (.t b)]++RF k Zy) m).bind _=_;rw[h];exact aq (cell:=false) rfl
end
theorem FY{n:Nat}{m:Mem}{x k:Int}:∃y:Int,cf (n+1) 43 [.t (.int x),.t (.int k)] m=.ok (.t (.int y)) m:=by
 have h4:fV 7919 k=true:=IS (by decide) (by decide);have h5:∀x,fV x 48271=true:=λx=>N3 (by decide) (by decide)
 have h6:∀x y,fV (x%2147483647) y=true:=λx y=>IS (VQ _ (by decide)) (by have:=Uj x (b:=2147483647) (by decide);omega)
 refine⟨((x+7919*k+1)*48271%2147483647)*((x+7919*k+1)*48271%2147483647 / 1009+69621)%2147483647,?_⟩;refine Pq (n:=n) (k:=1) (λws=>Ej _ ws m) ?_;show ex _ gv kb [Zz (.t (.int x)),Zz (.t (.int k)),Zy] m=_;unfold kb;rw[av (az (az (az (az (aa rfl) (az (ab _) (aa rfl) (uS h4)) (db _ _)) (ab _) (db _ _)) (ab _) (uS (h5 _))) (ab _) (lY (by decide)))];exact ai (az (az (aa rfl) (az (az (aa rfl) (ab _) (zm (by decide))) (ab _) (db _ _)) (uS (h6 _ _))) (ab _) (lY (by decide)))
theorem FX{n:Nat}{m:Mem}{x k:Int}:∃y:Int,cf (n+2) 44 [.t (.int x),.t (.int k)] m=.ok (.t (.int y)) m:=by
 have h4:fV 104729 k=true:=IS (by decide) (by decide);have h5:∀x,fV x 69621=true:=λx=>N3 (by decide) (by decide)
 have h6:∀x y,fV (x%2147483647) y=true:=λx y=>IS (VQ _ (by decide)) (by have:=Uj x (b:=2147483647) (by decide);omega)
 obtain⟨z,hz⟩:=FY (n:=n) (m:=m) (x:=x) (k:=k);refine⟨((z+104729*k+11)*69621%2147483647)*((z+104729*k+11)*69621%2147483647 / 1013+48271)%2147483647,?_⟩;refine Pq (n:=n+1) (k:=1) (λws=>DK _ ws m) ?_;show ex _ gv kg [Zz (.t (.int x)),Zz (.t (.int k)),Zy] m=_;unfold kg;rw[av (az (az (az (az ((al (aa rfl) (aa rfl)).trans hz) (az (ab _) (aa rfl) (uS h4)) (db _ _)) (ab _) (db _ _)) (ab _) (uS (h5 _))) (ab _) (lY (by decide)))];exact ai (az (az (aa rfl) (az (az (aa rfl) (ab _) (zm (by decide))) (ab _) (db _ _)) (uS (h6 _ _))) (ab _) (lY (by decide)))
theorem aL{n:Nat}{m:Mem}{i:Nat}{s:List T}{many:Int}(hi:i<m.length)(hs:bv s)(h1:0<many)(h2:many<1073741824):
  ∃r s',cf (n+3) 46 [.c i,.t (.int many)] (put m i s)=.ok (.t (.int r)) (put m i s')/\bv s'/\0<=r/\r<many:=by
 obtain⟨a,b,c,rfl⟩:=hs;have key:∃r s',ex (cf (n+2)) gv oF [Zz (.c i),Zz (.t (.int many)),Zy] (put m i [.int a,.int b,.int c])=.ok (.ret (.t (.int r))) (put m i s')/\bv s'/\0<=r/\r<many:=by
  have h:=Al (s:=[.int a,.int b,.int c]) hi;unfold oF;have hg:ev (cf (n+2)) gv (.cmp .Gt (.ix (.var 0) (.con (.int 0))) (.con (.int 0))) [Zz (.c i),Zz (.t (.int many)),Zy] (put m i [.int a,.int b,.int c])=.ok (.t (.bl (decide (0<a)))) (put m i [.int a,.int b,.int c]):=aw (kG rfl h rfl) (ab _) (ND _ _);by_cases ha:0<a
  ·rw[XX ha]at hg
   refine⟨a%many,[.int (a / many),.int b,.int c],aD hg ?_,⟨_,_,_,rfl⟩,VQ _ (by omega),Uj _ h1⟩;rw[av (az (kG rfl h rfl) (aa rfl) (lY h1))];rw[vG (az (kG rfl h rfl) (aa rfl) (zm ⟨h1,h2⟩)) (aa rfl) (ab _) h rfl];rw[Ch];exact ai (aa rfl)
  ·rw[XW ha]at hg
   rw[ay hg];have hp:=Al (s:=[.int a,.int (b+1),.int c]) hi;obtain⟨z,hz⟩:=FX (n:=n) (m:=put m i [.int a,.int (b+1),.int c]) (x:=c) (k:=b+1);refine⟨z%many,[.int a,.int (b+1),.int c],?_,⟨_,_,_,rfl⟩,VQ _ (by omega),Uj _ h1⟩;rw[vG (az (kG rfl h rfl) (ab _) (db _ _)) (aa rfl) (ab _) h rfl];show ex (cf (n+2)) gv _ _ (put m i [.int a,.int b,.int c] |>.set i (Zz (false,[.int a,.int (b+1),.int c])))=_;rw[Ch];exact ai (az ((al (kG rfl hp rfl) (kG rfl hp rfl)).trans hz) (aa rfl) (lY h1))
 obtain⟨r,s',e,h⟩:=key;refine⟨r,s',?_,h⟩;rw[Fy];simp only[RE,Rh,RN,Tk,if_true,RF,VA,Sq,V0];rw[e];exact aq (cell:=false) (by rw[aF,aF])
theorem Jw{n:Nat}{m:Mem}{ns:List Int}{k:Int}(hk:0<=k):∃v:Int,cf (n+1) 42 [.t (.dr ns),.t (.int k)] m=.ok (.t (.int v)) m:=by
 have key:∃v:Int,ex (cf n) gv nH [Zz (.t (.dr ns)),Zz (.t (.int k))] m=.ok (.ret (.t (.int v))) m:=by
  unfold nH;have hc:ev (cf n) gv (.cmp .Lt (.var 1) (.blt .len (.cons (.var 0) .nil))) [Zz (.t (.dr ns)),Zz (.t (.int k))] m=.ok (.t (.bl (decide (k<ns.length)))) m:=aw (aa rfl) (aB (aa rfl) (Kw ns)) (qx _ _);by_cases h:k<ns.length
  ·obtain⟨v,hv,_⟩:=jk (xs:=ns) (i:=k) hk h
   rw[XX h]at hc;exact⟨v,aD hc (ai (aV (aa rfl) (aa rfl) (by rw[Kt,hv];rfl)))⟩
  ·rw[XW h]at hc
   exact⟨0,by rw[ay hc];exact ai (ab _)⟩
 obtain⟨v,e⟩:=key;exact⟨v,Pq (n:=n) (k:=0) (λws=>F9 _ ws m) e⟩
theorem IB{n:Nat}{m:Mem}{ns:List Int}{k:Int}(hk:0<=k):∃s,cf (n+2) 45 [.t (.dr ns),.t (.int k)] m=.ok (.c m.length) (put (m++[Zy]) m.length s)/\bv s:=by
 obtain⟨v,hv⟩:=Jw (n:=n) (m:=m) (ns:=ns) hk;have hx:∀b:Bool,atT [T.int 0,.int v] (b2i b)=Zz (.int (if b then v else 0)):=λb=>by cases b<;>rfl
 refine⟨[.int (if decide (1000000000000000000<=v)then v else 0),.int 0,.int (v+k)],?_,⟨_,_,_,rfl⟩⟩;have key:ex (cf (n+1)) gv ox [Zz (.t (.dr ns)),Zz (.t (.int k)),Zy] m=.ok (.ret (.c m.length)) (m++[Zz (false,[.int (if decide (1000000000000000000<=v)then v else 0),.int 0,.int (v+k)])]):=by
  unfold ox;rw[av ((al (aa rfl) (aa rfl)).trans hv)];have h1:ev (cf (n+1)) gv (.ix (.lst (.cons (.con (.int 0)) (.cons (.var 2) .nil))) (.blt .int (.cons (.cmp .GtE (.var 2) (.bin .Pow (.con (.int 10)) (.con (.int 18)))) .nil))) [Zz (.t (.dr ns)),Zz (.t (.int k)),Zz (.t (.int v))] m=.ok (.t (.int (if decide (1000000000000000000<=v)then v else 0))) m:=
   aV (fk (ab _) (aa rfl)) (aB (aw (aa rfl) (az (ab _) (ab _) (N8 (by decide))) (Nn _ _)) (BW _)) (hx _)
  have h2:ev (cf (n+1)) gv (.bin .Add (.var 2) (.var 1)) [Zz (.t (.dr ns)),Zz (.t (.int k)),Zz (.t (.int v))] m=.ok (.t (.int (v+k))) m:=az (aa rfl) (aa rfl) (db _ _);refine ai ?_;rw[ev];simp only[evs,h1,h2,ab,af,RB,RC,ek,cI];exact XU (by simp[lim])
 rw[EZ];simp only[RE,Rh,RN,Tk,if_true,RF,VA,Sq,V0];rw[key];simp[af,fin,put]
theorem cP{m xs:Mem}{i:Nat}{s:List T}(hi:i<m.length):put (m++xs) i s=put m i s++xs:=by
 unfold put;rw[List.set_append_left _ _ hi]
section
variable{m:Mem}{i:Nat}{s L F L' F':List T}
theorem KP(hi:i<m.length):(put (m++[Zz (false,L),Zz (false,F)]) i s)[m.length]?=Zz (Zz (false,L)):=by
 rw[cP hi,Ra (by rw[aF];exact RD _),aF,UA];rfl
theorem L8(hi:i<m.length):(put (m++[Zz (false,L),Zz (false,F)]) i s)[m.length+1]?=Zz (Zz (false,F)):=by
 rw[cP hi,Ra (by rw[aF];omega),aF,Nat.add_sub_cancel_left];rfl
theorem MQ(hi:i<m.length):(put (m++[Zz (false,L),Zz (false,F)]) i s).set m.length (Zz (false,L'))=put (m++[Zz (false,L'),Zz (false,F)]) i s:=by
 rw[cP hi,cP hi,V5 _ _ (by rw[aF];exact RD _),aF,UA];rfl
theorem NV(hi:i<m.length):(put (m++[Zz (false,L),Zz (false,F)]) i s).set (m.length+1) (Zz (false,F'))=put (m++[Zz (false,L),Zz (false,F')]) i s:=by
 rw[cP hi,cP hi,V5 _ _ (by rw[aF];omega),aF,Nat.add_sub_cancel_left];rfl
theorem Fg(hi:i<m.length):(put (m++[Zz (false,L),Zz (false,F)]) i s).take m.length=put m i s:=by
 rw[cP hi];exact VR aF
end
theorem uF{α β:Type}(f:α->β):∀(xs:List α) (k:Nat),(xs.map f).eraseIdx k=(xs.eraseIdx k).map f
 |[],_=>rfl
 |_::_,0=>rfl
 |x::xs,k+1=>by
  rw[RN,List.eraseIdx_cons_succ,List.eraseIdx_cons_succ,RN,uF f xs k]
theorem Kx{m:Mem}{b:Mt}{j:Nat}{xs ys:List T}{x t:T}(hb:b=.append∨b=.iX)(h:m[j]?=Zz (Zz (false,xs)))(hm:vI b xs [x]=Zz (t,ys)):Kr b (.c j) [.t x] m=.ok (.t t) (m.set j (Zz (false,ys))):=by
 rcases hb with rfl|rfl<;>simp[Kr,ek,cI,af,h,hm]
theorem ES{n:Nat}{q:Int}(h0:0<=q)(h1:q<n):jq n q=Zz q.toNat:=by unfold jq;rw[XU h0,XU h1]
theorem rY{α:Type}:∀{l:List α}{k:Nat}(h:k<l.length),([l[k]]++l.eraseIdx k).Perm l
 |_::_,0,_=>List.Perm.refl _
 |a::l,k+1,h=>(List.Perm.swap a (l[k]'(Nat.lt_of_succ_lt_succ h)) (l.eraseIdx k)).trans ((rY (Nat.lt_of_succ_lt_succ h)).cons a)
theorem DW{n:Nat}{m:Mem}{i:Nat}{s:List T}{ls fs:List (List Nat)}{e1 e2:Option W}{x:T}(hi:i<m.length)(hs:bv s)(h0:0<ls.length)(h1:ls.length<=60)(h2:fs.length<=60):
  ∃(ls' fs':List (List Nat)) (s':List T),ex (cf (n+3)) gv jd [Zz (.c i),e1,e2,Zz (.c m.length),Zz (.c (m.length+1)),Zz (.t x)] (put (m++[Zz (false,ls.map .str),Zz (false,fs.map .str)]) i s)=.ok (.next [Zz (.c i),e1,e2,Zz (.c m.length),Zz (.c (m.length+1)),Zz (.t x)]) (put (m++[Zz (false,ls'.map .str),Zz (false,fs'.map .str)]) i s')/\bv s'/\ls'.length+1=ls.length/\fs'.length=fs.length+1/\(fs'++ls').Perm (fs++ls):=by
 have hiM:i<(m++[Zz (false,ls.map T.str),Zz (false,fs.map T.str)]).length:=by rw[R8];omega
 obtain⟨q,s1,d1,hs1,q0,q1⟩:=aL (n:=n) (many:=(ls.length:Int)) hiM hs (by omega) (by omega);have hq:q.toNat<ls.length:=by omega
 have hv:∀ws,views (.c m.length::ws) (put (m++[Zz (false,ls.map .str),Zz (false,fs.map .str)]) i s)=(views ws (put (m++[Zz (false,ls.map .str),Zz (false,fs.map .str)]) i s)).map (.lst (ls.map .str)::·):=λws=>by
  simp[views,view,KP hi]
 have hlen:ev (cf (n+3)) gv (.blt .len (.cons (.var 3) .nil)) [Zz (.c i),e1,e2,Zz (.c m.length),Zz (.c (m.length+1)),Zz (.t x)] (put (m++[Zz (false,ls.map .str),Zz (false,fs.map .str)]) i s)=.ok (.t (.int (ls.length:Int))) (put (m++[Zz (false,ls.map .str),Zz (false,fs.map .str)]) i s):=by
  rw[ev,evs,aa rfl,af,evs,af,af,hv];simp[views,cn,ik,HN,dy]
 have hpop:ev (cf (n+3)) gv (.eP .iX (.var 3) (.cons (.call 46 (.cons (.var 0) (.cons (.blt .len (.cons (.var 3) .nil)) .nil))) .nil)) [Zz (.c i),e1,e2,Zz (.c m.length),Zz (.c (m.length+1)),Zz (.t x)] (put (m++[Zz (false,ls.map .str),Zz (false,fs.map .str)]) i s)=.ok (.t (.str ls[q.toNat])) (put (m++[Zz (false,(ls.eraseIdx q.toNat).map .str),Zz (false,fs.map .str)]) i s1):=by
  rw[ev,aa rfl,af];have ht:xX .iX (.c m.length) (put (m++[Zz (false,ls.map .str),Zz (false,fs.map .str)]) i s)=true:=by
   show(match(put (m++[Zz (false,ls.map .str),Zz (false,fs.map .str)]) i s)[m.length]? with
    |some (Zz _)=>true
    |_=>false)=true
   rw[KP hi]
  rw[XU ht,evs,al (aa rfl) hlen,d1,af,evs,af,af];have hm:vI .iX (ls.map T.str) [.int q]=Zz (.str ls[q.toNat],(ls.eraseIdx q.toNat).map .str):=by
   show(match jq (ls.map T.str).length q with
    |some k=>((ls.map T.str)[k]?).map λt=>(t,(ls.map T.str).eraseIdx k)
    |none=>Zy)=_
   rw[Q8,ES q0 q1];dsimp only;rw[Ru,Rg hq,uF];rfl
  rw[Kx (.inr rfl) (KP hi) hm,MQ hi]
 refine⟨ls.eraseIdx q.toNat,fs++[ls[q.toNat]],s1,?_,hs1,by rw[UN hq];omega,by simp,?_⟩
 rotate_left
 ·rw[SV]
  exact List.Perm.append_left fs (rY hq)
 unfold jd;have happ:ev (cf (n+3)) gv (.eP .append (.var 4) (.cons (.eP .iX (.var 3) (.cons (.call 46 (.cons (.var 0) (.cons (.blt .len (.cons (.var 3) .nil)) .nil))) .nil)) .nil)) [Zz (.c i),e1,e2,Zz (.c m.length),Zz (.c (m.length+1)),Zz (.t x)] (put (m++[Zz (false,ls.map .str),Zz (false,fs.map .str)]) i s)=.ok (.t .non) (put (m++[Zz (false,(ls.eraseIdx q.toNat).map .str),Zz (false,(fs++[ls[q.toNat]]).map .str)]) i s1):=by
  rw[ev,aa rfl,af];have ht:xX .append (.c (m.length+1)) (put (m++[Zz (false,ls.map .str),Zz (false,fs.map .str)]) i s)=true:=by
   show(match(put (m++[Zz (false,ls.map .str),Zz (false,fs.map .str)]) i s)[m.length+1]? with
    |some (Zz _)=>true
    |_=>false)=true
   rw[L8 hi]
  rw[XU ht,evs,hpop,af,evs,af,af];have hm:vI .append (fs.map T.str) [.str ls[q.toNat]]=Zz (.non,(fs++[ls[q.toNat]]).map .str):=by
   show(if(fs.map T.str).length<lim then Zz (T.non,fs.map T.str++[.str ls[q.toNat]])else Zy)=_;rw[XU (by rw[Q8];unfold lim;omega),VL];rfl
  rw[Kx (.inl rfl) (L8 hi) hm,NV hi]
 rw[qG happ,ex]
theorem ii{n:Nat}{m:Mem}{x:T}:cf (n+1) 2 [.t x] m=.ok (.t (.bl (cF x .int&&!cF x .bool))) m:=by
 rw[yt];cases x<;>simp[jm,ex,ev,Res.bind,view,dy,cF,jV,fin]
noncomputable def lT:T->Bool
 |.int i=>decide (0<=i)&&decide (i<=1000000000)
 |_=>false
theorem fu{n:Nat}{m:Mem}{x:T}:cf (n+2) 3 [.t x] m=.ok (.t (.bl (lT x))) m:=by
 rw[wP];cases x with
 |int i =>
  by_cases h:0<=i<;>simp[eF,ex,ev,evs,Res.bind,view,dy,cF,jV,fin,ii,bx,nJ,KC,Kb,Ho,lT,h,mh]
 |_=>simp[eF,ex,ev,evs,Res.bind,view,dy,cF,jV,fin,ii,lT]
noncomputable def j0:List Nat:=[97,98,99,100,101,102,103,104,105,106,107,108,109,110,111,112,113,114,115,116,117,118,119,120,121,122]
noncomputable def six:List (List Nat):=[[97,110,121],[105,115],[98,121],[110,111,116],[97,110,100],[111,114]]
noncomputable def oH(cs:List Nat):Bool:=six.any λa=>a==cs
noncomputable def bf(cs:List Nat):Bool:=decide (1<=cs.length)&&decide (cs.length<=8)&&!oH cs&&cs.all λc=>decide (c∈j0)
theorem CO{n:Nat}{cs:List Nat}{m:Mem}(hl:cs.length<=lim):ev (cf n) gv iS [Zz (.t (.str cs))] m=.ok (.t (.lst (cs.map λc=>.bl (decide (c∈j0))))) m:=by
 have h:=bo (f:=aY (cf n) gv .nil d8) (tg:=.nm 0) (env:=[Zy]) (m:=m)
  (g:=λt=>match t with|.str [c]=>[.bl (decide (c∈j0))]|_=>[]) (cs.map λc=>.str [c]) (λt ht=>by
   obtain⟨c,_,rfl⟩:=RI.mp ht;exact⟨[Zz (.t (.str [c]))],rfl,by simp[aY,tests,d8,ev,Res.bind,view,dy,Bc,bx,nJ,KC,Kb,Ho,mU,lR,j0]⟩)
 have e:(cs.map λc=>T.str [c]).flatMap (λt=>match t with|.str [c]=>[T.bl (decide (c∈j0))]|_=>[])=cs.map λc=>.bl (decide (c∈j0)):=by
  rw[VB];exact bP _ _
 rw[e]at h;exact aM (x:=.t (.str cs)) (m0:=m) (by simp[ev]) (by simp[bc,o9,hl]) h (by simpa using hl)
theorem B6(cs:List Nat):mQ (.str cs) (.tup [.str [97,110,121],.str [105,115],.str [98,121],.str [110,111,116],.str [97,110,100],.str [111,114]])=Zz (oH cs):=by
 simp[mQ,flat,eqT,six,oH]
noncomputable def gk(cs:List Nat):Bool:=decide (1<=cs.length)&&!oH cs&&cs.all λc=>decide (c∈j0)
theorem sB{n:Nat}{m:Mem}{cs:List Nat}(hl:cs.length<=lim):cf (n+1) 0 [.t (.str cs)] m=.ok (.t (.bl (gk cs))) m:=by
 have e:ex (cf n) gv cR [Zz (.t (.str cs))] m=.ok (.ret (.t (.bl (gk cs)))) m:=by
  unfold cR;refine ai ?_;by_cases h1:0<cs.length
  ·have h1':(0:Int)<cs.length:=by omega
   have h1'':(decide (1<=cs.length))=true:=XX h1;have hin:bx .NotIn (.str cs) (.tup [.str [97,110,121],.str [105,115],.str [98,121],.str [110,111,116],.str [97,110,100],.str [111,114]])=Zz (!oH cs):=by
    rcases cs with _|⟨c,_|⟨d,r⟩⟩<;>simp[bx,nJ,KC,Kb,Ho,B6]
   cases h6:oH cs
   ·simp only[gk,h1'',h6]
    simp[ev,evs,cF,aA,dv,u6 hl,h1,h1',hin,h6,me,CO hl,vc (d6 _ cs)]
   ·simp[ev,evs,cF,aA,dv,u6 hl,h1,h1',hin,h6,me,gk]
  ·have h1':¬(0:Int)<cs.length:=by omega
   have h1'':(decide (1<=cs.length))=false:=XW h1;simp only[gk,h1''];simp[ev,evs,cF,aA,dv,u6 hl,h1,h1']
 exact ax (qm _ _ _) rfl e (aq (cell:=false) rfl)
theorem pZ{n:Nat}{m:Mem}{cs:List Nat}(hl:cs.length<=lim):cf (n+2) 1 [.t (.str cs)] m=.ok (.t (.bl (bf cs))) m:=by
 have e:ex (cf (n+1)) gv d4 [Zz (.t (.str cs))] m=.ok (.ret (.t (.bl (bf cs)))) m:=by
  unfold d4;refine ai ?_;by_cases h8:cs.length<=8
  ·have h8':(cs.length:Int)<=8:=by omega
   have hw:bf cs=gk cs:=by simp[bf,gk,h8]
   simp[ev,evs,cF,aA,dv,u6 hl,h8',jW,sB (n:=n) hl,hw]
  ·have h8':¬(cs.length:Int)<=8:=by omega
   simp[ev,evs,cF,aA,dv,u6 hl,h8',jW,bf,h8]
 exact ax (sA _ _ _) rfl e (aq (cell:=false) rfl)
theorem zz{n:Nat}{m:Mem}{x:T}(h:cF x .str=false):cf (n+2) 1 [.t x] m=.ok (.t (.bl false)) m:=by
 have e:ex (cf (n+1)) gv d4 [Zz (.t x)] m=.ok (.ret (.t (.bl false))) m:=by
  unfold d4;refine ai ?_;cases x with
  |str cs=>cases h
  |_=>simp[ev,evs,cF,aA,dv]
 exact ax (sA _ _ _) rfl e (aq (cell:=false) rfl)
theorem JQ(cs:List Nat):((cs.map λc=>[c]).map Rf).sum=cs.length:=by
 induction cs with
 |nil=>rfl
 |cons c cs ih=>rw[RN,RN,Sx,ih];simp;omega
def Mv:T->Prop:=λt=>∀cs,t=.str cs->cs.length<=lim
noncomputable def oneOf(x:T)(ws:List (List Nat)):Bool:=match x with
 |.str cs=>ws.any λa=>a==cs
 |_=>false
theorem pG{n:Nat}{m:Mem}{x:T}{ws:List (List Nat)}:cf (n+1) 10 [.t x,.t (.tup (ws.map .str))] m=.ok (.t (.bl (oneOf x ws))) m:=by
 have hh:∀cs,bx .In (.str cs) (.tup (ws.map .str))=Zz (ws.any λa=>a==cs):=λcs=>by
  have h1:mQ (.str cs) (.tup (ws.map .str))=Zz (ws.any λa=>a==cs):=by
   have ha:∀ws:List (List Nat),(ws.map T.str).all flat=true:=λws=>by simp[flat]
   have hb:∀ws:List (List Nat),((ws.map T.str).any λt=>eqT t (.str cs))=ws.any λa=>a==cs:=λws=>by
    induction ws with
    |nil=>rfl
    |cons w ws ih=>simp[eqT]at ih ⊢;rw[ih]
   unfold mQ;dsimp only;rw[ha,hb];rfl
  rw[<-h1];cases cs with
  |nil=>rfl
  |cons c r=>cases r<;>rfl
 rw[vB];cases x with
 |str cs=>simp[gW,ex,ev,evs,cF,aA,dv,hh,oneOf,fin]
 |_=>exact ax rfl rfl rfl (aq (cell:=false) rfl)
noncomputable def cJ:T->Bool
 |.str cs=>bf cs
 |_=>false
theorem eh{n:Nat}{m:Mem}{x:T}(h:Mv x):cf (n+2) 1 [.t x] m=.ok (.t (.bl (cJ x))) m:=by
 cases x with
 |str cs=>exact pZ (h cs rfl)
 |_=>exact zz rfl
noncomputable def dH:T->Bool
 |.tup [a]=>oneOf a [[97,110,121]]
 |.tup [a,b]=>oneOf a [[105,115],[98,121]]&&cJ b
 |.tup [a,b,c]=>oneOf a [[108,101,97,115,116],[109,111,115,116]]&&cJ b&&lT c
 |_=>false
def tG:T->Prop
 |.tup ts=>∀t∈ts,Mv t
 |_=>True
theorem ik{n:Nat}{m:Mem}{x:T}{w:List Nat}:cf (n+1) 10 [.t x,.t (.tup [.str w])] m=.ok (.t (.bl (oneOf x [w]))) m:=pG (ws:=[w])
theorem Fd{n:Nat}{m:Mem}{x:T}{w v:List Nat}:cf (n+1) 10 [.t x,.t (.tup [.str w,.str v])] m=.ok (.t (.bl (oneOf x [w,v]))) m:=pG (ws:=[w,v])
theorem at2{α:Type}(a b c:α)(r:List α):atT (a::b::c::r) 2=Zz c:=by
 have:(2:Int)<(r.length:Int)+1+1+1:=by omega
 simp[atT,jq,this]
theorem Gp{n:Nat}{m:Mem}{x:T}(h:tG x):cf (n+3) 11 [.t x] m=.ok (.t (.bl (dH x))) m:=by
 have key:ex (cf (n+2)) gv cD [Zz (.t x)] m=.ok (.ret (.t (.bl (dH x)))) m:=by
  unfold cD;cases x with
  |tup ts =>
   rw[ay (m1:=m) rfl]
   match ts,h with
   |[],_ =>
    rw[ay (m1:=m) rfl,ay (m1:=m) rfl,ay (m1:=m) rfl];exact ai rfl
   |[a],_ =>
    exact aD (m1:=m) rfl (ai (by simp[ev,evs,cF,aA,dv,at0,ik (n:=n+1),lim,dH]))
   |[a,b],h =>
    rw[ay (m1:=m) rfl];have hb:=eh (n:=n) (m:=m) (x:=b) (h b (by simp));refine aD (m1:=m) rfl (ai ?_);cases ho:oneOf a [[105,115],[98,121]]<;>simp[ev,evs,cF,aA,dv,at0,at1,Fd (n:=n+1),lim,dH,ho,hb]
   |[a,b,c],h =>
    rw[ay (m1:=m) rfl,ay (m1:=m) rfl];have hb:=eh (n:=n) (m:=m) (x:=b) (h b (by simp));have hc:=fu (n:=n) (m:=m) (x:=c);refine aD (m1:=m) rfl (ai ?_);cases ho:oneOf a [[108,101,97,115,116],[109,111,115,116]]<;>cases hw:cJ b<;>simp[ev,evs,cF,aA,dv,at0,at1,at2,Fd (n:=n+1),lim,dH,ho,hb,hw,hc]
   |a::b::c::d::r,_ =>
    have h1:¬(r.length:Int)+1+1+1+1=1:=by omega
    have h2:¬(r.length:Int)+1+1+1+1=2:=by omega
    have h3:¬(r.length:Int)+1+1+1+1=3:=by omega
    rw[ay (m1:=m) (by simp[ev,evs,cF,aA,dv,h1]),ay (m1:=m) (by simp[ev,evs,cF,aA,dv,h2]),ay (m1:=m) (by simp[ev,evs,cF,aA,dv,h3])];exact ai rfl
  |_=>exact aD (m1:=m) rfl (ai rfl)
 exact ax (oP _ _ _) rfl key (aq (cell:=false) rfl)
noncomputable def jB:T->Bool
 |.tup ts=>decide (2<=ts.length)&&decide (ts.length<=6)
 |_=>false
theorem uA{n:Nat}{m:Mem}{x:T}:cf (n+1) 12 [.t x] m=.ok (.t (.bl (jB x))) m:=by
 rw[ua];cases x with
 |tup ts =>
  by_cases h:2<=ts.length
  ·have h':(2:Int)<=ts.length:=by omega
   simp[dR,ex,ev,evs,cF,aA,dv,iU,j8,h',jB,h,fin];omega
  ·have h':¬(2:Int)<=ts.length:=by omega
   simp[dR,ex,ev,evs,cF,aA,dv,iU,j8,h',jB,h,fin]
 |_=>exact ax rfl rfl rfl (aq (cell:=false) rfl)
noncomputable def kids:T->List T
 |.tup [a,b]=>if oneOf a [[110,111,116]]then[b]else if oneOf a [[97,110,100],[111,114]]&&jB b then(match b with
  |.tup ts=>ts
  |_=>[])else[]
 |_=>[]
theorem uN{n:Nat}{m:Mem}{x:T}:cf (n+2) 13 [.t x] m=.ok (.t (.tup (kids x))) m:=by
 have key:ex (cf (n+1)) gv eJ [Zz (.t x)] m=.ok (.ret (.t (.tup (kids x)))) m:=by
  unfold eJ;cases x with
  |tup ts =>
   match ts with
   |[]=>exact aD (m1:=m) rfl (ai rfl)
   |[a]=>exact aD (m1:=m) rfl (ai rfl)
   |[a,b] =>
    rw[ay (m1:=m) rfl];cases hn:oneOf a [[110,111,116]]with
    |true=>exact aD (m1:=m) (by simp[ev,evs,cF,aA,dv,at0,ik (n:=n),lim,hn]) (ai (by simp[ev,evs,cF,aA,dv,at1,lim,kids,hn]))
    |false =>
     rw[ay (m1:=m) (by simp[ev,evs,cF,aA,dv,at0,ik (n:=n),lim,hn])];cases ho:oneOf a [[97,110,100],[111,114]]with
     |false =>
      rw[ay (m1:=m) (by simp[ev,evs,cF,aA,dv,at0,Fd (n:=n),lim,ho])];exact ai (by simp[ev,evs,cF,aA,dv,lim,kids,hn,ho])
     |true =>
      cases hj:jB b with
      |false =>
       rw[ay (m1:=m) (by simp[ev,evs,cF,aA,dv,at0,at1,Fd (n:=n),lim,ho,uA (n:=n),hj])];exact ai (by simp[ev,evs,cF,aA,dv,lim,kids,hn,ho,hj])
      |true =>
       refine aD (m1:=m) (by simp[ev,evs,cF,aA,dv,at0,at1,Fd (n:=n),lim,ho,uA (n:=n),hj]) (ai ?_);cases b with
       |tup ts=>simp[ev,evs,cF,aA,dv,at1,kids,hn,ho,hj]
       |_=>cases hj
   |a::b::c::r =>
    have h1:¬(r.length:Int)+1+1+1=2:=by omega
    exact aD (m1:=m) (by simp[ev,evs,cF,aA,dv,h1]) (ai rfl)
  |_=>exact aD (m1:=m) rfl (ai rfl)
 exact ax (wq _ _ _) rfl key (aq (cell:=false) rfl)
noncomputable def dG(x:T):Bool:=dH x || decide (0<(kids x).length)
theorem Jv{n:Nat}{m:Mem}{x:T}(h:tG x):cf (n+4) 14 [.t x] m=.ok (.t (.bl (dG x))) m:=by
 have key:ex (cf (n+3)) gv gj [Zz (.t x)] m=.ok (.ret (.t (.bl (dG x)))) m:=by
  unfold gj;refine ai ?_;cases hp:dH x<;>simp[ev,evs,cF,aA,dv,Gp (n:=n) h,hp,uN (n:=n+1),dG]
 exact ax (yF _ _ _) rfl key (aq (cell:=false) rfl)
theorem HS(x:T):(kids x).length<=6:=by
 unfold kids;split
 ·rename_i a b
  split
  ·simp
  ·split
   ·rename_i h
    rw[R6]at h;cases b with
    |tup ts =>
     have:=h.2;unfold jB at this;simp at this;exact this.2
    |_=>simp
   ·simp
 ·simp
theorem zR{n:Nat}{m:Mem}{l:List T}{e0 e2 e3:Option W}(hf:∀x∈l,tG x)(hl:l.length<=lim):ev (cf (n+4)) gv qc [e0,Zz (.t (.lst l)),e2,e3] m=.ok (.t (.lst (l.map λx=>.bl (dG x)))) m:=by
 have h:=bo (f:=aY (cf (n+4)) gv .nil kC) (tg:=.nm 0) (env:=[Zy]) (m:=m) (g:=λx=>[.bl (dG x)]) l (λt ht=>⟨[Zz (.t t)],rfl,by simp[aY,tests,kC,ev,evs,cF,aA,dv,Jv (n:=n) (hf t ht)]⟩);rw[bP]at h;exact aM (x:=.t (.lst l)) (m0:=m) rfl rfl h (by simpa using hl)
theorem CY{n:Nat}{m:Mem}{x:T}:aY (cf (n+4)) gv .nil du [Zz (.t x),Zy] m=.ok (kids x) m:=by
 have h:=bo (f:=aY (cf (n+4)) gv .nil (.emit (.var 1))) (tg:=.nm 1) (env:=[Zz (.t x),Zy]) (m:=m) (g:=λy=>[y]) (kids x) (λt ht=>⟨[Zz (.t x),Zz (.t t)],rfl,by simp[aY,tests,ev,evs,cF,aA,dv]⟩);rw[bP,V1]at h;have e:ev (cf (n+4)) gv du [Zz (.t x),Zy] m=.ok (.t (.lst (kids x))) m:=by
  have e1:ev (cf (n+4)) gv du [Zz (.t x),Zy] m=(ev (cf (n+4)) gv (.call 13 (.cons (.var 0) .nil)) [Zz (.t x),Zy] m).bind λy m0=>(bc y m0).bind λts m =>
    (cy (aY (cf (n+4)) gv .nil (.emit (.var 1))) (.nm 1) ts [Zz (.t x),Zy] m).bind λout m=>.ok (.t (.lst out)) (giveBack y m0 m):=by
   unfold du;rw[ev];rfl
  rw[e1];have e2:ev (cf (n+4)) gv (.call 13 (.cons (.var 0) .nil)) [Zz (.t x),Zy] m=.ok (.t (.tup (kids x))) m:=by simp[ev,evs,cF,aA,dv,uN (n:=n+2)]
  rw[e2];show(cy (aY (cf (n+4)) gv .nil (.emit (.var 1))) (.nm 1) (kids x) [Zz (.t x),Zy] m).bind _=_;rw[h];rfl
 unfold aY;simp[tests,af,e,Cn]
theorem DI{n:Nat}{m:Mem}{l:List T}{e0 e2 e3:Option W}(hl:(l.flatMap kids).length<=lim):ev (cf (n+4)) gv qf [e0,Zz (.t (.lst l)),e2,e3] m=.ok (.t (.lst (l.flatMap kids))) m:=by
 have h:=bo (f:=aY (cf (n+4)) gv .nil du) (tg:=.nm 0) (env:=[Zy,Zy]) (m:=m) (g:=kids) l (λt ht=>⟨[Zz (.t t),Zy],rfl,CY⟩);exact aM (x:=.t (.lst l)) (m0:=m) rfl rfl h hl
noncomputable def lay:Nat->List T->List T
 |0,l=>l
 |k+1,l=>lay k (l.flatMap kids)
noncomputable def run:Nat->Nat->List T->Option (List T)
 |0,_,l=>Zz l
 |k+1,p,l=>if 40<p+l.length∨l.all dG=false then Zy else run k (p+l.length) (l.flatMap kids)
theorem Gq(l:List T):(l.flatMap kids).length<=6*l.length:=by
 induction l with
 |nil=>simp
 |cons x l ih =>
  have:=HS x;rw[UJ,R8,RE];omega
theorem CU(l:List T):((l.map dG).all id)=l.all dG:=by rw[U9];rfl
theorem layers{n:Nat}{m:Mem}{x:Option W}:∀(ts:List T) (l:List T) (p:Nat) (d:Option W),(∀k,∀y∈lay k l,tG y)->l.length<=lim->match run ts.length p l with
  |none=>ca (ex (cf (n+4)) gv a9) (.nm 3) ts [x,Zz (.t (.lst l)),Zz (.t (.int p)),d] m=.ok (.ret (.t (.bl false))) m
  |some l'=>∃p' d',ca (ex (cf (n+4)) gv a9) (.nm 3) ts [x,Zz (.t (.lst l)),Zz (.t (.int p)),d] m=.ok (.next [x,Zz (.t (.lst l')),p',d']) m
 |[],l,p,d,_,_=>⟨_,_,rfl⟩
 |t::ts,l,p,d,hf,hl=>by
  have hd:bK (.nm 3) t [x,Zz (.t (.lst l)),Zz (.t (.int p)),d]=Zz [x,Zz (.t (.lst l)),Zz (.t (.int p)),Zz (.t t)]:=rfl;have hfo:=zR (n:=n) (m:=m) (l:=l) (e0:=x) (e2:=Zz (.t (.int ((p:Int)+l.length)))) (e3:=Zz (.t t)) (λy hy=>hf 0 y hy) hl;have ha:=vc (d6 dG l);rw[CU]at ha;have haug:∀k,ex (cf (n+4)) gv (.aug 2 .Add (.blt .len (.cons (.var 1) .nil)) k) [x,Zz (.t (.lst l)),Zz (.t (.int p)),Zz (.t t)] m=ex (cf (n+4)) gv k [x,Zz (.t (.lst l)),Zz (.t (.int ((p:Int)+l.length))),Zz (.t t)] m:=λk=>by
   rw[ex];simp[ev,evs,cF,aA,dv,Ie]
  rw[RE,run];by_cases hc:40<p+l.length∨l.all dG=false
  ·rw[XU hc]
   show ca _ _ _ _ _=_;rw[ca,hd];show(ex (cf (n+4)) gv a9 [x,Zz (.t (.lst l)),Zz (.t (.int p)),Zz (.t t)] m).bind _=_;have e:ex (cf (n+4)) gv a9 [x,Zz (.t (.lst l)),Zz (.t (.int p)),Zz (.t t)] m=.ok (.ret (.t (.bl false))) m:=by
    unfold a9;rw[haug];refine aD (m1:=m) ?_ (ai rfl);by_cases h4:40<p+l.length
    ·have h4':(40:Int)<(p:Int)+l.length:=by omega
     simp[ev,evs,cF,aA,dv,iy,h4']
    ·have h4':¬(40:Int)<(p:Int)+l.length:=by omega
     have hal:l.all dG=false:=by
      rcases hc with h|h
      ·exact XZ h h4
      ·exact h
     rw[hal]at ha;simp[ev,evs,cF,aA,dv,iy,h4',hfo,ha]
   rw[e];rfl
  ·rw[XV hc]
   have h4:¬40<p+l.length:=λh=>hc (.inl h)
   have hal:l.all dG=true:=by
    cases h:l.all dG with
    |true=>rfl
    |false=>exact XZ (.inr h) hc
   have hfl:=Gq l;have hl2:(l.flatMap kids).length<=lim:=by unfold lim;omega
   have hk:=DI (n:=n) (m:=m) (e0:=x) (e2:=Zz (.t (.int ((p:Int)+l.length)))) (e3:=Zz (.t t)) hl2;have e:ex (cf (n+4)) gv a9 [x,Zz (.t (.lst l)),Zz (.t (.int p)),Zz (.t t)] m=.ok (.next [x,Zz (.t (.lst (l.flatMap kids))),Zz (.t (.int ((p+l.length:Nat):Int))),Zz (.t t)]) m:=by
    unfold a9;rw[haug];have h4':¬(40:Int)<(p:Int)+l.length:=by omega
    rw[hal]at ha;rw[ay (m1:=m) (by simp[ev,evs,cF,aA,dv,iy,h4',hfo,ha])];rw[av hk];rw[ex];simp
   have ih:=layers (n:=n) (m:=m) (x:=x) ts (l.flatMap kids) (p+l.length) (Zz (.t t)) (λk y hy=>hf (k+1) y hy) hl2;have step:ca (ex (cf (n+4)) gv a9) (.nm 3) (t::ts) [x,Zz (.t (.lst l)),Zz (.t (.int p)),d] m=ca (ex (cf (n+4)) gv a9) (.nm 3) ts [x,Zz (.t (.lst (l.flatMap kids))),Zz (.t (.int ((p+l.length:Nat):Int))),Zz (.t t)] m:=by
    rw[ca,hd];show(ex (cf (n+4)) gv a9 [x,Zz (.t (.lst l)),Zz (.t (.int p)),Zz (.t t)] m).bind _=_;rw[e];rfl
   rw[step];exact ih
noncomputable def gq(x:T):Bool:=match run 6 0 [x]with
 |none=>false
 |some l=>l.isEmpty
theorem tL{n:Nat}{m:Mem}{x:T}(hf:∀k,∀y∈lay k [x],tG y):cf (n+5) 15 [.t x] m=.ok (.t (.bl (gq x))) m:=by
 have key:ex (cf (n+4)) gv iR [Zz (.t x),Zy,Zy,Zy] m=.ok (.ret (.t (.bl (gq x)))) m:=by
  unfold iR;rw[av (w:=.t (.lst [x])) (m1:=m) rfl];rw[av (w:=.t (.int 0)) (m1:=m) rfl];simp only[RB,RC];have hit:ev (cf (n+4)) gv (.blt .dm (.cons (.gl 6) .nil)) [Zz (.t x),Zz (.t (.lst [x])),Zz (.t (.int 0)),Zy] m=.ok (.t (.lst (rangeT 0 6))) m:=by
   simp[ev,evs,cF,aA,dv,zJ,pH (show(6:Int)<2^62/\-(2^62)<=(6:Int) by decide)]
  have h:=layers (n:=n) (m:=m) (x:=Zz (.t x)) (rangeT 0 6) [x] 0 Zy hf (by show 1<=lim;decide);have hr:(rangeT 0 6).length=6:=rfl;rw[hr]at h;unfold gq;cases q:run 6 0 [x]with
  |none =>
   rw[q]at h;have h:ca (ex (cf (n+4)) gv a9) (.nm 3) (rangeT 0 6) [Zz (.t x),Zz (.t (.lst [x])),Zz (.t (.int 0)),Zy] m=.ok (.ret (.t (.bl false))) m:=h;rw[ex,hit];show(ca (ex (cf (n+4)) gv a9) (.nm 3) (rangeT 0 6) [Zz (.t x),Zz (.t (.lst [x])),Zz (.t (.int 0)),Zy] m).bind _=_;rw[h];rfl
  |some l' =>
   rw[q]at h;obtain⟨p',d',h⟩:=h;have h:ca (ex (cf (n+4)) gv a9) (.nm 3) (rangeT 0 6) [Zz (.t x),Zz (.t (.lst [x])),Zz (.t (.int 0)),Zy] m=.ok (.next [Zz (.t x),Zz (.t (.lst l')),p',d']) m:=h;rw[mV hit rfl h];refine ai ?_;cases l'<;>simp[ev,evs,cF,aA,dv,giveBack];omega
 exact ax (A7 _ _ _) rfl key (aq (cell:=false) rfl)
theorem Cr:∀k:Nat,lay k []=[]
 |0=>rfl
 |k+1=>Cr k
noncomputable def tot:Nat->List T->Nat
 |0,_=>0
 |d+1,l=>l.length+tot d (l.flatMap kids)
theorem my:∀(d:Nat) (a b:List T),tot d (a++b)=tot d a+tot d b
 |0,_,_=>rfl
 |d+1,a,b=>by
  rw[tot,tot,tot,List.flatMap_append,my d,R8];omega
theorem fz:∀d:Nat,tot d []=0
 |0=>rfl
 |d+1=>by rw[tot];simpa using fz d
theorem qY(d:Nat):∀l:List T,tot d l=(l.map λx=>tot d [x]).sum
 |[]=>by rw[fz];rfl
 |x::l=>by rw[show x::l=[x]++l from rfl,my,qY d l];simp
theorem eC(d:Nat)(x:T):tot (d+1) [x]=1+tot d (kids x):=by
 rw[tot];simp
theorem yE:∀(k p:Nat) (l:List T),p+tot k l<=40->(∀i<k,∀y∈lay i l,dG y=true)->run k p l=Zz (lay k l)
 |0,p,l,_,_=>rfl
 |k+1,p,l,hp,hf=>by
  rw[tot]at hp;rw[run,XV,lay]
  ·exact yE k (p+l.length) _ (by omega) λi hi y hy=>hf (i+1) (by omega) y hy
  ·rintro (h|h)
   ·omega
   ·have:l.all dG=true:=RP.mpr λy hy=>hf 0 (by omega) y hy
    rw[this]at h;cases h
def PB(x:T):Prop:=∀k,∀y∈lay k [x],tG y
inductive WT:Nat->T->Prop where
 |leaf {d:Nat}{t:T}:dH t=true->kids t=[]->tG t->WT (d+1) t
 |nt {d:Nat}{a:T}:WT d a->WT (d+1) (.tup [.str [110,111,116],a])
 |jn {d:Nat}{w:List Nat}{ts:List T}:(w=[97,110,100]∨w=[111,114])->2<=ts.length->ts.length<=6->(∀t∈ts,WT d t)->WT (d+1) (.tup [.str w,.tup ts])
theorem iG(a:T):kids (.tup [.str [110,111,116],a])=[a]:=by simp[kids,oneOf]
theorem lC{w:List Nat}{ts:List T}(hw:w=[97,110,100]∨w=[111,114])(h2:2<=ts.length)(h6:ts.length<=6):kids (.tup [.str w,.tup ts])=ts:=by
 rcases hw with rfl|rfl<;>simp[kids,oneOf,jB,h2,h6]
theorem WT.form{d:Nat}{t:T}(h:WT d t):dG t=true:=by
 cases h with
 |leaf h1 _ _=>simp[dG,h1]
 |nt _=>simp[dG,iG]
 |jn hw h2 h6 _ =>
  unfold dG;rw[lC hw h2 h6];have:0<Rf _:=RU (by decide:0<2) h2;rw[XX this,WE]
theorem WT.kid{d:Nat}{t:T}(h:WT (d+1) t):∀y∈kids t,WT d y:=by
 intro y hy;cases h with
 |leaf _ h2 _=>rw[h2]at hy;cases hy
 |nt h =>
  rw[iG,Ro]at hy;subst hy;exact h
 |jn hw h2 h6 h=>rw[lC hw h2 h6]at hy;exact h y hy
theorem WT.layer:∀{d:Nat}(i:Nat) {l:List T},(∀t∈l,WT d t)->∀y∈lay i l,i<d/\WT (d-i) y
 |d,0,l,h,y,hy=>by
  have:=h y hy;cases d with
  |zero=>cases this
  |succ d=>exact⟨by omega,this⟩
 |0,i+1,l,h,y,hy=>by
  cases l with
  |nil=>rw[Cr]at hy;cases hy
  |cons a l=>cases h a RR
 |d+1,i+1,l,h,y,hy=>by
  have:=WT.layer (d:=d) i (l:=l.flatMap kids) (λt ht=>by
   obtain⟨x,hx,hk⟩:=VC.mp ht;exact(h x hx).kid t hk) y hy
  exact⟨by omega,by rw[show d+1-(i+1)=d-i by omega];exact this.2⟩
theorem WT.Ma{d:Nat}{t:T}(h:WT d t)(cs:List Nat):t≠.str cs:=by
 rintro rfl;cases h with
 |leaf h1 _ _=>cases h1
theorem WT.tG{d:Nat}{t:T}(h:WT d t):tG t:=by
 cases h with
 |leaf _ _ h3=>exact h3
 |nt h =>
  intro t ht cs e;rcases R9.mp ht with rfl|ht
  ·cases e;decide
  ·rw[Ro]at ht
   subst ht;exact XZ e (h.Ma cs)
 |jn hw _ _ _ =>
  intro t ht cs e;subst e;simp at ht;subst ht;rcases hw with rfl|rfl<;>decide
theorem WT.fit{d:Nat}{t:T}(h:WT d t):PB t:=λk y hy=>((WT.layer (d:=d) k (l:=[t]) (λx hx=>by rw[Ro]at hx;subst hx;exact h) y hy).2).tG
theorem xG{d:Nat}{t:T}(h:WT d t)(hd:d<=6)(hp:tot 6 [t]<=40):gq t=true:=by
 have hl:∀x∈[t],WT d x:=λx hx=>by rw[Ro]at hx;subst hx;exact h
 have h6:lay 6 [t]=[]:=by
  cases q:lay 6 [t]with
  |nil=>rfl
  |cons a b =>
   have:=(WT.layer 6 hl a (by rw[q];exact RR)).1;omega
 have:=yE 6 0 [t] (by omega) λi hi y hy=>((WT.layer i hl y hy).2).form
 unfold gq;rw[this,h6];rfl
theorem si(w a b:List Nat):bx .In (.str w) (.tup [.str a,.str b])=Zz (a==w || b==w):=by
 have h:mQ (.str w) (.tup [.str a,.str b])=Zz (a==w || b==w):=by simp[mQ,flat,eqT]
 rw[<-h];cases w with
 |nil=>rfl
 |cons c r=>cases r<;>rfl
noncomputable def wl(ws:List (List Nat)):T:=.lst (ws.map .str)
noncomputable def iN(ws:List (List Nat))(i:Nat):List Nat:=(ws[i]?).getD []
theorem mK{pre mid post:List (List Nat)}{j i:Nat}(h:j<mid.length)(e:i=pre.length+j:=by omega):iN (pre++mid++post) i=iN mid j:=by
 subst e;unfold iN;rw[SV,Ra (by omega),RX (by omega),show pre.length+j-pre.length=j by omega]
theorem BP{pre mid post:List (List Nat)}{i:Nat}(e:i=pre.length+mid.length:=by omega):iN (pre++mid++post) i=iN post 0:=by
 subst e;unfold iN;rw[Ra (by simp),R8,UA]
theorem cx{n:Nat}{m:Mem}{ws:List (List Nat)}{k:Int}{i:Nat}(hk:k=(i:Int)):cf (n+1) 21 [.t (wl ws),.t (.int k)] m=.ok (.t (.str (iN ws i))) m:=by
 subst hk;have key:ex (cf n) gv i4 [Zz (.t (wl ws)),Zz (.t (.int i))] m=.ok (.ret (.t (.str (iN ws i)))) m:=by
  unfold i4;have hc:ev (cf n) gv (.cmp .Lt (.var 1) (.blt .len (.cons (.var 0) .nil))) [Zz (.t (wl ws)),Zz (.t (.int i))] m=.ok (.t (.bl (decide (i<ws.length)))) m:=by
   refine(aw (aa rfl) (aB (aa rfl) (xD _)) (qx _ _)).trans ?_;rw[Q8]
   congr 3
   exact decide_eq_decide.mpr (by omega)
  by_cases h:i<ws.length
  ·rw[XX h]at hc
   refine aD hc (ai (aV (aa rfl) (aa rfl) ?_));show atT (ws.map T.str) (i:Int)=_;rw[Fk (by omega) (by rw[Q8];omega)];simp[iN,h]
  ·rw[XW h]at hc
   rw[ay hc];refine ai ?_;rw[show iN ws i=[] by simp[iN,Te (We.mp h)]];exact ab _
 exact ax (zS _ _ _) rfl key (aq (cell:=false) rfl)
theorem r9{n:Nat}{m:Mem}{ws:List (List Nat)}{k:Int}{i:Nat}(hk:k=(i:Int))(hl:(iN ws i).length<=lim)(hw:gk (iN ws i)=true):cf (n+2) 22 [.t (wl ws),.t (.int k)] m=.ok (.t (.str (iN ws i))) m:=by
 have key:ex (cf (n+1)) gv iD [Zz (.t (wl ws)),Zz (.t (.int k)),Zy] m=.ok (.ret (.t (.str (iN ws i)))) m:=by
  unfold iD;rw[av ((al (aa rfl) (aa rfl)).trans (cx hk))];dsimp only[RB,RC];have hi:=sB (n:=n) (m:=m) hl;rw[hw]at hi;rw[ay (bA (k:=true) ((ar (aa rfl)).trans hi))];exact ai (aa rfl)
 exact ax (zq _ _ _) rfl key (aq (cell:=false) rfl)
noncomputable def nX:List Nat:=[48,49,50,51,52,53,54,55,56,57]
noncomputable def mv(cs:List Nat):Bool:=decide (1<=cs.length)&&decide (cs.length<=10)&&(cs.all λc=>decide (c∈nX))&&(cs==[48] || cs.head? != Zz 48)
theorem GV{n:Nat}{cs:List Nat}{m:Mem}(hl:cs.length<=lim):ev (cf n) gv dk [Zz (.t (.str cs))] m=.ok (.t (.lst (cs.map λc=>.bl (decide (c∈nX))))) m:=by
 have h:=bo (f:=aY (cf n) gv .nil fU) (tg:=.nm 0) (env:=[Zy]) (m:=m)
  (g:=λt=>match t with|.str [c]=>[.bl (decide (c∈nX))]|_=>[]) (cs.map λc=>.str [c]) (λt ht=>by
   obtain⟨c,_,rfl⟩:=RI.mp ht;exact⟨[Zz (.t (.str [c]))],rfl,eH (bS (aw (aa rfl) (jZ Ae) (Ka _ _)))⟩)
 have e:(cs.map λc=>T.str [c]).flatMap (λt=>match t with|.str [c]=>[T.bl (decide (c∈nX))]|_=>[])=cs.map λc=>.bl (decide (c∈nX)):=by
  clear h hl
  induction cs with
  |nil=>rfl
  |cons c cs ih=>rw[RN,UJ,ih];rfl
 rw[e]at h;have hb:bc (.t (.str cs)) m=.ok (cs.map λc=>.str [c]) m:=by simp[bc,o9,hl]
 exact aM (x:=.t (.str cs)) (m0:=m) (m1:=m) (aa rfl) hb h (by rw[Q8];exact hl)
theorem qe{n:Nat}{m:Mem}{cs:List Nat}(hl:cs.length<=lim):cf (n+1) 20 [.t (.str cs)] m=.ok (.t (.bl (mv cs))) m:=by
 have key:ex (cf n) gv b9 [Zz (.t (.str cs))] m=.ok (.ret (.t (.bl (mv cs)))) m:=by
  unfold b9;have ha:ev (cf n) gv (.not (.blt .all (.cons dk .nil))) [Zz (.t (.str cs))] m=.ok (.t (.bl (!(cs.all λc=>decide (c∈nX))))) m:=by
   refine(bA (aB (GV hl) (vc (d6 _ _)))).trans ?_;rw[U9];rfl
  have hb:ev (cf n) gv (.J6 .LtE .LtE (.con (.int 1)) (.blt .len (.cons (.var 0) .nil)) (.gl 14)) [Zz (.t (.str cs))] m=.ok (.t (.bl (decide (1<=cs.length)&&decide (cs.length<=10)))) m:=by
   rw[ev,ab,af,aB (aa rfl) (u6 hl),af];simp only[view,SX,KE];by_cases h1:1<=cs.length
   ·rw[XX (show(1:Int)<=(cs.length:Int) by omega)]
    dsimp only;rw[jZ qh,af];simp only[view,SX,KE,h1,decide_true,W1,Option.map_some,dy]
    congr 3
    exact decide_eq_decide.mpr (by omega)
   ·rw[XW (show ¬(1:Int)<=(cs.length:Int) by omega)]
    simp[h1]
  by_cases h1:(decide (1<=cs.length)&&decide (cs.length<=10))=true
  ·rw[h1]at hb
   by_cases h2:(cs.all λc=>decide (c∈nX))=true
   ·rw[h2]at ha
    rw[ay ((bN (bA hb)).trans ha)];rw[R6]at h1;have hlen:=Xa h1.1;have hf:mv cs=(cs==[48] || cs.head? != Zz 48):=by
     unfold mv;rw[h1.1,h1.2,h2];rfl
    rw[hf];cases cs with
    |nil=>simp at hlen
    |cons c r =>
     have e1:ev (cf n) gv (.cmp .Eq (.var 0) (.con (.str [48]))) [Zz (.t (.str (c::r)))] m=.ok (.t (.bl (c::r==[48]))) m:=aw (aa rfl) (ab _) (fR _ _);cases q:(c::r==[48])with
     |true =>
      rw[q]at e1;exact ai (j9 e1)
     |false =>
      rw[q]at e1;refine ai ((bN e1).trans (aw (aV (aa rfl) (ab _) ((Ke hl _).trans (by rw[at0];rfl))) (ab _) ?_));rw[EQ];simp[bne]
   ·rw[SJ.mpr h2]at ha
    have hf:mv cs=false:=by unfold mv;rw[SJ.mpr h2];simp
    rw[hf];exact aD ((bN (bA hb)).trans ha) (ai (ab _))
  ·rw[SJ.mpr h1]at hb
   have hf:mv cs=false:=by unfold mv;rw[SJ.mpr h1];simp
   rw[hf];exact aD (j9 (bA hb)) (ai (ab _))
 exact ax (oy _ _ _) rfl key (aq (cell:=false) rfl)
theorem rc{cs:List Nat}(h:mv cs=true):cn .int [.str cs]=Zz (.int (uq cs))/\cs.length<=lim:=by
 unfold mv at h;simp only[R6,decide_eq_true_eq,RP]at h;obtain⟨⟨⟨h1,h2⟩,h3⟩,_⟩:=h;refine⟨?_,by unfold lim;omega⟩;show(if cs≠[]/\cs.length<=600/\cs.all (λc=>decide (48<=c)&&decide (c<=57))=true then Zz (T.int (uq cs))else Zy)=_;refine XU ⟨λz=>by subst z;simp at h1,by omega,RP.mpr λc hc=>?_⟩;have:=h3 c hc;unfold nX at this;rw[R6];refine⟨XX ?_,XX ?_⟩<;>(simp at this;omega)
theorem wo{n:Nat}{m:Mem}{ws:List (List Nat)}{k:Int}{i:Nat}(hk:k=(i:Int))(hw:mv (iN ws i)=true):cf (n+2) 23 [.t (wl ws),.t (.int k)] m=.ok (.t (.int (uq (iN ws i)))) m:=by
 have key:ex (cf (n+1)) gv eQ [Zz (.t (wl ws)),Zz (.t (.int k)),Zy] m=.ok (.ret (.t (.int (uq (iN ws i))))) m:=by
  unfold eQ;rw[av ((al (aa rfl) (aa rfl)).trans (cx hk))];dsimp only[RB,RC];have hi:=qe (n:=n) (m:=m) (rc hw).2;rw[hw]at hi;rw[ay (bA (k:=true) ((ar (aa rfl)).trans hi))];exact ai (aB (aa rfl) (rc hw).1)
 exact ax (xq _ _ _) rfl key (aq (cell:=false) rfl)
inductive jY:T->List (List Nat)->Prop where
 |any:jY (.tup [.str [97,110,121]]) [[97,110,121]]
 |two {w v:List Nat}:(w=[105,115]∨w=[98,121])->gk v=true->v.length<=lim->jY (.tup [.str w,.str v]) [w,v]
 |three {a w v f:List Nat}:(a=[62,61]/\w=[108,101,97,115,116]∨a=[60,61]/\w=[109,111,115,116])->gk v=true->v.length<=lim->mv f=true->jY (.tup [.str w,.str v,.int (uq f)]) [v,a,f]
theorem qR{v w:List Nat}(h:gk v=true)(hw:oH w=true):(v==w)=false:=by
 rw[SJ];intro z;have:=eq_of_beq z;subst this;unfold gk at h;rw[hw]at h;simp at h
theorem Ia{v:List Nat}(h:gk v=true):(v==[40])=false:=by
 rw[SJ];intro z;have:=eq_of_beq z;subst this;revert h;decide
theorem ke{call:Nat->List W->Mem->Res W}{gv:List T}{env:Env}{m m1:Mem}{k:S}{e:E}{i j:Nat}{x y:T}(h:ev call gv e env m=.ok (.t (.tup [x,y])) m1):ex call gv (.lP [i,j] e k) env m=ex call gv k ((env.set i (Zz (.t x))).set j (Zz (.t y))) m1:=by
 rw[ex,h];rfl
theorem Ey{call:Nat->List W->Mem->Res W}{gv:List T}{env:Env}{m m1:Mem}{e:E}{k:Nat}{x r:T}{ks:List L2.Key}{vs:List T}(h:ev call gv e env m=.ok (.t x) m1)(hk:gv[k]?=Zz (.dct ks vs))(hr:(fq x).bind (bB ks vs)=Zz r):ev call gv (.MA k e) env m=.ok (.t r) m1:=by
 rw[ev,h];show dy (ni gv[k]? λks vs=>(fq x).bind (bB ks vs)) m1=_;rw[hk];show dy ((fq x).bind (bB ks vs)) m1=_;rw[hr];rfl
theorem KI{call:Nat->List W->Mem->Res W}{gv:List T}{env:Env}{m m1:Mem}{e:E}{k:Nat}{neg b:Bool}{x:T}{ks:List L2.Key}{vs:List T}(h:ev call gv e env m=.ok (.t x) m1)(hk:gv[k]?=Zz (.dct ks vs))(hr:((fq x).map λk=>T.bl (if neg then !(bB ks vs k).isSome else(bB ks vs k).isSome))=Zz (.bl b)):ev call gv (.L7 k neg e) env m=.ok (.t (.bl b)) m1:=by
 rw[ev,h];show dy (ni gv[k]? λks vs=>(fq x).map λk=>T.bl (if neg then !(bB ks vs k).isSome else(bB ks vs k).isSome)) m1=_;rw[hk];show dy ((fq x).map λk=>T.bl (if neg then !(bB ks vs k).isSome else(bB ks vs k).isSome)) m1=_;rw[hr];rfl
theorem cE{call:Nat->List W->Mem->Res W}{gv:List T}{env:Env}{m:Mem}{i:Nat}{a b:Int}(h:env[i]?=Zz (Zz (.t (.int a)))):ev call gv (.bin .Add (.var i) (.con (.int b))) env m=.ok (.t (.int (a+b))) m:=az (aa h) (ab _) (db _ _)
theorem uu{n:Nat}{m:Mem}{t:T}{pre mid post:List (List Nat)}(h:jY t mid):cf (n+3) 24 [.t (wl (pre++mid++post)),.t (.int (pre.length:Int))] m=.ok (.t (.tup [t,.int ((pre.length+mid.length:Nat):Int)])) m:=by
 have key:ex (cf (n+2)) gv dP [Zz (.t (wl (pre++mid++post))),Zz (.t (.int (pre.length:Int))),Zy,Zy,Zy] m=.ok (.ret (.t (.tup [t,.int ((pre.length+mid.length:Nat):Int)]))) m:=by
  unfold dP;rw[av ((al (aa rfl) (aa rfl)).trans (cx rfl))];dsimp only[RB,RC];have h0:iN (pre++mid++post) pre.length=iN mid 0:=mK (j:=0) (by cases h<;>simp);rw[h0];cases h with
  |any =>
   refine aD (m1:=m) (aw (k:=true) (aa rfl) (ab _) rfl) (ai ?_);refine(bd (rk (aa rfl)) (cE rfl)).trans ?_;rfl
  |@two w v hw hv hl =>
   have h1:iN (pre++[w,v]++post) (pre.length+1)=v:=(mK (j:=1) (by simp)).trans rfl;have hn:=r9 (n:=n) (m:=m) (ws:=pre++[w,v]++post) (k:=(pre.length:Int)+1) (i:=pre.length+1) (by omega) (by rw[h1];exact hl) (by rw[h1];exact hv);rw[h1]at hn;have ha:(w==[97,110,121])=false:=by rcases hw with rfl|rfl<;>rfl
   rw[ay (m1:=m) (aw (k:=false) (aa rfl) (ab _) (by rw[fR];exact congrArg Zz ha))];refine aD (m1:=m) (aw (k:=true) (aa rfl) (bd (ab _) (ab _)) ?_) (ai ?_)
   ·rw[si]
    rcases hw with rfl|rfl<;>rfl
   ·refine(bd (bd (aa rfl) ((al (aa rfl) (cE rfl)).trans hn)) (cE rfl)).trans ?_
    rfl
  |@three a w v f hw hv hl hf =>
   have h1:iN (pre++[v,a,f]++post) pre.length=v:=h0.trans rfl;have h2:iN (pre++[v,a,f]++post) (pre.length+1)=a:=(mK (j:=1) (by simp)).trans rfl;have h3:iN (pre++[v,a,f]++post) (pre.length+2)=f:=(mK (j:=2) (by simp)).trans rfl;have hn:=r9 (n:=n) (m:=m) (ws:=pre++[v,a,f]++post) (k:=(pre.length:Int)) (i:=pre.length) rfl (by rw[h1];exact hl) (by rw[h1];exact hv);rw[h1]at hn;have hs:=cx (n:=n+1) (m:=m) (ws:=pre++[v,a,f]++post) (k:=(pre.length:Int)+1) (i:=pre.length+1) (by omega);rw[h2]at hs;have hm:=wo (n:=n) (m:=m) (ws:=pre++[v,a,f]++post) (k:=(pre.length:Int)+2) (i:=pre.length+2) (by omega) (by rw[h3];exact hf);rw[h3]at hm;show ex (cf (n+2)) gv _ [_,_,Zz (.t (.str v)),Zy,Zy] m=_;rw[ay (m1:=m) (aw (k:=false) (aa rfl) (ab _) (by rw[fR];exact congrArg Zz (qR hv rfl)))];rw[ay (m1:=m) (aw (k:=false) (aa rfl) (bd (ab _) (ab _)) (by rw[si];refine congrArg Zz ?_;have e1:=qR hv (w:=[105,115]) rfl;have e2:=qR hv (w:=[98,121]) rfl;rw[W2,e1,W2,e2];rfl))];rw[av ((al (aa rfl) (aa rfl)).trans hn)];dsimp only[RB,RC];rw[av ((al (aa rfl) (cE rfl)).trans hs)];dsimp only[RB,RC];rw[ay (KI (b:=false) (aa rfl) yB (by rcases hw with⟨rfl,rfl⟩|⟨rfl,rfl⟩<;>rfl))];refine ai ?_;have hg:ev (cf (n+2)) gv (.MA 16 (.var 4)) [Zz (.t (wl (pre++[v,a,f]++post))),Zz (.t (.int (pre.length:Int))),Zz (.t (.str v)),Zz (.t (.str v)),Zz (.t (.str a))] m=.ok (.t (.str w)) m:=
    Ey (aa rfl) yB (by rcases hw with⟨rfl,rfl⟩|⟨rfl,rfl⟩<;>rfl)
   refine(bd (m6 hg (aa rfl) ((al (aa rfl) (cE rfl)).trans hm)) (cE rfl)).trans ?_;rfl
 exact ax (uc _ _ _) rfl key (aq (cell:=false) rfl)
def Hm(s:List Nat)(P:T->List (List Nat)->Prop)(t:T)(ws:List (List Nat)):Prop:=
 P t ws∨∃(q:T×List (List Nat)) (qs:List (T×List (List Nat))),qs≠[]/\P q.1 q.2/\(∀p∈qs,P p.1 p.2)/\t=.tup [.str s,.tup (q.1::qs.map (·.1))]/\ws=q.2++qs.flatMap λp=>s::p.2
def G1:Nat->T->List (List Nat)->Prop
 |0=>jY
 |k+1=>λt ws=>jY t ws∨(∃t' ws',G1 k t' ws'/\t=.tup [.str [110,111,116],t']/\ws=[110,111,116]::ws')∨∃ws',Hm [111,114] (Hm [97,110,100] (G1 k)) t ws'/\ws=[40]::(ws'++[[41]])
noncomputable abbrev GA(k:Nat):=Hm [97,110,100] (G1 k)
noncomputable abbrev GO(k:Nat):=Hm [111,114] (GA k)
theorem FU{c:Env->Mem->Res Bool}{f:Env->Mem->Res Flow}{n:Nat}{env env':Env}{m m1 m2:Mem}(h1:c env m=.ok true m1)(h2:f env m1=.ok (.next env') m2):en c f (n+1) env m=en c f n env' m2:=by
 rw[en,h1];show(f env m1).bind _=_;rw[h2];rfl
theorem Fp{c:Env->Mem->Res Bool}{f:Env->Mem->Res Flow}{n:Nat}{env:Env}{m m1:Mem}(h1:c env m=.ok false m1):en c f (n+1) env m=.ok (.next env) m1:=by
 rw[en,h1];rfl
theorem vC{m:Mem}{ts:List T}{t:T}(hl:ts.length<lim):Kr .append (.c m.length) [.t t] (m++[Zz (false,ts)])=.ok (.t .non) (m++[Zz (false,ts++[t])]):=by
 have hg:(m++[Zz (false,ts)])[m.length]?=Zz (Zz (false,ts)):=by rw[Ra (RD _),UA];rfl
 unfold Kr;dsimp only;rw[ek,cI,af,af,hg];dsimp only;unfold vI;dsimp only;rw[XU hl];dsimp only;rw[V5 _ _ (RD _),UA];rfl
theorem yi{m:Mem}{c:Option (Bool×List T)}:(m++[c])[m.length]?=Zz c:=by rw[Ra (RD _),UA];rfl
theorem KM{call:Nat->List W->Mem->Res W}{gv:List T}{env:Env}{m:Mem}{i j:Nat}{ts:List T}{t:T}(hi:env[i]?=Zz (Zz (.c m.length)))(hj:env[j]?=Zz (Zz (.t t)))(hl:ts.length<lim):ev call gv (.eP .append (.var i) (.cons (.var j) .nil)) env (m++[Zz (false,ts)])=.ok (.t .non) (m++[Zz (false,ts++[t])]):=by
 rw[ev,aa hi,af];rw[show xX .append (.c m.length) (m++[Zz (false,ts)])=true by unfold xX;dsimp only;rw[yi]];rw[XU rfl,evs,aa hj,af,evs,af,af];exact vC hl
theorem mY{call:Nat->List W->Mem->Res W}{gv:List T}{env:Env}{m m1 m2 m3 m4:Mem}{f:Nat}{a b c d:E}{w w1 w2 w3:W}(h1:ev call gv a env m=.ok w m1)(h2:ev call gv b env m1=.ok w1 m2)(h3:ev call gv c env m2=.ok w2 m3)(h4:ev call gv d env m3=.ok w3 m4):ev call gv (.call f (.cons a (.cons b (.cons c (.cons d .nil))))) env m=call f [w,w1,w2,w3] m4:=by
 simp only[ev,evs,h1,h2,h3,h4,af]
section
variable{N:Nat}{s:List Nat}{rest:List T}{P:T->List (List Nat)->Prop}{I:List Nat->Prop}{wi:Int}
def Reads(N:Nat)(rest:List T)(wi:Int)(P:T->List (List Nat)->Prop)(I:List Nat->Prop):Prop:=
 ∀(m:Mem) (t:T) (pre mid post:List (List Nat)) (b:Int),P t mid->mid.length<900000->I (iN post 0)->b=(pre.length:Int)->cf N 26 [.t (wl (pre++mid++post)),.t (.int b),.t (.int wi),.t (.tup rest)] m=.ok (.t (.tup [t,.int ((pre.length+mid.length:Nat):Int)])) m
theorem tf(s:List Nat)(rest:List T):HP (.tup (.str s::rest)) (Zz 1) Zy=Zz (.tup rest):=by
 show Zz (T.tup (cut (T.str s::rest) (Zz 1) Zy))=_;simp only[cut,s0,RE];rw[XV (by decide),show min (1:Int).toNat (rest.length+1)=1 by simp];simp
theorem BK(hs:I s){qs:List (T×List (List Nat))}{post:List (List Nat)}(hI:I (iN post 0)):I (iN ((qs.flatMap λp=>s::p.2)++post) 0):=by
 cases qs with
 |nil=>exact hI
 |cons q qs=>exact hs
theorem join_loop(R:Reads (N+1) rest wi P I)(hs:I s){W0:List (List Nat)}{e1:Option W}{m:Mem}:∀(qs:List (T×List (List Nat))) (f:Nat) (ts:List T) (t:T) (pre:List (List Nat)) (post:List (List Nat)) (b:Int),qs.length<f->ts.length+qs.length<1000000->(qs.flatMap λp=>s::p.2).length<900000->W0=pre++(qs.flatMap λp=>s::p.2)++post->b=(pre.length:Int)->(∀p∈qs,P p.1 p.2)->(iN post 0==s)=false->I (iN post 0) ->
  en (λenv m=>(ev (cf (N+1)) gv (.cmp .Eq (.call 21 (.cons (.var 0) (.cons (.var 5) .nil))) (.ix (.var 3) (.con (.int 0)))) env m).bind cu) (λenv m=>ex (cf (N+1)) gv de env m) f
   [Zz (.t (wl W0)),e1,Zz (.t (.int wi)),Zz (.t (.tup (.str s::rest))),Zz (.t t),Zz (.t (.int b)),Zz (.c m.length)] (m++[Zz (false,ts)]) =
  .ok (.next [Zz (.t (wl W0)),e1,Zz (.t (.int wi)),Zz (.t (.tup (.str s::rest))),Zz (.t ((qs.map (·.1)).getLastD t)),Zz (.t (.int ((pre.length+(qs.flatMap λp=>s::p.2).length:Nat):Int))),Zz (.c m.length)]) (m++[Zz (false,ts++qs.map (·.1))]):=by
 have cond:∀{i:Nat}{b:Int}{t:T}{ts:List T}{k:Bool},b=(i:Int)->(iN W0 i==s)=k->(ev (cf (N+1)) gv (.cmp .Eq (.call 21 (.cons (.var 0) (.cons (.var 5) .nil))) (.ix (.var 3) (.con (.int 0)))) [Zz (.t (wl W0)),e1,Zz (.t (.int wi)),Zz (.t (.tup (.str s::rest))),Zz (.t t),Zz (.t (.int b)),Zz (.c m.length)] (m++[Zz (false,ts)])).bind cu=.ok k (m++[Zz (false,ts)]):=λ{i b t ts k} hb hk=>by
  have h0:y2 (.tup (.str s::rest)) (.int 0)=Zz (.str s):=at0 _ _;rw[aw ((al (aa rfl) (aa rfl)).trans (cx hb)) (aV (aa rfl) (ab _) h0) (by rw[fR,hk])];rfl
 intro qs
 induction qs with
 |nil =>
  intro f ts t pre post b hf hl hz hW hb hq hn hI;obtain⟨f,rfl⟩:∃g,f=g+1:=⟨f-1,by simp at hf;omega⟩
  have hw:iN W0 pre.length=iN post 0:=by rw[hW];exact BP (mid:=[]) (by simp)
  rw[Fp (cond hb (by rw[hw];exact hn))];subst hb;simp
 |cons q qs ih =>
  intro f ts t pre post b hf hl hz hW hb hq hn hI;obtain⟨f,rfl⟩:∃g,f=g+1:=⟨f-1,by simp at hf;omega⟩
  rw[RE]at hf hl;have hW1:W0=(pre++[s])++q.2++((qs.flatMap λp=>s::p.2)++post):=by rw[hW];simp
  have hW2:W0=(pre++s::q.2)++(qs.flatMap λp=>s::p.2)++post:=by rw[hW];simp
  have hw:iN W0 pre.length=s:=by
   rw[hW];simp[iN]
  have hr:=R (m++[Zz (false,ts)]) q.1 (pre++[s]) q.2 ((qs.flatMap λp=>s::p.2)++post) (b+1) (hq q RR) (by simp at hz;omega) (BK hs hI) (by rw[hb];simp);rw[<-hW1]at hr;have hbody:ex (cf (N+1)) gv de [Zz (.t (wl W0)),e1,Zz (.t (.int wi)),Zz (.t (.tup (.str s::rest))),Zz (.t t),Zz (.t (.int b)),Zz (.c m.length)] (m++[Zz (false,ts)]) =
    .ok (.next [Zz (.t (wl W0)),e1,Zz (.t (.int wi)),Zz (.t (.tup (.str s::rest))),Zz (.t q.1),Zz (.t (.int (((pre++[s]).length+q.2.length:Nat):Int))),Zz (.c m.length)]) (m++[Zz (false,ts++[q.1])]):=by
   unfold de;rw[ke ((mY (aa rfl) (cE rfl) (aa rfl) (BH (aa rfl) (ab _) (tf s rest))).trans hr)];dsimp only[RB,RC];rw[qG (KM rfl rfl (by unfold lim;omega)),ex]
  rw[FU (cond hb (by rw[hw];simp)) hbody];rw[ih f (ts++[q.1]) q.1 (pre++s::q.2) post _ (by omega) (by rw[R8,UG];omega) (by rw[UJ,R8]at hz;omega) hW2 (by simp;omega) (λp hp=>hq p (RG _ hp)) hn hI];have e1:(q::qs).map (·.1)=q.1::qs.map (·.1):=rfl;rw[e1,List.getLastD_cons]
  congr 3
  ·congr 7
   congr 2
   simp;omega
  ·simp
theorem CK(s:List Nat):∀qs:List (T×List (List Nat)),qs.length<=(qs.flatMap λp=>s::p.2).length
 |[]=>by simp
 |q::qs=>by
  have:=CK s qs;rw[UJ,R8,RE,RE];omega
theorem yW{call:Nat->List W->Mem->Res W}{gv:List T}{env:Env}{m:Mem}{i:Nat}{ts:List T}{bb:B}{r:T}(hi:env[i]?=Zz (Zz (.c m.length)))(hr:cn bb [.lst ts]=Zz r):ev call gv (.blt bb (.cons (.var i) .nil)) env (m++[Zz (false,ts)])=.ok (.t r) (m++[Zz (false,ts)]):=
 K3 (am (aa hi) a8) (show views [.c m.length] (m++[Zz (false,ts)])=Zz [.lst ts] by unfold views views view;dsimp only;rw[yi];rfl) hr
theorem joined_ok'(R:Reads (N+1) rest wi P I)(hs:I s):Reads (N+2) (.str s::rest) wi (Hm s P) (λw=>I w/\(w==s)=false):=by
 intro m t pre mid post b h hlen hI hb;obtain⟨q,qs,hP,hPs,ht,hm⟩:∃(q:T×List (List Nat)) (qs:List (T×List (List Nat))),P q.1 q.2/\(∀p∈qs,P p.1 p.2)/\t=(if qs=[]then q.1 else .tup [.str s,.tup (q.1::qs.map (·.1))])/\mid=q.2++qs.flatMap λp=>s::p.2:=by
  rcases h with h|⟨q,qs,h0,h1,h2,h3,h4⟩
  ·exact⟨(t,mid),[],h,by simp⟩
  ·exact⟨q,qs,h1,h2,by rw[XV h0];exact h3,h4⟩
 have hq:=CK s qs;have hl2:q.2.length+(qs.flatMap λp=>s::p.2).length<900000:=by rw[hm,R8]at hlen;exact hlen
 have hW1:pre++mid++post=pre++q.2++((qs.flatMap λp=>s::p.2)++post):=by rw[hm];simp
 have hW2:pre++mid++post=(pre++q.2)++(qs.flatMap λp=>s::p.2)++post:=by rw[hm];simp
 have key:ex (cf (N+1)) gv bZ [Zz (.t (wl (pre++mid++post))),Zz (.t (.int b)),Zz (.t (.int wi)),Zz (.t (.tup (.str s::rest))),Zy,Zy,Zy] m=.ok (.ret (.t (.tup [t,.int ((pre.length+mid.length:Nat):Int)]))) (m++[Zz (false,q.1::qs.map (·.1))]):=by
  unfold bZ;rw[ay (m1:=m) (aw (k:=false) (aB (aa rfl) (Ck _)) (ab _) (by rw[jU];simp;omega))];have hr:=R m q.1 pre q.2 ((qs.flatMap λp=>s::p.2)++post) b hP (by omega) (BK hs hI.1) hb;rw[<-hW1]at hr;rw[ke ((mY (aa rfl) (aa rfl) (aa rfl) (BH (aa rfl) (ab _) (tf s rest))).trans hr)];dsimp only[RB,RC];rw[av (show ev (cf (N+1)) gv (.zn (.cons (.var 4) .nil)) _ m=.ok (.c m.length) (m++[Zz (false,[q.1])]) by rw[ev,am (aa rfl) a8,af,ek,cI,af,af,XU (by simp[lim])])];dsimp only[RB,RC];rw[ex,join_loop R hs (W0:=pre++mid++post) qs turns [q.1] q.1 (pre++q.2) post _ (by unfold turns;omega) (by simp;omega) (by omega) hW2 (by simp) hPs hI.2 hI.1,af];dsimp only;have hlast:((pre++q.2).length+(qs.flatMap λp=>s::p.2).length:Nat)=pre.length+mid.length:=by rw[hm];simp;omega
  rw[hlast];have hc:∀e4:Option W,ev (cf (N+1)) gv (.cmp .Eq (.blt .len (.cons (.var 6) .nil)) (.con (.int 1))) [Zz (.t (wl (pre++mid++post))),Zz (.t (.int b)),Zz (.t (.int wi)),Zz (.t (.tup (.str s::rest))),e4,Zz (.t (.int ((pre.length+mid.length:Nat):Int))),Zz (.c m.length)] (m++[Zz (false,[q.1]++qs.map (·.1))])=.ok (.t (.bl qs.isEmpty)) (m++[Zz (false,[q.1]++qs.map (·.1))]):=λe4=>by
   refine aw (yW rfl (xD _)) (ab _) ?_;rw[jU];cases qs with
   |nil=>rfl
   |cons q' qs =>
    refine congrArg Zz ?_;show((([q.1]++q'.1::qs.map (·.1)).length:Int)==1)=false;rw[R8,RE,RE,XY];simp only[Rh];omega
  cases qs with
  |nil =>
   rw[aD (hc _) (ai (bd (aa rfl) (aa rfl)))];subst ht;rfl
  |cons q' qs =>
   rw[ay (hc _)];have h0:y2 (.tup (.str s::rest)) (.int 0)=Zz (.str s):=at0 _ _;rw[ai (bd (bd (aV (aa rfl) (ab _) h0) (yW rfl (jG _))) (aa rfl))];rw[ht,XV (by simp)];rfl
 refine ax (ky _ _ _) rfl key ?_;show Res.ok _ ((m++[_]).take m.length)=_;rw[List.take_left]
end
def nZ(N:Nat)(wi:Int)(P:T->List (List Nat)->Prop):Prop:=
 ∀(m:Mem) (t:T) (pre mid post:List (List Nat)) (b:Int),P t mid->mid.length<900000->b=(pre.length:Int)->cf N 25 [.t (wl (pre++mid++post)),.t (.int b),.t (.int wi)] m=.ok (.t (.tup [t,.int ((pre.length+mid.length:Nat):Int)])) m
theorem Ii{N:Nat}{wi:Int}{P:T->List (List Nat)->Prop}(R:nZ N wi P):Reads (N+1) [] wi P (λ_=>True):=by
 intro m t pre mid post b h hlen _ hb;have key:ex (cf N) gv bZ [Zz (.t (wl (pre++mid++post))),Zz (.t (.int b)),Zz (.t (.int wi)),Zz (.t (.tup [])),Zy,Zy,Zy] m=.ok (.ret (.t (.tup [t,.int ((pre.length+mid.length:Nat):Int)]))) m:=by
  unfold bZ;exact aD (m1:=m) (aw (k:=true) (aB (aa rfl) (Ck _)) (ab _) rfl) (ai ((jc (aa rfl) (aa rfl) (aa rfl)).trans (R m t pre mid post b h hlen hb)))
 exact ax (ky _ _ _) rfl key (aq (cell:=false) rfl)
noncomputable def JN:List T:=[.str [111,114],.str [97,110,100]]
def After(w:List Nat):Prop:=(True/\(w==[97,110,100])=false)/\(w==[111,114])=false
theorem Kg{N:Nat}{wi:Int}{P:T->List (List Nat)->Prop}(R:nZ N wi P):Reads (N+3) JN wi (Hm [111,114] (Hm [97,110,100] P)) After:=
 joined_ok' (joined_ok' (Ii R) T8) ⟨T8,rfl⟩
theorem oK(w a b:List Nat):bx .NotIn (.str w) (.tup [.str a,.str b])=Zz (!(a==w || b==w)):=by
 show(Ho (.str w) (.tup [.str a,.str b])).map (!·)=_;rw[show Ho (.str w) (.tup [.str a,.str b])=Zz (a==w || b==w)from si w a b];rfl
theorem AZ{t:T}{mid:List (List Nat)}(h:jY t mid):mid≠[]/\([110,111,116]==iN mid 0)=false/\([40]==iN mid 0)=false:=by
 cases h with
 |any=>exact⟨by simp,rfl,rfl⟩
 |two hw _ _=>rcases hw with rfl|rfl<;>exact⟨by simp,rfl,rfl⟩
 |three hw hv _ _ =>
  refine⟨by simp,?_,?_⟩
  ·rw[W2];exact qR hv rfl
  ·rw[W2];exact Ia hv
theorem y9{n:Nat}{wi:Int}:nZ (n+4) wi jY:=by
 intro m t pre mid post b h hlen hb;obtain⟨h1,h2,h3⟩:=AZ h;have hw:iN (pre++mid++post) pre.length=iN mid 0:=mK (j:=0) (List.length_pos_iff.mpr h1);have key:ex (cf (n+3)) gv cq [Zz (.t (wl (pre++mid++post))),Zz (.t (.int b)),Zz (.t (.int wi)),Zy,Zy,Zy] m=.ok (.ret (.t (.tup [t,.int ((pre.length+mid.length:Nat):Int)]))) m:=by
  unfold cq;rw[av ((al (aa rfl) (aa rfl)).trans (cx hb))];dsimp only[RB,RC];rw[hw];refine aD (m1:=m) (aw (k:=true) (aa rfl) (bd (ab _) (ab _)) (by rw[oK,h2,h3];rfl)) (ai ((al (aa rfl) (aa rfl)).trans ?_));rw[hb];exact uu h
 exact ax (kh _ _ _) rfl key (aq (cell:=false) rfl)
theorem Bj:∀(k n:Nat) (wi:Int),0<=wi->wi+k<=12->nZ (n+4*k+4) wi (G1 k)
 |0,n,wi,h0,h1=>y9
 |k+1,n,wi,h0,h1=>by
  intro m t pre mid post b h hlen hb;have ih:=Bj k n (wi+1) (by omega) (by omega);have hwi:(wi==12)=false:=by rw[XY];omega
  rcases h with h|⟨t',ws',h,rfl,rfl⟩|⟨ws',h,rfl⟩
  ·exact y9 (n:=n+4*(k+1)) m t pre mid post b h hlen hb
  ·have hW:pre++[110,111,116]::ws'++post=pre++[[110,111,116]]++ws'++post:=by simp
   have hw:iN (pre++[110,111,116]::ws'++post) pre.length=[110,111,116]:=(mK (j:=0) (by simp)).trans rfl;have hr:=Bj k (n+3) (wi+1) (by omega) (by omega) m t' (pre++[[110,111,116]]) ws' post (b+1) h (by simp at hlen;omega) (by rw[hb];simp);rw[<-hW]at hr;have key:ex (cf (n+4*(k+1)+3)) gv cq [Zz (.t (wl (pre++[110,111,116]::ws'++post))),Zz (.t (.int b)),Zz (.t (.int wi)),Zy,Zy,Zy] m=.ok (.ret (.t (.tup [.tup [.str [110,111,116],t'],.int ((pre.length+([110,111,116]::ws').length:Nat):Int)]))) m:=by
    unfold cq;rw[av ((al (aa rfl) (aa rfl)).trans (cx hb))];dsimp only[RB,RC];rw[hw];rw[ay (m1:=m) (aw (k:=false) (aa rfl) (bd (ab _) (ab _)) (by rw[oK];rfl))];rw[ay (m1:=m) (aw (k:=false) (aa rfl) (jZ kB) (by rw[jU,hwi]))];refine aD (m1:=m) (aw (k:=true) (aa rfl) (ab _) rfl) ?_;have e0:n+4*(k+1)+3=n+3+4*k+4:=by omega
    rw[e0];rw[ke ((jc (aa rfl) (cE rfl) (cE rfl)).trans hr)];dsimp only[RB,RC];rw[ai (bd (bd (ab _) (aa rfl)) (aa rfl))]
    congr 7
    simp;omega
   exact ax (kh _ _ _) rfl key (aq (cell:=false) rfl)
  ·have hW:pre++[40]::(ws'++[[41]])++post=pre++[[40]]++ws'++([41]::post):=by simp
   have hw:iN (pre++[40]::(ws'++[[41]])++post) pre.length=[40]:=(mK (j:=0) (by simp)).trans rfl;have hr:=Kg ih m t (pre++[[40]]) ws' ([41]::post) (b+1) h (by simp at hlen;omega) ⟨⟨T8,rfl⟩,rfl⟩ (by rw[hb];simp);rw[<-hW]at hr;have hw2:iN (pre++[40]::(ws'++[[41]])++post) ((pre++[[40]]).length+ws'.length)=[41]:=by
    rw[hW];exact(BP rfl).trans rfl
   have key:ex (cf (n+4*(k+1)+3)) gv cq [Zz (.t (wl (pre++[40]::(ws'++[[41]])++post))),Zz (.t (.int b)),Zz (.t (.int wi)),Zy,Zy,Zy] m=.ok (.ret (.t (.tup [t,.int ((pre.length+([40]::(ws'++[[41]])).length:Nat):Int)]))) m:=by
    unfold cq;rw[av ((al (aa rfl) (aa rfl)).trans (cx hb))];dsimp only[RB,RC];rw[hw];rw[ay (m1:=m) (aw (k:=false) (aa rfl) (bd (ab _) (ab _)) (by rw[oK];rfl))];rw[ay (m1:=m) (aw (k:=false) (aa rfl) (jZ kB) (by rw[jU,hwi]))];rw[ay (m1:=m) (aw (k:=false) (aa rfl) (ab _) rfl)];have e0:n+4*(k+1)+3=n+4*k+4+3:=by omega
    rw[e0];rw[ke ((mY (aa rfl) (cE rfl) (cE rfl) (jZ ya)).trans hr)];dsimp only[RB,RC];rw[ay (m1:=m) (aw (k:=false) ((al (aa rfl) (aa rfl)).trans (cx rfl)) (ab _) (by rw[hw2];rfl))];rw[ai (bd (aa rfl) (cE rfl))]
    congr 7
    simp;omega
   exact ax (kh _ _ _) rfl key (aq (cell:=false) rfl)
theorem xM{ws:List (List Nat)}(h0:ws≠[])(h:∀w∈ws,32∉w)(hl:(ae [32] ws).length<=900000){m:Mem}:Kr .split (.t (.str (ae [32] ws))) [.t (.str [32])] m=.ok (.t (wl ws)) m:=by
 show dy (if(ae [32] ws).length<=900000 then Zz (.lst ((aZ 32 (ae [32] ws)).map .str))else Zy) m=_;rw[XU hl,gJ h0 h];rfl
theorem Dk(ws:List (List Nat)):ws.length<=(ae [32] ws).length+1:=by
 induction ws with
 |nil=>simp
 |cons w r ih =>
  cases r with
  |nil=>simp[ae]
  |cons v r =>
   show _<=(w++[32]++ae [32] (v::r)).length+1;rw[R8,R8,RE];simp only[RE,Rh]at ih ⊢;omega
theorem vF{n:Nat}{m:Mem}{t:T}{ws:List (List Nat)}(h:GO 12 t ws)(h0:ws≠[])(hw:∀w∈ws,32∉w)(hl:(ae [32] ws).length<=800000)(hy:∀{m:Mem},cf (n+55) 15 [.t t] m=.ok (.t (.bl true)) m):
  cf (n+56) 27 [.t (.str (ae [32] ws))] m=.ok (.t t) m:=by
 have hlen:=Dk ws;have hr:=Kg (Bj 12 n 0 (by omega) (by omega)) m t [] ws [] 0 h (by omega) ⟨⟨T8,rfl⟩,rfl⟩ rfl;rw[Sq,T9]at hr;have key:ex (cf (n+55)) gv eU [Zz (.t (.str (ae [32] ws))),Zy,Zy,Zy] m=.ok (.ret (.t t)) m:=by
  unfold eU;rw[ay (m1:=m) (bA (k:=true) (zQ (aa rfl) rfl))];rw[av (show ev (cf (n+55)) gv (.eP .split (.var 0) (.cons (.con (.str [32])) .nil)) [Zz (.t (.str (ae [32] ws))),Zy,Zy,Zy] m=.ok (.t (wl ws)) m by
   rw[ev,aa rfl,af,show xX .split (.t (.str (ae [32] ws))) m=true from rfl,XU rfl,am (ab _) a8,af];exact xM h0 hw (by omega))]
  dsimp only[RB,RC];rw[ke ((mY (aa rfl) (ab _) (ab _) (jZ ya)).trans hr)];dsimp only[RB,RC];have hc:ev (cf (n+55)) gv (.cmp .Lt (.var 3) (.blt .len (.cons (.var 1) .nil))) [Zz (.t (.str (ae [32] ws))),Zz (.t (wl ws)),Zz (.t t),Zz (.t (.int ((([]:List (List Nat)).length+ws.length:Nat):Int)))] m=.ok (.t (.bl false)) m:=by
   refine aw (aa rfl) (aB (aa rfl) (xD _)) ?_;rw[qx,Q8];refine congrArg Zz (XW ?_);simp
  rw[ay ((bN hc).trans (bA (k:=true) ((ar (aa rfl)).trans hy)))];exact ai (aa rfl)
 exact ax (xm _ _ _) rfl key (aq (cell:=false) rfl)
abbrev Dv(w:List Nat):Prop:=32∉w/\10∉w
inductive lQ:T->Prop where
 |any:lQ (.tup [.str [97,110,121]])
 |two {w v:List Nat}:(w=[105,115]∨w=[98,121])->bf v=true->lQ (.tup [.str w,.str v])
 |three {w v:List Nat}{k:Int}:(w=[108,101,97,115,116]∨w=[109,111,115,116])->bf v=true->0<=k->k<=1000000000->lQ (.tup [.str w,.str v,.int k])
theorem eZ{cs:List Nat}(h:bf cs=true):cs.length<=lim:=by
 unfold bf at h;simp at h;unfold lim;omega
theorem lQ.wt{d:Nat}{t:T}(h:lQ t):WT (d+1) t:=by
 cases h with
 |any=>exact .leaf (by decide) (by rfl) λt ht cs e=>by subst e;simp at ht;subst ht;decide
 |two hw hv =>
  refine .leaf ?_ ?_ λt ht cs e=>?_
  ·rcases hw with rfl|rfl<;>simp[dH,oneOf,cJ,hv]
  ·rcases hw with rfl|rfl<;>simp[kids,oneOf]
  ·subst e
   simp at ht;rcases ht with rfl|rfl
   ·rcases hw with rfl|rfl<;>decide
   ·exact eZ hv
 |three hw hv h0 h1 =>
  refine .leaf ?_ ?_ λt ht cs e=>?_
  ·rcases hw with rfl|rfl<;>simp[dH,oneOf,cJ,hv,lT,h0,h1]
  ·rfl
  ·subst e
   simp at ht;rcases ht with rfl|rfl
   ·rcases hw with rfl|rfl<;>decide
   ·exact eZ hv
theorem fN{a:T}{ws:List (List Nat)}(h:oneOf a ws=true):∃cs,a=.str cs/\cs∈ws:=by
 cases a with
 |str cs =>
  obtain⟨w,h1,h2⟩:=UT.mp (show(ws.any λa=>a==cs)=true from h);exact⟨cs,rfl,by rw[<-eq_of_beq h2];exact h1⟩
 |_=>cases h
theorem AF{t:T}(h:dH t=true):∃w r,t=.tup (.str w::r)/\w≠[110,111,116]/\w≠[97,110,100]/\w≠[111,114]:=by
 unfold dH at h;split at h
 ·obtain⟨w,rfl,hw⟩:=fN h
  simp at hw;subst hw;exact⟨_,_,rfl,by decide,by decide,by decide⟩
 ·rw[R6]at h
  obtain⟨w,rfl,hw⟩:=fN h.1;simp at hw;rcases hw with rfl|rfl<;>exact⟨_,_,rfl,by decide,by decide,by decide⟩
 ·rw[R6,R6]at h
  obtain⟨w,rfl,hw⟩:=fN h.1.1;simp at hw;rcases hw with rfl|rfl<;>exact⟨_,_,rfl,by decide,by decide,by decide⟩
 ·cases h
theorem gD{call:Nat->List W->Mem->Res W}{gv:List T}{env env':Env}{m m1:Mem}{k:S}{e:E}{is:List Nat}{t:T}(h:ev call gv e env m=.ok (.t t) m1)(h2:bK (.tp is) t env=Zz env'):ex call gv (.lP is e k) env m=ex call gv k env' m1:=by
 rw[ex,h];show(match bK (.tp is) t env with
  |some env=>ex call gv k env m1
  |none=>.stuck)=_
 rw[h2]
theorem lQ.Kj{t:T}(h:lQ t):kids t=[]:=by
 cases h with
 |any=>rfl
 |two hw _=>rcases hw with rfl|rfl<;>simp[kids,oneOf]
 |three _ _ _ _=>rfl
theorem x8(m:Nat)(h:0<m):∃c r,UU 10 m=c::r/\c≠'0':=by
 induction m using Nat.strongRecOn with
 |_ m ih =>
  by_cases hm:m<10
  ·refine⟨Nat.digitChar m,[],Nat.toDigits_of_lt_base hm,?_⟩
   have:∀k:Nat,k<10->0<k->Nat.digitChar k≠'0':=by decide
   exact this m hm h
  ·obtain⟨c,r,e,hc⟩:=ih (m / 10) (by omega) (by omega)
   have t:UU 10 (m / 10)++UU 10 (m%10)=UU 10 (10*(m / 10)+m%10):=Nat.toDigits_append_toDigits (by decide) (by omega) (Wz m (by decide));rw[Nat.div_add_mod]at t;exact⟨c,r++UU 10 (m%10),by rw[<-t,e];rfl,hc⟩
theorem aQ{k:Int}(h0:0<=k)(h1:k<10000000000):mv (aO k)=true/\uq (aO k)=k/\Dv (aO k)/\(aO k).length<=10:=by
 obtain⟨n,rfl⟩:=Int.eq_ofNat_of_zero_le h0;have hl:(aO (n:Int)).length<=10:=by
  have:=PySem.W.KT.len_num h0 h1;unfold aO;rw[Ry];exact this
 have e:aO (n:Int)=(UU 10 n).map Char.toNat:=PySem.W.KIN.signs_num n;have hd:∀c∈aO (n:Int),48<=c/\c<=57:=λc hc=>by
  rw[e]at hc;obtain⟨ch,hch,rfl⟩:=RI.mp hc;exact PyProof.Rows.digit_range (Nat.isDigit_of_mem_toDigits (by decide) (by decide) hch)
 have h1':1<=(aO (n:Int)).length:=by rw[e,Q8];exact PySem.toDigits_len_ge 10 n
 refine⟨?_,?_,⟨λz=>XZ (hd 32 z).1 (by decide),λz=>XZ (hd 10 z).1 (by decide)⟩,hl⟩
 ·unfold mv
  rw[XX h1',XX hl];simp only[W1,R6,RP];refine⟨λc hc=>XX ?_,?_⟩
  ·have:=hd c hc
   obtain⟨i,rfl⟩:∃i,c=48+i:=⟨c-48,by omega⟩
   exact(by decide:∀i<10,48+i∈nX) i (by omega)
  ·by_cases hn:n=0
   ·subst hn
    rw[e];rfl
   ·obtain⟨c,r,e2,hc⟩:=x8 n (by omega)
    rw[e,e2];simp only[RN,List.head?_cons,TC];right;rw[bne_iff_ne];intro z;have z:c.toNat=48:=Rr z;exact hc (Char.ext (UInt32.toNat_inj.mp z))
 ·have:=PySem.W.KIN.val_back n
  rw[e];show((PySem.NumText.digitsVal ((UU 10 n).map Char.toNat):Nat):Int)=_;rw[this]
noncomputable def gf:T->List Nat
 |.tup (.str w::_)=>w
 |_=>[]
noncomputable def clos(s:List (List Nat))(t:T)(ws:List (List Nat)):List (List Nat):=if(s.any λa=>a==gf t)=true then[40]::(ws++[[41]])else ws
noncomputable def gt(s:List Nat):List (List (List Nat))->List (List Nat)
 |[]=>[]
 |x::r=>x++r.flatMap λy=>s::y
noncomputable def dI(w:List Nat):List (List Nat):=if(w==[111,114])=true then[[111,114]]else[[97,110,100],[111,114]]
noncomputable def cw:Nat->T->List (List Nat)
 |0,_=>[]
 |d+1,t=>match t with
  |.tup [.str w]=>[w]
  |.tup [.str w,.str v]=>[w,v]
  |.tup [.str w,.str v,.int k]=>[v,if(w==[108,101,97,115,116])=true then[62,61]else[60,61],aO k]
  |.tup [.str w,.tup ts]=>if(w==[110,111,116])=true then w::clos (dI w) (.tup ts) (cw d (.tup ts))else gt w (ts.map λy=>clos (dI w) y (cw d y))
  |_=>[]
theorem qV{t:T}(h:dH t=true):lQ t:=by
 unfold dH at h;split at h
 ·rename_i a
  obtain⟨cs,rfl,hc⟩:=fN h;simp at hc;subst hc;exact .any
 ·rename_i a b
  rw[R6]at h;obtain⟨cs,rfl,hc⟩:=fN h.1;cases b with
  |str v=>exact .two (by simpa using hc) h.2
  |_=>cases h.2
 ·rename_i a b c
  rw[R6,R6]at h;obtain⟨cs,rfl,hc⟩:=fN h.1.1;cases b with
  |str v =>
   cases c with
   |int k =>
    have hk:(decide (0<=k)&&decide (k<=1000000000))=true:=h.2;rw[R6]at hk;exact .three (by simpa using hc) h.1.2 (Xa hk.1) (Xa hk.2)
   |_=>cases h.2
  |_=>cases h.1.2
 ·cases h
theorem d9{v:List Nat}(h:bf v=true):gk v=true/\v.length<=8/\Dv v:=by
 unfold bf at h;simp only[R6,decide_eq_true_eq]at h;obtain⟨⟨⟨h1,h2⟩,h3⟩,h4⟩:=h;refine⟨by unfold gk;rw[XX h1,h3,h4];rfl,h2,λz=>XZ (Xa (RP.mp h4 32 z)) (by decide),λz=>XZ (Xa (RP.mp h4 10 z)) (by decide)⟩
theorem Az{d:Nat}{t:T}(h:lQ t):jY t (cw (d+1) t)/\(∀w∈cw (d+1) t,Dv w)/\(ae [32] (cw (d+1) t)).length<=60/\cw (d+1) t≠[]:=by
 cases h with
 |any=>exact⟨.any,by simp[cw];decide,by simp[cw,ae],by simp[cw]⟩
 |@two w v hw hv =>
  obtain⟨h1,h2,h3⟩:=d9 hv;refine⟨.two hw h1 (by unfold lim;omega),?_,?_,by simp[cw]⟩
  ·intro x hx
   simp only[cw,R9,R4,or_false]at hx;rcases hx with rfl|rfl
   ·rcases hw with rfl|rfl<;>decide
   ·exact h3
  ·show(w++[32]++v).length<=60
   rw[R8,R8];rcases hw with rfl|rfl<;>(simp;omega)
 |@three w v k hw hv k0 k1 =>
  obtain⟨h1,h2,h3⟩:=d9 hv;obtain⟨f1,f2,f3,f4⟩:=aQ k0 (by omega);have key:∀a:List Nat,(a=[62,61]/\w=[108,101,97,115,116]∨a=[60,61]/\w=[109,111,115,116])->cw (d+1) (.tup [.str w,.str v,.int k])=[v,a,aO k]->jY (.tup [.str w,.str v,.int k]) (cw (d+1) (.tup [.str w,.str v,.int k]))/\(∀x∈cw (d+1) (.tup [.str w,.str v,.int k]),Dv x)/\(ae [32] (cw (d+1) (.tup [.str w,.str v,.int k]))).length<=60/\cw (d+1) (.tup [.str w,.str v,.int k])≠[]:=λa ha e=>by
   rw[e];have hL:jY (.tup [.str w,.str v,.int (uq (aO k))]) [v,a,aO k]:=.three ha h1 (by unfold lim;omega) f1;rw[f2]at hL;refine⟨hL,?_,?_,by simp⟩
   ·intro x hx
    simp only[R9,R4,or_false]at hx;rcases hx with rfl|rfl|rfl
    ·exact h3
    ·rcases ha with⟨rfl,_⟩|⟨rfl,_⟩<;>decide
    ·exact f3
   ·show(v++[32]++(a++[32]++aO k)).length<=60
    simp only[R8,RE,Rh];have:a.length=2:=by rcases ha with⟨rfl,_⟩|⟨rfl,_⟩<;>rfl
    omega
  rcases hw with rfl|rfl
  ·exact key _ (.inl ⟨rfl,rfl⟩) rfl
  ·exact key _ (.inr ⟨rfl,rfl⟩) rfl
theorem dZ:∀{a b:List (List Nat)},a≠[]->b≠[]->ae [32] (a++b)=ae [32] a++32::ae [32] b
 |[],_,h,_=>XZ rfl h
 |[x],b,_,hb=>by
  cases b with
  |nil=>exact XZ rfl hb
  |cons y r=>show x++[32]++ae [32] (y::r)=x++32::ae [32] (y::r);simp
 |x::y::r,b,_,hb=>by
  have ih:=dZ (a:=y::r) (by simp) hb;show x++[32]++ae [32] (y::r++b)=(x++[32]++ae [32] (y::r))++_;rw[ih];simp
theorem rH{ws:List (List Nat)}(h:ws≠[]):ae [32] ([40]::(ws++[[41]]))=[40,32]++ae [32] ws++[32,41]:=by
 have e:[40]::(ws++[[41]])=[[40]]++(ws++[[41]]):=rfl;rw[e,dZ (by simp) (by simp),dZ h (by simp)];simp[ae]
theorem y0{s:List Nat}{x:List (List Nat)}{r:List (List (List Nat))}(h:x≠[]):gt s (x::r)≠[]:=by
 unfold gt;intro z;exact h (List.append_eq_nil_iff.mp z).1
theorem mD{s:List Nat}:∀{wss:List (List (List Nat))},(∀x∈wss,x≠[])->ae (32::s++[32]) (wss.map (ae [32]))=ae [32] (gt s wss)
 |[],_=>rfl
 |[x],h=>by simp[gt,ae]
 |x::y::r,h=>by
  have ih:=mD (s:=s) (wss:=y::r) λz hz=>h z (RG _ hz)
  have hx:=h x RR;show ae [32] x++(32::s++[32])++ae (32::s++[32]) ((y::r).map (ae [32]))=_;rw[ih];have e:gt s (x::y::r)=x++(s::gt s (y::r)):=by simp[gt]
  rw[e,dZ hx (by simp)];have hy:gt s (y::r)≠[]:=y0 (h y (by simp));have e2:s::gt s (y::r)=[s]++gt s (y::r):=rfl;rw[e2,dZ (by simp) hy];simp[ae]
theorem nk{s:List (List Nat)}{t:T}{ws:List (List Nat)}(h:ws≠[]):clos s t ws≠[]:=by
 unfold clos;split
 ·simp
 ·exact h
theorem oS{s:List (List Nat)}{t:T}{ws:List (List Nat)}(h:ws≠[]):ae [32] (clos s t ws)=if(s.any λa=>a==gf t)=true then[40,32]++ae [32] ws++[32,41]else ae [32] ws:=by
 unfold clos;split
 ·exact rH h
 ·rfl
section
variable{call:Nat->List W->Mem->Res W}{gv:List T}{env:Env}{m m1 m2 m3:Mem}{a b c e:E}{x y z:T}{p q r:List Nat}{s k:S}{w:W}
theorem Jm(h1:ev call gv a env m=.ok (.t x) m1)(hx:kw x=Zz p)(h2:ev call gv b env m1=.ok (.t y) m2)(hy:kw y=Zz q)(hl:p.length+q.length<=lim):ev call gv (.fst (.cons a (.cons b .nil))) env m=.ok (.t (.str (p++q))) m2:=by
 have f1:iF [] (.t x) m1=.ok p m1:=by
  unfold iF;show(match kw x with|some a=>_|none=>_)=_;rw[hx];exact XU (by simp;omega)
 have f2:iF p (.t y) m2=.ok (p++q) m2:=by
  unfold iF;show(match kw y with|some a=>_|none=>_)=_;rw[hy];exact XU hl
 rw[ev,tz,h1,af,f1,af,tz,h2,af,f2,af,tz,af]
theorem nK(h1:ev call gv a env m=.ok (.t x) m1)(hx:kw x=Zz p)(h2:ev call gv b env m1=.ok (.t y) m2)(hy:kw y=Zz q)(h3:ev call gv c env m2=.ok (.t z) m3)(hz:kw z=Zz r)(hl:p.length+q.length+r.length<=lim):ev call gv (.fst (.cons a (.cons b (.cons c .nil)))) env m=.ok (.t (.str (p++q++r))) m3:=by
 have f1:iF [] (.t x) m1=.ok p m1:=by
  unfold iF;show(match kw x with|some a=>_|none=>_)=_;rw[hx];exact XU (by simp;omega)
 have f2:iF p (.t y) m2=.ok (p++q) m2:=by
  unfold iF;show(match kw y with|some a=>_|none=>_)=_;rw[hy];exact XU (by omega)
 have f3:iF (p++q) (.t z) m3=.ok (p++q++r) m3:=by
  unfold iF;show(match kw z with|some a=>_|none=>_)=_;rw[hz];exact XU (by rw[R8];exact hl)
 rw[ev,tz,h1,af,f1,af,tz,h2,af,f2,af,tz,h3,af,f3,af,tz,af]
theorem d5(h:ev call gv e env m=.ok (.t (.str p)) m)(hb:(p==q)=false):ex call gv (.bI (.cmp .Eq e (.con (.str q))) s .done k) env m=ex call gv k env m:=ay (aw h (ab _) (by rw[fR,hb]))
theorem qi(h:ev call gv e env m=.ok (.t (.str p)) m)(hb:(p==q)=true)(hs:ex call gv s env m=.ok (.ret w) m2):ex call gv (.bI (.cmp .Eq e (.con (.str q))) s .done k) env m=.ok (.ret w) m2:=aD (aw h (ab _) (by rw[fR,hb])) hs
theorem qy(h:ev call gv e env m=.ok (.t (.str p)) m)(hb:(q==p || r==p)=false):ex call gv (.bI (.cmp .In e (.tup (.cons (.con (.str q)) (.cons (.con (.str r)) .nil)))) s .done k) env m=ex call gv k env m:=ay (aw h (bd (ab _) (ab _)) (by rw[si,hb]))
theorem HD(h:ev call gv e env m=.ok (.t (.str p)) m)(hb:(q==p || r==p)=true)(hs:ex call gv s env m=.ok (.ret w) m2):ex call gv (.bI (.cmp .In e (.tup (.cons (.con (.str q)) (.cons (.con (.str r)) .nil)))) s .done k) env m=.ok (.ret w) m2:=aD (aw h (bd (ab _) (ab _)) (by rw[si,hb])) hs
theorem j6{ts:List T}(h:ev call gv e env m=.ok (.t (.tup (x::y::ts))) m):ev call gv (.ix e (.con (.int 1))) env m=.ok (.t y) m:=aV h (ab _) (at1 _ _ _)
theorem ba{ts:List T}(h:ev call gv e env m=.ok (.t (.tup (.str p::ts))) m):ev call gv (.ix e (.con (.int 0))) env m=.ok (.t (.str p)) m:=aV h (ab _) (at0 _ _)
end
theorem Gy(h:List Nat)(ws:List (List Nat)):bx .In (.str h) (.tup (ws.map .str))=Zz (ws.any λa=>a==h)/\bx .In (.str h) (.lst (ws.map .str))=Zz (ws.any λa=>a==h):=by
 have ha:(ws.map T.str).all flat=true:=by simp[flat]
 have hb:((ws.map T.str).any λt=>eqT t (.str h))=ws.any λa=>a==h:=by
  clear ha
  induction ws with
  |nil=>rfl
  |cons w ws ih=>simp[eqT]at ih ⊢;rw[ih]
 have h1:mQ (.str h) (.tup (ws.map .str))=Zz (ws.any λa=>a==h):=by
  unfold mQ;dsimp only;rw[ha,hb];rfl
 have h2:mQ (.str h) (.lst (ws.map .str))=Zz (ws.any λa=>a==h):=by
  unfold mQ;dsimp only;rw[ha,hb];rfl
 constructor
 ·rw[<-h1]
  match h with
  |[]=>rfl
  |[c]=>rfl
  |c::c'::r=>rfl
 ·rw[<-h2]
  match h with
  |[]=>rfl
  |[c]=>rfl
  |c::c'::r=>rfl
theorem IJ{w:List Nat}(hw:w=[110,111,116]∨w=[97,110,100]∨w=[111,114]):(fq (.str w)).bind (bB (Ud (λk=>.inr ⟨k.toArray⟩) [[110,111,116],[97,110,100],[111,114]]) [(.tup [(.str [97,110,100]),(.str [111,114])]),(.tup [(.str [97,110,100]),(.str [111,114])]),(.tup [(.str [111,114])])])=Zz (.tup ((dI w).map .str)):=by
 rcases hw with rfl|rfl|rfl<;>rfl
theorem vk{N:Nat}{w h:List Nat}{r:List T}{ws:List (List Nat)}(hw:w=[110,111,116]∨w=[97,110,100]∨w=[111,114])(hne:ws≠[])(hl:(ae [32] ws).length<=3000)(hx:∀m:Mem,cf N 18 [.t (.tup (.str h::r))] m=.ok (.t (.str (ae [32] ws))) m)(m:Mem):
  cf (N+1) 19 [.t (.str w),.t (.tup (.str h::r))] m=.ok (.t (.str (ae [32] (clos (dI w) (.tup (.str h::r)) ws)))) m:=by
 have key:ex (cf N) gv c6 [Zz (.t (.str w)),Zz (.t (.tup (.str h::r))),Zy] m=.ok (.ret (.t (.str (ae [32] (clos (dI w) (.tup (.str h::r)) ws))))) m:=by
  unfold c6;rw[av ((ar (aa rfl)).trans (hx m))];dsimp only[RB,RC];rw[oS hne];have hc:ev (cf N) gv (.cmp .In (.ix (.var 1) (.con (.int 0))) (.MA 18 (.var 0))) [Zz (.t (.str w)),Zz (.t (.tup (.str h::r))),Zz (.t (.str (ae [32] ws)))] m=.ok (.t (.bl ((dI w).any λa=>a==h))) m:=
   aw (ba (aa rfl)) (Ey (aa rfl) vN (IJ hw)) (Gy h _).1
  show ex _ _ _ _ _=.ok (.ret (.t (.str (if((dI w).any λa=>a==h)=true then _ else _)))) m;cases q:(dI w).any λa=>a==h with
  |true =>
   rw[q]at hc;exact aD hc (ai (nK (ab _) rfl (aa rfl) rfl (ab _) rfl (by simp[lim];omega)))
  |false =>
   rw[q]at hc;rw[ay hc];exact ai (aa rfl)
 exact ax (sh _ _ _) rfl key (aq (cell:=false) rfl)
theorem Hm.mono{s:List Nat}{P P':T->List (List Nat)->Prop}(hp:∀t ws,P t ws->P' t ws){t:T}{ws:List (List Nat)}(h:Hm s P t ws):Hm s P' t ws:=by
 rcases h with h|⟨q,qs,h0,h1,h2,h3,h4⟩
 ·exact .inl (hp _ _ h)
 ·exact .inr ⟨q,qs,h0,hp _ _ h1,λp hq=>hp _ _ (h2 p hq),h3,h4⟩
theorem G1.up:∀{k:Nat}{t:T}{ws:List (List Nat)},G1 k t ws->G1 (k+1) t ws
 |0,t,ws,h=>.inl h
 |k+1,t,ws,h=>by
  rcases h with h|⟨t',ws',h,e1,e2⟩|⟨ws',h,e⟩
  ·exact .inl h
  ·exact .inr (.inl ⟨t',ws',h.up,e1,e2⟩)
  ·exact .inr (.inr ⟨ws',h.mono λ_ _ z=>z.mono λ_ _ z=>z.up,e⟩)
theorem G1.leaf{k:Nat}{t:T}{ws:List (List Nat)}(h:jY t ws):G1 k t ws:=by
 cases k with
 |zero=>exact h
 |succ k=>exact .inl h
def mz(k:Nat)(t:T)(ws:List (List Nat)):Prop:=(gf t=[97,110,100]->GA k t ws)/\(gf t=[111,114]->GO k t ws)/\(gf t≠[97,110,100]->gf t≠[111,114]->G1 k t ws)
theorem mz.go{k:Nat}{t:T}{ws:List (List Nat)}(h:mz k t ws):GO k t ws:=by
 by_cases h1:gf t=[97,110,100]
 ·exact .inl (h.1 h1)
 ·by_cases h2:gf t=[111,114]
  ·exact h.2.1 h2
  ·exact .inl (.inl (h.2.2 h1 h2))
theorem JH(h:List Nat):([[97,110,100],[111,114]].any λa=>a==h)=(decide (h=[97,110,100]) || decide (h=[111,114])):=by
 show([97,110,100]==h || ([111,114]==h || false))=_;rw[Vv]
 congr 1
 ·rw[T7,beq_iff_eq,decide_eq_true_eq];exact eq_comm
 ·rw[T7,beq_iff_eq,decide_eq_true_eq];exact eq_comm
theorem mz.EN{k:Nat}{t:T}{ws:List (List Nat)}(h:mz k t ws):G1 (k+1) t (clos [[97,110,100],[111,114]] t ws):=by
 unfold clos;rw[JH];by_cases h1:gf t=[97,110,100]
 ·rw[XX h1,Bool.true_or,XU rfl]
  exact .inr (.inr ⟨ws,h.go,rfl⟩)
 ·by_cases h2:gf t=[111,114]
  ·rw[XX h2,WE,XU rfl]
   exact .inr (.inr ⟨ws,h.go,rfl⟩)
  ·rw[XW h1,XW h2,Vv,XV RL]
   exact(h.2.2 h1 h2).up
theorem mz.Ks{k:Nat}{t:T}{ws:List (List Nat)}(h:mz k t ws):GA (k+1) t (clos [[111,114]] t ws):=by
 unfold clos;show GA (k+1) t (if([111,114]==gf t || false)=true then _ else _);rw[Vv];by_cases h2:gf t=[111,114]
 ·rw[h2,XU (by decide)]
  exact .inl (.inr (.inr ⟨ws,h.go,rfl⟩))
 ·rw[XV (λz=>h2 (eq_of_beq z).symm)]
  by_cases h1:gf t=[97,110,100]
  ·exact(h.1 h1).mono λ_ _ z=>z.up
  ·exact .inl (h.2.2 h1 h2).up
theorem DQ(s:List Nat)(f:T->List (List Nat))(t:T)(ts:List T):gt s ((t::ts).map f)=(t,f t).2++((ts.map λy=>(y,f y)).flatMap λp=>s::p.2):=by
 rw[RN,gt]
 congr 1
 rw[VB,VB]
structure Tx (d:Nat) (t:T):Prop where
 ne:cw d t≠[]
 sp:∀w∈cw d t,Dv w
 len:(ae [32] (cw d t)).length<=60*tot d [t]
 wt:∀n m,cf (n+2*d) 18 [.t t] m=.ok (.t (.str (ae [32] (cw d t)))) m
 st:∀k,2*d<=k+2->mz k t (cw d t)
theorem IV{d:Nat}{t:T}(h:lQ t):Tx (d+1) t:=by
 obtain⟨h1,h2,h3,h4⟩:=Az (d:=d) h;have htot:tot (d+1) [t]=1:=by rw[eC,h.Kj,fz]
 refine⟨h4,h2,by rw[htot];exact h3,λn m=>?_,?_⟩
 ·have key:∀call,ex call gv bT [Zz (.t t),Zy,Zy] m=.ok (.ret (.t (.str (ae [32] (cw (d+1) t))))) m:=λcall=>by
   unfold bT;cases h with
   |any =>
    rw[av (ba (aa rfl))];exact qi (aa rfl) rfl (ai (aa rfl))
   |@two w v hw hv =>
    obtain⟨_,g2,_⟩:=d9 hv;rw[av (ba (aa rfl)),d5 (aa rfl) (by rcases hw with rfl|rfl<;>rfl)];refine HD (aa rfl) (by rcases hw with rfl|rfl<;>rfl) (ai ((nK (r:=v) (aa rfl) rfl (ab _) rfl (j6 (aa rfl)) rfl ?_).trans rfl));rcases hw with rfl|rfl<;>(simp[lim];omega)
   |@three w v k hw hv k0 k1 =>
    obtain⟨_,g2,_⟩:=d9 hv;obtain⟨_,_,_,f4⟩:=aQ k0 (by omega);have hk:kw (.int k)=Zz (aO k):=XU (by omega);have e2:∀env:Env,env[0]?=Zz (Zz (.t (.tup [.str w,.str v,.int k])))->ev call gv (.ix (.var 0) (.con (.int 2))) env m=.ok (.t (.int k)) m:=λenv he=>aV (aa he) (ab _) rfl
    rw[av (ba (aa rfl)),d5 (aa rfl) (by rcases hw with rfl|rfl<;>rfl),qy (aa rfl) (by rcases hw with rfl|rfl<;>rfl)];rcases hw with rfl|rfl
    ·refine qi (aa rfl) rfl (ai ((nK (j6 (aa rfl)) rfl (ab _) rfl (e2 _ rfl) hk (by simp[lim];omega)).trans ?_))
     show Res.ok (W.t (.str (v++[32,62,61,32]++aO k))) m=.ok (.t (.str (v++[32]++([62,61]++[32]++aO k)))) m;simp
    ·rw[d5 (aa rfl) rfl]
     refine qi (aa rfl) rfl (ai ((nK (j6 (aa rfl)) rfl (ab _) rfl (e2 _ rfl) hk (by simp[lim];omega)).trans ?_));show Res.ok (W.t (.str (v++[32,60,61,32]++aO k))) m=.ok (.t (.str (v++[32]++([60,61]++[32]++aO k)))) m;simp
  exact ax (jC _ _ _) rfl (key _) (aq (cell:=false) rfl)
 ·refine λ_ _=>⟨λz=>?_,λz=>?_,λ_ _=>.leaf h1⟩
  ·cases h with
   |any=>cases z
   |two hw _=>rcases hw with rfl|rfl<;>cases z
   |three hw _ _ _=>rcases hw with rfl|rfl<;>cases z
  ·cases h with
   |any=>cases z
   |two hw _=>rcases hw with rfl|rfl<;>cases z
   |three hw _ _ _=>rcases hw with rfl|rfl<;>cases z
theorem WT.pos{d:Nat}{t:T}(h:WT d t):1<=d:=by cases h<;>omega
theorem Tx.cons{d:Nat}{t:T}(h:WT d t):∃w r,t=.tup (.str w::r):=by
 cases h with
 |leaf h _ _=>obtain⟨w,r,e,_⟩:=AF h;exact⟨w,r,e⟩
 |nt _=>exact⟨_,_,rfl⟩
 |jn _ _ _ _=>exact⟨_,_,rfl⟩
theorem tD{d:Nat}{t:T}(h:WT d t):cw (d+1) (.tup [.str [110,111,116],t])=[110,111,116]::clos [[97,110,100],[111,114]] t (cw d t):=by
 obtain⟨w,r,rfl⟩:=Tx.cons h;rfl
theorem ou{s:List (List Nat)}{t:T}{ws:List (List Nat)}(h:ws≠[]):(ae [32] (clos s t ws)).length<=(ae [32] ws).length+4:=by
 rw[oS h];split
 ·simp only[R8,RE,Rh];omega
 ·omega
theorem wa{s:List (List Nat)}{t:T}{ws:List (List Nat)}(h:∀w∈ws,Dv w):∀w∈clos s t ws,Dv w:=by
 unfold clos;split
 ·intro w hw
  simp only[R9,Rp,R4,or_false]at hw;rcases hw with rfl|hw|rfl
  ·decide
  ·exact h w hw
  ·decide
 ·exact h
theorem LP{d:Nat}{t:T}(hw:WT d t)(h:Tx d t)(hz:60*tot (d+1) [.tup [.str [110,111,116],t]]<=2400):Tx (d+1) (.tup [.str [110,111,116],t]):=by
 have htot:tot (d+1) [.tup [.str [110,111,116],t]]=1+tot d [t]:=by rw[eC,iG]
 have hc:=nk (s:=[[97,110,100],[111,114]]) (t:=t) h.ne;have hcl:=ou (s:=[[97,110,100],[111,114]]) (t:=t) h.ne;have hlen:=h.len;have etext:ae [32] (cw (d+1) (.tup [.str [110,111,116],t]))=[110,111,116,32]++ae [32] (clos [[97,110,100],[111,114]] t (cw d t)):=by
  rw[tD hw];exact(dZ (a:=[[110,111,116]]) (by simp) hc).trans rfl
 refine⟨by rw[tD hw];simp,?_,?_,λn m=>?_,?_⟩
 ·rw[tD hw]
  intro w hm;rcases R9.mp hm with rfl|hm
  ·decide
  ·exact wa h.sp w hm
 ·rw[etext,htot,R8]
  simp only[RE,Rh];omega
 ·obtain⟨a,r,rfl⟩:=Tx.cons hw
  have hi:=vk (N:=n+2*d) (w:=[110,111,116]) (.inl rfl) h.ne (by omega) (λm=>h.wt n m) m;have key:ex (cf (n+2*d+1)) gv bT [Zz (.t (.tup [.str [110,111,116],.tup (.str a::r)])),Zy,Zy] m=.ok (.ret (.t (.str (ae [32] (cw (d+1) (.tup [.str [110,111,116],.tup (.str a::r)])))))) m:=by
   unfold bT;rw[etext,av (ba (aa rfl)),d5 (aa rfl) rfl,qy (aa rfl) rfl,d5 (aa rfl) rfl,d5 (aa rfl) rfl];exact qi (aa rfl) rfl (ai (Jm (ab _) rfl ((al (aa rfl) (j6 (aa rfl))).trans hi) rfl (by show 4+(ae [32] (clos [[97,110,100],[111,114]] _ _)).length<=lim;unfold lim;omega)))
  exact ax (jC _ _ _) rfl key (aq (cell:=false) rfl)
 ·intro k hk
  obtain⟨k,rfl⟩:∃j,k=j+2:=⟨k-2,by have:=hw.pos;omega⟩
  refine⟨(λz=>by cases z),(λz=>by cases z),λ_ _=>?_⟩;rw[tD hw];exact .inr (.inl ⟨t,_,(h.st k (by omega)).EN,rfl,rfl⟩)
theorem xH{d:Nat}{w:List Nat}{ts:List T}(hw:w=[97,110,100]∨w=[111,114]):cw (d+1) (.tup [.str w,.tup ts])=gt w (ts.map λy=>clos (dI w) y (cw d y)):=by
 rcases hw with rfl|rfl<;>rfl
theorem AX{f g:T->Nat}:∀{ts:List T},(∀t∈ts,f t<=g t)->(ts.map f).sum<=(ts.map g).sum
 |[],_=>RD _
 |t::ts,h=>by
  rw[RN,RN,Sx,Sx];exact WP (h t RR) (AX λx hx=>h x (RG _ hx))
theorem wb{f:T->Nat}:∀{ts:List T}{t:T},t∈ts->f t<=(ts.map f).sum
 |x::ts,t,h=>by
  rw[RN,Sx];rcases R9.mp h with rfl|h
  ·omega
  ·have:=wb (f:=f) h
   omega
theorem wm(f:T->Nat)(k c:Nat):∀ts:List T,(ts.map λt=>k*f t+c).sum=k*(ts.map f).sum+c*ts.length
 |[]=>by simp
 |t::ts=>by
  rw[RN,RN,Sx,Sx,wm f k c ts,RE,Wu,Wu];omega
theorem cT(sep:List Nat):∀ys:List (List Nat),(ae sep ys).length<=(ys.map Rf).sum+ys.length*sep.length
 |[]=>by simp[ae]
 |[x]=>by simp[ae]
 |x::y::r=>by
  have ih:=cT sep (y::r);show(x++sep++ae sep (y::r)).length<=_;rw[R8,R8,RN,Sx,RE,Nat.add_mul];omega
theorem dM{call:Nat->List W->Mem->Res W}{gv:List T}{env:Env}{m m1 m2:Mem}{a b:E}{sep:List Nat}{ys:List (List Nat)}(h1:ev call gv a env m=.ok (.t (.str sep)) m1)(h2:ev call gv b env m1=.ok (.t (.lst (ys.map .str))) m2)(hz:(ys.map Rf).sum+ys.length*sep.length<=lim):ev call gv (.eP .join a (.cons b .nil)) env m=.ok (.t (.str (ae sep ys))) m2:=by
 rw[ev,h1,af,F2,XU rfl,am h2 a8,af];have hs:cC (ys.map T.str)=Zz ys:=by
  have:=strs_map (λx:List Nat=>x) ys;simpa using this
 exact GF hs hz
theorem zr{call:Nat->List W->Mem->Res W}{gv:List T}{m:Mem}{c cl:E}{env:Env}{ts:List T}{x1:W}{w:List Nat}{f:T->List Nat}(hc:c=.comp 1 [1] (.ix (.var 0) (.con (.int 1))) (.nm 0) .nil (.emit cl))(h0:env[0]?=Zz (Zz (.t (.tup [.str w,.tup ts]))))(h1:env[1]?=Zz (Zz x1))(hl:ts.length<=100)(hf:∀t∈ts,ev call gv cl [Zz (.t t),Zz x1] m=.ok (.t (.str (f t))) m):
  ev call gv c env m=.ok (.t (.lst ((ts.map f).map .str))) m:=by
 subst hc;have h:=bo (f:=aY call gv .nil (.emit cl)) (tg:=.nm 0) (env:=[Zy,Zz x1]) (m:=m) (g:=λt=>[.str (f t)]) ts (λt ht=>⟨[Zz (.t t),Zz x1],rfl,eH (bS (hf t ht))⟩);rw[bP,show(ts.map λt=>T.str (f t))=(ts.map f).map T.str by rw[Re];rfl]at h;refine aM (x:=.t (.tup ts)) (m0:=m) (m1:=m) (j6 (aa h0)) rfl ?_ (by rw[Q8,Q8];unfold lim;omega);rw[show(RF 1 Zy++[1].map λi=>(env[i]?).join)=[Zy,Zz x1] by simp[h1]];exact h
theorem NZ{d:Nat}{w:List Nat}{ts:List T}(hw:w=[97,110,100]∨w=[111,114])(h2:2<=ts.length)(h6:ts.length<=6)(hts:∀t∈ts,WT d t)(h:∀t∈ts,Tx d t)(hz:60*tot (d+1) [.tup [.str w,.tup ts]]<=2400):Tx (d+1) (.tup [.str w,.tup ts]):=by
 have htot:tot (d+1) [.tup [.str w,.tup ts]]=1+(ts.map λx=>tot d [x]).sum:=by rw[eC,lC hw h2 h6,qY]
 have hsum:(ts.map λt=>(ae [32] (clos (dI w) t (cw d t))).length).sum<=60*(ts.map λx=>tot d [x]).sum+4*ts.length:=by
  rw[<-wm];exact AX λt ht=>RZ (ou (h t ht).ne) (Nat.add_le_add_right (h t ht).len 4)
 have hw3:w.length<=3:=by rcases hw with rfl|rfl<;>decide
 have hsz:((ts.map λt=>ae [32] (clos (dI w) t (cw d t))).map Rf).sum+(ts.map λt=>ae [32] (clos (dI w) t (cw d t))).length*(32::w++[32]).length<=60*(1+(ts.map λx=>tot d [x]).sum):=by
  rw[Re,Q8];have e:(32::w++[32]).length<=5:=by simp;omega
  have e2:ts.length*(32::w++[32]).length<=ts.length*5:=Nat.mul_le_mul_left _ e;have e3:(Ud (Rf ∘ λt=>ae [32] (clos (dI w) t (cw d t))) ts).sum=(ts.map λt=>(ae [32] (clos (dI w) t (cw d t))).length).sum:=rfl;rw[e3];omega
 have etext:ae [32] (cw (d+1) (.tup [.str w,.tup ts]))=ae (32::w++[32]) (ts.map λt=>ae [32] (clos (dI w) t (cw d t))):=by
  rw[xH hw,<-mD,Re]
  ·rfl
  ·intro x hx
   obtain⟨t,ht,rfl⟩:=RI.mp hx;exact nk (h t ht).ne
 have hwn:w=[110,111,116]∨w=[97,110,100]∨w=[111,114]:=.inr hw;have each:∀t∈ts,(ae [32] (cw d t)).length<=3000:=λt ht=>by
  have a1:=(h t ht).len;have a2:tot d [t]<=(ts.map λx=>tot d [x]).sum:=wb (f:=λx=>tot d [x]) ht;omega
 refine⟨?_,?_,?_,λn m=>?_,?_⟩
 ·rw[xH hw]
  cases ts with
  |nil=>simp at h2
  |cons t ts=>exact y0 (nk (h t RR).ne)
 ·rw[xH hw]
  cases ts with
  |nil=>simp at h2
  |cons t ts =>
   intro x hx;rw[RN,gt]at hx;rcases Rp.mp hx with hx|hx
   ·exact wa (h t RR).sp x hx
   ·obtain⟨y,hy,hx⟩:=VC.mp hx
    obtain⟨t',ht',rfl⟩:=RI.mp hy;rcases R9.mp hx with rfl|hx
    ·rcases hw with rfl|rfl<;>decide
    ·exact wa (h t' (RG _ ht')).sp x hx
 ·rw[etext,htot]
  exact RZ (cT _ _) hsz
 ·have key:ex (cf (n+2*d+1)) gv bT [Zz (.t (.tup [.str w,.tup ts])),Zy,Zy] m=.ok (.ret (.t (.str (ae [32] (cw (d+1) (.tup [.str w,.tup ts])))))) m:=by
   unfold bT;rw[etext,av (ba (aa rfl)),d5 (aa rfl) (by rcases hw with rfl|rfl<;>rfl),qy (aa rfl) (by rcases hw with rfl|rfl<;>rfl),d5 (aa rfl) (by rcases hw with rfl|rfl<;>rfl),d5 (aa rfl) (by rcases hw with rfl|rfl<;>rfl),d5 (aa rfl) (by rcases hw with rfl|rfl<;>rfl)];rw[av (nK (ab _) rfl (aa rfl) rfl (ab _) rfl (by simp[lim];omega))];dsimp only[RB,RC];refine ai (dM (aa rfl) (zr (f:=λt=>ae [32] (clos (dI w) t (cw d t))) rfl rfl rfl (by omega) λt ht=>?_) (RZ hsz (by unfold lim;omega)));obtain⟨a,r,rfl⟩:=Tx.cons (hts t ht);exact(al (aa rfl) (aa rfl)).trans (vk hwn (h _ ht).ne (each _ ht) (λm=>(h _ ht).wt n m) m)
  exact ax (jC _ _ _) rfl key (aq (cell:=false) rfl)
 ·intro k hk
  cases ts with
  |nil=>simp at h2
  |cons t ts =>
   obtain⟨k,rfl⟩:∃j,k=j+2:=⟨k-2,by have:=(hts t RR).pos;omega⟩
   have hq:2*d<=k+2:=by omega
   have hne:ts≠[]:=by intro z;subst z;simp at h2
   rw[xH hw,DQ];rcases hw with rfl|rfl
   ·refine⟨λ_=>?_,(λz=>by cases z),λz _=>XZ rfl z⟩
    refine .inr ⟨(t,clos (dI [97,110,100]) t (cw d t)),ts.map λy=>(y,clos (dI [97,110,100]) y (cw d y)),by simpa using hne,((h t RR).st k hq).EN.up,λp hp=>?_,?_,rfl⟩
    ·obtain⟨y,hy,rfl⟩:=RI.mp hp
     exact((h y (RG _ hy)).st k hq).EN.up
    ·rw[Re]
     show T.tup _=T.tup [_,T.tup (t::ts.map (λy=>y))];rw[V1]
   ·refine⟨(λz=>by cases z),λ_=>?_,λ_ z=>XZ rfl z⟩
    refine .inr ⟨(t,clos (dI [111,114]) t (cw d t)),ts.map λy=>(y,clos (dI [111,114]) y (cw d y)),by simpa using hne,((h t RR).st k hq).Ks.mono (λ_ _ z=>z.up),λp hp=>?_,?_,rfl⟩
    ·obtain⟨y,hy,rfl⟩:=RI.mp hp
     exact((h y (RG _ hy)).st k hq).Ks.mono (λ_ _ z=>z.up)
    ·rw[Re]
     show T.tup _=T.tup [_,T.tup (t::ts.map (λy=>y))];rw[V1]
theorem F0:∀{d:Nat}{t:T},WT d t->60*tot d [t]<=2400->Tx d t:=by
 intro d t h
 induction h with
 |leaf hp _ _=>exact λ_=>IV (qV hp)
 |@nt d a hw ih =>
  intro hz;have htot:tot (d+1) [.tup [.str [110,111,116],a]]=1+tot d [a]:=by rw[eC,iG]
  exact LP hw (ih (by omega)) hz
 |@jn d w ts hw h2 h6 hts ih =>
  intro hz;refine NZ hw h2 h6 hts (λt ht=>ih t ht ?_) hz;have htot:tot (d+1) [.tup [.str w,.tup ts]]=1+(ts.map λx=>tot d [x]).sum:=by rw[eC,lC hw h2 h6,qY]
  have a2:tot d [t]<=(ts.map λx=>tot d [x]).sum:=wb (f:=λx=>tot d [x]) ht;omega
theorem E8:∀(n:Nat) (t:T),au n t=true->eqT t t=true:=by
 intro n
 induction n with
 |zero =>
  intro t h;cases t with
  |non=>rfl
  |bl b=>simp[eqT]
  |int b=>simp[eqT]
  |str b=>simp[eqT]
  |tup ts=>simp[au]at h
  |lst ts=>simp[au]at h
  |dct ks ts=>simp[au]at h
  |dr ns=>simp[au]at h
 |succ n ih =>
  have hl:∀ts:List T,aG n ts=true->tQ ts ts=true:=by
   intro ts
   induction ts with
   |nil=>intro _;rfl
   |cons t ts iht =>
    intro h;rw[aG,R6]at h;rw[tQ,ih t h.1,iht h.2];rfl
  intro t h;cases t with
  |tup ts=>rw[au]at h;rw[eqT];exact hl ts h
  |lst ts=>rw[au]at h;rw[eqT];exact hl ts h
  |non=>rfl
  |bl b=>simp[eqT]
  |int b=>simp[eqT]
  |str b=>simp[eqT]
  |dct ks ts=>simp[au]at h
  |dr ns=>simp[au]at h
theorem vJ{t:T}(h:au 60 t=true):bx .NotEq t t=Zz false:=by
 show(if(rV t t || (au 60 t&&au 60 t))=true then Zz (!eqT t t)else Zy)=_;rw[h,W1,WE,XU rfl,E8 60 t h];rfl
theorem eV{k:Nat}{w:List Nat}(h:bf w=true):au k (.str w)=true:=by
 unfold au;show(w.toArray.all λc=>decide (c<0x110000))=true;rw[List.all_toArray,RP];intro c hc;have:c<200:=by
  unfold bf at h;simp only[R6]at h;exact(by decide:∀c∈j0,c<200) c (Xa (RP.mp h.2 c hc))
 exact XX (by omega)
theorem bn{k:Nat}:∀{ts:List T},(∀t∈ts,au k t=true)->aG k ts=true
 |[],_=>by unfold aG;rfl
 |t::ts,h=>by
  unfold aG;rw[h t RR,bn λu hu=>h u (RG _ hu)];rfl
theorem dQ{k:Nat}{w:List Nat}(h:∀c∈w,c<1114112):au k (.str w)=true:=by
 unfold au;show(w.toArray.all λc=>decide (c<0x110000))=true;rw[List.all_toArray,RP];exact λc hc=>XX (h c hc)
theorem HV{k:Nat}{t:T}(h:lQ t):au (k+1) t=true:=by
 cases h with
 |any=>rw[au];exact bn λx hx=>by simp at hx;subst hx;exact dQ (by decide)
 |@two w v hw hv =>
  rw[au];refine bn λx hx=>?_
  simp only[R9,R4,or_false]at hx;rcases hx with rfl|rfl
  ·rcases hw with rfl|rfl<;>exact dQ (by decide)
  ·exact eV hv
 |@three w v n hw hv _ _ =>
  rw[au];refine bn λx hx=>?_
  simp only[R9,R4,or_false]at hx;rcases hx with rfl|rfl|rfl
  ·rcases hw with rfl|rfl<;>exact dQ (by decide)
  ·exact eV hv
  ·unfold au;rfl
mutual
noncomputable def fits:T->Bool
 |.str cs=>decide (cs.length<=lim)
 |.tup ts=>dL ts
 |_=>true
noncomputable def dL:List T->Bool
 |[]=>true
 |t::ts=>fits t&&dL ts
end
theorem bO:∀{ts:List T}{t:T},dL ts=true->t∈ts->fits t=true
 |a::ts,t,h,ht=>by
  rw[dL,R6]at h;rcases R9.mp ht with rfl|ht
  ·exact h.1
  ·exact bO h.2 ht
theorem on:∀{ts:List T},(∀t∈ts,fits t=true)->dL ts=true
 |[],_=>by rw[dL]
 |a::ts,h=>by
  rw[dL,h a RR,on λt ht=>h t (RG _ ht)];rfl
theorem sL{t:T}(h:fits t=true):Mv t:=by
 rintro cs rfl;rw[fits]at h;exact Xa h
theorem KO{t:T}(h:fits t=true):tG t:=by
 cases t with
 |tup ts=>rw[fits]at h;exact λu hu=>sL (bO h hu)
 |_=>exact T8
theorem DY{x:T}(h:fits x=true):∀y∈kids x,fits y=true:=by
 intro y hy;unfold kids at hy;split at hy
 ·rename_i a b
  rw[fits,dL,dL,dL,R6,R6]at h;split at hy
  ·rw[Ro]at hy;subst hy;exact h.2.1
  ·split at hy
   ·cases b with
    |tup ts=>exact bO (by have:=h.2.1;rw[fits]at this;exact this) hy
    |_=>cases hy
   ·cases hy
 ·cases hy
theorem yr:∀(k:Nat) (l:List T),(∀t∈l,fits t=true)->∀y∈lay k l,fits y=true
 |0,l,h=>h
 |k+1,l,h=>yr k _ λt ht=>by
  obtain⟨x,hx,hk⟩:=VC.mp ht;exact DY (h x hx) t hk
theorem FL{x:T}(h:fits x=true):PB x:=λk y hy=>KO (yr k [x] (λt ht=>by rw[Ro]at ht;subst ht;exact h) y hy)
section
variable{call:Nat->List W->Mem->Res W}{gv:List T}{env:Env}{m m1 m2:Mem}{a b e:E}{x y r:T}{w:W}{f:Nat}{bb:B}
theorem wj(h1:ev call gv a env m=.ok (.t x) m1)(h2:ev call gv b env m1=.ok (.t y) m2)(hb:cn bb [x,y]=Zz r):ev call gv (.blt bb (.cons a (.cons b .nil))) env m=.ok (.t r) m2:=by
 simp only[ev,evs,h1,h2,af,Cm,BL,Option.map_some,SX,hb];rfl
end
noncomputable def gK:List (List Nat)->Bool
 |a::b::r=>cY a b&&gK (b::r)
 |_=>true
theorem yU:∀ws:List (List Nat),((SA (ws.length-1)).map λk=>cY (ws.getD k []) (ws.getD (k+1) [])).all id=gK ws
 |[]=>rfl
 |[a]=>rfl
 |a::b::r=>by
  have ih:=yU (b::r);have e:(a::b::r).length-1=((b::r).length-1)+1:=by simp
  rw[e,List.range_succ_eq_map,RN,TU,Re,gK,<-ih];rfl
theorem xS{ws:List (List Nat)}{k:Nat}(h:k<ws.length):atT (ws.map T.str) (k:Int)=Zz (.str (ws.getD k [])):=by
 rw[Fk (by omega) (by rw[Q8];omega)];simp[h]
theorem K7{i j:Int}(h:(i<2^62/\-(2^62)<=i)/\j<2^62/\-(2^62)<=j):cn .kf [.int i,.int j]=Zz (.lst (rangeT i (j-i).toNat)):=XU h
theorem Du(ws:List (List Nat))(l:List Nat):(l.map λk:Nat=>T.int (1+(k:Int))).flatMap (λt=>match t with|.int i=>[T.bl (cY (ws.getD (i.toNat-1) []) (ws.getD i.toNat []))]|_=>[])=l.map λk=>.bl (cY (ws.getD k []) (ws.getD (k+1) [])):=by
 induction l with
 |nil=>rfl
 |cons k l ih =>
  rw[RN,UJ,ih,RN];have e3:(1+(k:Int)).toNat=k+1:=by omega
  simp[e3]
theorem Eb{n:Nat}{m:Mem}{x:T}{ws:List (List Nat)}(hix:∀k:Nat,k<ws.length->y2 x (.int (k:Int))=Zz (.str (ws.getD k []))){k:Nat}(hk:k+1<ws.length):
  aY (cf n) gv .nil m7 [Zz (.t (.int (1+(k:Int)))),Zz (.t x)] m=.ok [.bl (cY (ws.getD k []) (ws.getD (k+1) []))] m:=by
 have e1:(1+(k:Int))-1=((k:Nat):Int):=by omega
 have e2:(1+(k:Int))=((k+1:Nat):Int):=by omega
 have i1:=hix k (by omega);have i2:=hix (k+1) (by omega);rw[<-e1]at i1;rw[<-e2]at i2;simp[aY,tests,m7,ev,evs,cF,aA,dv,i1,i2,bx,nJ,KC,Kb,Ho]
theorem EA{n:Nat}{m:Mem}{x:T}{k:Nat}(hlen:cn .len [x]=Zz (.int (k:Int)))(hk:k<=1000):ev (cf n) gv (.blt .kf (.cons (.con (.int 1)) (.cons (.blt .len (.cons (.var 0) .nil)) .nil))) [Zz (.t x)] m=.ok (.t (.lst (rangeT 1 ((k:Int)-1).toNat))) m:=by
 have hb:(k:Int)<2^62:=by
  have:(1000:Int)<2^62:=by decide
  omega
 have hb2:-(2^62)<=(k:Int):=by omega
 have h2:cn .kf [.int 1,.int (k:Int)]=Zz (.lst (rangeT 1 ((k:Int)-1).toNat)):=K7 ⟨⟨by decide,by decide⟩,hb,hb2⟩;have h3:ev (cf n) gv (.blt .len (.cons (.var 0) .nil)) [Zz (.t x)] m=.ok (.t (.int k)) m:=aB (by rw[ev];rfl) hlen;exact wj (by rw[ev]) h3 h2
theorem DF{n:Nat}{m:Mem}{x:T}{ws:List (List Nat)}(hix:∀k:Nat,k<ws.length->y2 x (.int (k:Int))=Zz (.str (ws.getD k [])))(hlen:cn .len [x]=Zz (.int ws.length))(hl:ws.length<=1000):
  ev (cf n) gv yC [Zz (.t x)] m=.ok (.t (.lst ((SA (ws.length-1)).map λk=>.bl (cY (ws.getD k []) (ws.getD (k+1) []))))) m:=by
 have h:=bo (f:=aY (cf n) gv .nil m7) (tg:=.nm 0) (env:=[Zy,Zz (.t x)]) (m:=m)
  (g:=λt=>match t with|.int i=>[.bl (cY (ws.getD (i.toNat-1) []) (ws.getD i.toNat []))]|_=>[]) (rangeT 1 ((ws.length:Int)-1).toNat) (λt ht=>by
   unfold rangeT at ht;obtain⟨k,hk,rfl⟩:=RI.mp ht;have hk:=Va.mp hk;refine⟨[Zz (.t (.int (1+(k:Int)))),Zz (.t x)],rfl,?_⟩;have e3:(1+(k:Int)).toNat=k+1:=by omega
   simp only[e3,Nat.add_sub_cancel];exact Eb hix (by omega))
 have e:(rangeT 1 ((ws.length:Int)-1).toNat).flatMap (λt=>match t with|.int i=>[T.bl (cY (ws.getD (i.toNat-1) []) (ws.getD i.toNat []))]|_=>[])=(SA (ws.length-1)).map λk=>.bl (cY (ws.getD k []) (ws.getD (k+1) [])):=by
  rw[<-Du];unfold rangeT;rw[show((ws.length:Int)-1).toNat=ws.length-1 by omega]
 rw[e]at h;have hz:((SA (ws.length-1)).map λk=>T.bl (cY (ws.getD k []) (ws.getD (k+1) []))).length<=lim:=by
  rw[Q8,To];unfold lim;omega
 exact aM (x:=.t (.lst (rangeT 1 ((ws.length:Int)-1).toNat))) (m0:=m) (m1:=m) (EA hlen hl) rfl h hz
theorem B2{n:Nat}{m:Mem}{x:T}{ws:List (List Nat)}(hx:x=.tup (ws.map .str)∨x=.lst (ws.map .str))(hl:ws.length<=1000):cf (n+1) 5 [.t x] m=.ok (.t (.bl (gK ws))) m:=by
 have hix:∀k:Nat,k<ws.length->y2 x (.int (k:Int))=Zz (.str (ws.getD k [])):=λk hk=>by
  rcases hx with rfl|rfl
  ·rw[Kk,xS hk]
  ·rw[Kv,xS hk]
 have hlen:cn .len [x]=Zz (.int ws.length):=by
  rcases hx with rfl|rfl
  ·rw[Ck,Q8]
  ·rw[xD,Q8]
 have hc:=DF (n:=n) (m:=m) hix hlen hl;have ha:=vc (d6 (λk=>cY (ws.getD k []) (ws.getD (k+1) [])) (SA (ws.length-1)));rw[yU]at ha;have key:ex (cf n) gv sv [Zz (.t x)] m=.ok (.ret (.t (.bl (gK ws)))) m:=by
  unfold sv;exact ai (aB hc ha)
 exact ax (Hx _ _ _) rfl key (aq (cell:=false) rfl)
noncomputable def Be:T->List Nat
 |.str c=>c
 |_=>[]
theorem o7:∀{ts:List T},ts.all cJ=true->ts=(ts.map Be).map .str
 |[],_=>rfl
 |t::ts,h=>by
  rw[TU,R6]at h;rw[RN,RN,<-o7 h.2];cases t with
  |str c=>rfl
  |_=>cases h.1
noncomputable def jf:T->Bool
 |.tup ts=>decide (ts.length<=6)&&(ts.all cJ&&gK (ts.map Be))
 |_=>false
theorem Ga{n:Nat}{m:Mem}{x:T}(h:fits x=true):cf (n+3) 6 [.t x] m=.ok (.t (.bl (jf x))) m:=by
 have key:ex (cf (n+2)) gv eI [Zz (.t x)] m=.ok (.ret (.t (.bl (jf x)))) m:=by
  unfold eI;cases x with
  |tup ts =>
   by_cases hl:ts.length<=6
   ·have hl':¬(6:Int)<ts.length:=by omega
    rw[ay (m1:=m) (by simp[ev,evs,cF,aA,dv,lU,hl'])];have hc:ev (cf (n+2)) gv l9 [Zz (.t (.tup ts))] m=.ok (.t (.lst (ts.map λt=>.bl (cJ t)))) m:=by
     have h3:=bo (f:=aY (cf (n+2)) gv .nil io) (tg:=.nm 0) (env:=[Zy]) (m:=m) (g:=λt=>[.bl (cJ t)]) ts (λt ht=>⟨[Zz (.t t)],rfl,by
      rw[fits]at h;simp[aY,tests,io,ev,evs,cF,aA,dv,eh (n:=n) (sL (bO h ht))]⟩)
     rw[bP]at h3;exact aM (x:=.t (.tup ts)) (m0:=m) rfl rfl h3 (by rw[Q8];unfold lim;omega)
    have ha:=vc (d6 cJ ts);have hb:(ts.map cJ).all id=ts.all cJ:=by rw[U9];rfl
    rw[hb]at ha;refine ai ?_;cases hw:ts.all cJ with
    |false =>
     rw[hw]at ha;simp only[jf,hw];simp[ev,evs,cF,aA,dv,hc,ha]
    |true =>
     rw[hw]at ha;have hr:=B2 (n:=n+1) (m:=m) (x:=.tup ts) (ws:=ts.map Be) (.inl (congrArg T.tup (o7 hw))) (by rw[Q8];omega);simp only[jf,hw,XX hl];simp[ev,evs,cF,aA,dv,hc,ha,hr]
   ·have hl':(6:Int)<ts.length:=by omega
    refine aD (m1:=m) (by simp[ev,evs,cF,aA,dv,lU,hl']) (ai ?_);simp only[jf,XW hl];simp[ev,evs,cF,aA,dv]
  |_=>exact aD (m1:=m) rfl (ai rfl)
 exact ax (vK _ _ _) rfl key (aq (cell:=false) rfl)
noncomputable def gd:T->Bool
 |.tup [a,b]=>cJ a&&lT b
 |_=>false
theorem Jp{n:Nat}{m:Mem}{x:T}(h:fits x=true):cf (n+3) 7 [.t x] m=.ok (.t (.bl (gd x))) m:=by
 have key:ex (cf (n+2)) gv i8 [Zz (.t x)] m=.ok (.ret (.t (.bl (gd x)))) m:=by
  unfold i8;refine ai ?_;cases x with
  |tup ts =>
   match ts,h with
   |[],_=>rfl
   |[a],_=>rfl
   |[a,b],h =>
    rw[fits]at h;have hw:=eh (n:=n) (m:=m) (x:=a) (sL (bO h (by simp)));have hn:=fu (n:=n) (m:=m) (x:=b);cases hwa:cJ a<;>simp[ev,evs,cF,aA,dv,at0,at1,hw,hn,hwa,gd]
   |a::b::c::r,_ =>
    have h1:¬(r.length:Int)+1+1+1=2:=by omega
    simp[ev,evs,cF,aA,dv,gd,h1]
  |_=>rfl
 exact ax (Af _ _ _) rfl key (aq (cell:=false) rfl)
noncomputable def yv:T->T
 |.tup (a::_)=>a
 |_=>.non
theorem zk{t:T}(h:gd t=true):∃a b,t=.tup [a,b]/\cJ a=true:=by
 unfold gd at h;split at h
 ·rw[R6]at h
  exact⟨_,_,rfl,h.1⟩
 ·cases h
noncomputable def ku:T->Bool
 |.tup ts=>decide (ts.length<=6)&&(ts.all gd&&gK ((ts.map yv).map Be))
 |_=>false
theorem Fq{n:Nat}{m:Mem}{x:T}(h:fits x=true):cf (n+4) 8 [.t x] m=.ok (.t (.bl (ku x))) m:=by
 have key:ex (cf (n+3)) gv eX [Zz (.t x)] m=.ok (.ret (.t (.bl (ku x)))) m:=by
  unfold eX;cases x with
  |tup ts =>
   rw[fits]at h;by_cases hl:ts.length<=6
   ·have hl':¬(6:Int)<ts.length:=by omega
    rw[ay (m1:=m) (by simp[ev,evs,cF,aA,dv,l7,hl'])];have hc:ev (cf (n+3)) gv ma [Zz (.t (.tup ts))] m=.ok (.t (.lst (ts.map λt=>.bl (gd t)))) m:=by
     have h3:=bo (f:=aY (cf (n+3)) gv .nil iB) (tg:=.nm 0) (env:=[Zy]) (m:=m) (g:=λt=>[.bl (gd t)]) ts (λt ht=>⟨[Zz (.t t)],rfl,by
      simp[aY,tests,iB,ev,evs,cF,aA,dv,Jp (n:=n) (bO h ht)]⟩)
     rw[bP]at h3;exact aM (x:=.t (.tup ts)) (m0:=m) rfl rfl h3 (by rw[Q8];unfold lim;omega)
    have ha:=vc (d6 gd ts);have hb:(ts.map gd).all id=ts.all gd:=by rw[U9];rfl
    rw[hb]at ha;refine ai ?_;cases hw:ts.all gd with
    |false =>
     rw[hw]at ha;simp only[ku,hw];simp[ev,evs,cF,aA,dv,hc,ha]
    |true =>
     rw[hw]at ha;have hs:∀t∈ts,gd t=true:=λt ht=>RP.mp hw t ht
     have hf:ev (cf (n+3)) gv lZ [Zz (.t (.tup ts))] m=.ok (.t (.lst (ts.map yv))) m:=by
      have h3:=bo (f:=aY (cf (n+3)) gv .nil iu) (tg:=.nm 0) (env:=[Zy]) (m:=m) (g:=λt=>[yv t]) ts (λt ht=>⟨[Zz (.t t)],rfl,by
       obtain⟨a,b,rfl,_⟩:=zk (hs t ht);simp[aY,tests,iu,ev,evs,cF,aA,dv,at0,yv]⟩)
      rw[bP]at h3;exact aM (x:=.t (.tup ts)) (m0:=m) rfl rfl h3 (by rw[Q8];unfold lim;omega)
     have hw2:(ts.map yv).all cJ=true:=RP.mpr λt ht=>by
      obtain⟨u,hu,rfl⟩:=RI.mp ht;obtain⟨a,b,rfl,hwa⟩:=zk (hs u hu);exact hwa
     have hr:=B2 (n:=n+2) (m:=m) (x:=.lst (ts.map yv)) (ws:=(ts.map yv).map Be) (.inr (congrArg T.lst (o7 hw2))) (by rw[Q8,Q8];omega);simp only[ku,hw,XX hl,W1];rw[jP (aB hc ha),ar hf];exact hr
   ·have hl':(6:Int)<ts.length:=by omega
    refine aD (m1:=m) (by simp[ev,evs,cF,aA,dv,l7,hl']) (ai ?_);simp only[ku,XW hl];simp[ev,evs,cF,aA,dv]
  |_=>exact aD (m1:=m) rfl (ai rfl)
 exact ax (vH _ _ _) rfl key (aq (cell:=false) rfl)
noncomputable def l0:T->Bool
 |.tup [a,b,c,d]=>cJ a&&(cJ b&&(jf c&&ku d))
 |_=>false
theorem P1{α:Type}(a b c d:α)(r:List α):atT (a::b::c::d::r) 3=Zz d:=by
 have:(3:Int)<(r.length:Int)+1+1+1+1:=by omega
 simp[atT,jq,this]
theorem EH{ts:List T}(h:¬ts.length=4):l0 (.tup ts)=false:=by
 unfold l0;split
 ·rename_i e;cases e;exact XZ rfl h
 ·rfl
theorem Bm{n:Nat}{m:Mem}{x:T}(h:fits x=true):cf (n+5) 9 [.t x] m=.ok (.t (.bl (l0 x))) m:=by
 have key:ex (cf (n+4)) gv iQ [Zz (.t x)] m=.ok (.ret (.t (.bl (l0 x)))) m:=by
  unfold iQ;cases x with
  |tup ts =>
   by_cases hl:ts.length=4
   ·match ts,hl,h with
    |[a,b,c,d],_,h =>
     rw[fits]at h;have ha:=eh (n:=n+2) (m:=m) (x:=a) (sL (bO h (by simp)));have hb:=eh (n:=n+2) (m:=m) (x:=b) (sL (bO h (by simp)));have hc:=Ga (n:=n+1) (m:=m) (x:=c) (bO h (by simp));have hd:=Fq (n:=n) (m:=m) (x:=d) (bO h (by simp));rw[ay (m1:=m) rfl];refine ai ?_;cases hwa:cJ a<;>cases hwb:cJ b<;>cases hmc:jf c<;>simp[ev,evs,cF,aA,dv,at0,at1,at2,P1,ha,hb,hc,hd,hwa,hwb,hmc,l0]
   ·have hl':¬(ts.length:Int)=4:=by omega
    exact aD (m1:=m) (by simp[ev,evs,cF,aA,dv,hl']) (ai (by simp[ev,evs,cF,aA,dv,EH hl]))
  |_=>exact aD (m1:=m) rfl (ai rfl)
 exact ax (AK _ _ _) rfl key (aq (cell:=false) rfl)
theorem AO{n:Nat}{m:Mem}{x:T}:cf (n+3) 4 [.t x] m=.ok (.t (.bl (lT x))) m:=by
 rw[zL];simp[lI,ex,ev,evs,Res.bind,fu,fin]
noncomputable def oI(x:T)(lo hi:Int):Bool:=match x with
 |.int i=>decide (lo<=i)&&decide (i<=hi)
 |_=>false
theorem An{n:Nat}{m:Mem}{x:T}{lo hi:Int}:cf (n+2) 16 [.t x,.t (.int lo),.t (.int hi)] m=.ok (.t (.bl (oI x lo hi))) m:=by
 rw[uf];cases x with
 |int i=>by_cases h:lo<=i<;>simp[dB,ex,ev,evs,Res.bind,view,dy,cF,jV,fin,ii,bx,nJ,KC,Kb,Ho,oI,h]
 |_=>simp[dB,ex,ev,evs,Res.bind,view,dy,cF,jV,fin,ii,oI]
noncomputable def sides:List (List Nat):=[[103,105,118,101],[116,97,107,101],[98,101,97,114]]
noncomputable def tK(x y:T):Bool:=match y with
 |.int k=>oI x 1 k
 |_=>false
noncomputable def fh:T->Bool
 |.tup [a,b,c,d,e,f,g]=>oneOf a sides&&(l0 b&&(gq c&&(oI d 1 1000000&&(tK e d&&(oI f 0 1000&&lT g)))))
 |_=>false
theorem DN{ts:List T}(h:¬ts.length=7):fh (.tup ts)=false:=by
 unfold fh;split
 ·rename_i e;cases e;exact XZ rfl h
 ·rfl
theorem DO{n:Nat}{m:Mem}{x:T}:cf (n+1) 10 [.t x,.t (.tup [.str [103,105,118,101],.str [116,97,107,101],.str [98,101,97,114]])] m=.ok (.t (.bl (oneOf x sides))) m:=pG (ws:=sides)
theorem ym{n:Nat}{m:Mem}{x:T}(h:fits x=true):cf (n+6) 17 [.t x] m=.ok (.t (.bl (fh x))) m:=by
 have key:ex (cf (n+5)) gv gh [Zz (.t x),Zy,Zy,Zy,Zy,Zy,Zy,Zy] m=.ok (.ret (.t (.bl (fh x)))) m:=by
  unfold gh;cases x with
  |tup ts =>
   by_cases hl:ts.length=7
   ·match ts,hl,h with
    |[a,b,c,d,e,f,g],_,h =>
     rw[fits]at h;rw[ay (m1:=m) rfl];rw[gD (t:=.tup [a,b,c,d,e,f,g]) (m1:=m) (env':=[Zz (.t (.tup [a,b,c,d,e,f,g])),Zz (.t a),Zz (.t b),Zz (.t c),Zz (.t d),Zz (.t e),Zz (.t f),Zz (.t g)]) rfl rfl];generalize hE:([Zz (.t (.tup [a,b,c,d,e,f,g])),Zz (.t a),Zz (.t b),Zz (.t c),Zz (.t d),Zz (.t e),Zz (.t f),Zz (.t g)]:Env)=env;have hside:ev (cf (n+5)) gv (.call 10 (.cons (.var 1) (.cons (.gl 10) .nil))) env m=.ok (.t (.bl (oneOf a sides))) m:=by subst hE;exact(jN (am (aa rfl) (am (jZ FT) a8))).trans (DO (n:=n+4))
     have hcard:ev (cf (n+5)) gv (.call 9 (.cons (.var 2) .nil)) env m=.ok (.t (.bl (l0 b))) m:=by subst hE;exact(jN (am (aa rfl) a8)).trans (Bm (n:=n) (bO h (show b∈[a,b,c,d,e,f,g] by simp)))
     have hwish:ev (cf (n+5)) gv (.call 15 (.cons (.var 3) .nil)) env m=.ok (.t (.bl (gq c))) m:=by subst hE;exact(jN (am (aa rfl) a8)).trans (tL (n:=n) (FL (bO h (show c∈[a,b,c,d,e,f,g] by simp))))
     have hmany:ev (cf (n+5)) gv (.call 16 (.cons (.var 4) (.cons (.con (.int 1)) (.cons (.gl 11) .nil)))) env m=.ok (.t (.bl (oI d 1 1000000))) m:=by subst hE;exact(jN (am (aa rfl) (am (ab _) (am (jZ pB) a8)))).trans (An (n:=n+3))
     have hleast:∀k,d=.int k->ev (cf (n+5)) gv (.call 16 (.cons (.var 5) (.cons (.con (.int 1)) (.cons (.var 4) .nil)))) env m=.ok (.t (.bl (tK e d))) m:=by rintro k rfl;subst hE;exact(jN (am (aa rfl) (am (ab _) (am (aa rfl) a8)))).trans (An (n:=n+3))
     have hweight:ev (cf (n+5)) gv (.call 16 (.cons (.var 6) (.cons (.con (.int 0)) (.cons (.gl 12) .nil)))) env m=.ok (.t (.bl (oI f 0 1000))) m:=by subst hE;exact(jN (am (aa rfl) (am (ab _) (am (jZ mC) a8)))).trans (An (n:=n+3))
     have htill:ev (cf (n+5)) gv (.call 4 (.cons (.var 7) .nil)) env m=.ok (.t (.bl (lT g))) m:=by subst hE;exact(jN (am (aa rfl) a8)).trans (AO (n:=n+2))
     have hfalse:∀k:S,ex (cf (n+5)) gv (.ret (.con (.bl false)) k) env m=.ok (.ret (.t (.bl false))) m:=λk=>ai (by rw[ev])
     cases v1:oneOf a sides with
     |false =>
      rw[v1]at hside;rw[aD (j9 (bA hside)) (hfalse _)];simp[fh,v1]
     |true =>
     rw[v1]at hside;cases v2:l0 b with
     |false =>
      rw[v2]at hcard;rw[aD ((bN (bA hside)).trans (j9 (bA hcard))) (hfalse _)];simp[fh,v2]
     |true =>
     rw[v2]at hcard;cases v3:gq c with
     |false =>
      rw[v3]at hwish;rw[aD ((bN (bA hside)).trans ((bN (bA hcard)).trans (bA hwish))) (hfalse _)];simp[fh,v3]
     |true =>
     rw[v3]at hwish;rw[ay ((bN (bA hside)).trans ((bN (bA hcard)).trans (bA hwish)))];cases v4:oI d 1 1000000 with
     |false =>
      rw[v4]at hmany;rw[aD (j9 (bA hmany)) (hfalse _)];simp[fh,v4]
     |true =>
     have hk:∃k,d=.int k:=by
      cases d with
      |int k=>exact⟨k,rfl⟩
      |_=>cases v4
     obtain⟨k,hk⟩:=hk;have hleast:=hleast k hk;rw[v4]at hmany;cases v5:tK e d with
     |false =>
      rw[v5]at hleast;rw[aD ((bN (bA hmany)).trans (bA hleast)) (hfalse _)];simp[fh,v5]
     |true =>
     rw[v5]at hleast;rw[ay ((bN (bA hmany)).trans (bA hleast))];refine ai ?_;have ho:fh (.tup [a,b,c,d,e,f,g])=(oI f 0 1000&&lT g):=by simp[fh,v1,v2,v3,v4,v5]
     rw[ho];cases v6:oI f 0 1000 with
     |false=>rw[v6]at hweight;rw[xc hweight];rfl
     |true=>rw[v6]at hweight;rw[jP hweight,htill];rfl
   ·have hl':¬(ts.length:Int)=7:=by omega
    exact aD (m1:=m) (by simp[ev,evs,cF,aA,dv,hl']) (ai (by simp[ev,evs,cF,aA,dv,DN hl]))
  |_=>exact aD (m1:=m) rfl (ai rfl)
 exact ax (yg _ _ _) rfl key (aq (cell:=false) rfl)
theorem BG:∀{a b:List Nat},cY a b=false->cY b a=false->a=b
 |[],[],_,_=>rfl
 |[],_::_,h,_=>by cases h
 |_::_,[],_,h=>by cases h
 |a::x,b::y,h1,h2=>by
  unfold cY at h1 h2;by_cases q:a<b
  ·rw[XU q]at h1;cases h1
  ·by_cases q2:b<a
   ·rw[XU q2]at h2;cases h2
   ·rw[XV q,XV q2]at h1
    rw[XV q2,XV q]at h2;rw[show a=b by omega,BG h1 h2]
theorem kL:∀{xs:List (List Nat)},xs.Pairwise (λa b=>cY b a=false)->xs.Nodup->gK xs=true
 |[],_,_=>rfl
 |[_],_,_=>rfl
 |a::b::r,h,hn=>by
  have h1:=(SE.mp h).1 b (by simp);have h2:cY a b=true:=by
   cases q:cY a b with
   |true=>rfl
   |false=>exact XZ (BG q h1) λz=>by rw[z]at hn;simp at hn
  show(cY a b&&gK (b::r))=true;rw[h2,kL (SE.mp h).2 (Ug.mp hn).2];rfl
theorem Dd{xs:List (List Nat)}(hn:xs.Nodup):gK (gN xs)=true:=kL (sI xs) ((gn xs).nodup_iff.mpr hn)
theorem u9{n:Nat}{m:Mem}{i:Nat}{e1 e2:Option W}(hi:i<m.length):∀(ts:List T) (ls fs:List (List Nat)) (s:List T) (e5:Option W),bv s->ts.length<=ls.length->ls.length<=30->ts.length+fs.length<=60 ->
  ∃(ls' fs':List (List Nat)) (s':List T) (e5':Option W),ca (ex (cf (n+3)) gv jd) (.nm 5) ts [Zz (.c i),e1,e2,Zz (.c m.length),Zz (.c (m.length+1)),e5] (put (m++[Zz (false,ls.map .str),Zz (false,fs.map .str)]) i s)=.ok (.next [Zz (.c i),e1,e2,Zz (.c m.length),Zz (.c (m.length+1)),e5']) (put (m++[Zz (false,ls'.map .str),Zz (false,fs'.map .str)]) i s')/\bv s'/\fs'.length=fs.length+ts.length/\(fs'++ls').Perm (fs++ls)
 |[],ls,fs,s,e5,hs,_,_,_=>⟨ls,fs,s,e5,rfl,hs,rfl,.refl _⟩
 |t::ts,ls,fs,s,e5,hs,h1,h2,h3=>by
  rw[RE]at h1 h3;obtain⟨l1,f1,s1,g1,hs1,k1,k2,p1⟩:=DW (n:=n) (e1:=e1) (e2:=e2) (x:=t) (ls:=ls) (fs:=fs) hi hs (by omega) (by omega) (by omega);obtain⟨l2,f2,s2,e6,g2,hs2,k3,p2⟩:=u9 hi ts l1 f1 s1 (Zz (.t t)) hs1 (by omega) (by omega) (by omega);refine⟨l2,f2,s2,e6,?_,hs2,by rw[k3,k2,RE];omega,p2.trans p1⟩;rw[ca];show(ex (cf (n+3)) gv jd [Zz (.c i),e1,e2,Zz (.c m.length),Zz (.c (m.length+1)),Zz (.t t)] _).bind _=_;rw[g1];exact g2
theorem xI(x:List Nat):∀l,(wv x l).length=l.length+1
 |[]=>rfl
 |y::r=>by
  unfold wv;split
  ·rw[RE,xI x r,RE]
  ·rfl
theorem uU:∀xs:List (List Nat),(gN xs).length=xs.length
 |[]=>rfl
 |x::xs=>by rw[show gN (x::xs)=wv x (gN xs)from rfl,xI,uU xs,RE]
theorem kS(xs:List (List Nat)):cC (xs.map T.str)=Zz xs:=by
 have:=strs_map (λc:List Nat=>c) xs;simpa using this
theorem IE{n:Nat}{m:Mem}{i:Nat}{s:List T}{ws:List (List Nat)}{most:Nat}(hi:i<m.length)(hs:bv s)(h1:most<=ws.length)(h2:ws.length<=20)(hd:ws.Nodup):
  ∃(fs:List (List Nat)) (s':List T),cf (n+4) 47 [.c i,.t (.lst (ws.map .str)),.t (.int (most:Int))] (put m i s)=.ok (.t (.tup (fs.map .str))) (put m i s')/\bv s'/\fs.length<=most/\gK fs=true/\∀w∈fs,w∈ws:=by
 have hi2:i<(m++[Zz (false,ws.map T.str),Zz (false,([]:List T))]).length:=by rw[R8];omega
 obtain⟨r,s1,d1,hs1,r0,r1⟩:=aL (n:=n) (many:=(most:Int)+1) hi2 hs (by omega) (by omega);obtain⟨l2,f2,s2,e5,g2,hs2,k2,p2⟩:=u9 (n:=n) (e1:=Zz (.t (.lst (ws.map .str)))) (e2:=Zz (.t (.int (most:Int)))) hi (rangeT 0 r.toNat) ws [] s1 Zy hs1 (by simp[rangeT];omega) (by omega) (by simp[rangeT];omega);have hl:(rangeT 0 r.toNat).length=r.toNat:=by simp[rangeT]
 rw[hl]at k2;have hk:f2.length<=most:=by rw[k2];simp;omega
 have hn:f2.Nodup:=(List.nodup_append.mp (p2.nodup_iff.mpr hd)).1;refine⟨gN f2,s2,?_,hs2,by rw[uU];exact hk,Dd hn,λw hw=>p2.mem_iff.mp (SK _ ((gn f2).mem_iff.mp hw))⟩;have key:ex (cf (n+3)) gv nu [Zz (.c i),Zz (.t (.lst (ws.map .str))),Zz (.t (.int (most:Int))),Zy,Zy,Zy] (put m i s)=.ok (.ret (.t (.tup ((gN f2).map .str)))) (put (m++[Zz (false,l2.map .str),Zz (false,f2.map .str)]) i s2):=by
  unfold nu;have c1:ev (cf (n+3)) gv (.DZ (.var 1)) [Zz (.c i),Zz (.t (.lst (ws.map .str))),Zz (.t (.int (most:Int))),Zy,Zy,Zy] (put m i s)=.ok (.c m.length) (put m i s++[Zz (false,ws.map .str)]):=by
   rw[ev,aa rfl,af];simp[view,aF]
  rw[av c1];simp only[RB,RC];have c2:ev (cf (n+3)) gv (.zn .nil) [Zz (.c i),Zz (.t (.lst (ws.map .str))),Zz (.t (.int (most:Int))),Zz (.c m.length),Zy,Zy] (put m i s++[Zz (false,ws.map .str)])=.ok (.c (m.length+1)) (put (m++[Zz (false,ws.map .str),Zz (false,[])]) i s):=by
   rw[cP hi];simp[ev,evs,af,cI,lim,aF]
  rw[av c2];simp only[RB,RC];have hr:=pH (i:=r) ⟨by omega,by omega⟩;have hit:ev (cf (n+3)) gv (.blt .dm (.cons (.call 46 (.cons (.var 0) (.cons (.bin .Add (.var 2) (.con (.int 1))) .nil))) .nil)) [Zz (.c i),Zz (.t (.lst (ws.map .str))),Zz (.t (.int (most:Int))),Zz (.c m.length),Zz (.c (m.length+1)),Zy] (put (m++[Zz (false,ws.map .str),Zz (false,[])]) i s)=.ok (.t (.lst (rangeT 0 r.toNat))) (put (m++[Zz (false,ws.map .str),Zz (false,[])]) i s1):=
   aB ((al (aa rfl) (az (aa rfl) (ab _) (db _ _))).trans d1) hr
  rw[mV hit rfl g2];refine ai (aB (x:=.lst ((gN f2).map .str)) ?_ (jG _));have hv:∀ws,views (.c (m.length+1)::ws) (put (m++[Zz (false,l2.map .str),Zz (false,f2.map .str)]) i s2)=(views ws (put (m++[Zz (false,l2.map .str),Zz (false,f2.map .str)]) i s2)).map (.lst (f2.map .str)::·):=λws=>by
   simp[views,view,L8 hi]
  show ev (cf (n+3)) gv (.blt .sorted (.cons (.var 4) .nil)) _ (put (m++[Zz (false,l2.map .str),Zz (false,f2.map .str)]) i s2)=_;rw[ev,evs,aa rfl,af,evs,af,af,hv];show dy ((cC (f2.map T.str)).bind λxs=>if xs.length<64 then Zz (T.lst ((gN xs).map .str))else Zy) _=_;rw[kS,SX,XU (by omega)];rfl
 rw[G8];simp only[RE,Rh,RN,Tk,if_true,RF,VA,Sq,V0];rw[key];show Res.ok _ ((put (m++[Zz (false,l2.map .str),Zz (false,f2.map .str)]) i s2).take (put m i s).length)=_;rw[aF,Fg hi]
theorem Ek{α:Type}{f:α->T}{P:α->Prop}{ts:List T}{xss:List (List T)}(h:u7 (λ_ xs=>∃c,P c/\xs=[f c]) ts xss):∃cs:List α,xss.flatten=cs.map f/\cs.length=ts.length/\∀c∈cs,P c:=by
 induction h with
 |nil=>exact⟨[],rfl,rfl,λ_ h=>by cases h⟩
 |cons h _ ih =>
  obtain⟨c,hc,rfl⟩:=h;obtain⟨cs,h1,h2,h3⟩:=ih;exact⟨c::cs,by rw[SZ,h1];rfl,by simp[h2],by simpa using⟨hc,h3⟩⟩
theorem drawn{α:Type}{f:α->T}{P:α->Prop}{n own:Nat}{keep:List Nat}{c it e inner:E}{tg:Tg}{env:Env}{m m0:Mem}{i:Nat}{s:List T}{x:T}{ts:List T}(hc:c=.comp own keep it tg .nil inner)(he:inner=.emit e)(hs:bv s)(h0:ev (cf n) gv it env m0=.ok (.t x) (put m i s))(hx:o9 x=Zz ts)(hl:ts.length<=lim)(h:∀t∈ts,∀s,bv s->∃env' c s',bK tg t (RF own Zy++keep.map λi=>(env[i]?).join)=Zz env'/\ev (cf n) gv e env' (put m i s)=.ok (.t (f c)) (put m i s')/\bv s'/\P c):
  ∃(cs:List α) (s':List T),ev (cf n) gv c env m0=.ok (.t (.lst (cs.map f))) (put m i s')/\bv s'/\cs.length=ts.length/\∀c∈cs,P c:=by
 subst hc he;obtain⟨xss,m',h2,⟨s2,rfl,hs2⟩,ht⟩:=sx (f:=aY (cf n) gv .nil (.emit e)) (tg:=tg) (env:=RF own Zy++keep.map λi=>(env[i]?).join) (P:=λm'=>∃s,m'=put m i s/\bv s) (R:=λ_ xs=>∃c,P c/\xs=[f c]) ts (put m i s) ⟨s,rfl,hs⟩ (by
  rintro t ht m' ⟨s,rfl,hs⟩;obtain⟨env',c,s',h1,h2,h3,h4⟩:=h t ht s hs;exact⟨env',_,_,h1,eH (bS h2),⟨s',rfl,h3⟩,c,h4,rfl⟩)
 obtain⟨cs,e1,e2,e3⟩:=Ek ht;rw[e1]at h2;exact⟨cs,s2,aM (x:=.t x) h0 (by simp[bc,hx]) h2 (by rw[Q8];omega),hs2,e2,e3⟩
section
variable{n:Nat}{m:Mem}{i:Nat}{s:List T}
theorem uy(hi:i<m.length)(hs:bv s):∃(v:Int) (s':List T),cf (n+4) 48 [.c i] (put m i s)=.ok (.t (.int v)) (put m i s')/\bv s'/\0<=v/\v<=1000000000:=by
 obtain⟨r1,s1,h1,hs1,a0,a1⟩:=aL (n:=n) (many:=10) hi hs (by decide) (by decide);obtain⟨r2,s2,h2,hs2,b0,b1⟩:=aL (n:=n) (many:=10) hi hs1 (by decide) (by decide);obtain⟨r3,s3,h3,hs3,c0,c1⟩:=aL (n:=n) (many:=2) hi hs2 (by decide) (by decide);obtain⟨r5,s5,h5,hs5,k0,k1⟩:=aL (n:=n) (many:=8) hi hs3 (by decide) (by decide);obtain⟨z,hz,hzm⟩:=jk (xs:=[T.int r1,.int r2,.int (1000000000-r3)]) (i:=r5 / 3%3) (by omega) (by simp;omega);have hz':∃v:Int,z=.int v/\0<=v/\v<=1000000000:=by
  simp only[R9,R4,or_false]at hzm;rcases hzm with rfl|rfl|rfl<;>exact⟨_,rfl,by omega,by omega⟩
 obtain⟨v,rfl,hv⟩:=hz';refine⟨v,s5,?_,hs5,hv⟩;have key:ex (cf (n+3)) gv iY [Zz (.c i)] (put m i s)=.ok (.ret (.t (.int v))) (put m i s5):=by
  unfold iY;exact ai (aV (bL (am ((al (aa rfl) (ab _)).trans h1) (am ((al (aa rfl) (ab _)).trans h2) (am (az (az (ab _) (ab _) rfl) ((al (aa rfl) (ab _)).trans h3) (yA _ _)) a8))) rfl bi) (az (az ((al (aa rfl) (ab _)).trans h5) (ab _) (zm (by decide))) (ab _) (lY (by decide))) hz)
 exact ax (Bq _ _ _) rfl key (aq (cell:=false) (by rw[aF,aF]))
theorem r8(cs:List Nat):ae [] (cs.map λc=>[c])=cs:=by
 rw[uO,<-List.flatMap_def,bP];simp
theorem BX(hi:i<m.length)(hs:bv s):∃(cs:List Nat) (s':List T),cf (n+4) 49 [.c i] (put m i s)=.ok (.t (.str cs)) (put m i s')/\bv s'/\bf cs=true:=by
 have key:∃(cs:List Nat) (s':List T),ex (cf (n+3)) gv n5 [Zz (.c i),Zy,Zy] (put m i s)=.ok (.ret (.t (.str cs))) (put m i s')/\bv s'/\bf cs=true:=by
  obtain⟨r,s1,d1,hs1,r0,r1⟩:=aL (n:=n) (many:=8) hi hs (by decide) (by decide);unfold n5;rw[av (ab _)];obtain⟨cs,s2,h2,hs2,l2,hl⟩:=drawn (c:=oY) (f:=λc=>T.str [c]) (P:=λc=>c∈j0) (env:=[Zz (.c i),Zz (.t (.str j0)),Zy]) rfl rfl hs1 (aB (az (ab (.int 1)) ((al (aa rfl) (ab (.int 8))).trans d1) (db _ _)) (pH (show 1+r<2^62/\-(2^62)<=1+r by omega))) rfl (by simp[rangeT,lim];omega) (λt _ s hs=>by
   obtain⟨q,s3,h3,hs3,hq0,hq1⟩:=aL (n:=n) (many:=26) hi hs (by decide) (by decide);obtain⟨c,hc,hcm⟩:=jk (xs:=j0) hq0 (by simpa[j0]using hq1);exact⟨_,c,s3,rfl,aV (aa rfl) ((al (aa rfl) (ab _)).trans h3) (by rw[Ke (by decide),hc];rfl),hs3,hcm⟩)
  have l8:1<=cs.length/\cs.length<=8:=by simp[rangeT]at l2;omega
  have hj:=GF (m:=put m i s2) (sep:=[]) (strs_map (λc=>[c]) cs) (by rw[JQ,Rh,Nat.mul_zero];unfold lim;omega);rw[r8]at hj;have h2:ev (cf (n+3)) gv oY [Zz (.c i),Zz (.t (.str [97,98,99,100,101,102,103,104,105,106,107,108,109,110,111,112,113,114,115,116,117,118,119,120,121,122])),Zy] (put m i s)=_:=h2;simp only[RB,RC];rw[av (w:=.t (.str cs)) (m1:=put m i s2) (by simp[ev,evs,cF,aA,dv,F2,h2,hj])];have hin:bx .In (.str cs) (.tup [.str [97,110,121],.str [105,115],.str [98,121],.str [110,111,116],.str [97,110,100],.str [111,114]])=Zz (oH cs):=by
   rcases cs with _|⟨c,_|⟨d,r⟩⟩<;>simp[bx,nJ,KC,Kb,Ho,B6]
  cases h6:oH cs with
  |true =>
   have hc:cs∈six:=by
    obtain⟨a,ha,hb⟩:=UT.mp h6;rw[<-eq_of_beq hb];exact ha
   refine⟨cs++[113],s2,aD (m1:=put m i s2) (by simp[ev,evs,cF,aA,dv,lim,hin,h6]) (ai (by simp[ev,evs,cF,aA,dv,dW (a:=cs) (b:=[113]) (by simp[lim];omega)])),hs2,?_⟩;simp only[six,R9,R4,or_false]at hc;rcases hc with rfl|rfl|rfl|rfl|rfl|rfl<;>decide
  |false =>
   refine⟨cs,s2,?_,hs2,?_⟩
   ·rw[ay (m1:=put m i s2) (by simp[ev,evs,cF,aA,dv,lim,hin,h6])]
    exact ai (by simp[ev,evs,cF,aA,dv])
   ·simp[bf,h6,l8]
    exact hl
 obtain⟨cs,s',e,hs',hw⟩:=key;exact⟨cs,s',ax (ER _ _ _) rfl e (aq (cell:=false) (by rw[aF,aF])),hs',hw⟩
theorem kP{ws:List (List Nat)}(hi:i<m.length)(hs:bv s)(h0:0<ws.length)(h1:ws.length<100)(hw:ws.all bf=true):∃(cs:List Nat) (s':List T),cf (n+5) 50 [.c i,.t (.lst (ws.map .str))] (put m i s)=.ok (.t (.str cs)) (put m i s')/\bv s'/\bf cs=true:=by
 have key:∃(cs:List Nat) (s':List T),ex (cf (n+4)) gv nO [Zz (.c i),Zz (.t (.lst (ws.map .str)))] (put m i s)=.ok (.ret (.t (.str cs))) (put m i s')/\bv s'/\bf cs=true:=by
  obtain⟨r,s1,d1,hs1,r0,r1⟩:=aL (n:=n+1) (many:=3) hi hs (by decide) (by decide);unfold nO;have c1:=aw (op:=.Eq) ((al (f:=46) (call:=cf (n+4)) (gv:=gv) (env:=[Zz (.c i),Zz (.t (.lst (ws.map .str)))]) (a:=.var 0) (aa rfl) (ab (.int 3))).trans d1) (ab (.int 0)) (jU _ _);cases hr:r==0 with
  |true =>
   rw[hr]at c1;obtain⟨cs,s2,d2,hs2,h2⟩:=BX (n:=n) hi hs1;exact⟨cs,s2,aD c1 (ai ((ar (aa rfl)).trans d2)),hs2,h2⟩
  |false =>
   rw[hr]at c1;obtain⟨q,s2,d2,hs2,q0,q1⟩:=aL (n:=n+1) (many:=(ws.length:Int)) hi hs1 (by omega) (by omega);obtain⟨x,hx,hm⟩:=jk (xs:=ws.map T.str) q0 (by rw[Q8];exact q1);obtain⟨w,hwm,rfl⟩:=RI.mp hm;have hl:cn .len [.lst (ws.map T.str)]=Zz (.int (ws.length:Int)):=by simp[cn,Mi.ik,HN]
   refine⟨w,s2,?_,hs2,RP.mp hw w hwm⟩;rw[ay c1];exact ai (aV (aa rfl) ((al (aa rfl) (aB (aa rfl) hl)).trans d2) hx)
 obtain⟨cs,s',e,hs',h⟩:=key;exact⟨cs,s',ax (FJ _ _ _) rfl e (aq (cell:=false) (by rw[aF,aF])),hs',h⟩
end
theorem zi(x:List Nat):∀l,(rT x l).length<=l.length+1
 |[]=>RD _
 |y::l=>by
  unfold rT;split
  ·exact RD _
  ·split
   ·rw[RE,RE]
    have:=zi x l;omega
   ·rw[RE];omega
theorem pX:∀xs,(bH xs).length<=xs.length
 |[]=>RD _
 |x::xs=>by
  have h1:=zi x (bH xs);have h2:=pX xs;show(rT x (bH xs)).length<=_;rw[RE];omega
theorem Cd{call:Nat->List W->Mem->Res W}{gv:List T}{env:Env}{m m1:Mem}{a:E}{x:T}(h1:ev call gv a env m=.ok (.t x) m1):ev call gv (.lst (.cons a .nil)) env m=.ok (.t (.lst [x])) m1:=by
 simp only[ev,evs,h1,af,ek,cI];exact XU (by simp[lim])
noncomputable def cX(p:List Nat×Int):T:=.tup [.str p.1,.int p.2]
noncomputable def cg(nm kd:List Nat)(mk:List (List Nat))(sz:List (List Nat×Int)):T:=.tup [.str nm,.str kd,.tup (mk.map .str),.tup (sz.map cX)]
noncomputable def vM(ws:List (List Nat)):T:=.lst (ws.map .str)
structure uw (ws:List (List Nat)):Prop where
 one:1<=ws.length
 few:ws.length<=9
 nd:ws.Nodup
 wd:ws.all bf=true
structure GoodC (nm kd:List Nat) (mk:List (List Nat)) (sz:List (List Nat×Int)):Prop where
 nm:bf nm=true
 kd:bf kd=true
 MM:mk.length<=6
 PN:gK mk=true
 G5:mk.all bf=true
 Je:sz.length<=6
 PV:gK (sz.map (·.1))=true
 CW:∀p∈sz,bf p.1=true/\0<=p.2/\p.2<=1000000000
section
variable{n:Nat}{m:Mem}{i:Nat}{s:List T}
theorem Iq{e1 e2 e3 e4 e5:Option W}(hi:i<m.length)(hs:bv s):∃(a b:List (List Nat)) (s':List T),ev (cf (n+4)) gv o0 [Zz (.c i),e1,e2,e3,e4,e5] (put m i s)=.ok (.t (.lst [vM a,vM b])) (put m i s')/\bv s'/\uw a/\uw b:=by
 obtain⟨cs,s2,h2,hs2,l2,hp⟩:=drawn (c:=o0) (f:=vM) (P:=uw) (env:=[Zz (.c i),e1,e2,e3,e4,e5]) (n:=n+4) rfl rfl hs (aB (ab (.int 2)) (pH (by decide))) rfl (by simp[rangeT,lim]) (λt _ s hs=>by
  obtain⟨fs,s3,h3,hs3,l3,hw⟩:=drawn (c:=uT) (f:=T.str) (P:=λc=>bf c=true) (env:=[Zz (.t t),Zz (.c i)]) (n:=n+4) rfl rfl hs (aB (ab (.int 8)) (pH (by decide))) rfl (by simp[rangeT,lim]) (λt _ s hs=>by
   obtain⟨c,s4,h4,hs4,hc⟩:=BX (n:=n) hi hs;exact⟨_,c,s4,rfl,(ar (aa rfl)).trans h4,hs4,hc⟩)
  have l3:fs.length=8:=by simpa[rangeT]using l3
  have hadd:kI .Add (.lst (fs.map .str)) (.lst [.str [109,110]])=Zz (.lst ((fs++[[109,110]]).map .str)):=by
   show(if _ then _ else _)=_;rw[XU (by simp[l3,lim]),VL];rfl
  have hset:cn .oE [.lst ((fs++[[109,110]]).map .str)]=Zz (vM (bH (fs++[[109,110]]))):=by
   show((cC ((fs++[[109,110]]).map T.str)).bind λxs=>if xs.length<64 then Zz (T.lst ((bH xs).map .str))else Zy)=_;rw[kS,SX,XU (by simp[l3])];rfl
  refine⟨_,bH (fs++[[109,110]]),s3,rfl,aB (az h3 (Cd (ab _)) hadd) hset,hs3,?_,?_,sZ _,?_⟩
  ·exact List.length_pos_of_mem ((gP [109,110] _).mpr (by simp))
  ·have:=pX (fs++[[109,110]])
   rw[R8,l3]at this;exact this
  ·rw[RP]
   intro w hm;rcases Rp.mp ((gP w _).mp hm)with h|h
   ·exact hw w h
   ·rw[Ro]at h
    rw[h];decide)
 have l2:cs.length=2:=by simpa[rangeT]using l2
 rcases cs with _|⟨a,_|⟨b,_|_⟩⟩
 ·cases l2
 ·cases l2
 ·exact⟨a,b,s2,h2,hs2,hp a (by simp),hp b (by simp)⟩
 ·simp at l2
theorem LY(k:Nat):cn .min2 [.int 6,.int (k:Int)]=Zz (.int ((min 6 k:Nat):Int)):=by
 show Zz (T.int (if(k:Int)<6 then(k:Int)else 6))=_;by_cases h:k<6
 ·rw[XU (by omega),Nat.min_eq_right (by omega)]
 ·rw[XV (by omega),Nat.min_eq_left (by omega)];rfl
theorem MS(ws:List (List Nat)):cn .len [vM ws]=Zz (.int (ws.length:Int)):=by simp[cn,Mi.ik,HN,vM]
theorem Kf{env:Env}{ws:List (List Nat)}{e:E}(hi:i<m.length)(hs:bv s)(hg:uw ws)(h0:env[0]?=Zz (Zz (.c i)))(he:∀s,ev (cf (n+4)) gv e env (put m i s)=.ok (.t (vM ws)) (put m i s)):
  ∃(fs:List (List Nat)) (s':List T),ev (cf (n+4)) gv (.call 47 (.cons (.var 0) (.cons e (.cons (.blt .min2 (.cons (.con (.int 6)) (.cons (.blt .len (.cons e .nil)) .nil))) .nil)))) env (put m i s)=.ok (.t (.tup (fs.map .str))) (put m i s')/\bv s'/\fs.length<=6/\gK fs=true/\fs.all bf=true:=by
 obtain⟨fs,s1,h1,hs1,l1,r1,w1⟩:=IE (n:=n) (ws:=ws) (most:=min 6 ws.length) hi hs (by omega) (by have:=hg.few;omega) hg.nd;exact⟨fs,s1,(jc (aa h0) (he s) (wj (ab _) (aB (he s) (MS ws)) (LY _))).trans h1,hs1,by omega,r1,RP.mpr λw hw=>RP.mp hg.wd w (w1 w hw)⟩
theorem Jg(hi:i<m.length)(hs:bv s):∃(nm kd:List Nat) (mk:List (List Nat)) (sz:List (List Nat×Int)) (s':List T),cf (n+6) 51 [.c i] (put m i s)=.ok (.t (cg nm kd mk sz)) (put m i s')/\bv s'/\GoodC nm kd mk sz:=by
 obtain⟨nm,s1,h1,hs1,w1⟩:=kP (n:=n) (ws:=[[97,110,110],[98,111,98],[99,121],[122,122,122,122,122,122,122,122],[112,114,105,99,101]]) hi hs (by decide) (by decide) (by decide);obtain⟨kd,s2,h2,hs2,w2⟩:=kP (n:=n) (ws:=[[98,114,101,97,100],[119,111,111,100],[105,115,108,101]]) hi hs1 (by decide) (by decide) (by decide);obtain⟨r,s3,h3,hs3,r0,r1⟩:=aL (n:=n+2) (many:=2) hi hs2 (by decide) (by decide);have rest:∀(a b:List (List Nat)) (s:List T),bv s->uw a->uw b->∃(mk:List (List Nat)) (sz:List (List Nat×Int)) (s':List T),ex (cf (n+5)) gv (.asg 4 (.call 47 (.cons (.var 0) (.cons (.ix (.var 3) (.con (.int 0))) (.cons (.blt .min2 (.cons (.con (.int 6)) (.cons (.blt .len (.cons (.ix (.var 3) (.con (.int 0))) .nil)) .nil))) .nil)))) (.asg 5 (.blt .tuple (.cons ph .nil)) (.ret (.tup (.cons (.var 1) (.cons (.var 2) (.cons (.var 4) (.cons (.var 5) .nil))))) .done))) [Zz (.c i),Zz (.t (.str nm)),Zz (.t (.str kd)),Zz (.t (.lst [vM a,vM b])),Zy,Zy] (put m i s)=.ok (.ret (.t (cg nm kd mk sz))) (put m i s')/\bv s'/\GoodC nm kd mk sz:=λa b s hs ga gb=>by
  obtain⟨mk,s4,h4,hs4,l4,r4,w4⟩:=Kf (n:=n+1) (env:=[Zz (.c i),Zz (.t (.str nm)),Zz (.t (.str kd)),Zz (.t (.lst [vM a,vM b])),Zy,Zy]) (e:=.ix (.var 3) (.con (.int 0))) hi hs ga rfl (λs=>aV (aa rfl) (ab _) (at0 _ _));rw[av h4];simp only[RB,RC];obtain⟨fs,s5,h5,hs5,l5,r5,w5⟩:=Kf (n:=n+1) (env:=[Zz (.c i),Zz (.t (.str nm)),Zz (.t (.str kd)),Zz (.t (.lst [vM a,vM b])),Zz (.t (.tup (mk.map .str))),Zy]) (e:=.ix (.var 3) (.con (.int 1))) hi hs4 gb rfl (λs=>aV (aa rfl) (ab _) (at1 _ _ _));have walk:∃(sz:List (List Nat×Int)) (s':List T),ev (cf (n+5)) gv ph [Zz (.c i),Zz (.t (.str nm)),Zz (.t (.str kd)),Zz (.t (.lst [vM a,vM b])),Zz (.t (.tup (mk.map .str))),Zy] (put m i s4)=.ok (.t (.lst (sz.map cX))) (put m i s')/\bv s'/\sz.map (·.1)=fs/\∀p∈sz,0<=p.2/\p.2<=1000000000:=by
   obtain⟨xss,m',g1,⟨s2,rfl,hs2⟩,ht⟩:=sx (f:=aY (cf (n+5)) gv .nil pF) (tg:=.nm 0) (env:=[Zy,Zz (.c i)]) (P:=λm'=>∃s,m'=put m i s/\bv s) (R:=λt xs=>∃p:List Nat×Int,(0<=p.2/\p.2<=1000000000)/\t=.str p.1/\xs=[cX p]) (fs.map .str) (put m i s5) ⟨s5,rfl,hs5⟩ (by
    rintro t ht m' ⟨s,rfl,hs⟩;obtain⟨w,_,rfl⟩:=RI.mp ht;obtain⟨v,s3,h3,hs3,hv⟩:=uy (n:=n+1) hi hs;exact⟨[Zz (.t (.str w)),Zz (.c i)],_,_,rfl,eH (show ev (cf (n+5)) gv pF _ _=_ from bS (bd (aa rfl) ((ar (aa rfl)).trans h3))),⟨s3,rfl,hs3⟩,(w,v),hv,rfl,rfl⟩)
   have:∀(fs:List (List Nat)) (xss:List (List T)),u7 (λt xs=>∃p:List Nat×Int,(0<=p.2/\p.2<=1000000000)/\t=.str p.1/\xs=[cX p]) (fs.map T.str) xss->∃sz:List (List Nat×Int),xss.flatten=sz.map cX/\sz.map (·.1)=fs/\∀p∈sz,0<=p.2/\p.2<=1000000000:=λfs=>by
    induction fs with
    |nil=>intro xss h;cases h;exact⟨[],rfl,rfl,λ_ h=>by cases h⟩
    |cons f fs ih =>
     intro xss h;cases h with
     |cons h1 h2 =>
      obtain⟨p,hp,e,rfl⟩:=h1;cases e;obtain⟨sz,q1,q2,q3⟩:=ih _ h2;exact⟨p::sz,by rw[SZ,q1];rfl,by rw[RN,q2],R5.mpr ⟨hp,q3⟩⟩
   obtain⟨sz,q1,q2,q3⟩:=this _ _ ht;rw[q1]at g1;have ql:sz.length=fs.length:=by rw[<-q2,Q8]
   exact⟨sz,s2,aM (x:=.t (.tup (fs.map .str))) h5 rfl g1 (by rw[Q8];unfold lim;omega),hs2,q2,q3⟩
  obtain⟨sz,s6,h6,hs6,e6,b6⟩:=walk;rw[av (aB h6 (jG _))];refine⟨mk,sz,s6,ai (pw (am (aa rfl) (am (aa rfl) (am (aa rfl) (am (aa rfl) a8)))) rfl bi),hs6,w1,w2,l4,r4,w4,?_,by rw[e6];exact r5,λp hp=>⟨RP.mp w5 p.1 (by rw[<-e6];exact List.mem_map_of_mem hp),b6 p hp⟩⟩;have:=congrArg Rf e6;rw[Q8]at this;omega
 have key:∃(mk:List (List Nat)) (sz:List (List Nat×Int)) (s':List T),ex (cf (n+5)) gv nR [Zz (.c i),Zy,Zy,Zy,Zy,Zy] (put m i s)=.ok (.ret (.t (cg nm kd mk sz))) (put m i s')/\bv s'/\GoodC nm kd mk sz:=by
  unfold nR;rw[av (w:=.t (.str nm)) (m1:=put m i s1) ((al (aa rfl) (bL (am (ab _) (am (ab _) (am (ab _) (am (ab _) (am (ab _) a8))))) rfl bi)).trans h1)];rw[av (w:=.t (.str kd)) (m1:=put m i s2) ((al (aa rfl) (bL (am (ab _) (am (ab _) (am (ab _) a8))) rfl bi)).trans h2)];rw[av (w:=.t (.lst [vM [[97],[102,114,101,115,104],[111,108,100],[114,121,101],[97,110,110],[97,110,121,120]],vM [[97],[112,114,105,99,101],[119,105,100,116,104],[111,108,100]]])) (m1:=put m i s2) (fk (bL (am (ab _) (am (ab _) (am (ab _) (am (ab _) (am (ab _) (am (ab _) a8)))))) rfl bi) (bL (am (ab _) (am (ab _) (am (ab _) (am (ab _) a8)))) rfl bi))];simp only[RB,RC];have c1:=λenv (h:env[0]?=Zz (Zz (.c i)))=>aw (op:=.Eq) ((al (f:=46) (call:=cf (n+5)) (gv:=gv) (env:=env) (a:=.var 0) (aa h) (ab (.int 2))).trans h3) (ab (.int 0)) (jU _ _)
  cases hr:r==0 with
  |true =>
   rw[hr]at c1;obtain⟨a,b,s4,h4,hs4,ga,gb⟩:=Iq (n:=n+1) (e1:=Zz (.t (.str nm))) (e2:=Zz (.t (.str kd))) (e3:=Zz (.t (.lst [vM [[97],[102,114,101,115,104],[111,108,100],[114,121,101],[97,110,110],[97,110,121,120]],vM [[97],[112,114,105,99,101],[119,105,100,116,104],[111,108,100]]]))) (e4:=Zy) (e5:=Zy) hi hs3;obtain⟨mk,sz,s5,h5,hs5,g5⟩:=rest a b s4 hs4 ga gb;refine⟨mk,sz,s5,?_,hs5,g5⟩;rw[Lj (c1 _ rfl) (by rw[av h4,ex])];exact h5
  |false =>
   rw[hr]at c1;obtain⟨mk,sz,s5,h5,hs5,g5⟩:=rest [[97],[102,114,101,115,104],[111,108,100],[114,121,101],[97,110,110],[97,110,121,120]] [[97],[112,114,105,99,101],[119,105,100,116,104],[111,108,100]] s3 hs3 ⟨by decide,by decide,by decide,by decide⟩ ⟨by decide,by decide,by decide,by decide⟩;refine⟨mk,sz,s5,?_,hs5,g5⟩;rw[ay (c1 _ rfl)];exact h5
 obtain⟨mk,sz,s',e,hs',h⟩:=key;exact⟨nm,kd,mk,sz,s',ax (FF _ _ _) rfl e (aq (cell:=false) (by rw[aF,aF])),hs',h⟩
theorem CJ(hi:i<m.length)(hs:bv s):∃(t:T) (s':List T),cf (n+6) 52 [.c i] (put m i s)=.ok (.t t) (put m i s')/\bv s'/\lQ t:=by
 have key:∃(t:T) (s':List T),ex (cf (n+5)) gv nM [Zz (.c i),Zy] (put m i s)=.ok (.ret (.t t)) (put m i s')/\bv s'/\lQ t:=by
  obtain⟨r,s1,d1,hs1,r0,r1⟩:=aL (n:=n+2) (many:=8) hi hs (by decide) (by decide);have d1:cf (n+5) 46 [.c i,.t (.int 8)] (put m i s)=.ok (.t (.int r)) (put m i s1):=d1;unfold nM;rw[av ((al (aa rfl) (ab _)).trans d1)];by_cases h2:r<2
  ·exact⟨_,s1,aD (aw (k:=true) (aa rfl) (ab _) ((qx _ _).trans (congrArg Zz (XX h2)))) (ai (rk (ab _))),hs1,.any⟩
  rw[ay (aw (k:=false) (aa rfl) (ab _) ((qx _ _).trans (congrArg Zz (XW h2))))];by_cases h3:r=2
  ·obtain⟨w,s2,d2,hs2,w2⟩:=kP (n:=n) (ws:=[[97,110,110],[98,111,98],[99,121],[122,122,122,122,122,122,122,122]]) hi hs1 (by decide) (by decide) (by decide)
   simp only[RN,Tk]at d2;exact⟨_,s2,aD (aw (k:=true) (aa rfl) (ab _) (by rw[jU,h3];rfl)) (ai (bd (ab _) ((al (aa rfl) (bL (am (ab _) (am (ab _) (am (ab _) (am (ab _) a8)))) rfl bi)).trans d2))),hs2,.two (.inr rfl) w2⟩
  rw[ay (aw (k:=false) (aa rfl) (ab _) (by rw[jU,beq_false_of_ne h3]))];by_cases h4:r<5
  ·obtain⟨w,s2,d2,hs2,w2⟩:=kP (n:=n) (ws:=[[97],[112,114,105,99,101],[119,105,100,116,104],[111,108,100]]) hi hs1 (by decide) (by decide) (by decide)
   simp only[RN,Tk]at d2;obtain⟨v,s3,d3,hs3,v0,v1⟩:=uy (n:=n+1) hi hs2;by_cases hr:r%2=0
   ·exact⟨_,s3,aD (aw (k:=true) (aa rfl) (ab _) ((qx _ _).trans (congrArg Zz (XX h4)))) (ai (m6 (aV (fk (ab _) (ab _)) (az (aa rfl) (ab _) (lY (by decide))) (by rw[hr];rfl)) ((al (aa rfl) (bL (am (ab _) (am (ab _) (am (ab _) (am (ab _) a8)))) rfl bi)).trans d2) ((ar (aa rfl)).trans d3))),hs3,.three (.inl rfl) w2 v0 v1⟩
   ·have hr:r%2=1:=by omega
    exact⟨_,s3,aD (aw (k:=true) (aa rfl) (ab _) ((qx _ _).trans (congrArg Zz (XX h4)))) (ai (m6 (aV (fk (ab _) (ab _)) (az (aa rfl) (ab _) (lY (by decide))) (by rw[hr];rfl)) ((al (aa rfl) (bL (am (ab _) (am (ab _) (am (ab _) (am (ab _) a8)))) rfl bi)).trans d2) ((ar (aa rfl)).trans d3))),hs3,.three (.inr rfl) w2 v0 v1⟩
  rw[ay (aw (k:=false) (aa rfl) (ab _) ((qx _ _).trans (congrArg Zz (XW h4))))];obtain⟨w,s2,d2,hs2,w2⟩:=kP (n:=n) (ws:=[[97],[102,114,101,115,104],[111,108,100],[114,121,101],[97,110,110],[119,111,111,100]]) hi hs1 (by decide) (by decide) (by decide);simp only[RN,Tk]at d2;exact⟨_,s2,ai (bd (ab _) ((al (aa rfl) (bL (am (ab _) (am (ab _) (am (ab _) (am (ab _) (am (ab _) (am (ab _) a8)))))) rfl bi)).trans d2)),hs2,.two (.inl rfl) w2⟩
 obtain⟨t,s',e,hs',h⟩:=key;exact⟨t,s',ax (FD _ _ _) rfl e (aq (cell:=false) (by rw[aF,aF])),hs',h⟩
end
theorem wu{M:Mem}{i j:Nat}{s R:List T}(hij:i≠j)(hj:j<M.length):(put (put M j R) i s)[j]?=Zz (Zz (false,R)):=by
 have h:=Al (m:=M) (i:=j) (s:=R) hj;unfold put at h ⊢;rw[RY hij];exact h
theorem Gh{M:Mem}{i j:Nat}{s R R':List T}(hij:i≠j):(put (put M j R) i s).set j (Zz (false,R'))=put (put M j R') i s:=by
 unfold put;rw[List.set_comm _ _ hij.symm,List.set_set];exact List.set_comm _ _ hij
theorem yV{call:Nat->List W->Mem->Res W}{env:Env}{M:Mem}{i j:Nat}{s:List T}{r:Int}{k:S}(hij:i≠j)(hj:j<M.length)(h2:env[2]?=Zz (Zz (.c j))):
  ex call gv (.set (.var 2) (.con (.int 0)) (.bin .Sub (.ix (.var 2) (.con (.int 0))) (.con (.int 1))) k) env (put (put M j [.int r]) i s)=ex call gv k env (put (put M j [.int (r-1)]) i s):=by
 rw[vG (az (kG h2 (wu hij hj) rfl) (ab _) (yA _ _)) (aa h2) (ab _) (wu hij hj) rfl];show ex call gv k env ((put (put M j [.int r]) i s).set j (Zz (false,[.int (r-1)])))=_;rw[Gh hij]
theorem lQ.tot{d:Nat}{t:T}(h:lQ t):tot (d+1) [t]=1:=by rw[eC,h.Kj,fz]
def Drawn(N d:Nat)(M:Mem)(i j:Nat):Prop:=∀(s:List T) (r:Int),bv s->∃(t:T) (s':List T),cf N 53 [.c i,.t (.int ((d:Int)+1)),.c j] (put (put M j [.int r]) i s)=.ok (.t t) (put (put M j [.int (r-(tot (d+1) [t]:Nat))]) i s')/\bv s'/\WT (d+1) t/\(r<=3->tot (d+1) [t]=1)/\(3<r->(tot (d+1) [t]:Int)<=r-3+5*d+1)
theorem pL{N d:Nat}{M:Mem}{i j:Nat}(h:Drawn N d M i j):∀(ts:List T) (s:List T) (r:Int),bv s->∃(ws:List T) (s':List T),cy (aY (cf N) gv .nil kU) (.nm 0) ts [Zy,Zz (.c i),Zz (.c j),Zz (.t (.int ((d:Int)+1+1)))] (put (put M j [.int r]) i s)=.ok ws (put (put M j [.int (r-(tot (d+1) ws:Nat))]) i s')/\bv s'/\ws.length=ts.length/\(∀w∈ws,WT (d+1) w)/\(r<=3->tot (d+1) ws=ts.length)/\(3<r->(tot (d+1) ws:Int)<=r-3+5*d+ts.length)
 |[],s,r,hs=>⟨[],s,by rw[cy,fz];simp,hs,rfl,λ_ h=>(by cases h),λ_=>fz _,λh=>by rw[fz];simp;omega⟩
 |t::ts,s,r,hs=>by
  obtain⟨w,s1,h1,hs1,w1,a1,b1⟩:=h s r hs;obtain⟨ws,s2,h2,hs2,l2,w2,a2,b2⟩:=pL h ts s1 (r-(tot (d+1) [w]:Nat)) hs1;have ht:tot (d+1) (w::ws)=tot (d+1) [w]+tot (d+1) ws:=my (d+1) [w] ws;refine⟨w::ws,s2,?_,hs2,by simp[l2],R5.mpr ⟨w1,w2⟩,λh=>?_,λh=>?_⟩
  ·rw[cy]
   have hb:bK (.nm 0) t [Zy,Zz (.c i),Zz (.c j),Zz (.t (.int ((d:Int)+1+1)))]=Zz [Zz (.t t),Zz (.c i),Zz (.c j),Zz (.t (.int ((d:Int)+1+1)))]:=rfl;rw[hb];dsimp only;have hsub:=az (call:=cf N) (gv:=gv) (env:=[Zz (.t t),Zz (.c i),Zz (.c j),Zz (.t (.int ((d:Int)+1+1)))]) (m:=put (put M j [.int r]) i s) (aa (i:=3) rfl) (ab (.int 1)) (yA ((d:Int)+1+1) 1);rw[show(d:Int)+1+1-1=(d:Int)+1 by omega]at hsub;rw[eH (show ev (cf N) gv kU _ _=_ from bS ((jc (aa rfl) hsub (aa rfl)).trans h1)),af,h2,af,show r-(tot (d+1) [w]:Nat)-(tot (d+1) ws:Nat)=r-(tot (d+1) (w::ws):Nat) by rw[ht];omega];rfl
  ·have:=a1 h
   have:=a2 (by omega);rw[ht,RE];omega
  ·have:=b1 h
   rw[ht,RE];by_cases h3:r-(tot (d+1) [w]:Nat)<=3
   ·have:=a2 h3;omega
   ·have:=b2 (by omega);omega
theorem Jt:∀(d:Nat) {n:Nat}{M:Mem}{i j:Nat},i≠j->i<M.length->j<M.length->Drawn (n+(d+7)) d M i j:=by
 intro d
 induction d with
 |zero =>
  intro n M i j hij hi hj s r hs;have hi':i<(put M j [.int (r-1)]).length:=by rw[aF];exact hi
  obtain⟨q,s1,d1,hs1,q0,q1⟩:=aL (n:=n+3) (many:=6) hi' hs (by decide) (by decide);obtain⟨t,s2,d2,hs2,hl⟩:=CJ (n:=n) hi' hs1;refine⟨t,s2,?_,hs2,hl.wt,λ_=>hl.tot,λh=>by rw[hl.tot];omega⟩;rw[hl.tot];have key:ex (cf (n+6)) gv jx [Zz (.c i),Zz (.t (.int 1)),Zz (.c j),Zy,Zy] (put (put M j [.int r]) i s)=.ok (.ret (.t t)) (put (put M j [.int (r-1)]) i s2):=by
   unfold jx;rw[yV hij hj rfl];rw[av ((al (aa rfl) (ab _)).trans d1)];exact aD (j9 (aw (k:=true) (aa rfl) (ab _) rfl)) (ai ((ar (aa rfl)).trans d2))
  exact ax (xZ _ _ _) rfl key (aq (cell:=false) (by rw[aF,aF,aF,aF]))
 |succ d ih =>
  intro n M i j hij hi hj s r hs;have D:=ih (n:=n) hij hi hj;have hi':∀r:Int,i<(put M j [.int r]).length:=λr=>by rw[aF];exact hi
  obtain⟨q,s1,d1,hs1,q0,q1⟩:=aL (n:=n+(d+4)) (many:=6) (hi' (r-1)) hs (by decide) (by decide);have d1:cf (n+(d+7)) 46 [.c i,.t (.int 6)] (put (put M j [.int (r-1)]) i s)=.ok (.t (.int q)) (put (put M j [.int (r-1)]) i s1):=d1;have key:∃(t:T) (s':List T),ex (cf (n+(d+7))) gv jx [Zz (.c i),Zz (.t (.int ((d:Int)+1+1))),Zz (.c j),Zy,Zy] (put (put M j [.int r]) i s)=.ok (.ret (.t t)) (put (put M j [.int (r-(tot (d+2) [t]:Nat))]) i s')/\bv s'/\WT (d+2) t/\(r<=3->tot (d+2) [t]=1)/\(3<r->(tot (d+2) [t]:Int)<=r-3+5*(d+1)+1):=by
   unfold jx;rw[yV hij hj rfl];rw[av ((al (aa rfl) (ab _)).trans d1)];simp only[RB,RC];generalize hE:([Zz (.c i),Zz (.t (.int ((d:Int)+1+1))),Zz (.c j),Zz (.t (.int q)),Zy]:Env)=env;have e0:env[0]?=Zz (Zz (.c i)):=by rw[<-hE];rfl
   have e1:env[1]?=Zz (Zz (.t (.int ((d:Int)+1+1)))):=by rw[<-hE];rfl
   have e2:env[2]?=Zz (Zz (.c j)):=by rw[<-hE];rfl
   have e3:env[3]?=Zz (Zz (.t (.int q))):=by rw[<-hE];rfl
   have c1:=aw (call:=cf (n+(d+7))) (gv:=gv) (m:=put (put M j [.int (r-1)]) i s1) (aa e1) (ab (.int 2)) (qx _ _);rw[XW (by omega)]at c1;have c2:=aw (call:=cf (n+(d+7))) (gv:=gv) (m:=put (put M j [.int (r-1)]) i s1) (aa e3) (ab (.int 2)) (qx _ _);have c3:=aw (call:=cf (n+(d+7))) (gv:=gv) (kG (k:=0) e2 (wu (s:=s1) (R:=[.int (r-1)]) hij hj) rfl) (ab (.int 3)) (qx (r-1) 3);have leafs:∀k:S,ev (cf (n+(d+7))) gv (.or (.cmp .Lt (.var 1) (.con (.int 2))) (.or (.cmp .Lt (.var 3) (.con (.int 2))) (.cmp .Lt (.ix (.var 2) (.con (.int 0))) (.con (.int 3))))) env (put (put M j [.int (r-1)]) i s1)=.ok (.t (.bl true)) (put (put M j [.int (r-1)]) i s1)->∃(t:T) (s':List T),ex (cf (n+(d+7))) gv (.bI (.or (.cmp .Lt (.var 1) (.con (.int 2))) (.or (.cmp .Lt (.var 3) (.con (.int 2))) (.cmp .Lt (.ix (.var 2) (.con (.int 0))) (.con (.int 3))))) (.ret (.call 52 (.cons (.var 0) .nil)) .done) .done k) env (put (put M j [.int (r-1)]) i s1)=.ok (.ret (.t t)) (put (put M j [.int (r-(tot (d+2) [t]:Nat))]) i s')/\bv s'/\WT (d+2) t/\(r<=3->tot (d+2) [t]=1)/\(3<r->(tot (d+2) [t]:Int)<=r-3+5*(d+1)+1):=λk hc=>by
    obtain⟨t,s2,d2,hs2,hl⟩:=CJ (n:=n+(d+1)) (hi' (r-1)) hs1;have d2:cf (n+(d+7)) 52 [.c i] (put (put M j [.int (r-1)]) i s1)=.ok (.t t) (put (put M j [.int (r-1)]) i s2):=d2;have ht:tot (d+2) [t]=1:=hl.tot;refine⟨t,s2,?_,hs2,hl.wt,λ_=>ht,λh=>by rw[ht];omega⟩;rw[ht];exact aD hc (ai ((ar (aa e0)).trans d2))
   by_cases hq:q<2
   ·rw[XX hq]at c2
    exact leafs _ (by rw[bN c1,j9 c2])
   rw[XW hq]at c2;by_cases hr:r-1<3
   ·rw[XX hr]at c3
    exact leafs _ (by rw[bN c1,bN c2,c3])
   rw[XW hr]at c3;rw[ay (by rw[bN c1,bN c2,c3])];have hsub:∀m,ev (cf (n+(d+7))) gv (.bin .Sub (.var 1) (.con (.int 1))) env m=.ok (.t (.int ((d:Int)+1))) m:=λm=>by
    have:=az (call:=cf (n+(d+7))) (gv:=gv) (m:=m) (aa e1) (ab (.int 1)) (yA ((d:Int)+1+1) 1);rw[show(d:Int)+1+1-1=(d:Int)+1 by omega]at this;exact this
   have c4:=aw (call:=cf (n+(d+7))) (gv:=gv) (m:=put (put M j [.int (r-1)]) i s1) (aa e3) (ab (.int 2)) (jU _ _);cases e4:(q==2)with
   |true =>
    rw[e4]at c4;obtain⟨t,s2,d2,hs2,hw,a2,b2⟩:=D s1 (r-1) hs1;have ht:tot (d+2) [.tup [.str [110,111,116],t]]=1+tot (d+1) [t]:=by rw[eC,iG]
    refine⟨_,s2,aD c4 (ai (bd (ab _) ((jc (aa e0) (hsub _) (aa e2)).trans ?_))),hs2,.nt hw,λh=>by omega,λh=>?_⟩
    ·rw[ht,d2,show r-1-(tot (d+1) [t]:Nat)=r-((1+tot (d+1) [t]:Nat):Int) by omega]
    ·rw[ht]
     by_cases h3:r-1<=3
     ·have:=a2 h3;omega
     ·have:=b2 (by omega);omega
   |false =>
    rw[e4]at c4;rw[ay c4];obtain⟨q3,s2,d2,hs2,a0,a1⟩:=aL (n:=n+(d+4)) (many:=3) (hi' (r-1)) hs1 (by decide) (by decide);have d2:cf (n+(d+7)) 46 [.c i,.t (.int 3)] (put (put M j [.int (r-1)]) i s1)=.ok (.t (.int q3)) (put (put M j [.int (r-1)]) i s2):=d2;obtain⟨z,hz,hzm⟩:=jk (xs:=[T.int 2,.int 5]) (i:=q3 / 2) (by omega) (by simp;omega);have hz':∃v:Int,z=.int v/\2<=v/\v<=5:=by
     simp only[R9,R4,or_false]at hzm;rcases hzm with rfl|rfl<;>exact⟨_,rfl,by decide,by decide⟩
    obtain⟨v,rfl,v0,v1⟩:=hz';obtain⟨q4,s3,d3,hs3,b0,b1⟩:=aL (n:=n+(d+4)) (many:=v) (hi' (r-1)) hs2 (by omega) (by omega);have d3:cf (n+(d+7)) 46 [.c i,.t (.int v)] (put (put M j [.int (r-1)]) i s2)=.ok (.t (.int q4)) (put (put M j [.int (r-1)]) i s3):=d3;have hz:y2 (.lst [T.int 2,.int 5]) (.int (q3 / 2))=Zz (.int v):=hz;rw[av (az (ab (.int 2)) ((al (aa e0) (aV (fk (ab _) (ab _)) (az ((al (aa e0) (ab _)).trans d2) (ab _) (zm (by decide))) hz)).trans d3) (db _ _))];obtain⟨ws,s4,h5,hs4,l4,w4,a4,b4⟩:=pL D (rangeT 0 (2+q4).toNat) s3 (r-1) hs3;have hl:ws.length=(2+q4).toNat:=by rw[l4];simp[rangeT]
    have hl':(rangeT 0 (2+q4).toNat).length=(2+q4).toNat:=by simp[rangeT]
    rw[hl']at a4 b4;have hb:∃w,y2 (.lst [T.str [97,110,100],.str [111,114]]) (.int (q%2))=Zz (.str w)/\(w=[97,110,100]∨w=[111,114]):=by
     by_cases h:q%2=0
     ·exact⟨_,by rw[h];rfl,.inl rfl⟩
     ·exact⟨_,by rw[show q%2=1 by omega];rfl,.inr rfl⟩
    obtain⟨w,hb,hw⟩:=hb;have ht:tot (d+2) [.tup [.str w,.tup ws]]=1+tot (d+1) ws:=by rw[eC,lC hw (by omega) (by omega)]
    subst hE;simp only[RB,RC];have hcomp:=aM (own:=1) (keep:=[0,2,1]) (tg:=.nm 0) (cs:=.nil) (inner:=kU) (env:=[Zz (.c i),Zz (.t (.int ((d:Int)+1+1))),Zz (.c j),Zz (.t (.int q)),Zz (.t (.int (2+q4)))]) (x:=.t (.lst (rangeT 0 (2+q4).toNat))) (aB (aa (i:=4) rfl) (pH (show 2+q4<2^62/\-(2^62)<=2+q4 by omega))) rfl h5 (by rw[hl];unfold lim;omega);refine⟨_,s4,ai (bd (aV (fk (ab _) (ab _)) (az (aa rfl) (ab _) (lY (by decide))) hb) (aB (e:=vb) (hcomp.trans ?_) (jG _))),hs4,.jn hw (by omega) (by omega) w4,λh=>by omega,λh=>?_⟩
    ·rw[ht,show r-1-(tot (d+1) ws:Nat)=r-((1+tot (d+1) ws:Nat):Int) by omega]
     rfl
    ·rw[ht]
     by_cases h3:r-1<=3
     ·have:=a4 h3;omega
     ·have:=b4 (by omega);omega
  obtain⟨t,s',e,hs',hl⟩:=key;exact⟨t,s',ax (xZ _ _ _) rfl e (aq (cell:=false) (by rw[aF,aF,aF,aF])),hs',hl⟩
noncomputable def kH(side:List Nat)(MG w:T)(a b c e:Int):T:=.tup [.str side,MG,w,.int a,.int b,.int c,.int e]
inductive FS:T->Prop where
 |mk {side nm kd:List Nat}{mk:List (List Nat)}{sz:List (List Nat×Int)}{d:Nat}{w:T}{a b c e:Int}:side∈sides->GoodC nm kd mk sz->d<=5->WT (d+1) w->tot (d+1) [w]<=40->1<=a->a<=1000000->1<=b->b<=a->0<=c->c<=1000->0<=e->e<=1000000000->FS (kH side (cg nm kd mk sz) w a b c e)
theorem mE{xs:List Int}{lo hi q:Int}(h:∀x∈xs,lo<=x/\x<=hi)(q0:0<=q)(q1:q<xs.length):∃v,atT (xs.map T.int) q=Zz (.int v)/\lo<=v/\v<=hi:=by
 obtain⟨x,hx,hm⟩:=jk (xs:=xs.map T.int) q0 (by rw[Q8];exact q1);obtain⟨v,hv,rfl⟩:=RI.mp hm;exact⟨v,hx,h v hv⟩
theorem yK{n:Nat}{m:Mem}{i:Nat}{s:List T}(hi:i<m.length)(hs:bv s):∃(t:T) (s':List T),cf (n+14) 54 [.c i] (put m i s)=.ok (.t t) (put m i s')/\bv s'/\FS t:=by
 obtain⟨p1,s1,h1,hs1,p10,p11⟩:=aL (n:=n+10) (many:=9) hi hs (by decide) (by decide);obtain⟨p2,s2,h2,hs2,p20,p21⟩:=aL (n:=n+10) (many:=1000000) hi hs1 (by decide) (by decide);obtain⟨p3,s3,h3,hs3,p30,p31⟩:=aL (n:=n+10) (many:=3) hi hs2 (by decide) (by decide);obtain⟨a,ha,a0,a1⟩:=mE (xs:=[1+p1,1+p2,1000000]) (lo:=1) (hi:=1000000) (by simp;omega) p30 (by simpa using p31);obtain⟨p4,s4,h4,hs4,p40,p41⟩:=aL (n:=n+10) (many:=a) hi hs3 (by omega) (by omega);obtain⟨p5,s5,h5,hs5,p50,p51⟩:=aL (n:=n+10) (many:=3) hi hs4 (by decide) (by decide);obtain⟨b,hb,b0,b1⟩:=mE (xs:=[1,1+p4,a]) (lo:=1) (hi:=a) (by simp;omega) p50 (by simpa using p51);obtain⟨p6,s6,h6,hs6,p60,p61⟩:=aL (n:=n+10) (many:=1001) hi hs5 (by decide) (by decide);obtain⟨p7,s7,h7,hs7,p70,p71⟩:=aL (n:=n+10) (many:=3) hi hs6 (by decide) (by decide);obtain⟨c,hc,c0,c1⟩:=mE (xs:=[0,1000,p6]) (lo:=0) (hi:=1000) (by simp;omega) p70 (by simpa using p71);obtain⟨p8,s8,h8,hs8,p80,p81⟩:=aL (n:=n+10) (many:=1000000001) hi hs7 (by decide) (by decide);obtain⟨p9,s9,h9,hs9,p90,p91⟩:=aL (n:=n+10) (many:=30) hi hs8 (by decide) (by decide);obtain⟨pa,sa,hA,hsa,pa0,pa1⟩:=aL (n:=n+10) (many:=4) hi hs9 (by decide) (by decide);obtain⟨e,he,e0,e1⟩:=mE (xs:=[0,1000000000,p8,p9]) (lo:=0) (hi:=1000000000) (by simp;omega) pa0 (by simpa using pa1);obtain⟨nm,kd,mk,sz,sb,hB,hsb,gc⟩:=Jg (n:=n+7) hi hsa;obtain⟨q,sc,hC,hsc,q0,q1⟩:=aL (n:=n+10) (many:=6) hi hsb (by decide) (by decide);have hj:m.length<(m++[Zy]).length:=by simp
 have hi2:i<(m++[Zy]).length:=by rw[R8];omega
 obtain⟨d,hd⟩:∃d:Nat,q=(d:Int)/\d<=5:=⟨q.toNat,by omega,by omega⟩
 obtain⟨w,sd,hD,hsd,hw,_,tw⟩:=Jt d (n:=n+(6-d)) (show i≠m.length by omega) hi2 hj sc 12 hsc;rw[show n+(6-d)+(d+7)=n+13 by omega]at hD;have hmem:∀(z:Int) (s:List T),put (put (m++[Zy]) m.length [.int z]) i s=put m i s++[Zz (false,[T.int z])]:=λz s=>by
  have:put (m++[Zy]) m.length [T.int z]=m++[Zz (false,[T.int z])]:=by simp[put]
  rw[this,cP hi]
 rw[hmem,hmem]at hD;generalize 12-((tot (d+1) [w]:Nat):Int)=r3 at hD;have hi3:i<(m++[Zz (false,[T.int r3])]).length:=by rw[R8];omega
 obtain⟨q2,se,hE,hse,g0,g1⟩:=aL (n:=n+10) (many:=3) hi3 hsd (by decide) (by decide);rw[cP hi,cP hi]at hE;obtain⟨y,hy,hym⟩:=jk (xs:=[T.str [103,105,118,101],.str [116,97,107,101],.str [98,101,97,114]]) g0 (by simpa using g1);obtain⟨side,hside,rfl⟩:∃side,side∈sides/\y=.str side:=by
  simp only[R9,R4,or_false]at hym;rcases hym with rfl|rfl|rfl<;>exact⟨_,by decide,rfl⟩
 refine⟨kH side (cg nm kd mk sz) w a b c e,se,?_,hse,.mk hside gc hd.2 hw (by have:=tw (by decide);omega) a0 a1 b0 b1 c0 c1 e0 e1⟩;have key:ex (cf (n+13)) gv cN [Zz (.c i),Zy,Zy,Zy,Zy,Zy,Zy] (put m i s)=.ok (.ret (.t (kH side (cg nm kd mk sz) w a b c e))) (put m i se++[Zz (false,[.int r3])]):=by
  simp only[RN,Tk]at ha hb hc he;unfold cN;rw[av (aV (bL (am (az (ab _) ((al (aa rfl) (ab _)).trans h1) (db _ _)) (am (az (ab _) ((al (aa rfl) (az (ab _) (ab _) rfl)).trans h2) (db _ _)) (am (az (ab _) (ab _) rfl) a8))) rfl bi) ((al (aa rfl) (ab _)).trans h3) ha)];rw[av (aV (bL (am (ab _) (am (az (ab _) ((al (aa rfl) (aa rfl)).trans h4) (db _ _)) (am (aa rfl) a8))) rfl bi) ((al (aa rfl) (ab _)).trans h5) hb)];rw[av (aV (bL (am (ab _) (am (ab _) (am ((al (aa rfl) (ab _)).trans h6) a8))) rfl bi) ((al (aa rfl) (ab _)).trans h7) hc)];rw[av (aV (bL (am (ab _) (am (az (ab _) (ab _) rfl) (am ((al (aa rfl) (az (az (ab _) (ab _) rfl) (ab _) (db _ _))).trans h8) (am ((al (aa rfl) (ab _)).trans h9) a8)))) rfl bi) ((al (aa rfl) (ab _)).trans hA) he)];rw[av ((ar (aa rfl)).trans hB)];simp only[RB,RC];rw[av (w:=.t w) (m1:=put m i sd++[Zz (false,[.int r3])]) ?_]
  ·exact ai (pw (am (aV (bL (am (ab _) (am (ab _) (am (ab _) a8))) rfl bi) ((al (aa rfl) (ab _)).trans hE) hy) (am (aa rfl) (am (aa rfl) (am (aa rfl) (am (aa rfl) (am (aa rfl) (am (aa rfl) a8))))))) rfl bi)
  ·refine(jc (aa rfl) (az (ab _) ((al (aa rfl) (ab _)).trans hC) (db _ _)) (w2:=.c m.length) (m3:=put m i sc++[Zz (false,[.int 12])]) ?_).trans ?_
   ·simp[ev,evs,af,ek,cI,lim,aF]
   ·rw[hd.1,Int.add_comm 1]
    exact hD
 exact ax (qr _ _ _) rfl key (show Res.ok _ ((put m i se++[Zz (false,[T.int r3])]).take (put m i s).length)=_ from by rw[aF];exact congrArg _ (VR aF))
theorem Ci{a sep b:List Nat}(hn:∀k<a.length,((a++(sep++b)).drop k).take sep.length≠sep):kl (a++(sep++b)) sep=.tup [.str a,.str sep,.str b]:=by
 have at_iff:∀k,PySem.StrLaws.At ⟨(a++(sep++b)).toArray⟩ ⟨sep.toArray⟩ (UV ⟨(a++(sep++b)).toArray⟩) k↔k+sep.length<=(a++(sep++b)).length/\((a++(sep++b)).drop k).take sep.length=sep:=λk=>by
  unfold PySem.StrLaws.At;rw[PySem.StrLaws.subAt_eq,beq_iff_eq];simp[UV]
 have hA:((a++(sep++b)).drop a.length).take sep.length=sep:=by rw[WH,VR]<;>rfl
 unfold kl;rcases PyProof.Rows.partition_whole ⟨(a++(sep++b)).toArray⟩ ⟨sep.toArray⟩with⟨_,hN⟩|⟨i,hp,hi,hm⟩
 ·exact XZ ((at_iff a.length).mpr ⟨by simp,hA⟩) (hN _)
 ·rw[at_iff]at hi
  have e:i=a.length:=by
   rcases Nat.lt_trichotomy i a.length with h|h|h
   ·exact XZ hi.2 (hn i h)
   ·exact h
   ·exact XZ ((at_iff a.length).mpr ⟨by simp,hA⟩) (hm _ h)
  subst e;have e3:((a++(sep++b)).drop (a.length+sep.length)).take ((a++(sep++b)).length-(a.length+sep.length))=b:=by
   rw[<-List.drop_drop,WH rfl,WH rfl,V2];simp only[R8];omega
  rw[hp];simp only[PySem.StrLaws.strSub_toList,UV,R7,e3];simp
theorem EW{a b:List Nat}{c:Nat}(h:c∉a):kl (a++([c]++b)) [c]=.tup [.str a,.str [c],.str b]:=Ci λk hk e=>by
 rw[List.drop_append_of_le_length (by omega),Su hk]at e;have e:[a[k]]=[c]:=e;cases e;exact h (Tv hk)
theorem yZ{a b:List Nat}(h:124∉a):kl (a++([32,124,32]++b)) [32,124,32]=.tup [.str a,.str [32,124,32],.str b]:=Ci λk hk e=>by
 rw[List.drop_append_of_le_length (by omega),Su hk]at e;by_cases h1:k+1<a.length
 ·rw[Su h1]at e
  have e:a[k]::a[k+1]::List.take 1 (List.drop (k+1+1) a++([32,124,32]++b))=[32,124,32]:=e;exact h ((Ue (Ue e).2).1▸Tv h1)
 ·rw[List.drop_eq_nil_of_le (by omega)]at e
  have e:[a[k],32,124]=[32,124,32]:=e;cases(Ue (Ue e).2).1
noncomputable def bw(ws:List (List Nat)):List Nat:=if ws=[]then[45]else ae [44] ws
theorem IZ:∀{ws:List (List Nat)},ws≠[]->(∀w∈ws,w≠[])->ae [44] ws≠[]
 |[x],_,h=>h x (by simp)
 |x::y::r,_,h=>by
  rw[ae]
  ·simp
  ·simp
theorem kz:∀{ws:List (List Nat)}{k:Nat},(∀w∈ws,w.length<=k)->(ws.map Rf).sum<=ws.length*k
 |[],_,_=>by simp
 |a::l,k,h=>by
  have:=h a (by simp);have:=kz λw hw=>h w (RG _ hw)
  rw[RN,Sx,RE,Nat.succ_mul];omega
theorem lr(sep:List Nat):∀{ws:List (List Nat)}{k:Nat},(∀w∈ws,w.length<=k)->(ae sep ws).length<=ws.length*(k+sep.length)/\(ws.map Rf).sum+ws.length*sep.length<=ws.length*(k+sep.length)
 |[],k,_=>by simp[ae]
 |x::r,k,h=>by
  have h0:=cT sep (x::r);have h1:=kz h;rw[Wu];omega
theorem m8{n:Nat}{m:Mem}{x:T}{ws:List (List Nat)}(hx:x=.lst (ws.map .str)∨x=.tup (ws.map .str))(hl:ws.length<=100)(hw:∀w∈ws,w≠[]/\w.length<=100):cf (n+1) 28 [.t x] m=.ok (.t (.str (bw ws))) m:=by
 have hb:=(lr [44] (ws:=ws) (k:=100) λw h=>(hw w h).2)
 have hb2:ws.length*(100+[44].length)<=10100:=by simp;omega
 have hm:iV .join (.str [44]) [x]=Zz (.str (ae [44] ws)):=by
  rcases hx with rfl|rfl<;>(show((cC (ws.map T.str)).bind λys=>if(ys.map Rf).sum+ys.length*[44].length<=lim then Zz (T.str (ae [44] ys))else Zy)=_;rw[kS,SX,XU (by unfold lim;omega)])
 have hj:ev (cf n) gv (.eP .join (.con (.str [44])) (.cons (.var 0) .nil)) [Zz (.t x)] m=.ok (.t (.str (ae [44] ws))) m:=by
  rw[ev,ab,af,XU (show xX .join (.t (.str [44])) m=true from rfl),evs,aa rfl,af,evs,af,af];show dy (iV .join (.str [44]) [x]) m=_;rw[hm];rfl
 have key:ex (cf n) gv eK [Zz (.t x)] m=.ok (.ret (.t (.str (bw ws)))) m:=by
  unfold eK;refine ai (wj hj (jZ jt) ?_);show(if(ae [44] ws).length<=lim then Zz (if(ae [44] ws).isEmpty=true then T.str [45]else T.str (ae [44] ws))else Zy)=_;rw[XU (by unfold lim;omega)];unfold bw;by_cases h:ws=[]
  ·subst h;rfl
  ·rw[XV h,XV (by have:=IZ h λw hw'=>(hw w hw').1;simpa using this)]
 exact ax (wF _ _ _) rfl key (aq (cell:=false) rfl)
theorem u8{n:Nat}{m:Mem}{ws:List (List Nat)}(hl:ws.length<=100)(hd:au 60 (.lst (ws.map .str))=true)(hw:∀w∈ws,w≠[]/\w.length<=100):cf (n+1) 57 [.t (.lst (ws.map .str))] m=.ok (.t (.str (bw ws))) m:=by
 have hb:=(lr [44] (ws:=ws) (k:=100) λw h=>(hw w h).2)
 have hb2:ws.length*(100+[44].length)<=10100:=by simp;omega
 have hm:iV .join (.str [44]) [.lst (ws.map .str)]=Zz (.str (ae [44] ws)):=by
  show((cC (ws.map T.str)).bind λys=>if(ys.map Rf).sum+ys.length*[44].length<=lim then Zz (T.str (ae [44] ys))else Zy)=_;rw[kS,SX,XU (by unfold lim;omega)]
 have hj:ev (cf n) gv (.eP .join (.con (.str [44])) (.cons (.var 0) .nil)) [Zz (.t (.lst (ws.map .str)))] m=.ok (.t (.str (ae [44] ws))) m:=by
  rw[ev,ab,af,XU (show xX .join (.t (.str [44])) m=true from rfl),evs,aa rfl,af,evs,af,af];show dy (iV .join (.str [44]) [.lst (ws.map .str)]) m=_;rw[hm];rfl
 have hq:bx .Eq (.lst (ws.map .str)) (.lst [])=Zz (decide (ws=[])):=by
  show(if rV _ _ || (au 60 _&&au 60 (.lst []))then _ else _)=_;rw[XU (by rw[hd];exact WE _)];cases ws<;>rfl
 have key:ex (cf n) gv iK [Zz (.t (.lst (ws.map .str)))] m=.ok (.ret (.t (.str (bw ws)))) m:=by
  unfold iK;refine ai (aV (fk hj (ab _)) (aB (aw (aa rfl) (by simp[ev,evs,af,cI,lim]) hq) (BW _)) ?_);unfold bw;by_cases h:ws=[]
  ·subst h;rfl
  ·rw[XV h,XW h];rfl
 exact ax (AJ _ _ _) rfl key (aq (cell:=false) rfl)
theorem b7{w:List Nat}(h:bf w=true):w≠[]/\w.length<=8/\∀c∈w,c∈j0:=by
 unfold bf at h;simp at h;exact⟨λe=>by simp[e]at h,h.1.1.2,h.2⟩
theorem dU{w:List Nat}{c:Nat}(h:bf w=true)(hc:c∉j0):c∉w:=λhm=>hc ((b7 h).2.2 c hm)
theorem gX{call:Nat->List W->Mem->Res W}{gv:List T}{env:Env}{m:Mem}{b:Mt}{o e:E}{x y r:T}(hb:b=.split∨b=.partition)(ho:ev call gv o env m=.ok (.t x) m)(he:ev call gv e env m=.ok (.t y) m)(hx:cF x .str=true)(hm:iV b x [y]=Zz r):ev call gv (.eP b o (.cons e .nil)) env m=.ok (.t r) m:=by
 cases x with
 |str cs =>
  rcases hb with rfl|rfl<;>rw[ev,ho,af,XU (by rfl),evs,he,af,evs,af,af]
  ·show dy (iV .split (.str cs) [y]) m=_
   rw[hm];rfl
  ·show dy (iV .partition (.str cs) [y]) m=_
   rw[hm];rfl
 |_=>cases hx
theorem m_split{c:Nat}{ws:List (List Nat)}(h0:ws≠[])(h:∀w∈ws,c∉w)(hl:(ae [c] ws).length<=900000):iV .split (.str (ae [c] ws)) [.str [c]]=Zz (.lst (ws.map .str)):=by
 show(if(ae [c] ws).length<=900000 then Zz (T.lst ((aZ c (ae [c] ws)).map .str))else Zy)=_;rw[XU hl,gJ h0 h]
theorem fA{n:Nat}{m:Mem}{k:Int}(h0:0<=k)(h1:k<=1000000000):cf (n+3) 33 [.t (.str (aO k))] m=.ok (.t (.int k)) m:=by
 obtain⟨hf,hv,_,_⟩:=aQ h0 (by omega);have hi:=qe (n:=n+1) (m:=m) (rc hf).2;rw[hf]at hi;have hb:=(rc hf).1;rw[hv]at hb;have hn:=fu (n:=n) (m:=m) (x:=.int k);rw[show lT (.int k)=true by simp[lT];omega]at hn;have key:ex (cf (n+2)) gv eR [Zz (.t (.str (aO k)))] m=.ok (.ret (.t (.int k))) m:=by
  unfold eR;exact aD (by rw[jP ((ar (aa rfl)).trans hi)];exact(ar (aB (aa rfl) hb)).trans hn) (ai (aB (aa rfl) hb))
 exact ax (wg _ _ _) rfl key (aq (cell:=false) rfl)
theorem oB{n:Nat}{m:Mem}{ws:List (List Nat)}(hl:ws.length<=100)(hw:∀w∈ws,w≠[]/\w.length<=100/\44∉w)(hd:ws.length=1->ws≠[[45]]):cf (n+1) 29 [.t (.str (bw ws))] m=.ok (.t (.lst (ws.map .str))) m:=by
 have key:ex (cf n) gv eS [Zz (.t (.str (bw ws)))] m=.ok (.ret (.t (.lst (ws.map .str)))) m:=by
  unfold eS;have hq:bx .Eq (.str (bw ws)) (.str [45])=Zz (bw ws==[45]):=rfl;by_cases h:ws=[]
  ·subst h
   exact aD (aw (k:=true) (aa rfl) (jZ jt) hq) (ai (by simp[ev,evs,af,cI,lim]))
  ·have hb:=(lr [44] (ws:=ws) (k:=100) λw h=>(hw w h).2.1).1
   have hb2:ws.length*(100+[44].length)<=10100:=by simp;omega
   have e:bw ws=ae [44] ws:=XV h;have hne:(bw ws==[45])=false:=by
    rw[e,XY];rcases ws with _|⟨x,_|⟨y,r⟩⟩
    ·exact XZ rfl h
    ·intro z
     exact hd rfl (by rw[show x=[45]from z])
    ·intro z
     have z:x++[44]++ae [44] (y::r)=[45]:=z;have:=congrArg Rf z;have h1:=List.length_pos_iff.mpr (hw x (by simp)).1;simp at this;omega
   rw[hne]at hq;rw[ay (aw (aa rfl) (jZ jt) hq),e];exact ai (gX (.inl rfl) (aa rfl) (ab _) rfl (m_split h (λw hm=>(hw w hm).2.2) (by omega)))
 exact ax (vU _ _ _) rfl key (aq (cell:=false) rfl)
noncomputable def je(p:List Nat×Int):List Nat:=p.1++([61]++aO p.2)
theorem zV{n:Nat}{m:Mem}{p:List Nat×Int}(hw:bf p.1=true)(h0:0<=p.2)(h1:p.2<=1000000000):cf (n+4) 34 [.t (.str (je p))] m=.ok (.t (cX p)) m:=by
 have hd:=(aQ h0 (by omega)).2.2.2;have hl:=(b7 hw).2.1;have hp:iV .partition (.str (je p)) [.str [61]]=Zz (.tup [.str p.1,.str [61],.str (aO p.2)]):=by
  show(if(je p).length<=900000 then Zz (kl (je p) [61])else Zy)=_;rw[XU (by simp[je];omega),show je p=p.1++([61]++aO p.2)from rfl,EW (dU hw (by decide))]
 have key:ex (cf (n+3)) gv i9 [Zz (.t (.str (je p))),Zy,Zy,Zy] m=.ok (.ret (.t (cX p))) m:=by
  unfold i9;rw[gD (gX (.inr rfl) (aa rfl) (ab _) rfl hp) rfl];exact ai (bd (aa rfl) ((ar (aa rfl)).trans (fA h0 h1)))
 exact ax (Bf _ _ _) rfl key (aq (cell:=false) rfl)
theorem B8{call:Nat->List W->Mem->Res W}{gv:List T}{env:Env}{m m1:Mem}{e:E}{es:Es}{acc p:List Nat}{x:T}(h:ev call gv e env m=.ok (.t x) m1)(hx:kw x=Zz p)(hl:acc.length+p.length<=lim):tz call gv (.cons e es) acc env m=tz call gv es (acc++p) env m1:=by
 have f:iF acc (.t x) m1=.ok (acc++p) m1:=by
  unfold iF;show(match kw x with|some a=>_|none=>_)=_;rw[hx];exact XU hl
 rw[tz,h,af,f,af]
theorem bC{call:Nat->List W->Mem->Res W}{gv:List T}{env:Env}{m m1:Mem}{e:E}{es:Es}{acc p:List Nat}{x:T}{n k:Nat}{r:Res (List Nat)}(ha:acc.length<=n)(h:ev call gv e env m=.ok (.t x) m1)(hx:kw x=Zz p)(hp:p.length<=k)(hl:n+k<=1000000)(hr:(acc++p).length<=n+k->tz call gv es (acc++p) env m1=r):tz call gv (.cons e es) acc env m=r:=by
 have:=WP ha hp;rw[B8 h hx (RZ this hl)];exact hr (by rw[R8];exact this)
theorem ft{k:Int}(h0:0<=k)(h1:k<=1000000000):kw (.int k)=Zz (aO k):=XU (by
 have:(1000000001:Nat)<=2^250:=by decide +kernel
 omega)
noncomputable def bQ(side nm kd:List Nat)(mk:List (List Nat))(sz:List (List Nat×Int))(a b c e:Int):List (List Nat):=[side,nm,kd,bw mk,bw (sz.map je),aO a,aO b,aO c,aO e]
theorem kN{ws:List (List Nat)}(hl:ws.length<=6)(h:∀w∈ws,w.length<=20):(bw ws).length<=126:=by
 unfold bw;split
 ·simp
 ·have:=(lr [44] h).1
  simp at this;omega
theorem wN{p:List Nat×Int}(hw:bf p.1=true)(h0:0<=p.2)(h1:p.2<=1000000000):je p≠[]/\(je p).length<=20:=by
 have hd:=(aQ h0 (by omega)).2.2.2;have hl:=(b7 hw).2.1;refine⟨by simp[je],?_⟩;simp[je];omega
theorem ud{n d:Nat}{m:Mem}{side nm kd:List Nat}{mk:List (List Nat)}{sz:List (List Nat×Int)}{w:T}{a b c e:Int}(hs:side∈sides)(g:GoodC nm kd mk sz)(hw:WT (d+1) w)(ht:tot (d+1) [w]<=40)(hd:d<=5)(a0:0<=a)(a1:a<=1000000000)(b0:0<=b)(b1:b<=1000000000)(c0:0<=c)(c1:c<=1000000000)(e0:0<=e)(e1:e<=1000000000)(hwt:∀m,cf (n+40) 18 [.t w] m=.ok (.t (.str (ae [32] (cw (d+1) w)))) m)(hwl:(ae [32] (cw (d+1) w)).length<=2400):
  cf (n+41) 30 [.t (kH side (cg nm kd mk sz) w a b c e)] m=.ok (.t (.str (ae [32] (bQ side nm kd mk sz a b c e)++([32,124,32]++ae [32] (cw (d+1) w))))) m:=by
 have ls:side.length<=4:=by
  simp only[sides,R9,R4,or_false]at hs;rcases hs with rfl|rfl|rfl<;>decide
 have ln:=(b7 g.nm).2.1;have lk:=(b7 g.kd).2.1;have la:=(aQ a0 (by omega)).2.2.2;have lb:=(aQ b0 (by omega)).2.2.2;have lc:=(aQ c0 (by omega)).2.2.2;have le:=(aQ e0 (by omega)).2.2.2;have lm:=kN g.MM λw hw=>by have:=(b7 (RP.mp g.G5 w hw)).2.1;omega
 have hz:∀w∈sz.map je,w≠[]/\w.length<=20:=λw hw=>by
  obtain⟨p,hp,rfl⟩:=RI.mp hw;have:=g.CW p hp;exact wN this.1 this.2.1 this.2.2
 have lz:=kN (ws:=sz.map je) (by rw[Q8];exact g.Je) λw hw=>(hz w hw).2
 have hm:=λm=>m8 (n:=n+39) (m:=m) (x:=.tup (mk.map .str)) (ws:=mk) (.inr rfl) (by have:=g.MM;omega) λw hw=>by
  have:=b7 (RP.mp g.G5 w hw);exact⟨this.1,by omega⟩
 have hzt:=λm=>m8 (n:=n+39) (m:=m) (x:=.lst ((sz.map je).map .str)) (ws:=sz.map je) (.inl rfl) (by rw[Q8];have:=g.Je;omega) λw hw=>⟨(hz w hw).1,by have:=(hz w hw).2;omega⟩
 have hcomp:∀(env:Env),env[11]?=Zz (Zz (.t (.tup (sz.map cX))))->ev (cf (n+40)) gv ko env m=.ok (.t (.lst ((sz.map je).map .str))) m:=λenv he=>by
  have h:=bo (f:=aY (cf (n+40)) gv .nil gp) (tg:=.tp [0,1]) (env:=[Zy,Zy]) (m:=m) (g:=λt=>match t with|.tup [.str w,.int k]=>[T.str (je (w,k))]|_=>[]) (sz.map cX) (λt ht=>by
   obtain⟨p,hp,rfl⟩:=RI.mp ht;have q:=g.CW p hp;have hd':=(aQ q.2.1 (by omega)).2.2.2;have hl':=(b7 q.1).2.1;refine⟨[Zz (.t (.str p.1)),Zz (.t (.int p.2))],rfl,eH (show ev (cf (n+40)) gv gp _ _=_ from bS ?_)⟩;rw[ev,B8 (aa rfl) rfl (by simp[lim];omega),B8 (ab _) rfl (by simp[lim];omega),B8 (aa rfl) (ft q.2.1 q.2.2) (by simp[lim];omega),tz,af];simp[je])
  have e':(sz.map cX).flatMap (λt=>match t with|.tup [.str w,.int k]=>[T.str (je (w,k))]|_=>[])=(sz.map je).map .str:=by
   rw[VB,Re];exact bP _ _
  rw[e']at h;exact aM (x:=.t (.tup (sz.map cX))) (m0:=m) (aa he) rfl h (by rw[Q8,Q8];have:=g.Je;unfold lim;omega)
 have key:ex (cf (n+40)) gv dD [Zz (.t (kH side (cg nm kd mk sz) w a b c e)),Zy,Zy,Zy,Zy,Zy,Zy,Zy,Zy,Zy,Zy,Zy,Zy] m=.ok (.ret (.t (.str (ae [32] (bQ side nm kd mk sz a b c e)++([32,124,32]++ae [32] (cw (d+1) w)))))) m:=by
  unfold dD;rw[gD (aa rfl) rfl];rw[gD (t:=cg nm kd mk sz) (aa rfl) rfl];simp only[Tb,Uk,V3,TB,Vk,RB,RC];rw[av ((ar (hcomp _ rfl)).trans (hzt m))];refine ai ?_;simp only[RB,RC];rw[ev];refine XQ (congrArg (λr=>Res.bind r _) (bC (Sy 0) (aa rfl) rfl ls (by decide) λh=>bC h (ab _) rfl (by decide:[32].length<=1) (by decide) λh=>bC h (aa rfl) rfl ln (by decide) λh=>bC h (ab _) rfl (by decide:[32].length<=1) (by decide) λh=>bC h (aa rfl) rfl lk (by decide) λh=>bC h (ab _) rfl (by decide:[32].length<=1) (by decide) λh=>bC h ((ar (aa rfl)).trans (hm m)) rfl lm (by decide) λh=>bC h (ab _) rfl (by decide:[32].length<=1) (by decide) λh=>bC h (aa rfl) rfl lz (by decide) λh=>bC h (ab _) rfl (by decide:[32].length<=1) (by decide) λh=>bC h (aa rfl) (ft a0 a1) la (by decide) λh=>bC h (ab _) rfl (by decide:[32].length<=1) (by decide) λh=>bC h (aa rfl) (ft b0 b1) lb (by decide) λh=>bC h (ab _) rfl (by decide:[32].length<=1) (by decide) λh=>bC h (aa rfl) (ft c0 c1) lc (by decide) λh=>bC h (ab _) rfl (by decide:[32].length<=1) (by decide) λh=>bC h (aa rfl) (ft e0 e1) le (by decide) λh=>bC h (ab _) rfl (by decide:[32,124,32].length<=3) (by decide) λh=>bC h ((ar (aa rfl)).trans (hwt m)) rfl hwl (by decide) λh=>(by rw[tz]))) ?_;rw[af];simp[bQ,ae]
 exact ax (uh _ _ _) rfl key (aq (cell:=false) rfl)
theorem sw:∀{d:Nat}{l:List T}(e:Nat),(∀t∈l,WT d t)->tot (d+e) l=tot d l
 |0,l,e,h=>by
  cases l with
  |nil=>rw[fz,fz]
  |cons t l=>exact XZ (h t (by simp)) λz=>by cases z
 |d+1,l,e,h=>by
  rw[show d+1+e=(d+e)+1 by omega,tot,tot,sw e λt ht=>?_];obtain⟨x,hx,hy⟩:=VC.mp ht;exact(h x hx).kid t hy
theorem u4{w:List Nat}(h:bf w=true):fits (.str w)=true:=by
 rw[fits];exact XX (eZ h)
theorem Jh{d:Nat}{t:T}(h:WT d t):fits t=true:=by
 induction h with
 |leaf h _ _ =>
  cases qV h with
  |any=>rfl
  |two hw hv=>rcases hw with rfl|rfl<;>simp[fits,dL,lim]<;>exact XX (eZ hv)
  |three hw hv _ _=>rcases hw with rfl|rfl<;>simp[fits,dL,lim]<;>exact XX (eZ hv)
 |nt _ ih=>simp[fits,dL,lim,ih]
 |jn hw _ _ _ ih=>rcases hw with rfl|rfl<;>simp[fits,dL,lim]<;>exact on ih
theorem GoodC.fits{nm kd:List Nat}{mk:List (List Nat)}{sz:List (List Nat×Int)}(g:GoodC nm kd mk sz):My.fits (cg nm kd mk sz)=true:=by
 have h1:dL (mk.map T.str)=true:=on λt ht=>by
  obtain⟨w,hw,rfl⟩:=RI.mp ht;exact u4 (RP.mp g.G5 w hw)
 have h2:dL (sz.map cX)=true:=on λt ht=>by
  obtain⟨p,hp,rfl⟩:=RI.mp ht;have:=u4 (g.CW p hp).1;simp[cX,My.fits,dL]at this ⊢;exact this
 simp only[cg,My.fits,dL,h1,h2,Bool.and_true];rw[XX (eZ g.nm),XX (eZ g.kd)];rfl
theorem GoodC.MG{nm kd:List Nat}{mk:List (List Nat)}{sz:List (List Nat×Int)}(g:GoodC nm kd mk sz):l0 (cg nm kd mk sz)=true:=by
 have h1:(mk.map T.str).map Be=mk:=by rw[Re];exact V1 mk
 have h2:((sz.map cX).map yv).map Be=sz.map (·.1):=by rw[Re,Re];rfl
 have h3:(mk.map T.str).all cJ=true:=by rw[U9];exact g.G5
 have h4:(sz.map cX).all gd=true:=by
  rw[U9,RP];intro p hp;have:=g.CW p hp;show(bf p.1&&lT (.int p.2))=true;rw[this.1];simp[lT,this.2]
 show(bf nm&&(bf kd&&(jf (.tup (mk.map .str))&&ku (.tup (sz.map cX)))))=true;rw[g.nm,g.kd];simp only[jf,ku,h1,h2,h3,h4,g.PN,g.PV,Q8,XX g.MM,XX g.Je];rfl
theorem wp{n d:Nat}{m:Mem}{side nm kd:List Nat}{mk:List (List Nat)}{sz:List (List Nat×Int)}{w:T}{a b c e:Int}(hs:side∈sides)(g:GoodC nm kd mk sz)(hw:WT (d+1) w)(ht:tot (d+1) [w]<=40)(hd:d<=5)(a0:1<=a)(a1:a<=1000000)(b0:1<=b)(b1:b<=a)(c0:0<=c)(c1:c<=1000)(e0:0<=e)(e1:e<=1000000000):
  cf (n+6) 17 [.t (kH side (cg nm kd mk sz) w a b c e)] m=.ok (.t (.bl true)) m:=by
 have hw6:gq w=true:=xG hw (by omega) (by
  rw[show 6=d+1+(5-d) by omega,sw (5-d) λt h=>by rw[Ro]at h;exact h▸hw];exact ht)
 have hfit:fits (kH side (cg nm kd mk sz) w a b c e)=true:=by
  have:fits (.str side)=true:=by
   simp only[sides,R9,R4,or_false]at hs;rcases hs with rfl|rfl|rfl<;>simp[fits,lim]
  simp only[kH,fits,dL,g.fits,Jh hw]at this ⊢;simpa using this
 have hone:oneOf (.str side) sides=true:=by
  simp only[sides,R9,R4,or_false]at hs;rcases hs with rfl|rfl|rfl<;>decide
 have:=ym (n:=n) (m:=m) hfit;rw[this];have hB:fh (kH side (cg nm kd mk sz) w a b c e)=true:=by
  show(oneOf (.str side) sides&&(l0 (cg nm kd mk sz)&&(gq w&&(oI (.int a) 1 1000000&&(tK (.int b) (.int a)&&(oI (.int c) 0 1000&&lT (.int e)))))))=true;rw[hone,g.MG,hw6];simp[oI,tK,lT];omega
 rw[hB]
theorem IC{call:Nat->List W->Mem->Res W}{gv:List T}{env env':Env}{m m1:Mem}{is:List Nat}{e:E}{k:S}{ts:List T}(h:ev call gv e env m=.ok (.t (.lst ts)) m1)(h2:bK (.tp is) (.tup ts) env=Zz env'):ex call gv (.H9 is e k) env m=ex call gv k env' m1:=by
 rw[ex,h,af];dsimp only;rw[h2]
theorem dec_not{k:Int}{c:Nat}(h0:0<=k)(h1:k<=1000000000)(hc:c∉nX):c∉aO k:=λhm=>by
 have:=(aQ h0 (by omega)).1;unfold mv at this;simp only[R6,RP,decide_eq_true_eq]at this;exact hc (this.1.2 c hm)
theorem lH{sep:List Nat}{c:Nat}:∀{ws:List (List Nat)},c∈ae sep ws->c∈sep∨∃w∈ws,c∈w
 |[],h=>by cases h
 |[x],h=>.inr ⟨x,by simp,h⟩
 |x::y::r,h=>by
  have h:c∈x++sep++ae sep (y::r):=h;rcases Rp.mp h with h|h
  ·rcases Rp.mp h with h|h
   ·exact .inr ⟨x,by simp,h⟩
   ·exact .inl h
  ·rcases lH h with h|⟨w,hw,h⟩
   ·exact .inl h
   ·exact .inr ⟨w,RG _ hw,h⟩
theorem uI{c:Nat}{ws:List (List Nat)}(h1:c≠44)(h2:c≠45)(h:∀w∈ws,c∉w):c∉bw ws:=λhm=>by
 unfold bw at hm;split at hm
 ·exact h2 (by simpa using hm)
 ·rcases lH hm with hm|⟨w,hw,hm⟩
  ·exact h1 (by simpa using hm)
  ·exact h w hw hm
theorem xQ{c:Nat}{side nm kd:List Nat}{mk:List (List Nat)}{sz:List (List Nat×Int)}{a b d e:Int}(hs:side∈sides)(g:GoodC nm kd mk sz)(a0:0<=a)(a1:a<=1000000000)(b0:0<=b)(b1:b<=1000000000)(c0:0<=d)(c1:d<=1000000000)(e0:0<=e)(e1:e<=1000000000)(hl:c∉j0)(hd:c∉nX)(h1:c≠44)(h2:c≠45)(h3:c≠61):∀w∈bQ side nm kd mk sz a b d e,c∉w:=by
 have q1:c∉side:=λhm=>by
  simp only[sides,R9,R4,or_false]at hs;refine hl ?_;rcases hs with rfl|rfl|rfl<;>(simp only[R9,R4,or_false]at hm;rcases hm with rfl|rfl|rfl|rfl<;>decide)
 have q2:c∉bw mk:=uI h1 h2 λw hw=>dU (RP.mp g.G5 w hw) hl
 have q3:c∉bw (sz.map je):=uI h1 h2 λw hw=>by
  obtain⟨p,hp,rfl⟩:=RI.mp hw;have q:=g.CW p hp;intro hm;rcases Rp.mp hm with hm|hm
  ·exact dU q.1 hl hm
  ·rcases Rp.mp hm with hm|hm
   ·exact h3 (by simpa using hm)
   ·exact dec_not q.2.1 q.2.2 hd hm
 unfold bQ;exact R5.mpr ⟨q1,R5.mpr ⟨dU g.nm hl,R5.mpr ⟨dU g.kd hl,R5.mpr ⟨q2,R5.mpr ⟨q3,R5.mpr ⟨dec_not a0 a1 hd,R5.mpr ⟨dec_not b0 b1 hd,R5.mpr ⟨dec_not c0 c1 hd,R5.mpr ⟨dec_not e0 e1 hd,λ_ h=>XZ h R4⟩⟩⟩⟩⟩⟩⟩⟩⟩
theorem sf{side nm kd:List Nat}{mk:List (List Nat)}{sz:List (List Nat×Int)}{a b d e:Int}(hs:side∈sides)(g:GoodC nm kd mk sz)(a0:0<=a)(a1:a<=1000000000)(b0:0<=b)(b1:b<=1000000000)(c0:0<=d)(c1:d<=1000000000)(e0:0<=e)(e1:e<=1000000000):((bQ side nm kd mk sz a b d e).map Rf).sum+9<=2000:=by
 have ls:side.length<=4:=by
  simp only[sides,R9,R4,or_false]at hs;rcases hs with rfl|rfl|rfl<;>decide
 have ln:=(b7 g.nm).2.1;have lk:=(b7 g.kd).2.1;have la:=(aQ a0 (by omega)).2.2.2;have lb:=(aQ b0 (by omega)).2.2.2;have lc:=(aQ c0 (by omega)).2.2.2;have le:=(aQ e0 (by omega)).2.2.2;have lm:=kN g.MM λw hw=>by have:=(b7 (RP.mp g.G5 w hw)).2.1;omega
 have lz:=kN (ws:=sz.map je) (by rw[Q8];exact g.Je) λw hw=>by
  obtain⟨p,hp,rfl⟩:=RI.mp hw;have:=g.CW p hp;exact(wN this.1 this.2.1 this.2.2).2
 simp[bQ];omega
theorem rX{side nm kd:List Nat}{mk:List (List Nat)}{sz:List (List Nat×Int)}{a b d e:Int}(h:((bQ side nm kd mk sz a b d e).map Rf).sum+9<=2000):(ae [32] (bQ side nm kd mk sz a b d e)).length<=2000:=RZ (cT [32] _) h
theorem A8{n:Nat}{m:Mem}{x t:T}(h:cf n 27 [.t x] m=.ok (.t t) m):cf (n+1) 35 [.t x] m=.ok (.t t) m:=by
 have key:ex (cf n) gv iC [Zz (.t x)] m=.ok (.ret (.t t)) m:=by
  unfold iC;rw[ex,ai ((ar (aa rfl)).trans h)]
 exact ax (Ab _ _ _) rfl key (aq (cell:=false) rfl)
theorem cA{α:Type}{f:Env->Mem->Res (List T)}{tg:Tg}{env:Env}{m:Mem}(i o:α->T):∀(xs:List α),(∀x∈xs,∃env',bK tg (i x) env=Zz env'/\f env' m=.ok [o x] m)->cy f tg (xs.map i) env m=.ok (xs.map o) m
 |[],_=>rfl
 |x::xs,h=>by
  obtain⟨env',h1,h2⟩:=h x (by simp);rw[RN,cy,h1];dsimp only;rw[h2,af,cA i o xs (λy hy=>h y (RG _ hy)),af];rfl
theorem pP{n d:Nat}{m:Mem}{side nm kd:List Nat}{mk:List (List Nat)}{sz:List (List Nat×Int)}{w:T}{a b c e:Int}{ws:List (List Nat)}(hs:side∈sides)(g:GoodC nm kd mk sz)(hw:WT (d+1) w)(ht:tot (d+1) [w]<=40)(hd:d<=5)(a0:1<=a)(a1:a<=1000000)(b0:1<=b)(b1:b<=a)(c0:0<=c)(c1:c<=1000)(e0:0<=e)(e1:e<=1000000000)(hgo:GO 12 w ws)(h0:ws≠[])(hsp:∀w∈ws,32∉w)(hl:(ae [32] ws).length<=800000):
  cf (n+58) 36 [.t (.str (ae [32] (bQ side nm kd mk sz a b c e)++([32,124,32]++ae [32] ws)))] m=.ok (.t (kH side (cg nm kd mk sz) w a b c e)) m:=by
 have hn:∀{z:Nat},z∉j0->z∉nX->z≠44->z≠45->z≠61->∀w∈bQ side nm kd mk sz a b c e,z∉w:=λh1 h2 h3 h4 h5=>xQ hs g (by omega) (by omega) (by omega) (by omega) c0 (by omega) e0 e1 h1 h2 h3 h4 h5
 have hlen:=rX (sf hs g (show 0<=a by omega) (show a<=1000000000 by omega) (show 0<=b by omega) (show b<=1000000000 by omega) c0 (show c<=1000000000 by omega) e0 e1);have hbar:124∉ae [32] (bQ side nm kd mk sz a b c e):=λhm=>by
  rcases lH hm with hm|⟨w,hw,hm⟩
  ·simp at hm
  ·exact hn (by decide) (by decide) (by decide) (by decide) (by decide) w hw hm
 have hp:iV .partition (.str (ae [32] (bQ side nm kd mk sz a b c e)++([32,124,32]++ae [32] ws))) [.str [32,124,32]]=Zz (.tup [.str (ae [32] (bQ side nm kd mk sz a b c e)),.str [32,124,32],.str (ae [32] ws)]):=by
  show(if(ae [32] (bQ side nm kd mk sz a b c e)++([32,124,32]++ae [32] ws)).length<=900000 then Zz (kl (ae [32] (bQ side nm kd mk sz a b c e)++([32,124,32]++ae [32] ws)) [32,124,32])else Zy)=_;rw[XU (by simp;omega),yZ hbar]
 have hsplit:=m_split (c:=32) (ws:=bQ side nm kd mk sz a b c e) (by simp[bQ]) (hn (by decide) (by decide) (by decide) (by decide) (by decide)) (by omega);have hread:=vF (n:=n) (m:=m) hgo h0 hsp hl (λ{m}=>by
  have h6:gq w=true:=xG hw (by omega) (by
   rw[show 6=d+1+(5-d) by omega,sw (5-d) λt h=>by rw[Ro]at h;exact h▸hw];exact ht)
  have:=tL (n:=n+50) (m:=m) hw.fit;rw[h6]at this;exact this)
 have hwish:=A8 hread;have hmk:cf (n+57) 29 [.t (.str (bw mk))] m=.ok (.t (.lst (mk.map .str))) m:=oB (n:=n+56) (by have:=g.MM;omega) (λw hw=>by
  have q:=RP.mp g.G5 w hw;exact⟨(b7 q).1,by have:=(b7 q).2.1;omega,dU q (by decide)⟩) (λ_ z=>by
  have q:=g.G5;rw[z]at q;exact XZ q (by decide))
 have hsz:cf (n+57) 29 [.t (.str (bw (sz.map je)))] m=.ok (.t (.lst ((sz.map je).map .str))) m:=oB (n:=n+56) (by rw[Q8];have:=g.Je;omega) (λw hw=>by
  obtain⟨p,hp,rfl⟩:=RI.mp hw;have q:=g.CW p hp;have q2:=wN q.1 q.2.1 q.2.2;refine⟨q2.1,by omega,λhm=>?_⟩;rcases Rp.mp hm with hm|hm
  ·exact dU q.1 (by decide) hm
  ·rcases Rp.mp hm with hm|hm
   ·simp at hm
   ·exact dec_not q.2.1 q.2.2 (by decide) hm) (λh1 z=>by
  cases sz with
  |nil=>cases h1
  |cons p r =>
   have e:je p=[45]:=(Ue z).1;have q:=(g.CW p (by simp)).1;have:=b7 q;have l:=congrArg Rf e;simp[je]at l;exact this.1 (List.length_eq_zero_iff.mp (by omega)))
 generalize hT:ae [32] (bQ side nm kd mk sz a b c e)++([32,124,32]++ae [32] ws)=X at hp;have key:ex (cf (n+57)) gv fW [Zz (.t (.str X)),Zy,Zy,Zy,Zy,Zy,Zy,Zy,Zy,Zy,Zy,Zy] m=.ok (.ret (.t (kH side (cg nm kd mk sz) w a b c e))) m:=by
  unfold fW;rw[gD (gX (.inr rfl) (aa rfl) (ab _) rfl hp) rfl];simp only[Tb,Uk,V3,TB,Vk,RB,RC];rw[av (gX (.inl rfl) (aa rfl) (ab _) rfl hsplit)];simp only[bQ,RN,Tk,RB,RC];rw[ay (aw (k:=false) (aB (aa rfl) rfl) (ab _) rfl)];rw[av (aB ((ar (aV (aa rfl) (ab _) rfl)).trans hmk) (jG _))];simp only[RB,RC];have k1:∀env:Env,env[4]?=Zz (Zz (.t (.lst [.str side,.str nm,.str kd,.str (bw mk),.str (bw (sz.map je)),.str (aO a),.str (aO b),.str (aO c),.str (aO e)])))->ev (cf (n+57)) gv mX env m=.ok (.t (.lst (sz.map cX))) m:=λenv he=>by
   have h:=cA (f:=aY (cf (n+57)) gv .nil jO) (tg:=.nm 0) (env:=[Zy]) (m:=m) (λp=>T.str (je p)) cX sz (λp hp=>by
    have q:=g.CW p hp;exact⟨_,rfl,eH (show ev (cf (n+57)) gv jO _ _=_ from bS ((ar (aa rfl)).trans (zV (n:=n+53) q.1 q.2.1 q.2.2)))⟩)
   rw[Re]at hsz;exact aM (x:=.t (.lst (sz.map λp=>T.str (je p)))) (m0:=m) ((ar (aV (aa he) (ab _) rfl)).trans hsz) rfl h (by rw[Q8];have:=g.Je;unfold lim;omega)
  rw[av (aB (k1 _ rfl) (jG _))];simp only[RB,RC];have k0:∀env:Env,env[4]?=Zz (Zz (.t (.lst [.str side,.str nm,.str kd,.str (bw mk),.str (bw (sz.map je)),.str (aO a),.str (aO b),.str (aO c),.str (aO e)])))->ev (cf (n+57)) gv nr env m=.ok (.t (.lst [.int a,.int b,.int c,.int e])) m:=λenv he=>by
   have h:=cA (f:=aY (cf (n+57)) gv .nil jl) (tg:=.nm 0) (env:=[Zy]) (m:=m) (λk=>T.str (aO k)) T.int [a,b,c,e] (λk hk=>by
    have q:0<=k/\k<=1000000000:=by
     simp only[R9,R4,or_false]at hk;rcases hk with rfl|rfl|rfl|rfl<;>omega
    exact⟨_,rfl,eH (show ev (cf (n+57)) gv jl _ _=_ from bS ((ar (aa rfl)).trans (fA (n:=n+54) q.1 q.2)))⟩)
   refine aM (x:=.t (.lst ([a,b,c,e].map λk=>T.str (aO k)))) (m0:=m) ?_ rfl h (by simp[lim]);rw[ev,aa he,af,ab];rfl
  rw[IC (k0 _ rfl) rfl];simp only[Tb,Uk,V3,TB,Vk,RB,RC];rw[av (w:=.t (kH side (cg nm kd mk sz) w a b c e)) (m1:=m) (by simp[ev,evs,cF,aA,dv,lim,hwish,kH,cg,atT,jq])];simp only[RB,RC];exact aD ((ar (aa rfl)).trans (wp (n:=n+51) hs g hw ht hd a0 a1 b0 b1 c0 c1 e0 e1)) (ai (aa rfl))
 exact ax (x9 _ _ _) rfl key (aq (cell:=false) rfl)
theorem vh{N:Nat}{s:List (List Nat)}{h:List Nat}{r:List T}{ws:List (List Nat)}{m:Mem}(hne:ws≠[])(hl:(ae [32] ws).length<=3000)(hx:∀m:Mem,cf N 56 [.t (.tup (.str h::r))] m=.ok (.t (.str (ae [32] ws))) m):
  cf (N+1) 55 [.t (.tup (.str h::r)),.t (.tup (s.map .str))] m=.ok (.t (.str (ae [32] (clos s (.tup (.str h::r)) ws)))) m:=by
 have key:ex (cf N) gv iP [Zz (.t (.tup (.str h::r))),Zz (.t (.tup (s.map .str))),Zy] m=.ok (.ret (.t (.str (ae [32] (clos s (.tup (.str h::r)) ws))))) m:=by
  unfold iP;rw[av ((ar (aa rfl)).trans (hx m)),oS hne];simp only[RB,RC];have hc:=aw (call:=cf N) (gv:=gv) (env:=[Zz (.t (.tup (.str h::r))),Zz (.t (.tup (s.map .str))),Zz (.t (.str (ae [32] ws)))]) (m:=m) (ba (aa (i:=0) rfl)) (aa (i:=1) rfl) (Gy h s).1;cases hk:(s.any λa=>a==h)with
  |true =>
   rw[hk]at hc;rw[show(s.any λa=>a==gf (.tup (.str h::r)))=true from hk,XU rfl];exact aD hc (ai (az (az (ab _) (aa rfl) (dW (by simp[lim];omega))) (ab _) (dW (by simp[lim];omega))))
  |false =>
   rw[hk]at hc;rw[show(s.any λa=>a==gf (.tup (.str h::r)))=false from hk,XV (by simp),ay hc];exact ai (aa rfl)
 exact ax (Bp _ _ _) rfl key (aq (cell:=false) rfl)
theorem yc{call:Nat->List W->Mem->Res W}{gv:List T}{env:Env}{m:Mem}{o:E}{ys:List (List Nat)}(h:ev call gv o env m=.ok (.t (.tup (ys.map .str))) m)(hl:(ys.map Rf).sum+ys.length<=lim):ev call gv (.eP .join (.con (.str [32])) (.cons o .nil)) env m=.ok (.t (.str (ae [32] ys))) m:=by
 rw[ev,ab,af,XU (show xX .join (.t (.str [32])) m=true from rfl),evs,h,af,evs,af,af];show dy ((cC (ys.map T.str)).bind λzs=>if(zs.map Rf).sum+zs.length*[32].length<=lim then Zz (T.str (ae [32] zs))else Zy) m=_;rw[kS,SX,XU (by simpa using hl)];rfl
theorem HG{n d:Nat}{t:T}{m:Mem}(h:lQ t):cf (n+1) 56 [.t t] m=.ok (.t (.str (ae [32] (cw (d+1) t)))) m:=by
 have key:ex (cf n) gv bD [Zz (.t t),Zy] m=.ok (.ret (.t (.str (ae [32] (cw (d+1) t))))) m:=by
  unfold bD;cases h with
  |any =>
   rw[av (ba (aa rfl)),qy (aa rfl) rfl,d5 (aa rfl) rfl,d5 (aa rfl) rfl,d5 (aa rfl) rfl];exact ai ((yc (ys:=[[97,110,121]]) (aa rfl) (by simp[lim])).trans rfl)
  |@two w v hw hv =>
   obtain⟨_,g2,_⟩:=d9 hv;rw[av (ba (aa rfl)),qy (aa rfl) (by rcases hw with rfl|rfl<;>rfl),d5 (aa rfl) (by rcases hw with rfl|rfl<;>rfl),d5 (aa rfl) (by rcases hw with rfl|rfl<;>rfl),d5 (aa rfl) (by rcases hw with rfl|rfl<;>rfl)];refine ai ((yc (ys:=[w,v]) (aa rfl) ?_).trans ?_)
   ·rcases hw with rfl|rfl<;>(simp[lim];omega)
   ·rcases hw with rfl|rfl<;>rfl
  |@three w v k hw hv k0 k1 =>
   obtain⟨_,g2,_⟩:=d9 hv;obtain⟨_,_,_,f4⟩:=aQ k0 (by omega);rw[av (ba (aa rfl))];have e2:ev (cf n) gv (.ix (.var 0) (.con (.int 2))) [Zz (.t (.tup [.str w,.str v,.int k])),Zz (.t (.str w))] m=.ok (.t (.int k)) m:=aV (aa rfl) (ab _) rfl;have es:ev (cf n) gv (.ix (.lst (.cons (.con (.str [32,60,61,32])) (.cons (.con (.str [32,62,61,32])) .nil))) (.blt .int (.cons (.cmp .Eq (.var 1) (.con (.str [108,101,97,115,116]))) .nil))) [Zz (.t (.tup [.str w,.str v,.int k])),Zz (.t (.str w))] m=.ok (.t (.str (if(w==[108,101,97,115,116])=true then[32,62,61,32]else[32,60,61,32]))) m:=by
    refine aV (fk (ab _) (ab _)) (aB (aw (aa rfl) (ab _) (fR _ _)) (BW _)) ?_;rcases hw with rfl|rfl<;>rfl
   refine HD (aa rfl) (by rcases hw with rfl|rfl<;>rfl) (ai ((az (az (j6 (aa rfl)) es (dW ?_)) (aB e2 (kA (by omega))) (dW ?_)).trans ?_))
   ·rcases hw with rfl|rfl<;>(simp[lim];omega)
   ·rcases hw with rfl|rfl<;>(simp[lim];omega)
   ·rcases hw with rfl|rfl
    ·show Res.ok (W.t (.str (v++[32,62,61,32]++aO k))) m=.ok (.t (.str (v++[32]++([62,61]++[32]++aO k)))) m
     simp
    ·show Res.ok (W.t (.str (v++[32,60,61,32]++aO k))) m=.ok (.t (.str (v++[32]++([60,61]++[32]++aO k)))) m
     simp
 exact ax (iq _ _ _) rfl key (aq (cell:=false) rfl)
theorem Oe:∀{d:Nat}{t:T},WT d t->60*tot d [t]<=2400->∀(n:Nat) (m:Mem),cf (n+2*d) 56 [.t t] m=.ok (.t (.str (ae [32] (cw d t)))) m:=by
 intro d t h
 induction h with
 |leaf hp _ _=>exact λ_ n m=>HG (qV hp)
 |@nt d t hw ih =>
  intro hz n m;have htot:tot (d+1) [.tup [.str [110,111,116],t]]=1+tot d [t]:=by rw[eC,iG]
  have h:=F0 hw (by omega);have hc:=nk (s:=[[97,110,100],[111,114]]) (t:=t) h.ne;have hcl:=ou (s:=[[97,110,100],[111,114]]) (t:=t) h.ne;have hlen:=h.len;have etext:ae [32] (cw (d+1) (.tup [.str [110,111,116],t]))=[110,111,116,32]++ae [32] (clos [[97,110,100],[111,114]] t (cw d t)):=by
   rw[tD hw];exact(dZ (a:=[[110,111,116]]) (by simp) hc).trans rfl
  obtain⟨a,r,rfl⟩:=Tx.cons hw;have hi:=vh (N:=n+2*d) (m:=m) (s:=[[97,110,100],[111,114]]) h.ne (by omega) (λm=>ih (by omega) n m);have key:ex (cf (n+2*d+1)) gv bD [Zz (.t (.tup [.str [110,111,116],.tup (.str a::r)])),Zy] m=.ok (.ret (.t (.str (ae [32] (cw (d+1) (.tup [.str [110,111,116],.tup (.str a::r)])))))) m:=by
   unfold bD;rw[etext,av (ba (aa rfl)),qy (aa rfl) rfl];exact qi (aa rfl) rfl (ai (az (ab _) ((al (j6 (aa rfl)) (bd (ab _) (ab _))).trans hi) (dW (by simp[lim];omega))))
  exact ax (iq _ _ _) rfl key (aq (cell:=false) rfl)
 |@jn d w ts hw h2 h6 hts ih =>
  intro hz n m;have htot:tot (d+1) [.tup [.str w,.tup ts]]=1+(ts.map λx=>tot d [x]).sum:=by rw[eC,lC hw h2 h6,qY]
  have small:∀t∈ts,60*tot d [t]<=2400:=λt ht=>by
   have a2:tot d [t]<=(ts.map λx=>tot d [x]).sum:=wb (f:=λx=>tot d [x]) ht;omega
  have h:∀t∈ts,Tx d t:=λt ht=>F0 (hts t ht) (small t ht)
  have hsum:(ts.map λt=>(ae [32] (clos (dI w) t (cw d t))).length).sum<=60*(ts.map λx=>tot d [x]).sum+4*ts.length:=by
   rw[<-wm];exact AX λt ht=>RZ (ou (h t ht).ne) (Nat.add_le_add_right (h t ht).len 4)
  have hsz:((ts.map λt=>ae [32] (clos (dI w) t (cw d t))).map Rf).sum+(ts.map λt=>ae [32] (clos (dI w) t (cw d t))).length*(32::w++[32]).length<=lim:=by
   rw[Re,Q8];have e:(32::w++[32]).length<=5:=by rcases hw with rfl|rfl<;>decide
   have e2:ts.length*(32::w++[32]).length<=ts.length*5:=Nat.mul_le_mul_left _ e;have e3:(Ud (Rf ∘ λt=>ae [32] (clos (dI w) t (cw d t))) ts).sum=(ts.map λt=>(ae [32] (clos (dI w) t (cw d t))).length).sum:=rfl;rw[e3];unfold lim;omega
  have etext:ae [32] (cw (d+1) (.tup [.str w,.tup ts]))=ae (32::w++[32]) (ts.map λt=>ae [32] (clos (dI w) t (cw d t))):=by
   rw[xH hw,<-mD,Re]
   ·rfl
   ·intro x hx
    obtain⟨t,ht,rfl⟩:=RI.mp hx;exact nk (h t ht).ne
  have each:∀(e:E) (x:T),x=.tup ((dI w).map .str)->(∀env,ev (cf (n+2*d+1)) gv e env m=.ok (.t x) m)->∀env:Env,env[0]?=Zz (Zz (.t (.tup [.str w,.tup ts])))->ev (cf (n+2*d+1)) gv (.comp 1 [] (.ix (.var 0) (.con (.int 1))) (.nm 0) .nil (.emit (.call 55 (.cons (.var 0) (.cons e .nil))))) env m=.ok (.t (.lst ((ts.map λt=>ae [32] (clos (dI w) t (cw d t))).map .str))) m:=λe x hx he env h0=>by
   have hl:=cA (f:=aY (cf (n+2*d+1)) gv .nil (.emit (.call 55 (.cons (.var 0) (.cons e .nil))))) (tg:=.nm 0) (env:=[Zy]) (m:=m) (λt=>t) (λt=>T.str (ae [32] (clos (dI w) t (cw d t)))) ts (λt ht=>by
    obtain⟨a,r,rfl⟩:=Tx.cons (hts t ht);have q:=(h _ ht).len;have q2:=small _ ht;refine⟨_,rfl,eH (bS ((al (aa rfl) (he _)).trans ?_))⟩;rw[hx];exact vh (h _ ht).ne (by omega) (λm=>ih _ ht q2 n m))
   rw[V1]at hl;rw[Re];exact aM (x:=.t (.tup ts)) (m0:=m) (j6 (aa h0)) rfl hl (by rw[Q8];unfold lim;omega)
  have key:ex (cf (n+2*d+1)) gv bD [Zz (.t (.tup [.str w,.tup ts])),Zy] m=.ok (.ret (.t (.str (ae [32] (cw (d+1) (.tup [.str w,.tup ts])))))) m:=by
   unfold bD;rw[etext,av (ba (aa rfl)),qy (aa rfl) (by rcases hw with rfl|rfl<;>rfl),d5 (aa rfl) (by rcases hw with rfl|rfl<;>rfl)];rcases hw with rfl|rfl
   ·exact qi (aa rfl) rfl (ai (dM (ab _) (each (.tup (.cons (.con (.str [97,110,100])) (.cons (.con (.str [111,114])) .nil))) _ rfl (λenv=>bd (ab _) (ab _)) _ rfl) hsz))
   ·rw[d5 (aa rfl) rfl]
    exact qi (aa rfl) rfl (ai (dM (ab _) (each (.tup (.cons (.con (.str [111,114])) .nil)) _ rfl (λenv=>rk (ab _)) _ rfl) hsz))
  exact ax (iq _ _ _) rfl key (aq (cell:=false) rfl)
theorem Ic{p:List Nat×Int}(h:bf p.1=true/\0<=p.2/\p.2<=1000000000):∀c∈je p,c<1114112:=λc hc=>by
 refine Nat.lt_of_not_le λhz=>?_
 rcases Rp.mp hc with hc|hc
 ·exact dU h.1 (c:=c) (λq=>XZ ((by decide:∀c∈j0,c<200) c q) (by omega)) hc
 ·rcases Rp.mp hc with hc|hc
  ·simp at hc;omega
  ·exact dec_not h.2.1 h.2.2 (c:=c) (λq=>XZ ((by decide:∀c∈nX,c<200) c q) (by omega)) hc
theorem law_text_ok{n d:Nat}{m:Mem}{side nm kd:List Nat}{mk:List (List Nat)}{sz:List (List Nat×Int)}{w:T}{a b c e:Int}(hs:side∈sides)(g:GoodC nm kd mk sz)(a0:0<=a)(a1:a<=1000000000)(b0:0<=b)(b1:b<=1000000000)(c0:0<=c)(c1:c<=1000000000)(e0:0<=e)(e1:e<=1000000000)(hwt:∀m,cf (n+40) 56 [.t w] m=.ok (.t (.str (ae [32] (cw d w)))) m)(hwl:(ae [32] (cw d w)).length<=2400):
  cf (n+41) 58 [.t (kH side (cg nm kd mk sz) w a b c e)] m=.ok (.t (.str (ae [32] (bQ side nm kd mk sz a b c e)++([32,124,32]++ae [32] (cw d w))))) m:=by
 have hsum:=sf hs g a0 a1 b0 b1 c0 c1 e0 e1;have hlen:=rX hsum;have hm:=λm=>u8 (n:=n+39) (m:=m) (ws:=mk) (by have:=g.MM;omega) (by
  rw[au];refine bn λt ht=>?_
  obtain⟨w,hw,rfl⟩:=RI.mp ht;exact eV (RP.mp g.G5 w hw)) λw hw=>by
  have:=b7 (RP.mp g.G5 w hw);exact⟨this.1,by omega⟩
 have hz:=λm=>u8 (n:=n+39) (m:=m) (ws:=sz.map je) (by rw[Q8];have:=g.Je;omega) (by
  rw[au];refine bn λt ht=>?_
  obtain⟨w,hw,rfl⟩:=RI.mp ht;obtain⟨p,hp,rfl⟩:=RI.mp hw;exact dQ (Ic (g.CW p hp))) λw hw=>by
  obtain⟨p,hp,rfl⟩:=RI.mp hw;have q:=g.CW p hp;have:=wN q.1 q.2.1 q.2.2;exact⟨this.1,by omega⟩
 have k1:∀(M:Mem) (env:Env),env[2]?=Zz (Zz (.t (cg nm kd mk sz)))->ev (cf (n+40)) gv jR env M=.ok (.t (.lst ((sz.map je).map .str))) M:=λM env he=>by
  have h:=cA (f:=aY (cf (n+40)) gv .nil fe) (tg:=.tp [0,1]) (env:=[Zy,Zy]) (m:=M) cX (λp=>T.str (je p)) sz (λp hp=>by
   have q:=g.CW p hp;have q1:=(aQ q.2.1 (by omega)).2.2.2;have q2:=(b7 q.1).2.1;refine⟨[Zz (.t (.str p.1)),Zz (.t (.int p.2))],rfl,eH (show ev (cf (n+40)) gv fe _ _=_ from bS ((az (az (aa rfl) (ab _) (dW (by simp[lim];omega))) (aB (aa rfl) (kA (by omega))) (dW (by simp[lim];omega))).trans ?_))⟩;simp[je])
  rw[Re];exact aM (x:=.t (.tup (sz.map cX))) (m0:=M) (aV (aa he) (ab _) rfl) rfl h (by rw[Q8];have:=g.Je;unfold lim;omega)
 have k0:∀(M:Mem) (env:Env),env[4]?=Zz (Zz (.t (.int a)))->env[5]?=Zz (Zz (.t (.int b)))->env[6]?=Zz (Zz (.t (.int c)))->env[7]?=Zz (Zz (.t (.int e)))->ev (cf (n+40)) gv jS env M=.ok (.t (.lst ([a,b,c,e].map λk=>T.str (aO k)))) M:=λM env h4 h5 h6 h7=>by
  have h:=cA (f:=aY (cf (n+40)) gv .nil fc) (tg:=.nm 0) (env:=[Zy]) (m:=M) T.int (λk=>T.str (aO k)) [a,b,c,e] (λk hk=>by
   have q:0<=k/\k<=1000000000:=by
    simp only[R9,R4,or_false]at hk;rcases hk with rfl|rfl|rfl|rfl<;>omega
   exact⟨_,rfl,eH (show ev (cf (n+40)) gv fc _ _=_ from bS (aB (aa rfl) (kA (by omega))))⟩)
  refine aM (x:=.t (.lst ([a,b,c,e].map T.int))) (m0:=M) ?_ rfl h (by simp[lim]);simp[ev,evs,h4,h5,h6,h7,af,ek,cI,lim]
 have hv:∀(M:Mem) (ts:List T),view (.c M.length) (M++[Zz (false,ts)])=Zz (.lst ts):=λM ts=>by simp[view]
 have key:ex (cf (n+40)) gv c9 [Zz (.t (kH side (cg nm kd mk sz) w a b c e)),Zy,Zy,Zy,Zy,Zy,Zy,Zy,Zy] m=.ok (.ret (.t (.str (ae [32] (bQ side nm kd mk sz a b c e)++([32,124,32]++ae [32] (cw d w)))))) (m++[Zz (false,[T.str side,.str nm,.str kd,.str (bw mk),.str (bw (sz.map je))])]++[Zz (false,(bQ side nm kd mk sz a b c e).map .str)]):=by
  unfold c9;rw[gD (aa rfl) rfl];simp only[Tb,Uk,V3,TB,Vk,RB,RC];rw[av (w:=.c m.length) (m1:=m++[Zz (false,[T.str side,.str nm,.str kd,.str (bw mk)])]) (by
   rw[ev,am (aa rfl) (am (aV (aa rfl) (ab _) rfl) (am (aV (aa rfl) (ab _) rfl) (am ((ar (aB (aV (aa rfl) (ab _) rfl) rfl)).trans (hm m)) a8))),af];simp[ek,cI,af,lim])]
  simp only[RB,RC];rw[qG (w:=.t .non) (m1:=m++[Zz (false,[T.str side,.str nm,.str kd,.str (bw mk),.str (bw (sz.map je))])]) (by
   rw[ev,aa rfl,af,XU (by simp[xX]),am ((ar (k1 _ _ rfl)).trans (hz _)) a8,af];exact vC (by simp[lim]))]
  rw[av (w:=.c (m.length+1)) (m1:=m++[Zz (false,[T.str side,.str nm,.str kd,.str (bw mk),.str (bw (sz.map je))])]++[Zz (false,(bQ side nm kd mk sz a b c e).map .str)]) (by
   rw[ev,aa rfl,af,k0 _ _ rfl rfl rfl rfl,af];unfold Jy;rw[hv];simp[view,Db,lim,bQ])]
  simp only[RB,RC];refine ai (az (az (x:=.str (ae [32] (bQ side nm kd mk sz a b c e))) ?_ (ab _) (dW (by simp[lim];omega))) ((ar (aa rfl)).trans (hwt _)) ((dW (by simp[lim];omega)).trans (by rw[SV])));rw[ev,ab,af,XU (show xX .join (.t (.str [32])) _=true from rfl),am (aa rfl) a8,af];have hl1:m.length+1=(m++[Zz (false,[T.str side,.str nm,.str kd,.str (bw mk),.str (bw (sz.map je))])]).length:=by simp
  show dy ((view _ _).bind λx=>(views [_] _).bind λts=>iV .join x ts) _=_;rw[hl1,views,hv];show dy ((cC ((bQ side nm kd mk sz a b c e).map T.str)).bind λzs=>if(zs.map Rf).sum+zs.length*[32].length<=lim then Zz (T.str (ae [32] zs))else Zy) _=_;rw[kS,SX,XU (by unfold lim;exact RZ hsum (by decide))];rfl
 exact ax (tF _ _ _) rfl key (show Res.ok _ ((m++_++_).take m.length)=_ from by rw[SV];exact congrArg _ (VR rfl))
theorem PM.deep{d:Nat}{t:T}(h:WT d t):∀k,au (2*d+k) t=true:=by
 induction h with
 |@leaf d t hp _ _ =>
  intro k;rw[show 2*(d+1)+k=(2*d+1+k)+1 by omega];exact HV (qV hp)
 |@nt d a hw ih =>
  intro k;rw[show 2*(d+1)+k=(2*d+(k+1))+1 by omega,au];refine bn λx hx=>?_
  simp only[R9,R4,or_false]at hx;rcases hx with rfl|rfl
  ·exact dQ (by decide)
  ·exact ih _
 |@jn d w ts hw h2 h6 hts ih =>
  intro k;rw[show 2*(d+1)+k=(2*d+k)+1+1 by omega,au];refine bn λx hx=>?_
  simp only[R9,R4,or_false]at hx;rcases hx with rfl|rfl
  ·rcases hw with rfl|rfl<;>exact dQ (by decide)
  ·rw[au]
   exact bn λx hx=>ih x hx k
theorem ne_str(x:List Nat):bx .NotEq (.str x) (.str x)=Zz false:=by rw[EQ];simp
theorem Dh{d j:Nat}{side nm kd:List Nat}{mk:List (List Nat)}{sz:List (List Nat×Int)}{w:T}{a b c e:Int}(hs:side∈sides)(g:GoodC nm kd mk sz)(hw:WT (d+1) w)(hd:d<=5)(hj:12<=j):au (j+3) (kH side (cg nm kd mk sz) w a b c e)=true:=by
 have h1:∀k,au k (.str side)=true:=λk=>by
  simp only[sides,R9,R4,or_false]at hs;rcases hs with rfl|rfl|rfl<;>exact dQ (by decide)
 have h2:au (j+1) (.tup (mk.map .str))=true:=by
  rw[au];refine bn λt ht=>?_
  obtain⟨w,hw,rfl⟩:=RI.mp ht;exact eV (RP.mp g.G5 w hw)
 have h3:au (j+1) (.tup (sz.map cX))=true:=by
  rw[au];refine bn λt ht=>?_
  obtain⟨p,hp,rfl⟩:=RI.mp ht;obtain⟨i,rfl⟩:∃i,j=i+1:=⟨j-1,by omega⟩
  rw[cX,au,aG,aG,aG,eV (g.CW p hp).1];simp[au]
 have h4:=PM.deep hw (j+2-2*(d+1));rw[show 2*(d+1)+(j+2-2*(d+1))=j+2 by omega]at h4;have h5:au (j+2) (cg nm kd mk sz)=true:=by
  rw[cg,au,aG,aG,aG,aG,aG,eV g.nm,eV g.kd,h2,h3];rfl
 rw[kH,au,aG,aG,aG,h1,h5,h4];simp[aG,au]
theorem BQ{f:Env->Mem->Res Flow}{tg:Tg}{env env1 env2:Env}{m m2:Mem}{t:T}{ts:List T}(h1:bK tg t env=Zz env1)(h2:f env1 m=.ok (.next env2) m2):ca f tg (t::ts) env m=ca f tg ts env2 m2:=by
 rw[ca,h1];show(f env1 m).bind _=_;rw[h2];rfl
noncomputable def br(ws:List (List Nat)):List (List Nat):=[40]::(ws++[[41]])
theorem Ky{k:Nat}{t:T}{ws:List (List Nat)}(h:GO k t ws):GO (k+1) t (br ws):=.inl (.inl (.inr (.inr ⟨ws,h,rfl⟩)))
theorem Kh{ws:List (List Nat)}(h:∀w∈ws,Dv w):∀w∈br ws,Dv w:=by
 intro w hw;simp only[br,R9,Rp,R4,or_false]at hw;rcases hw with rfl|hw|rfl
 ·decide
 ·exact h w hw
 ·decide
structure NF (o:T) (H V:List Nat):Prop where
 bar:124∉H
 l1:10∉H
 l2:10∉V
 lh:H.length<=2000
 lv:V.length<=2400
 dp:∀j,12<=j->au (j+3) o=true
 tp:eqT o .non=false
 tx:∀n m,cf (n+59) 30 [.t o] m=.ok (.t (.str (H++([32,124,32]++V)))) m
 lt:∀n m,cf (n+59) 58 [.t o] m=.ok (.t (.str (H++([32,124,32]++V)))) m
 rd:∀n m,cf (n+58) 36 [.t (.str (H++([32,124,32]++V)))] m=.ok (.t o) m
 rb:∀n m,cf (n+58) 36 [.t (.str (H++([32,124,32]++([40,32,40,32]++V++[32,41,32,41]))))] m=.ok (.t o) m
theorem cK{c:Nat}{ws:List (List Nat)}(h0:c≠32)(h:∀w∈ws,c∉w):c∉ae [32] ws:=λhm=>by
 rcases lH hm with hm|⟨w,hw,hm⟩
 ·exact h0 (by simpa using hm)
 ·exact h w hw hm
theorem Eu{o:T}(gO:FS o):∃H V,NF o H V:=by
 cases gO with
 |@mk side nm kd mk sz d w a b c e hs g hd hw ht a0 a1 b0 b1 c0 c1 e0 e1 =>
  have tx:=F0 hw (by omega);have hl:=tx.len;have hwl:(ae [32] (cw (d+1) w)).length<=2400:=by omega
  have A0:0<=a:=by omega
  have A1:a<=1000000000:=by omega
  have B0:0<=b:=by omega
  have B1:b<=1000000000:=by omega
  have C1:c<=1000000000:=by omega
  have hn:∀{z:Nat},z≠32->z∉j0->z∉nX->z≠44->z≠45->z≠61->z∉ae [32] (bQ side nm kd mk sz a b c e):=λh0 h1 h2 h3 h4 h5=>cK h0 (xQ hs g A0 A1 B0 B1 c0 C1 e0 e1 h1 h2 h3 h4 h5)
  have x1:ae [32] (br (cw (d+1) w))=[40,32]++ae [32] (cw (d+1) w)++[32,41]:=rH tx.ne;have x2:ae [32] (br (br (cw (d+1) w)))=[40,32]++ae [32] (br (cw (d+1) w))++[32,41]:=rH (by simp[br]);rw[x1]at x2;have x2:ae [32] (br (br (cw (d+1) w)))=[40,32,40,32]++ae [32] (cw (d+1) w)++[32,41,32,41]:=by rw[x2];simp
  refine⟨ae [32] (bQ side nm kd mk sz a b c e),ae [32] (cw (d+1) w),hn (by decide) (by decide) (by decide) (by decide) (by decide) (by decide),hn (by decide) (by decide) (by decide) (by decide) (by decide) (by decide),cK (by decide) λw hw=>(tx.sp w hw).2,rX (sf hs g A0 A1 B0 B1 c0 C1 e0 e1),hwl,λj hj=>Dh hs g hw hd hj,rfl,λn m=>?_,λn m=>?_,λn m=>?_,λn m=>?_⟩
  ·exact ud (n:=n+18) hs g hw ht hd A0 A1 B0 B1 c0 C1 e0 e1 (λm=>by have:=tx.wt (n+58-2*(d+1)) m;rwa [show n+58-2*(d+1)+2*(d+1)=n+18+40 by omega]at this) hwl
  ·exact law_text_ok (n:=n+18) (d:=d+1) (w:=w) hs g A0 A1 B0 B1 c0 C1 e0 e1 (λm=>by have:=Oe hw (by omega) (n+58-2*(d+1)) m;rwa [show n+58-2*(d+1)+2*(d+1)=n+18+40 by omega]at this) hwl
  ·exact pP hs g hw ht hd a0 a1 b0 b1 c0 c1 e0 e1 (tx.st 12 (by omega)).go tx.ne (λw hw=>(tx.sp w hw).1) (by omega)
  ·rw[<-x2]
   exact pP hs g hw ht hd a0 a1 b0 b1 c0 c1 e0 e1 (Ky (Ky (tx.st 10 (by omega)).go)) (by simp[br]) (λw hw=>(Kh (Kh tx.sp) w hw).1) (by rw[x2];simp;omega)
inductive At where
 |w (s:List Nat)|n (k:Int)
noncomputable def At.t:At->T
 |.w s=>.str s
 |.n k=>.int k
noncomputable def At.x:At->List Nat
 |.w s=>s
 |.n k=>aO k
def At.Ok:At->Prop
 |.w s=>bf s=true
 |.n k=>0<=k/\k<=1000000000
theorem AQ{a:At}(h:a.Ok):cn .str [a.t]=Zz (.str a.x)/\Dv a.x/\124∉a.x/\a.x.length<=10/\(∀k,au k a.t=true)/\eqT a.t .non=false:=by
 cases a with
 |w s =>
  obtain⟨_,h2,h3⟩:=d9 h;exact⟨rfl,h3,dU h (by decide),by show s.length<=10;omega,λk=>eV h,rfl⟩
 |n k =>
  obtain⟨_,_,h3,h4⟩:=aQ h.1 (by have:=h.2;omega);exact⟨kA (by have:=h.1;have:=h.2;omega),h3,dec_not h.1 h.2 (by decide),h4,λk=>by cases k<;>rfl,rfl⟩
theorem wV:∀{as:List At},(∀a∈as,a.Ok)->((as.map At.x).map Rf).sum+(as.map At.x).length*1<=as.length*11
 |[],_=>by simp
 |a::as,h=>by
  have h1:=(AQ (h a (by simp))).2.2.2.1;have:=wV λb hb=>h b (RG _ hb)
  simp only[RN,Sx,RE,Q8]at this ⊢;omega
theorem sy{n:Nat}{m:Mem}{env:Env}{it:E}{x:T}{as:List At}(h:∀a∈as,a.Ok)(hl:as.length<=100)(hi:ev (cf n) gv it env m=.ok (.t x) m)(hx:o9 x=Zz (as.map At.t)):ev (cf n) gv (.comp 1 [] it (.nm 0) .nil (.emit (.blt .str (.cons (.var 0) .nil)))) env m=.ok (.t (.lst ((as.map At.x).map .str))) m:=by
 have hh:=cA (f:=aY (cf n) gv .nil (.emit (.blt .str (.cons (.var 0) .nil)))) (tg:=.nm 0) (env:=[Zy]) (m:=m) At.t (λa=>T.str a.x) as (λa ha=>⟨_,rfl,eH (bS (aB (aa rfl) (AQ (h a ha)).1))⟩);rw[Re];exact aM (x:=.t x) (m0:=m) hi (by simp[bc,hx]) hh (by rw[Q8];unfold lim;omega)
theorem D8{cs:List Nat}(h:124∉cs):kl cs [32,124,32]=.tup [.str cs,.str [],.str []]:=by
 have e:PySem.Builtin.Str.occurrences ⟨cs.toArray⟩ ⟨[32,124,32].toArray⟩ 0 (UV ⟨cs.toArray⟩) 1=[]:=by
  refine Classical.byContradiction λhn=>?_
  obtain⟨i,_,h2⟩:=(PySem.StrLaws.found_iff ⟨cs.toArray⟩ ⟨[32,124,32].toArray⟩).mp (by
   cases q:PySem.Builtin.Str.occurrences ⟨cs.toArray⟩ ⟨[32,124,32].toArray⟩ 0 (UV ⟨cs.toArray⟩) 1 with
   |nil=>exact XZ q hn
   |cons a l=>rfl)
  rw[PySem.StrLaws.subAt_eq]at h2;have h2:(cs.drop i).take 3=[32,124,32]:=eq_of_beq h2;have hm:124∈(cs.drop i).take 3:=by rw[h2];decide
  exact h (List.mem_of_mem_drop (List.mem_of_mem_take hm))
 unfold kl PySem.Txt.partition;rw[e];rfl
theorem F8{cs:List Nat}(hl:cs.length<=900000):iV .partition (.str cs) [.str [32,124,32]]=Zz (kl cs [32,124,32]):=XU hl
theorem tJ{n:Nat}{m:Mem}{t:T}{x:List Nat}(h:cf (n+60) 61 [.t t] m=.ok (.t (.str x)) m)(hb:124∉x)(hl:x.length<=5000):cf (n+61) 62 [.t t] m=.ok (.t (.str x)) m:=by
 have key:ex (cf (n+60)) gv f9 [Zz (.t t),Zy,Zy,Zy] m=.ok (.ret (.t (.str x))) m:=by
  unfold f9;refine(gD (gX (.inr rfl) ((ar (aa rfl)).trans h) (ab _) rfl ((F8 (by omega)).trans (congrArg Zz (D8 hb)))) rfl).trans ?_;exact qi (aa rfl) rfl (ai (aa rfl))
 exact ax (uW _ _ _) rfl key (aq (cell:=false) rfl)
theorem Ei{n:Nat}{m:Mem}{t:T}{H V:List Nat}(h:cf (n+60) 61 [.t t] m=.ok (.t (.str (H++([32,124,32]++V)))) m)(hb:124∉H)(h1:H.length<=2100)(h2:V.length<=2400):cf (n+61) 62 [.t t] m=.ok (.t (.str (H++([32,124,32]++([40,32,40,32]++V++[32,41,32,41]))))) m:=by
 have key:ex (cf (n+60)) gv f9 [Zz (.t t),Zy,Zy,Zy] m=.ok (.ret (.t (.str (H++([32,124,32]++([40,32,40,32]++V++[32,41,32,41])))))) m:=by
  unfold f9;refine(gD (gX (.inr rfl) ((ar (aa rfl)).trans h) (ab _) rfl ((F8 (by simp;omega)).trans (congrArg Zz (yZ hb)))) rfl).trans ?_;rw[d5 (aa rfl) rfl];refine(ai (az (az (az (az (aa rfl) (aa rfl) (dW (by simp[lim];omega))) (ab _) (dW (by simp[lim];omega))) (aa rfl) (dW (by simp[lim];omega))) (ab _) (dW (by simp[lim];omega)))).trans ?_;simp
 exact ax (uW _ _ _) rfl key (aq (cell:=false) rfl)
theorem Bu{n:Nat}{m:Mem}{w:List Nat}{as:List At}(h:∀a∈At.w w::as,a.Ok)(hl:as.length<=10)(h1:([99,111,109,101]==w || [99,104,97,110,103,101]==w)=false)(h2:(w==[109,101,101,116])=false):
  cf (n+1) 31 [.t (.tup ((At.w w::as).map At.t))] m=.ok (.t (.str (ae [32] ((At.w w::as).map At.x)))) m/\cf (n+1) 61 [.t (.tup ((At.w w::as).map At.t))] m=.ok (.t (.str (ae [32] ((At.w w::as).map At.x)))) m:=by
 have hs:=wV h;have hz:(((At.w w::as).map At.x).map Rf).sum+((At.w w::as).map At.x).length*[32].length<=lim:=RZ hs (by rw[RE];unfold lim;omega);have k1:ex (cf n) gv cv [Zz (.t (.tup ((At.w w::as).map At.t))),Zy,Zy] m=.ok (.ret (.t (.str (ae [32] ((At.w w::as).map At.x))))) m:=by
  unfold cv;rw[av (ba (aa rfl)),qy (aa rfl) h1,d5 (aa rfl) h2];exact ai (dM (ab _) (sy h (by rw[RE];omega) (aa rfl) rfl) hz)
 have k2:ex (cf n) gv bU [Zz (.t (.tup ((At.w w::as).map At.t)))] m=.ok (.ret (.t (.str (ae [32] ((At.w w::as).map At.x))))) m:=by
  unfold bU;rw[qy (ba (aa rfl)) h1,d5 (ba (aa rfl)) h2];exact ai (dM (ab _) (sy h (by rw[RE];omega) (aa rfl) rfl) hz)
 exact⟨ax (kn _ _ _) rfl k1 (aq (cell:=false) rfl),ax (jE _ _ _) rfl k2 (aq (cell:=false) rfl)⟩
noncomputable def qd(a k:Int)(ns:List Int):T:=.tup [.str [109,101,101,116],.int a,.tup ((ns.map At.n).map At.t),.int k]
noncomputable def ig(a k:Int)(ns:List Int):List Nat:=ae [32] ([109,101,101,116]::aO a::aO k::(ns.map At.n).map At.x)
theorem pE{x y:List Nat}{r:List (List Nat)}:ae [32] (x::y::r)=x++32::ae [32] (y::r):=by rw[ae];simp;simp
theorem Er{n:Nat}{m:Mem}{a k:Int}{ns:List Int}(ha:0<=a/\a<=1000000000)(hk:0<=k/\k<=1000000000)(hn:∀x∈ns,0<=x/\x<=1000000000)(h0:ns≠[])(hl:ns.length<=10):
  cf (n+1) 31 [.t (qd a k ns)] m=.ok (.t (.str (ig a k ns))) m/\cf (n+1) 61 [.t (qd a k ns)] m=.ok (.t (.str (ig a k ns))) m:=by
 have hok:∀b∈ns.map At.n,b.Ok:=λb hb=>by
  obtain⟨x,hx,rfl⟩:=RI.mp hb;exact hn x hx
 have la:=(aQ ha.1 (by omega)).2.2.2;have lk:=(aQ hk.1 (by omega)).2.2.2;have hz:(((ns.map At.n).map At.x).map Rf).sum+((ns.map At.n).map At.x).length*[32].length<=110:=RZ (wV hok) (by rw[Q8];omega);have ln:=RZ (cT [32] ((ns.map At.n).map At.x)) hz;have cp:∀(env:Env),env[0]?=Zz (Zz (.t (qd a k ns)))->ev (cf n) gv (.comp 1 [] (.ix (.var 0) (.con (.int 2))) (.nm 0) .nil (.emit (.blt .str (.cons (.var 0) .nil)))) env m=.ok (.t (.lst (((ns.map At.n).map At.x).map .str))) m:=λenv he=>sy hok (by rw[Q8];omega) (aV (aa he) (ab _) rfl) rfl
 have k1:ex (cf n) gv cv [Zz (.t (qd a k ns)),Zy,Zy] m=.ok (.ret (.t (.str (ig a k ns)))) m:=by
  unfold cv;rw[av (ba (aa rfl)),qy (aa rfl) rfl];refine qi (aa rfl) rfl ((av (dM (ab _) (cp _ rfl) (RZ hz (by decide)))).trans (ai ?_));rw[ev];refine XQ (congrArg (λr=>Res.bind r _) (bC (Sy 0) (aa rfl) rfl (by decide:[109,101,101,116].length<=4) (by decide) λh=>bC h (ab _) rfl (by decide:[32].length<=1) (by decide) λh=>bC h (aV (aa rfl) (ab _) rfl) (ft ha.1 ha.2) la (by decide) λh=>bC h (ab _) rfl (by decide:[32].length<=1) (by decide) λh=>bC h (aV (aa rfl) (ab _) rfl) (ft hk.1 hk.2) lk (by decide) λh=>bC h (ab _) rfl (by decide:[32].length<=1) (by decide) λh=>bC h (aa rfl) rfl ln (by decide) λh=>(by rw[tz]))) ?_;rw[af];cases ns with
  |nil=>exact XZ rfl h0
  |cons x r=>simp[ig,pE]
 have k2:ex (cf n) gv bU [Zz (.t (qd a k ns))] m=.ok (.ret (.t (.str (ig a k ns)))) m:=by
  unfold bU;rw[qy (ba (aa rfl)) rfl];refine qi (ba (aa rfl)) rfl (ai (dM (ys:=[109,101,101,116]::aO a::aO k::(ns.map At.n).map At.x) (ab _) (az (bL (am (ab _) (am (aB (aV (aa rfl) (ab _) rfl) (kA (by omega))) (am (aB (aV (aa rfl) (ab _) rfl) (kA (by omega))) a8))) rfl bi) (cp _ rfl) ?_) ?_))
  ·exact XU (by simp[lim];omega)
  ·simp only[RN,Sx,RE,Rh,V0,Nat.mul_one]at hz ⊢
   unfold lim;omega
 exact⟨ax (kn _ _ _) rfl k1 (aq (cell:=false) rfl),ax (jE _ _ _) rfl k2 (aq (cell:=false) rfl)⟩
noncomputable def Mx(w:List Nat)(a b:Int)(o:T):T:=.tup [.str w,.int a,o,.int b]
noncomputable def ccX(w:List Nat)(a b:Int)(x:List Nat):List Nat:=ae [32] [w,aO a,aO b,x]
noncomputable def ccs:List (List Nat):=[[99,111,109,101],[99,104,97,110,103,101]]
theorem IK{n:Nat}{m:Mem}{w:List Nat}{a b:Int}{o:T}{x:List Nat}(hw:w∈ccs)(ha:0<=a/\a<=1000000000)(hb:0<=b/\b<=1000000000)(h1:cf n 30 [.t o] m=.ok (.t (.str x)) m)(h2:cf n 58 [.t o] m=.ok (.t (.str x)) m)(hl:x.length<=4500):
  cf (n+1) 31 [.t (Mx w a b o)] m=.ok (.t (.str (ccX w a b x))) m/\cf (n+1) 61 [.t (Mx w a b o)] m=.ok (.t (.str (ccX w a b x))) m:=by
 have la:=(aQ ha.1 (by omega)).2.2.2;have lb:=(aQ hb.1 (by omega)).2.2.2;have hw1:([99,111,109,101]==w || [99,104,97,110,103,101]==w)=true/\w.length<=6:=by
  simp only[ccs,R9,R4,or_false]at hw;rcases hw with rfl|rfl<;>decide
 have k1:ex (cf n) gv cv [Zz (.t (Mx w a b o)),Zy,Zy] m=.ok (.ret (.t (.str (ccX w a b x)))) m:=by
  unfold cv;rw[av (ba (aa rfl))];refine HD (aa rfl) hw1.1 (ai ?_);rw[ev];refine XQ (congrArg (λr=>Res.bind r _) (bC (Sy 0) (aa rfl) rfl hw1.2 (by decide) λh=>bC h (ab _) rfl (by decide:[32].length<=1) (by decide) λh=>bC h (aV (aa rfl) (ab _) rfl) (ft ha.1 ha.2) la (by decide) λh=>bC h (ab _) rfl (by decide:[32].length<=1) (by decide) λh=>bC h (aV (aa rfl) (ab _) rfl) (ft hb.1 hb.2) lb (by decide) λh=>bC h (ab _) rfl (by decide:[32].length<=1) (by decide) λh=>bC h ((ar (aV (aa rfl) (ab _) rfl)).trans h1) rfl hl (by decide) λh=>(by rw[tz]))) ?_;rw[af];simp[ccX,ae]
 have k2:ex (cf n) gv bU [Zz (.t (Mx w a b o))] m=.ok (.ret (.t (.str (ccX w a b x)))) m:=by
  unfold bU;refine HD (ba (aa rfl)) hw1.1 (ai (dM (ys:=[w,aO a,aO b,x]) (ab _) (bL (am (ba (aa rfl)) (am (aB (aV (aa rfl) (ab _) rfl) (kA (by omega))) (am (aB (aV (aa rfl) (ab _) rfl) (kA (by omega))) (am ((ar (aV (aa rfl) (ab _) rfl)).trans h2) a8)))) rfl bi) ?_));simp[lim];omega
 exact⟨ax (kn _ _ _) rfl k1 (aq (cell:=false) rfl),ax (jE _ _ _) rfl k2 (aq (cell:=false) rfl)⟩
section
variable{call:Nat->List W->Mem->Res W}{gv:List T}{env:Env}{m m1 m2:Mem}{a b c e:E}{x y r:T}
theorem HE(h:ev call gv c env m=.ok (.t (.bl true)) m1):ev call gv (.ite c a b) env m=ev call gv a env m1:=by rw[ev,h];rfl
theorem B9(h:ev call gv c env m=.ok (.t (.bl false)) m1):ev call gv (.ite c a b) env m=ev call gv b env m1:=by rw[ev,h];rfl
theorem iZ{cs p:List Nat}{k:Bool}(h:ev call gv a env m=.ok (.t (.str cs)) m)(hk:p.isPrefixOf cs=k):ev call gv (.eP .starts a (.cons (.con (.str p)) .nil)) env m=.ok (.t (.bl k)) m:=by
 subst hk;rw[ev,h,af,XU (by rfl),evs,ab,af,evs,af,af];rfl
theorem Dj{cs:List Nat}{c k:Nat}(h:ev call gv a env m=.ok (.t (.str cs)) m)(hl:cs.length<=900000)(h1:1<=k)(h2:k<=cs.length):ev call gv (.eP .mF a (.cons (.con (.str [c])) (.cons (.con (.int (k:Int))) .nil))) env m=.ok (.t (.lst ((jK c k cs).map .str))) m:=by
 rw[ev,h,af,XU (by rfl),evs,ab,af,evs,ab,af,evs,af,af,af];show dy (if cs.length<=900000/\(1:Int)<=(k:Int)/\(k:Int)<=cs.length then Zz (T.lst ((jK c (k:Int).toNat cs).map .str))else Zy) m=_;rw[XU ⟨hl,by omega,by omega⟩];rfl
theorem J1{ts:List T}(h:ev call gv a env m=.ok (.t (.lst (x::ts))) m):ev call gv (.Hq a (.con (.int 1)) .hole) env m=.ok (.t (.lst ts)) m:=by
 rw[ev,h,af,ab];show dy (Zz (T.lst (cut (x::ts) (Zz 1) Zy))) m=_;have:cut (x::ts) (Zz 1) Zy=ts:=by simp[cut,s0]
 rw[this];rfl
end
theorem join_split(c:Nat):∀cs,ae [c] (aZ c cs)=cs/\aZ c cs≠[]
 |[]=>by simp[aZ,ae]
 |a::r=>by
  obtain⟨h1,h2⟩:=join_split c r;rw[aZ];cases q:aZ c r with
  |nil=>exact XZ q h2
  |cons x xs =>
   rw[q]at h1;split
   ·rename_i e
    subst e;exact⟨by rw[ae];simp[h1];simp,by simp⟩
   ·refine⟨?_,by simp⟩
    cases xs with
    |nil =>
     have h1:x=r:=h1;rw[h1];rfl
    |cons y ys =>
     rw[ae]at h1
     ·show ae [c] ((a::x)::y::ys)=_
      rw[ae]
      ·rw[<-h1];simp
      ·simp
     ·simp
theorem jv{c:Nat}:∀{w r:List Nat},c∉w->aZ c (w++c::r)=w::aZ c r
 |[],r,_=>by rw[Sq,aZ,XU rfl]
 |a::w,r,h=>by
  have ih:=jv (w:=w) (r:=r) λz=>h (RG _ z)
  rw[VA,aZ,XV λz=>h (by simp[z]),ih]
theorem zd{a b d x:List Nat}(h1:32∉a)(h2:32∉b)(h3:32∉d):jK 32 3 (ae [32] [a,b,d,x])=[a,b,d,x]:=by
 have e:ae [32] [a,b,d,x]=a++32::(b++32::(d++32::x)):=by simp[ae]
 have hs:aZ 32 (ae [32] [a,b,d,x])=a::b::d::aZ 32 x:=by rw[e,jv h1,jv h2,jv h3]
 obtain⟨g1,g2⟩:=join_split 32 x;unfold jK;rw[hs];cases q:aZ 32 x with
 |nil=>exact XZ q g2
 |cons y ys =>
  rw[q]at g1;rw[XV (by simp)];show[a,b,d]++[ae [32] (y::ys)]=_;rw[g1];rfl
section
variable{n:Nat}{m:Mem}
theorem pJ{X:List Nat}{ws:List (List Nat)}(hX:X=ae [32] ws)(h0:ws≠[])(hn:∀w∈ws,32∉w)(hc:∃c r,X=c::r/\c≠99)(hl:X.length<=5000):cf (n+1) 38 [.t (.str X)] m=.ok (.t (.lst (ws.map .str))) m:=by
 have key:ex (cf n) gv di [Zz (.t (.str X))] m=.ok (.ret (.t (.lst (ws.map .str)))) m:=by
  have hp:∀p:List Nat,List.isPrefixOf (99::p) X=false:=λp=>by
   obtain⟨c,r,e,hc⟩:=hc;rw[e];show(99==c&&_)=false;rw[XY.mpr (Sj hc)];rfl
  unfold di;refine(ay ((bN (iZ (aa rfl) (hp _))).trans (iZ (aa rfl) (hp _)))).trans (ai ?_);refine gX (.inl rfl) (aa rfl) (ab _) rfl ?_;rw[hX];exact m_split h0 hn (by rw[<-hX];omega)
 exact ax (pM _ _ _) rfl key (aq (cell:=false) rfl)
theorem FP{w a b x:List Nat}(hw:w∈ccs)(h1:32∉a)(h2:32∉b)(hl:(ae [32] [w,a,b,x]).length<=6000):cf (n+1) 38 [.t (.str (ae [32] [w,a,b,x]))] m=.ok (.t (.lst [.str w,.str a,.str b,.str x])) m:=by
 have hw1:32∉w/\4<=w.length:=by
  simp only[ccs,R9,R4,or_false]at hw;rcases hw with rfl|rfl<;>decide
 have e:ae [32] [w,a,b,x]=w++32::(a++32::(b++32::x)):=by simp[ae]
 have key:ex (cf n) gv di [Zz (.t (.str (ae [32] [w,a,b,x])))] m=.ok (.ret (.t (.lst ([w,a,b,x].map .str)))) m:=by
  unfold di;refine aD ?_ (ai ((Dj (k:=3) (aa rfl) (by omega) (by decide) (by rw[e];simp;omega)).trans (by rw[zd hw1.1 h1 h2])));rw[e];simp only[ccs,R9,R4,or_false]at hw;rcases hw with rfl|rfl
  ·exact j9 (iZ (aa rfl) rfl)
  ·exact(bN (iZ (aa rfl) rfl)).trans (iZ (aa rfl) rfl)
 exact ax (pM _ _ _) rfl key (aq (cell:=false) rfl)
theorem li{k:Int}(h:0<=k/\k<=1000000000):cf (n+59) 37 [.t (.str [110,117,109,98,101,114]),.t (.str (aO k))] m=.ok (.t (.int k)) m:=by
 have key:ex (cf (n+58)) gv bG [Zz (.t (.str [110,117,109,98,101,114])),Zz (.t (.str (aO k))),Zy] m=.ok (.ret (.t (.int k))) m:=by
  unfold bG;rw[d5 (aa rfl) rfl,d5 (aa rfl) rfl,av ((ar (aa rfl)).trans (fA (n:=n+55) h.1 h.2))];exact ai ((B9 (xc (aw (aa rfl) (ab _) (by rw[fR];rfl)))).trans (aa rfl))
 exact ax (gF _ _ _) rfl key (aq (cell:=false) rfl)
theorem sj{k:Int}(h:1<=k/\k<=1000000000):cf (n+59) 37 [.t (.str [109,97,110,121]),.t (.str (aO k))] m=.ok (.t (.int k)) m:=by
 have key:ex (cf (n+58)) gv bG [Zz (.t (.str [109,97,110,121])),Zz (.t (.str (aO k))),Zy] m=.ok (.ret (.t (.int k))) m:=by
  unfold bG;rw[d5 (aa rfl) rfl,d5 (aa rfl) rfl,av ((ar (aa rfl)).trans (fA (n:=n+55) (by omega) h.2))];have e:bx .Eq (.int k) (.int 0)=Zz false:=by
   show Zz (k==0)=_;rw[XY.mpr (by omega)]
  exact ai ((B9 ((jP (aw (aa rfl) (ab _) (by rw[fR];rfl))).trans (aw (aa rfl) (ab _) e))).trans (aa rfl))
 exact ax (gF _ _ _) rfl key (aq (cell:=false) rfl)
theorem Bk{w:List Nat}(h:bf w=true):cf (n+59) 37 [.t (.str [110,97,109,101]),.t (.str w)] m=.ok (.t (.str w)) m:=by
 have hw:=pZ (n:=n+56) (m:=m) (eZ h);rw[h]at hw;have key:ex (cf (n+58)) gv bG [Zz (.t (.str [110,97,109,101])),Zz (.t (.str w)),Zy] m=.ok (.ret (.t (.str w))) m:=by
  unfold bG;rw[d5 (aa rfl) rfl];exact qi (aa rfl) rfl (ai ((HE ((ar (aa rfl)).trans hw)).trans (aa rfl)))
 exact ax (gF _ _ _) rfl key (aq (cell:=false) rfl)
theorem En{x:List Nat}{o:T}(h:cf (n+58) 36 [.t (.str x)] m=.ok (.t o) m):cf (n+59) 37 [.t (.str [111,102,102,101,114]),.t (.str x)] m=.ok (.t o) m:=by
 have key:ex (cf (n+58)) gv bG [Zz (.t (.str [111,102,102,101,114])),Zz (.t (.str x)),Zy] m=.ok (.ret (.t o)) m:=by
  unfold bG;exact qi (aa rfl) rfl (ai ((ar (aa rfl)).trans h))
 exact ax (gF _ _ _) rfl key (aq (cell:=false) rfl)
end
noncomputable def xO(w:List Nat):Option T:=ni gv[20]? λks vs=>(fq (.str w)).map λk=>(bB ks vs k).getD .non
noncomputable abbrev dw:T:=.str [110,117,109,98,101,114]
noncomputable abbrev BZ:T:=.str [110,97,109,101]
noncomputable abbrev pI:T:=.str [109,97,110,121]
theorem OI{w:List Nat}(hw:w∈ccs):xO w=Zz (.tup [dw,dw,.str [111,102,102,101,114]]):=by
 simp only[ccs,R9,R4,or_false]at hw;rcases hw with rfl|rfl<;>rfl
theorem GQ{n:Nat}{env:Env}{m:Mem}{e:E}{w:List Nat}{t:T}(h:ev (cf n) gv e env m=.ok (.t (.str w)) m)(hg:xO w=Zz t):ev (cf n) gv (.Op 20 e) env m=.ok (.t t) m:=by
 rw[ev,h,af];show dy (xO w) m=_;rw[hg];rfl
theorem pC{n:Nat}{m:Mem}{w:List Nat}{ts:List T}{f:T}(hg:xO w=Zz f)(hm:(w==[109,101,101,116])=false∨(((.str w::ts:List T).length:Int)==6)=false):cf (n+1) 39 [.t (.lst (.str w::ts))] m=.ok (.t f) m:=by
 have e0:∀env:Env,env[0]?=Zz (Zz (.t (.lst (.str w::ts))))->ev (cf n) gv (.ix (.var 0) (.con (.int 0))) env m=.ok (.t (.str w)) m:=λenv he=>aV (aa he) (ab _) (at0 _ _)
 have key:ex (cf n) gv ee [Zz (.t (.lst (.str w::ts))),Zy] m=.ok (.ret (.t f)) m:=by
  unfold ee;refine(av (GQ (e0 _ rfl) hg)).trans ((ay ?_).trans (ai (aa rfl)));cases q:(w==[109,101,101,116])with
  |false=>exact xc (aw (e0 _ rfl) (ab _) (by rw[fR,q]))
  |true =>
   rcases hm with hm|hm
   ·rw[q]at hm;cases hm
   ·exact(jP (aw (e0 _ rfl) (ab _) (by rw[fR,q]))).trans (aw (aB (aa rfl) rfl) (ab _) (by rw[jU,hm]))
 exact ax (sP _ _ _) rfl key (aq (cell:=false) rfl)
theorem G0{n:Nat}{m:Mem}{a b c d e:T}:cf (n+1) 39 [.t (.lst [.str [109,101,101,116],a,b,c,d,e])] m=.ok (.t (.tup [dw,pI,dw,dw,dw])) m:=by
 have e0:∀env:Env,env[0]?=Zz (Zz (.t (.lst [.str [109,101,101,116],a,b,c,d,e])))->ev (cf n) gv (.ix (.var 0) (.con (.int 0))) env m=.ok (.t (.str [109,101,101,116])) m:=λenv he=>aV (aa he) (ab _) (at0 _ _)
 have key:ex (cf n) gv ee [Zz (.t (.lst [.str [109,101,101,116],a,b,c,d,e])),Zy] m=.ok (.ret (.t (.tup [dw,pI,dw,dw,dw]))) m:=by
  unfold ee;refine(av (GQ (t:=.tup [dw,pI,dw,dw]) (e0 _ rfl) rfl)).trans (aD ((jP (aw (e0 _ rfl) (ab _) (by rw[fR];rfl))).trans (aw (aB (aa rfl) rfl) (ab _) rfl)) (ai (az (aa rfl) (rk (ab _)) rfl)))
 exact ax (sP _ _ _) rfl key (aq (cell:=false) rfl)
theorem FR{ts:List T}(h:∀t∈ts,au 59 t=true/\eqT t .non=false):bx .In .non (.lst ts)=Zz false:=by
 have h1:(ts.any λt=>eqT t .non)=false:=Vo.mpr λt ht=>by rw[(h t ht).2];simp
 have h2:aG 59 ts=true:=bn λt ht=>(h t ht).1
 show(if flat .non&&ts.all flat then Zz (ts.any λt=>eqT t .non)else if au 59 .non&&aG 59 ts then Zz (ts.any λt=>eqT t .non)else Zy)=_;rw[h1,h2];split
 ·rfl
 ·exact XU rfl
noncomputable def Kp:S:=match gi with
 |.asg _ _ (.asg _ _ (.bI _ _ _ (.asg _ _ (.bI _ _ _ k))))=>k
 |_=>.done
theorem y8{α:Type}(f g:α->T):∀ps:List α,yx (ps.map f) (ps.map g)=ps.map λp=>.tup [f p,g p]
 |[]=>rfl
 |p::ps=>by
  show T.tup [f p,g p]::yx (ps.map f) (ps.map g)=_;rw[y8 f g ps];rfl
theorem wc{n:Nat}{m:Mem}{X w:List Nat}{ps:List (T×List Nat×T)}{r:T}(hw:cf (n+59) 38 [.t (.str X)] m=.ok (.t (.lst (.str w::ps.map λp=>.str p.2.1))) m)(hf:cf (n+59) 39 [.t (.lst (.str w::ps.map λp=>.str p.2.1))] m=.ok (.t (.tup (ps.map (·.1)))) m)(ht:∀p∈ps,cf (n+59) 37 [.t p.1,.t (.str p.2.1)] m=.ok (.t p.2.2) m/\au 59 p.2.2=true/\eqT p.2.2 .non=false)(hl:ps.length<=10)(hr:ex (cf (n+59)) gv Kp [Zz (.t (.str X)),Zz (.t (.lst (.str w::ps.map λp=>.str p.2.1))),Zz (.t (.tup (ps.map (·.1)))),Zz (.t (.lst (ps.map (·.2.2)))),Zy] m=.ok (.ret (.t r)) m):cf (n+60) 40 [.t (.str X)] m=.ok (.t r) m:=by
 have hz:=y8 (λp:T×List Nat×T=>p.1) (λp=>.str p.2.1) ps;have hit:∀env:Env,env[1]?=Zz (Zz (.t (.lst (.str w::ps.map λp=>.str p.2.1))))->env[2]?=Zz (Zz (.t (.tup (ps.map (·.1)))))->ev (cf (n+59)) gv sE env m=.ok (.t (.lst (ps.map (·.2.2)))) m:=λenv h1 h2=>by
  have hh:=cA (f:=aY (cf (n+59)) gv .nil mM) (tg:=.tp [0,1]) (env:=[Zy,Zy]) (m:=m) (λp:T×List Nat×T=>.tup [p.1,.str p.2.1]) (·.2.2) ps (λp hp=>⟨_,rfl,eH (show ev (cf (n+59)) gv mM _ _=_ from bS ((al (aa rfl) (aa rfl)).trans (ht p hp).1))⟩);refine aM (x:=.t (.lst (ps.map λp=>.tup [p.1,.str p.2.1]))) (m0:=m) ?_ rfl hh (by rw[Q8];unfold lim;omega);rw[ev,am (aa h2) (am (J1 (aa h1)) a8),af];show(if _ then Res.ok (W.t (.lst (yx _ _))) m else .stuck)=_;rw[XU (by simp[lim];omega),hz]
 have key:ex (cf (n+59)) gv gi [Zz (.t (.str X)),Zy,Zy,Zy,Zy] m=.ok (.ret (.t r)) m:=by
  unfold gi;refine(av ((ar (aa rfl)).trans hw)).trans ((av ((ar (aa rfl)).trans hf)).trans ((ay ?_).trans ((av (hit _ rfl rfl)).trans ((ay (aw (ab _) (aa rfl) (FR ?_))).trans hr))))
  ·refine(bN (aw (k:=false) (aa rfl) (ab _) rfl)).trans (aw (k:=false) (aB (aa rfl) rfl) (az (aB (aa rfl) rfl) (ab _) (db _ _)) ?_)
   rw[Km];simp
  ·intro t ht'
   obtain⟨p,hp,rfl⟩:=RI.mp ht';exact(ht p hp).2
 exact ax (De _ _ _) rfl key (aq (cell:=false) rfl)
structure iM (t:T) (x y:List Nat):Prop where
 rt:∀n m,cf (n+60) 31 [.t t] m=.ok (.t (.str x)) m
 lt:∀n m,cf (n+60) 61 [.t t] m=.ok (.t (.str x)) m
 ty:∀n m,cf (n+61) 62 [.t t] m=.ok (.t (.str y)) m
 rx:∀n m,cf (n+60) 40 [.t (.str x)] m=.ok (.t t) m
 ry:∀n m,cf (n+60) 40 [.t (.str y)] m=.ok (.t t) m
 lx:10∉x/\x≠[]/\x.length<=5000
 ly:10∉y/\y≠[]/\y.length<=5000
 dp:au 59 t=true
 tp:cF t .tuple=true
 nn:eqT t .non=false
theorem Da{w:List Nat}:∀r:List (List Nat),∃z,ae [32] (w::r)=w++z
 |[]=>⟨[],by simp[ae]⟩
 |y::r=>⟨_,pE⟩
theorem Ir{call:Nat->List W->Mem->Res W}{gv:List T}{env:Env}{m:Mem}{a b:E}{xs ys:List T}(h1:ev call gv a env m=.ok (.t (.lst xs)) m)(h2:ev call gv b env m=.ok (.t (.lst ys)) m)(hl:xs.length+ys.length<=lim):ev call gv (.bin .Add a b) env m=.ok (.t (.lst (xs++ys))) m:=az h1 h2 (XU hl)
theorem Ef{call:Nat->List W->Mem->Res W}{gv:List T}{env:Env}{m:Mem}{e:E}{p:List Nat}{ts:List T}(h:ev call gv e env m=.ok (.t (.lst (.str p::ts))) m):ev call gv (.ix e (.con (.int 0))) env m=.ok (.t (.str p)) m:=aV h (ab _) (at0 _ _)
theorem k7{w:List Nat}{ps:List (T×At)}(hw:bf w=true)(hc:∃c r,w=c::r/\c≠99)(h2:(w==[109,101,101,116])=false)(hg:xO w=Zz (.tup (ps.map (·.1))))(hl:ps.length<=5)(hp:∀p∈ps,p.2.Ok/\∀n m,cf (n+59) 37 [.t p.1,.t (.str p.2.x)] m=.ok (.t p.2.t) m):iM (.tup ((At.w w::ps.map (·.2)).map At.t)) (ae [32] ((At.w w::ps.map (·.2)).map At.x)) (ae [32] ((At.w w::ps.map (·.2)).map At.x)):=by
 have h1:([99,111,109,101]==w || [99,104,97,110,103,101]==w)=false:=by
  obtain⟨c,r,rfl,hc⟩:=hc;have:∀p:List Nat,(99::p==c::r)=false:=λp=>XY.mpr λe=>hc (Ue e).1.symm
  rw[this,this];rfl
 have hok:∀a∈At.w w::ps.map (·.2),a.Ok:=R5.mpr ⟨hw,λa ha=>by
  obtain⟨p,hp',rfl⟩:=RI.mp ha;exact(hp p hp').1⟩
 have hlen:(ae [32] ((At.w w::ps.map (·.2)).map At.x)).length<=5000:=RZ (cT _ _) (RZ (wV hok) (by rw[RE,Q8];omega));have hx:∀v∈(At.w w::ps.map (·.2)).map At.x,Dv v/\124∉v:=λv hv=>by
  obtain⟨a,ha,rfl⟩:=RI.mp hv;exact⟨(AQ (hok a ha)).2.1,(AQ (hok a ha)).2.2.1⟩
 have tx:=λn m=>Bu (n:=n+59) (m:=m) hok (by rw[Q8];omega) h1 h2
 have hne:∃c r,ae [32] ((At.w w::ps.map (·.2)).map At.x)=c::r/\c≠99:=by
  obtain⟨c,r,e,hc⟩:=hc;obtain⟨z,hz⟩:=Da (w:=w) ((ps.map (·.2)).map At.x);refine⟨c,r++z,?_,hc⟩;show ae [32] (w::(ps.map (·.2)).map At.x)=_;rw[hz,e];rfl
 have hn0:ae [32] ((At.w w::ps.map (·.2)).map At.x)≠[]:=λz=>by
  obtain⟨c,r,e,_⟩:=hne;rw[e]at z;cases z
 have hbar:124∉ae [32] ((At.w w::ps.map (·.2)).map At.x):=cK (by decide) λv hv=>(hx v hv).2
 have hlf:10∉ae [32] ((At.w w::ps.map (·.2)).map At.x):=cK (by decide) λv hv=>(hx v hv).1.2
 have rd:∀n m,cf (n+60) 40 [.t (.str (ae [32] ((At.w w::ps.map (·.2)).map At.x)))] m=.ok (.t (.tup ((At.w w::ps.map (·.2)).map At.t))) m:=λn m=>by
  have e1:((At.w w::ps.map (·.2)).map At.x).map T.str=.str w::(ps.map λp=>(p.1,p.2.x,p.2.t)).map λp=>.str p.2.1:=by simp[At.x]
  have e2:(ps.map λp=>(p.1,p.2.x,p.2.t)).map (·.1)=ps.map (·.1):=by simp
  have e3:(ps.map λp=>(p.1,p.2.x,p.2.t)).map (·.2.2)=(ps.map (·.2)).map At.t:=by simp
  have hw':=pJ (n:=n+58) (m:=m) rfl (by simp) (λv hv=>(hx v hv).1.1) hne hlen;rw[e1]at hw';refine wc (ps:=ps.map λp=>(p.1,p.2.x,p.2.t)) hw' (by rw[e2];exact pC hg (.inl h2)) (λq hq=>?_) (by rw[Q8];omega) ?_
  ·obtain⟨p,hp',rfl⟩:=RI.mp hq
   have:=AQ (hp p hp').1;exact⟨(hp p hp').2 n m,this.2.2.2.2.1 _,this.2.2.2.2.2⟩
  ·rw[e2,e3]
   unfold Kp gi;dsimp only;rw[av (Ef (aa rfl)),qy (aa rfl) h1,d5 (aa rfl) h2];exact ai (aB (Ir (Cd (aa rfl)) (aa rfl) (by simp[lim];omega)) (jG _))
 exact⟨λn m=>(tx n m).1,λn m=>(tx n m).2,λn m=>tJ ((tx n m).2) hbar hlen,rd,rd,⟨hlf,hn0,hlen⟩,⟨hlf,hn0,hlen⟩,by
  rw[au];refine bn λt ht=>?_
  obtain⟨a,ha,rfl⟩:=RI.mp ht;exact(AQ (hok a ha)).2.2.2.2.1 _,rfl,rfl⟩
theorem sS{k:Int}(h:0<=k/\k<=1000000000):Dv (aO k)/\124∉aO k/\(aO k).length<=10:=by
 have:=AQ (a:=.n k) h;exact⟨this.2.1,this.2.2.1,this.2.2.2.1⟩
theorem FO{a k:Int}{ns:List Int}(ha:0<=a/\a<=1000000000)(hk:1<=k/\k<=1000000000)(hn:∀x∈ns,0<=x/\x<=1000000000)(hl:ns.length=2∨ns.length=3):iM (qd a k ns) (ig a k ns) (ig a k ns):=by
 have h0:ns≠[]:=λz=>by rw[z]at hl;simp at hl
 have tx:=λn m=>Er (n:=n+59) (m:=m) ha ⟨by omega,hk.2⟩ hn h0 (by omega)
 have hx:∀v∈[109,101,101,116]::aO a::aO k::(ns.map At.n).map At.x,Dv v/\124∉v/\v.length<=10:=R5.mpr ⟨by decide,R5.mpr ⟨sS ha,R5.mpr ⟨sS ⟨by omega,hk.2⟩,λv hv=>by
  obtain⟨b,hb,rfl⟩:=RI.mp hv;obtain⟨x,hx,rfl⟩:=RI.mp hb;exact sS (hn x hx)⟩⟩⟩
 have hlen:(ig a k ns).length<=5000:=RZ (cT _ _) (by
  have:=kz λv hv=>(hx v hv).2.2
  simp only[RE,Q8,Rh]at this ⊢;omega)
 have hbar:124∉ig a k ns:=cK (by decide) λv hv=>(hx v hv).2.1
 have hlf:10∉ig a k ns:=cK (by decide) λv hv=>(hx v hv).1.2
 have hne:∃r,ig a k ns=109::r:=⟨_,pE⟩
 have hn0:ig a k ns≠[]:=λz=>by
  obtain⟨r,e⟩:=hne;rw[e]at z;cases z
 have rd:∀n m,cf (n+60) 40 [.t (.str (ig a k ns))] m=.ok (.t (qd a k ns)) m:=λn m=>by
  have hw':=pJ (n:=n+58) (m:=m) (X:=ig a k ns) rfl (by simp) (λv hv=>(hx v hv).1.1) (by obtain⟨r,e⟩:=hne;exact⟨_,_,e,by decide⟩) hlen;have t1:=λ{z:Int}(h:0<=z/\z<=1000000000)=>(⟨li (n:=n) (m:=m) h,rfl,rfl⟩:cf (n+59) 37 [.t dw,.t (.str (aO z))] m=.ok (.t (.int z)) m/\au 59 (.int z)=true/\eqT (.int z) .non=false)
  have t2:cf (n+59) 37 [.t pI,.t (.str (aO k))] m=.ok (.t (.int k)) m/\au 59 (.int k)=true/\eqT (.int k) .non=false:=⟨sj hk,rfl,rfl⟩
  rcases ns with _|⟨x,_|⟨y,_|⟨z,_|⟨u,r⟩⟩⟩⟩
  ·simp at hl
  ·simp at hl
  ·exact wc (ps:=[(dw,aO a,.int a),(pI,aO k,.int k),(dw,aO x,.int x),(dw,aO y,.int y)]) hw' (pC rfl (.inr rfl)) (R5.mpr ⟨t1 ha,R5.mpr ⟨t2,R5.mpr ⟨t1 (hn x (by simp)),R5.mpr ⟨t1 (hn y (by simp)),λ_ h=>XZ h R4⟩⟩⟩⟩) (show 4<=10 by decide) rfl
  ·exact wc (ps:=[(dw,aO a,.int a),(pI,aO k,.int k),(dw,aO x,.int x),(dw,aO y,.int y),(dw,aO z,.int z)]) hw' G0 (R5.mpr ⟨t1 ha,R5.mpr ⟨t2,R5.mpr ⟨t1 (hn x (by simp)),R5.mpr ⟨t1 (hn y (by simp)),R5.mpr ⟨t1 (hn z (by simp)),λ_ h=>XZ h R4⟩⟩⟩⟩⟩) (show 5<=10 by decide) rfl
  ·simp at hl
 exact⟨λn m=>(tx n m).1,λn m=>(tx n m).2,λn m=>tJ ((tx n m).2) hbar hlen,rd,rd,⟨hlf,hn0,hlen⟩,⟨hlf,hn0,hlen⟩,by
  rw[qd,au,aG,aG,aG,aG,aG,dQ (by decide),show au 58 (.tup ((ns.map At.n).map At.t))=true by
   rw[au];refine bn λt ht=>?_
   obtain⟨b,hb,rfl⟩:=RI.mp ht;obtain⟨x,_,rfl⟩:=RI.mp hb;rfl]
  rfl,rfl,rfl⟩
theorem MC{w:List Nat}{a b:Int}{o:T}{H V:List Nat}(hw:w∈ccs)(ha:0<=a/\a<=1000000000)(hb:0<=b/\b<=1000000000)(h:NF o H V):iM (Mx w a b o) (ccX w a b (H++([32,124,32]++V))) (ccX w a b (H++([32,124,32]++([40,32,40,32]++V++[32,41,32,41])))):=by
 have qa:=sS ha;have qb:=sS hb;have lh:=h.lh;have lv:=h.lv;have tx:=λn m=>IK (n:=n+59) (m:=m) hw ha hb (h.tx n m) (h.lt n m) (by simp;omega)
 have hw1:(10∉w/\124∉w)/\w.length<=6/\w≠[]:=by
  simp only[ccs,R9,R4,or_false]at hw;rcases hw with rfl|rfl<;>decide
 have e:∀z,ccX w a b (H++([32,124,32]++z))=ae [32] [w,aO a,aO b,H]++([32,124,32]++z):=λz=>by simp[ccX,ae]
 have l1:∀z:List Nat,10∉z->10∉ccX w a b (H++([32,124,32]++z)):=λz hz=>cK (by decide) (R5.mpr ⟨hw1.1.1,R5.mpr ⟨qa.1.2,R5.mpr ⟨qb.1.2,R5.mpr ⟨by
  simp only[Rp,not_or];exact⟨h.l1,by decide,hz⟩,λ_ h=>XZ h R4⟩⟩⟩⟩)
 have ls:∀z:List Nat,z.length<=2410->(ccX w a b (H++([32,124,32]++z))).length<=5000:=λz hz=>by
  simp[ccX,ae];omega
 have n0:∀z:List Nat,ccX w a b z≠[]:=λz=>by simp[ccX,ae]
 have hbar:124∉ae [32] [w,aO a,aO b,H]:=cK (by decide) (R5.mpr ⟨hw1.1.2,R5.mpr ⟨qa.2.1,R5.mpr ⟨qb.2.1,R5.mpr ⟨h.bar,λ_ h=>XZ h R4⟩⟩⟩⟩);have rd:∀x:List Nat,(ccX w a b x).length<=5000->(∀n m,cf (n+58) 36 [.t (.str x)] m=.ok (.t o) m)->∀n m,cf (n+60) 40 [.t (.str (ccX w a b x))] m=.ok (.t (Mx w a b o)) m:=λx hx ho n m=>by
  refine wc (ps:=[(dw,aO a,.int a),(dw,aO b,.int b),(.str [111,102,102,101,114],x,o)]) (FP hw qa.1.1 qb.1.1 (RZ hx (by decide))) (pC (OI hw) (.inr rfl)) (R5.mpr ⟨⟨li ha,rfl,rfl⟩,R5.mpr ⟨⟨li hb,rfl,rfl⟩,R5.mpr ⟨⟨En (ho n m),h.dp 56 (by decide),h.tp⟩,λ_ h=>XZ h R4⟩⟩⟩) (show 3<=10 by decide) ?_;simp only[ccs,R9,R4,or_false]at hw;rcases hw with rfl|rfl<;>rfl
 refine⟨λn m=>(tx n m).1,λn m=>(tx n m).2,λn m=>?_,rd _ (ls _ (by omega)) h.rd,rd _ (ls _ (by simp;omega)) h.rb,⟨l1 _ h.l2,n0 _,ls _ (by omega)⟩,⟨l1 _ (by simp only[Rp,not_or];exact⟨⟨by decide,h.l2⟩,by decide⟩),n0 _,ls _ (by simp;omega)⟩,?_,rfl,rfl⟩
 ·have:=(tx n m).2
  rw[e]at this;rw[e];exact Ei this hbar (by simp[ae];omega) lv
 ·rw[Mx,au,aG,aG,aG,aG,aG,h.dp 55 (by decide),show au 58 (.str w)=true by
   simp only[ccs,R9,R4,or_false]at hw;rcases hw with rfl|rfl<;>exact dQ (by decide)]
  rfl
section
variable{n:Nat}{m:Mem}{i:Nat}{s:List T}
theorem qL(hi:i<m.length)(hs:bv s):∃(v:Int) (s':List T),cf (n+4) 59 [.c i] (put m i s)=.ok (.t (.int v)) (put m i s')/\bv s'/\0<=v/\v<=1000000000:=by
 obtain⟨r1,s1,h1,hs1,a0,a1⟩:=aL (n:=n) (many:=30) hi hs (by decide) (by decide);obtain⟨r2,s2,h2,hs2,b0,b1⟩:=aL (n:=n) (many:=1000000000) hi hs1 (by decide) (by decide);obtain⟨r3,s3,h3,hs3,c0,c1⟩:=aL (n:=n) (many:=4) hi hs2 (by decide) (by decide);obtain⟨v,hv,hb⟩:=mE (xs:=[0,1000000000,r1,r2]) (lo:=0) (hi:=1000000000) (by simp;omega) c0 (by simpa using c1);have key:ex (cf (n+3)) gv m9 [Zz (.c i)] (put m i s)=.ok (.ret (.t (.int v))) (put m i s3):=by
  unfold m9;exact ai (aV (bL (am (ab _) (am (az (ab _) (ab _) rfl) (am ((al (aa rfl) (ab _)).trans h1) (am ((al (aa rfl) (az (ab _) (ab _) rfl)).trans h2) a8)))) rfl bi) ((al (aa rfl) (ab _)).trans h3) hv)
 exact⟨v,s3,ax (He _ _ _) rfl key (aq (cell:=false) (by rw[aF,aF])),hs3,hb⟩
theorem Cg{env:Env}(h0:env[0]?=Zz (Zz (.c i)))(hi:i<m.length)(hs:bv s):∃(v:Int) (s':List T),ev (cf (n+3)) gv (.ix (.lst (.cons (.con (.int 1)) (.cons (.bin .Pow (.con (.int 10)) (.con (.int 9))) (.cons (.bin .Add (.con (.int 1)) (.call 46 (.cons (.var 0) (.cons (.con (.int 30)) .nil)))) .nil)))) (.call 46 (.cons (.var 0) (.cons (.con (.int 3)) .nil)))) env (put m i s)=.ok (.t (.int v)) (put m i s')/\bv s'/\1<=v/\v<=1000000000:=by
 obtain⟨r1,s1,h1,hs1,a0,a1⟩:=aL (n:=n) (many:=30) hi hs (by decide) (by decide);obtain⟨r3,s3,h3,hs3,c0,c1⟩:=aL (n:=n) (many:=3) hi hs1 (by decide) (by decide);obtain⟨v,hv,hb⟩:=mE (xs:=[1,1000000000,1+r1]) (lo:=1) (hi:=1000000000) (by simp;omega) c0 (by simpa using c1);exact⟨v,s3,aV (bL (am (ab _) (am (az (ab _) (ab _) rfl) (am (az (ab _) ((al (aa h0) (ab _)).trans h1) (db _ _)) a8))) rfl bi) ((al (aa h0) (ab _)).trans h3) hv,hs3,hb⟩
noncomputable def n9:S:=match fj with
 |.asg _ _ (.asg _ _ (.asg _ _ k))=>k
 |_=>.done
theorem Di(hi:i<m.length)(hs:bv s):∃(p:T×List Nat×List Nat) (s':List T),cf (n+15) 60 [.c i] (put m i s)=.ok (.t p.1) (put m i s')/\bv s'/\iM p.1 p.2.1 p.2.2:=by
 obtain⟨q,s1,h1,hs1,q0,q1⟩:=aL (n:=n+11) (many:=7) hi hs (by decide) (by decide);obtain⟨a,s2,h2,hs2,ha⟩:=qL (n:=n+10) hi hs1;obtain⟨w,s3,h3,hs3,hw⟩:=kP (n:=n+9) (ws:=[[97,110,110],[122,122,122,122,122,122,122,122],[98],[112,114,105,99,101]]) hi hs2 (by decide) (by decide) (by decide);have pre:∀{r:Res Flow},ex (cf (n+14)) gv n9 [Zz (.c i),Zz (.t (.int q)),Zz (.t (.int a)),Zz (.t (.str w)),Zy] (put m i s3)=r->ex (cf (n+14)) gv fj [Zz (.c i),Zy,Zy,Zy,Zy] (put m i s)=r:=λh=>by
  unfold fj;exact(av ((al (aa rfl) (ab _)).trans h1)).trans ((av ((ar (aa rfl)).trans h2)).trans ((av ((al (aa rfl) (bL (am (ab _) (am (ab _) (am (ab _) (am (ab _) a8)))) rfl bi)).trans h3)).trans h))
 have key:∃(p:T×List Nat×List Nat) (s':List T),ex (cf (n+14)) gv n9 [Zz (.c i),Zz (.t (.int q)),Zz (.t (.int a)),Zz (.t (.str w)),Zy] (put m i s3)=.ok (.ret (.t p.1)) (put m i s')/\bv s'/\iM p.1 p.2.1 p.2.2:=by
  have sk:∀{k:Int}{A K:S}{b:Int},(b==k)=false->ex (cf (n+14)) gv (.bI (.cmp .Eq (.var 1) (.con (.int k))) A .done K) [Zz (.c i),Zz (.t (.int b)),Zz (.t (.int a)),Zz (.t (.str w)),Zy] (put m i s3)=ex (cf (n+14)) gv K [Zz (.c i),Zz (.t (.int b)),Zz (.t (.int a)),Zz (.t (.str w)),Zy] (put m i s3):=λh=>ay (aw (aa rfl) (ab _) (by rw[jU,h]))
  obtain⟨b,s4,h4,hs4,hb⟩:=qL (n:=n+10) hi hs3;obtain⟨k,s5,h5,hs5,hk⟩:=Cg (n:=n+11) (env:=[Zz (.c i),Zz (.t (.int q)),Zz (.t (.int a)),Zz (.t (.str w)),Zy]) rfl hi hs3;have two:∀c∈ccs,(q=0/\c=[99,111,109,101]∨q=1/\c=[99,104,97,110,103,101])->∃(p:T×List Nat×List Nat) (s':List T),ex (cf (n+14)) gv n9 [Zz (.c i),Zz (.t (.int q)),Zz (.t (.int a)),Zz (.t (.str w)),Zy] (put m i s3)=.ok (.ret (.t p.1)) (put m i s')/\bv s'/\iM p.1 p.2.1 p.2.2:=λc hc hq=>by
   obtain⟨o,s6,h6,hs6,gO⟩:=yK (n:=n) hi hs3;obtain⟨H,V,hX⟩:=Eu gO;obtain⟨b,s7,h7,hs7,hb⟩:=qL (n:=n+10) hi hs6;refine⟨⟨_,_,_⟩,s7,?_,hs7,MC hc ha hb hX⟩;unfold n9 fj;rcases hq with⟨rfl,rfl⟩|⟨rfl,rfl⟩<;>exact aD (aw (k:=true) (aa rfl) (ab _) rfl) (ai (pw (am (aV (fk (ab _) (ab _)) (aa rfl) rfl) (am (aa rfl) (am ((ar (aa rfl)).trans h6) (am ((ar (aa rfl)).trans h7) a8)))) rfl bi))
  have hq:q=0∨q=1∨q=2∨q=3∨q=4∨q=5∨q=6:=by omega
  have tn:=λ{z:Int}(h:0<=z/\z<=1000000000)=>(⟨h,λn m=>li h⟩:(At.n z).Ok/\∀n m,cf (n+59) 37 [.t dw,.t (.str (At.n z).x)] m=.ok (.t (At.n z).t) m)
  have tw:(At.w w).Ok/\∀n m,cf (n+59) 37 [.t BZ,.t (.str (At.w w).x)] m=.ok (.t (At.w w).t) m:=⟨hw,λn m=>Bk hw⟩
  have tk:(At.n k).Ok/\∀n m,cf (n+59) 37 [.t pI,.t (.str (At.n k).x)] m=.ok (.t (At.n k).t) m:=⟨⟨by omega,hk.2⟩,λn m=>sj hk⟩
  rcases hq with rfl|rfl|rfl|rfl|rfl|rfl|rfl
  ·exact two _ (by decide) (.inl ⟨rfl,rfl⟩)
  ·exact two _ (by decide) (.inr ⟨rfl,rfl⟩)
  ·refine⟨⟨_,_,_⟩,s3,?_,hs3,k7 (w:=[111,102,102]) (ps:=[(dw,.n a),(BZ,.w w)]) (by decide) ⟨_,_,rfl,by decide⟩ rfl rfl (show 2<=5 by decide) (R5.mpr ⟨tn ha,R5.mpr ⟨tw,λ_ h=>XZ h R4⟩⟩)⟩
   unfold n9 fj;exact(ay (aw (k:=false) (aa rfl) (ab _) rfl)).trans (aD (aw (k:=true) (aa rfl) (ab _) rfl) (ai (m6 (ab _) (aa rfl) (aa rfl))))
  ·refine⟨⟨_,_,_⟩,s5,?_,hs5,k7 (w:=[108,101,115,115]) (ps:=[(dw,.n a),(BZ,.w w),(pI,.n k)]) (by decide) ⟨_,_,rfl,by decide⟩ rfl rfl (show 3<=5 by decide) (R5.mpr ⟨tn ha,R5.mpr ⟨tw,R5.mpr ⟨tk,λ_ h=>XZ h R4⟩⟩⟩)⟩
   unfold n9 fj;exact(ay (aw (k:=false) (aa rfl) (ab _) rfl)).trans ((sk rfl).trans (aD (aw (k:=true) (aa rfl) (ab _) rfl) (ai (pw (am (ab _) (am (aa rfl) (am (aa rfl) (am h5 a8)))) rfl bi))))
  ·refine⟨⟨_,_,_⟩,s4,?_,hs4,k7 (w:=[119,97,105,116]) (ps:=[(dw,.n a),(BZ,.w w),(dw,.n b)]) (by decide) ⟨_,_,rfl,by decide⟩ rfl rfl (show 3<=5 by decide) (R5.mpr ⟨tn ha,R5.mpr ⟨tw,R5.mpr ⟨tn hb,λ_ h=>XZ h R4⟩⟩⟩)⟩
   unfold n9 fj;exact(ay (aw (k:=false) (aa rfl) (ab _) rfl)).trans ((sk rfl).trans ((sk rfl).trans (aD (aw (k:=true) (aa rfl) (ab _) rfl) (ai (pw (am (ab _) (am (aa rfl) (am (aa rfl) (am ((ar (aa rfl)).trans h4) a8)))) rfl bi)))))
  ·obtain⟨r,s6,h6,hs6,r0,r1⟩:=aL (n:=n+11) (many:=2) hi hs3 (by decide) (by decide)
   obtain⟨ns,s7,h7,hs7,hl,hn⟩:=drawn (n:=n+14) (f:=T.int) (P:=λv=>0<=v/\v<=1000000000) (i:=i) (m:=m) (env:=[Zz (.c i),Zz (.t (.int 5)),Zz (.t (.int a)),Zz (.t (.str w)),Zy]) (m0:=put m i s3) (x:=.lst (rangeT 0 (2+r).toNat)) (c:=yQ) rfl rfl hs6 (aB (az (ab _) ((al (aa rfl) (ab _)).trans h6) (db _ _)) (pH ⟨by omega,by omega⟩)) rfl (by simp[rangeT,lim];omega) (λt ht s hs=>by
    obtain⟨v,s',hv,hs',hb⟩:=qL (n:=n+10) hi hs;exact⟨_,v,s',rfl,(ar (aa rfl)).trans hv,hs',hb⟩)
   obtain⟨k,s8,h8,hs8,hk⟩:=Cg (n:=n+11) (env:=[Zz (.c i),Zz (.t (.int 5)),Zz (.t (.int a)),Zz (.t (.str w)),Zz (.t (.tup (ns.map T.int)))]) rfl hi hs7;have hl2:ns.length=(2+r).toNat:=by rw[hl];simp[rangeT]
   have e:(ns.map At.n).map At.t=ns.map T.int:=by rw[Re];rfl
   have hr:=FO (a:=a) (k:=k) (ns:=ns) ha hk hn (by omega);refine⟨⟨_,_,_⟩,s8,?_,hs8,hr⟩;unfold n9 fj;show _=Res.ok (Mi.Flow.ret (.t (.tup [.str [109,101,101,116],.int a,.tup ((ns.map At.n).map At.t),.int k]))) _;rw[e];exact(ay (aw (k:=false) (aa rfl) (ab _) rfl)).trans ((sk rfl).trans ((sk rfl).trans ((sk rfl).trans (aD (aw (k:=true) (aa rfl) (ab _) rfl) ((av (aB h7 (jG _))).trans (ai (pw (am (ab _) (am (aa rfl) (am (aa rfl) (am h8 a8)))) rfl bi)))))))
  ·refine⟨⟨_,_,_⟩,s4,?_,hs4,k7 (w:=[111,117,116]) (ps:=[(dw,.n a),(dw,.n b)]) (by decide) ⟨_,_,rfl,by decide⟩ rfl rfl (show 2<=5 by decide) (R5.mpr ⟨tn ha,R5.mpr ⟨tn hb,λ_ h=>XZ h R4⟩⟩)⟩
   unfold n9 fj;exact(ay (aw (k:=false) (aa rfl) (ab _) rfl)).trans ((sk rfl).trans ((sk rfl).trans ((sk rfl).trans ((sk rfl).trans (ai (m6 (ab _) (aa rfl) ((ar (aa rfl)).trans h4)))))))
 obtain⟨p,s',hk,hs',hr⟩:=key;exact⟨p,s',ax (H8 _ _ _) rfl (pre hk) (aq (cell:=false) (by rw[aF,aF])),hs',hr⟩
end
noncomputable abbrev Rw:=T×List Nat×List Nat
section
variable{call:Nat->List W->Mem->Res W}{gv:List T}{env:Env}{m m1 m2:Mem}{a b:E}{w v:W}{x y:T}{k:Bool}
theorem q9{op:PySem.CmpOp}(h1:ev call gv a env m=.ok w m1)(h2:ev call gv b env m1=.ok v m2)(v1:view w m2=Zz x)(v2:view v m2=Zz y)(h3:bx op x y=Zz k):ev call gv (.cmp op a b) env m=.ok (.t (.bl k)) m2:=by
 rw[ev,h1,af,h2,af,v1,v2];show dy ((bx op x y).map .bl) m2=_;rw[h3];rfl
theorem Ju{ty:Ty}(h:ev call gv a env m=.ok w m1)(hv:view w m1=Zz x)(hk:cF x ty=k):ev call gv (.uo a ty) env m=.ok (.t (.bl k)) m1:=by
 rw[ev,h,af,hv,<-hk];rfl
end
theorem jb{m:Mem}{ts:List T}:view (.c m.length) (m++[Zz (false,ts)])=Zz (.lst ts):=by simp[view]
theorem Eg{m:Mem}{ts:List T}:∃m2,bc (.c m.length) (m++[Zz (false,ts)])=.ok ts m2/\giveBack (.c m.length) (m++[Zz (false,ts)]) m2=m++[Zz (false,ts)]:=⟨m++[Zz (true,ts)],by simp[bc],by simp[giveBack]⟩
theorem Nc{m:Mem}{ts:List T}:fin m.length true (.ret (.c m.length)) (m++[Zz (false,ts)])=.ok (.c m.length) (m++[Zz (false,ts)]):=by simp[fin]
theorem lE{ws:List (List Nat)}(h:∀w∈ws,w.length<=5000)(hl:ws.length<=12):(ws.map Rf).sum+ws.length*[10].length<=lim:=by
 have:=kz h;have h2:ws.length*5000<=12*5000:=Nat.mul_le_mul_right _ hl;simp only[RE,Rh,V0,Nat.mul_one];unfold lim;omega
theorem vO{n:Nat}{m:Mem}{w:W}{rs:List Rw}(hb:∃m2,bc w m=.ok (rs.map (·.1)) m2/\giveBack w m m2=m)(hr:∀p∈rs,iM p.1 p.2.1 p.2.2)(hl:rs.length<=12):cf (n+61) 32 [w] m=.ok (.t (.str (ae [10] (rs.map (·.2.1))))) m:=by
 obtain⟨m2,b1,b2⟩:=hb;have hh:=cA (f:=aY (cf (n+60)) gv .nil ir) (tg:=.nm 0) (env:=[Zy]) (m:=m2) (λp:Rw=>p.1) (λp=>T.str p.2.1) rs (λp hp=>⟨_,rfl,eH (show ev (cf (n+60)) gv ir _ _=_ from bS ((ar (aa rfl)).trans ((hr p hp).rt n _)))⟩);have hc:ev (cf (n+60)) gv md [Zz w] m=.ok (.t (.lst ((rs.map (·.2.1)).map .str))) m:=by
  rw[Re];have:=aM (call:=cf (n+60)) (gv:=gv) (env:=[Zz w]) (it:=.var 0) (own:=1) (keep:=[]) (x:=w) (m0:=m) (aa rfl) b1 hh (by rw[Q8];unfold lim;omega);rw[b2]at this;exact this
 have key:ex (cf (n+60)) gv eL [Zz w] m=.ok (.ret (.t (.str (ae [10] (rs.map (·.2.1)))))) m:=by
  unfold eL;exact ai (dM (ab _) hc (lE (λv hv=>by
   obtain⟨p,hp,rfl⟩:=RI.mp hv;exact(hr p hp).lx.2.2) (by rw[Q8];exact hl)))
 exact ax (wz _ _ _) rfl key (aq (cell:=false) rfl)
theorem join_nil{ws:List (List Nat)}(h:∀w∈ws,w≠[])(h0:ws≠[]):ae [10] ws≠[]:=by
 rcases ws with _|⟨x,_|⟨y,r⟩⟩
 ·exact XZ rfl h0
 ·exact h x (by simp)
 ·rw[ae]
  ·simp
  ·simp
structure Lq (t:T) (x:List Nat):Prop where
 rd:∀n m,cf (n+60) 40 [.t (.str x)] m=.ok (.t t) m
 lx:10∉x/\x≠[]/\x.length<=5000
 dp:au 59 t=true
 nn:eqT t .non=false
theorem Cy{n:Nat}{m:Mem}{qs:List (T×List Nat)}(hr:∀p∈qs,Lq p.1 p.2)(hl:qs.length<=12):cf (n+61) 41 [.t (.str (ae [10] (qs.map (·.2))))] m=.ok (.c m.length) (m++[Zz (false,qs.map (·.1))]):=by
 have key:ex (cf (n+60)) gv eG [Zz (.t (.str (ae [10] (qs.map (·.2))))),Zy] m=.ok (.ret (.c m.length)) (m++[Zz (false,qs.map (·.1))]):=by
  unfold eG;refine(ay (bA (k:=true) (zQ (aa rfl) rfl))).trans ?_;by_cases h0:qs=[]
  ·subst h0
   refine aD (aw (aa rfl) (ab _) (fR _ _)) (ai ?_);simp[ev,evs,af,cI,lim]
  ·have hws:∀w∈qs.map (·.2),10∉w/\w≠[]/\w.length<=5000:=λw hw=>by
    obtain⟨p,hp,rfl⟩:=RI.mp hw;exact(hr p hp).lx
   have hne:=join_nil (λw hw=>(hws w hw).2.1) (by simpa using h0);have hlen:=RZ (cT [10] (qs.map (·.2))) (lE (λw hw=>(hws w hw).2.2) (by rw[Q8];exact hl));have hsum:=RZ (cT [10] (qs.map (·.2))) (WP (kz λw hw=>(hws w hw).2.2) (RD _));rw[Q8]at hsum;have hh:=cA (f:=aY (cf (n+60)) gv .nil ip) (tg:=.nm 0) (env:=[Zy]) (m:=m) (λp:T×List Nat=>T.str p.2) (·.1) qs (λp hp=>⟨_,rfl,eH (show ev (cf (n+60)) gv ip _ _=_ from bS ((ar (aa rfl)).trans ((hr p hp).rd n _)))⟩);have hsp:iV .split (.str (ae [10] (qs.map (·.2)))) [.str [10]]=Zz (.lst (qs.map λp=>T.str p.2)):=by
    have:=m_split (c:=10) (ws:=qs.map (·.2)) (by simpa using h0) (λw hw=>(hws w hw).1) (RZ hsum (by simp;omega));rw[Re]at this;exact this
   have hc:ev (cf (n+60)) gv lX [Zz (.t (.str (ae [10] (qs.map (·.2))))),Zy] m=.ok (.t (.lst (qs.map (·.1)))) m:=aM (x:=.t (.lst (qs.map λp=>T.str p.2))) (m0:=m) (gX (.inl rfl) (aa rfl) (ab _) rfl hsp) rfl hh (by rw[Q8];unfold lim;omega);refine(ay (aw (k:=false) (aa rfl) (ab _) (by rw[fR,XY.mpr hne]))).trans ?_;refine(av (w:=.c m.length) (m1:=m++[Zz (false,qs.map (·.1))]) (by rw[ev,hc];rfl)).trans ?_;refine(ay (q9 (ab _) (aa rfl) rfl jb (FR λt ht=>?_))).trans (ai (aa rfl));obtain⟨p,hp,rfl⟩:=RI.mp ht;exact⟨(hr p hp).dp,(hr p hp).nn⟩
 exact ax (wE _ _ _) rfl key Nc
theorem o6{rs:List Rw}(hr:∀p∈rs,iM p.1 p.2.1 p.2.2):au 60 (.lst (rs.map (·.1)))=true:=by
 rw[au];refine bn λt ht=>?_
 obtain⟨p,hp,rfl⟩:=RI.mp ht;exact(hr p hp).dp
theorem FZ{n:Nat}{m:Mem}{rs:List Rw}(hr:∀p∈rs,iM p.1 p.2.1 p.2.2)(hl:rs.length<=12):cf (n+61) 41 [.t (.str (ae [10] (rs.map (·.2.1))))] m=.ok (.c m.length) (m++[Zz (false,rs.map (·.1))]):=by
 have:=Cy (n:=n) (m:=m) (qs:=rs.map λp=>(p.1,p.2.1)) (λq hq=>by
  obtain⟨p,hp,rfl⟩:=RI.mp hq;exact⟨(hr p hp).rx,(hr p hp).lx,(hr p hp).dp,(hr p hp).nn⟩) (by rw[Q8];exact hl)
 rw[Re,Re]at this;exact this
theorem Lb{n:Nat}{m:Mem}{rs:List Rw}(hr:∀p∈rs,iM p.1 p.2.1 p.2.2)(hl:rs.length<=12):cf (n+61) 41 [.t (.str (ae [10] (rs.map (·.2.2))))] m=.ok (.c m.length) (m++[Zz (false,rs.map (·.1))]):=by
 have:=Cy (n:=n) (m:=m) (qs:=rs.map λp=>(p.1,p.2.2)) (λq hq=>by
  obtain⟨p,hp,rfl⟩:=RI.mp hq;exact⟨(hr p hp).ry,(hr p hp).ly,(hr p hp).dp,(hr p hp).nn⟩) (by rw[Q8];exact hl)
 rw[Re,Re]at this;exact this
theorem law_read{n:Nat}{m:Mem}{rs:List Rw}{e0 e1 e2 e4 e6 e7:Option W}(hr:∀p∈rs,iM p.1 p.2.1 p.2.2)(hl:rs.length<=12):
  ex (cf (n+62)) gv rj [e0,e1,e2,Zz (.t (.lst (rs.map (·.1)))),e4,Zz (.t (.str (ae [10] (rs.map (·.2.1))))),e6,e7] m=.ok (.next [e0,e1,e2,Zz (.t (.lst (rs.map (·.1)))),e4,Zz (.t (.str (ae [10] (rs.map (·.2.1))))),e6,Zz (.c m.length)]) (m++[Zz (false,rs.map (·.1)++[.non])]):=by
 obtain⟨m2,b1,b2⟩:=Eg (m:=m) (ts:=rs.map (·.1));have hc:∀env:Env,env[7]?=Zz (Zz (.c m.length))->ev (cf (n+62)) gv BD env (m++[Zz (false,rs.map (·.1))])=.ok (.t (.lst [])) (m++[Zz (false,rs.map (·.1))]):=λenv he=>by
  have hh:=bo (f:=aY (cf (n+62)) gv (.cons (.not (.uo (.var 0) .tuple)) .nil) Ce) (tg:=.nm 0) (env:=[Zy]) (m:=m2) (g:=λ_=>[]) (rs.map (·.1)) (λt ht=>by
   obtain⟨p,hp,rfl⟩:=RI.mp ht;exact⟨_,rfl,LF (bA (k:=true) (zQ (aa rfl) (hr p hp).tp))⟩)
  rw[show(rs.map (·.1)).flatMap (λ_=>([]:List T))=[] by simp]at hh;have:=aM (call:=cf (n+62)) (gv:=gv) (env:=env) (it:=.var 7) (own:=1) (keep:=[]) (x:=.c m.length) (m0:=m++[Zz (false,rs.map (·.1))]) (aa he) b1 hh (Sy _);rw[b2]at this;exact this
 unfold rj;refine(av ((ar (aa rfl)).trans (FZ (n:=n+1) hr hl))).trans ?_;refine(ay ((bN (bA (k:=true) (Ju (aa rfl) jb rfl))).trans ((bN (q9 (aa rfl) (aa rfl) jb rfl (vJ (o6 hr)))).trans (aw ((ar (aa rfl)).trans (vO (n:=n+1) ⟨m2,b1,b2⟩ hr hl)) (aa rfl) (ne_str _))))).trans ?_;refine(ay (aw (hc _ rfl) (bL a8 rfl bi) rfl)).trans ?_;refine(qG (w:=.t .non) (m1:=m++[Zz (false,rs.map (·.1)++[.non])]) ?_).trans (by rw[ex];rfl);rw[ev,aa rfl,af,XU (by simp[xX]),am (ab _) a8,af];exact vC (by rw[Q8];unfold lim;omega)
theorem law_turn{n:Nat}{m:Mem}{ns:List Int}{k:Int}{e2 e3 e4 e5 e6 e7:Option W}(hk:0<=k):∃(m':Mem) (f2 f3 f4 f5 f6 f7:Option W),ex (cf (n+62)) gv rf [Zz (.t (.dr ns)),Zz (.t (.int k)),e2,e3,e4,e5,e6,e7] m=.ok (.next [Zz (.t (.dr ns)),Zz (.t (.int k)),f2,f3,f4,f5,f6,f7]) m':=by
 obtain⟨s,h1,hs⟩:=IB (n:=n+60) (m:=m) (ns:=ns) hk;have hi:m.length<(m++[Zy]).length:=by simp
 generalize hM:m++[Zy]=M at h1 hi;generalize hI:m.length=i at h1 hi;obtain⟨r,s1,h2,hs1,r0,r1⟩:=aL (n:=n+59) (many:=13) hi hs (by decide) (by decide);obtain⟨rs,s2,h3,hs2,hl,hr⟩:=drawn (n:=n+62) (f:=λp:Rw=>p.1) (P:=λp=>iM p.1 p.2.1 p.2.2) (i:=i) (m:=M) (env:=[Zz (.t (.dr ns)),Zz (.t (.int k)),Zz (.c i),e3,e4,e5,e6,e7]) (m0:=put M i s) (x:=.lst (rangeT 0 r.toNat)) (c:=Cw) rfl rfl hs1 (aB ((al (aa rfl) (ab _)).trans h2) (pH ⟨by omega,by omega⟩)) rfl (by simp[rangeT,lim];omega) (λt ht s hs=>by
  obtain⟨p,s',hv,hs',hb⟩:=Di (n:=n+47) hi hs;exact⟨_,p,s',rfl,(ar (aa rfl)).trans hv,hs',hb⟩)
 have hl:rs.length<=12:=by rw[hl];simp[rangeT];omega
 generalize put M i s2=m' at h3;have hbook:∀mm:Mem,∃m2,bc (.t (.lst (rs.map (·.1)))) mm=.ok (rs.map (·.1)) m2/\giveBack (.t (.lst (rs.map (·.1)))) mm m2=mm:=λmm=>⟨mm,rfl,rfl⟩
 have hx:∀v∈rs.map (·.2.1),v.length<=5000:=λv hv=>by
  obtain⟨p,hp,rfl⟩:=RI.mp hv;exact(hr p hp).lx.2.2
 have hy:∀v∈rs.map (·.2.2),v.length<=5000:=λv hv=>by
  obtain⟨p,hp,rfl⟩:=RI.mp hv;exact(hr p hp).ly.2.2
 have c2:∀(mm:Mem) (env:Env),env[3]?=Zz (Zz (.t (.lst (rs.map (·.1)))))->ev (cf (n+62)) gv BS env mm=.ok (.t (.lst ((rs.map (·.2.1)).map .str))) mm:=λmm env he=>by
  have hh:=cA (f:=aY (cf (n+62)) gv .nil wQ) (tg:=.nm 0) (env:=[Zy]) (m:=mm) (λp:Rw=>p.1) (λp=>T.str p.2.1) rs (λp hp=>⟨_,rfl,eH (show ev (cf (n+62)) gv wQ _ _=_ from bS ((ar (aa rfl)).trans ((hr p hp).lt (n+2) _)))⟩);rw[Re];exact aM (x:=.t (.lst (rs.map (·.1)))) (m0:=mm) (aa he) rfl hh (by rw[Q8];unfold lim;omega)
 have c0:∀(mm:Mem) (env:Env),env[3]?=Zz (Zz (.t (.lst (rs.map (·.1)))))->ev (cf (n+62)) gv CH env mm=.ok (.t (.lst ((rs.map (·.2.2)).map .str))) mm:=λmm env he=>by
  have hh:=cA (f:=aY (cf (n+62)) gv .nil wS) (tg:=.nm 0) (env:=[Zy]) (m:=mm) (λp:Rw=>p.1) (λp=>T.str p.2.2) rs (λp hp=>⟨_,rfl,eH (show ev (cf (n+62)) gv wS _ _=_ from bS ((ar (aa rfl)).trans ((hr p hp).ty (n+1) _)))⟩);rw[Re];exact aM (x:=.t (.lst (rs.map (·.1)))) (m0:=mm) (aa he) rfl hh (by rw[Q8];unfold lim;omega)
 have hf:∀mm:Mem,∃(m3:Mem) (f6 f7:Option W),ca (ex (cf (n+62)) gv rj) (.nm 6) (rangeT 0 2) [Zz (.t (.dr ns)),Zz (.t (.int k)),Zz (.c i),Zz (.t (.lst (rs.map (·.1)))),Zz (.t (.lst (rs.map (·.1)))),Zz (.t (.str (ae [10] (rs.map (·.2.1))))),e6,e7] mm=.ok (.next [Zz (.t (.dr ns)),Zz (.t (.int k)),Zz (.c i),Zz (.t (.lst (rs.map (·.1)))),Zz (.t (.lst (rs.map (·.1)))),Zz (.t (.str (ae [10] (rs.map (·.2.1))))),f6,f7]) m3:=λmm=>⟨_,_,_,(BQ rfl (law_read hr hl)).trans ((BQ rfl (law_read hr hl)).trans rfl)⟩
 obtain⟨m3,f6,f7,h4⟩:=hf m';refine⟨m3++[Zz (false,rs.map (·.1))],Zz (.c i),Zz (.t (.lst (rs.map (·.1)))),Zz (.t (.lst (rs.map (·.1)))),Zz (.t (.str (ae [10] (rs.map (·.2.1))))),f6,f7,?_⟩;unfold rf;refine(av ((al (aa rfl) (aa rfl)).trans h1)).trans ?_;refine(av h3).trans ?_;refine(av (aB (aa rfl) rfl)).trans ?_;refine(av (dM (ab _) (c2 _ _ rfl) (lE hx (by rw[Q8];exact hl)))).trans ?_;refine(ay ((bN (aw ((ar (aa rfl)).trans (vO (n:=n+1) (hbook _) hr hl)) (aa rfl) (ne_str _))).trans (aw (aa rfl) (aa rfl) (vJ (o6 hr))))).trans ?_;refine(mV (aB (ab _) rfl) rfl h4).trans ?_;refine(ay (q9 ((ar (dM (ab _) (c0 _ _ rfl) (lE hy (by rw[Q8];exact hl)))).trans (Lb (n:=n+1) hr hl)) (aa rfl) jb rfl (vJ (o6 hr)))).trans ?_;rw[ex];rfl
theorem law_true(ns:List Int)(hl:ns.length<=63):∃m,f8 fns gv 63 63 [.t (.dr ns)] []=.ok (.t (.bl true)) m:=by
 obtain⟨env1,m1,e1,a1,a2,a3,a4,a5,a6,a7,rfl⟩:=rm (f:=ex (cf 62) gv rf) (tg:=.nm 1) (P:=λenv m=>∃a b c d e f g,env=[Zz (.t (.dr ns)),a,b,c,d,e,f,g]) (rangeT 0 3) [Zz (.t (.dr ns)),Zy,Zy,Zy,Zy,Zy,Zy,Zy] [] ⟨_,_,_,_,_,_,_,rfl⟩ (by
  rintro t ht env m ⟨a,b,c,d,e,f,g,rfl⟩;obtain⟨x,rfl,hx⟩:∃x:Int,t=.int x/\0<=x:=by
   simp[rangeT]at ht;obtain⟨k,_,rfl⟩:=ht;exact⟨_,rfl,by omega⟩
  obtain⟨m',f2,f3,f4,f5,f6,f7,h1⟩:=law_turn (n:=0) (ns:=ns) (m:=m) (e2:=b) (e3:=c) (e4:=d) (e5:=e) (e6:=f) (e7:=g) hx;exact⟨_,_,m',rfl,h1,_,_,_,_,_,_,_,rfl⟩)
 refine⟨[],?_⟩;have hnil:∀p∈([]:List Rw),iM p.1 p.2.1 p.2.2:=λ_ h=>XZ h R4
 have key:ex (cf 62) gv va [Zz (.t (.dr ns)),Zy,Zy,Zy,Zy,Zy,Zy,Zy] []=.ok (.ret (.t (.bl true))) (m1++[Zz (false,[])]):=by
  unfold va;refine(mV (aB (ab _) rfl) rfl e1).trans (ai ((jP (q9 ((ar (ab _)).trans (FZ (n:=1) (rs:=[]) hnil (by decide))) (bL a8 rfl bi) jb rfl rfl)).trans (aw ((ar (bL a8 rfl bi)).trans (vO (n:=1) (rs:=[]) ⟨_,rfl,rfl⟩ hnil (by decide))) (ab _) rfl)))
 show cf 63 63 [.t (.dr ns)] []=_;rw[Lm];simp[key,af,fin]
end My
end
section
set_option maxHeartbeats 1000000
namespace My
open PySem PySem.Spec PyProof.Rows L2 Mi
noncomputable def top(i:Nat):Rt:=PySem.Challenge.pw_matepoint_k73_books_as_texts.main.body.getD i (.Pass ⟨0,0,0,0⟩)
noncomputable abbrev dN:Rt:=top 7
noncomputable abbrev k9:Rt:=top 8
noncomputable abbrev jw:Rt:=top 9
noncomputable abbrev ib:Rt:=top 10
noncomputable abbrev k6:Rt:=top 11
noncomputable abbrev wk:Rt:=top 12
noncomputable abbrev ia:Rt:=top 13
noncomputable abbrev lN:Rt:=top 14
noncomputable abbrev gB:Rt:=top 15
noncomputable abbrev kT:Rt:=top 16
noncomputable abbrev g6:Rt:=top 25
noncomputable abbrev dg:Rt:=top 26
noncomputable abbrev fB:Rt:=top 27
noncomputable abbrev gR:Rt:=top 28
noncomputable abbrev jr:Rt:=top 29
noncomputable abbrev kM:Rt:=top 30
noncomputable abbrev fJ:Rt:=top 35
noncomputable abbrev jh:Rt:=top 36
noncomputable abbrev gQ:Rt:=top 44
noncomputable abbrev ez:Rt:=top 45
noncomputable abbrev cU:Rt:=top 46
noncomputable abbrev lM:Rt:=top 47
noncomputable abbrev lD:Rt:=top 48
noncomputable abbrev hU:Rt:=top 49
noncomputable abbrev fC:Rt:=top 50
noncomputable abbrev jz:Rt:=top 51
noncomputable abbrev eD:Rt:=top 52
noncomputable abbrev hG:Rt:=top 53
noncomputable abbrev gx:Rt:=top 57
noncomputable abbrev gz:Rt:=top 58
noncomputable abbrev fI:Rt:=top 59
noncomputable abbrev jJ:Rt:=top 60
noncomputable abbrev gy:Rt:=top 61
noncomputable abbrev hV:Rt:=top 62
noncomputable abbrev lK:Rt:=top 63
noncomputable abbrev ll:Rt:=top 64
noncomputable abbrev jj:Rt:=top 65
noncomputable abbrev jy:Rt:=top 66
noncomputable abbrev jH:Rt:=top 67
noncomputable abbrev lf:Rt:=top 68
noncomputable abbrev nY:Rt:=top 69
noncomputable abbrev gH:Rt:=top 70
noncomputable abbrev qU:Rt:=top 72
noncomputable abbrev mW:Rt:=top 73
noncomputable abbrev oh:Rt:=top 74
noncomputable abbrev qF:Rt:=top 75
noncomputable abbrev qT:Rt:=top 76
noncomputable abbrev qN:Rt:=top 77
noncomputable abbrev lq:Rt:=top 78
noncomputable abbrev rh:Rt:=top 79
noncomputable abbrev qH:Rt:=top 80
noncomputable abbrev qD:Rt:=top 81
noncomputable abbrev qE:Rt:=top 82
noncomputable abbrev re:Rt:=top 83
noncomputable abbrev dS:Rt:=top 84
noncomputable abbrev lw:Rt:=top 85
noncomputable abbrev fo:Rt:=top 86
noncomputable abbrev lB:Rt:=top 87
noncomputable abbrev eE:Rt:=top 88
noncomputable abbrev qO:Rt:=top 89
noncomputable abbrev v8:Rt:=top 90
noncomputable abbrev gw:Rt:=top 91
noncomputable abbrev nW:Rt:=top 92
noncomputable abbrev pS:Rt:=top 93
set_option hygiene false
local macro_rules
 | `(tactic| wtm_at $s:str)=>do
  let q ←`(?_)
  let mut r:Array (Lean.TSyntax `tactic):=#[]
  for c in s.getString.toList do
   let t ← match c with
    | '0'=>`(tactic| exact rfl)
    | '7'=>`(tactic| exact (Io (by decide +kernel)))
    | 'b'=>`(tactic| exact (fun _ _=>rfl))
    | 'd'=>`(tactic| exact (by decide))
    | 'e'=>`(tactic| exact (by with_unfolding_all rfl))
    | 'k'=>`(tactic| exact (by kernel_rfl))
    | 'l'=>`(tactic| exact ⟨rfl,rfl,rfl,by decide +kernel,rfl,by decide +kernel,by decide +kernel⟩)
    | 'm'=>`(tactic| intro P w K mg base k f cdv A outer s H E T0 T1 hr xe pn xr go)
    | 'n'=>`(tactic| refine ⟨?_⟩)
    | 'p'=>`(tactic| exact (fun _=>rfl))
    | 'x'=>`(tactic| intro _ _ _ _ _)
    | 'y'=>`(tactic| refine ⟨?_,?_,?_⟩)
    | 'z'=>`(tactic| refine .emit ?_ ?_)
    | 'H'=>`(tactic| exact (KW (by decide +kernel)))
    | 'S'=>`(tactic| exact (by decide +kernel))
    | 'Ð'=>`(tactic| refine bE (N':=["size"]) ?_ ?_)
    | 'Ñ'=>`(tactic| exact (aP 0 (show S1 (["size"]:List Str) from by decide +kernel)))
    | 'Ü'=>`(tactic| refine bE (N':=["_law_row_here"]) ?_ ?_)
    | 'Ý'=>`(tactic| exact (aP 0 (show S1 (["_law_row_here"]:List Str) from by decide +kernel)))
    | 'à'=>`(tactic| refine bE (N':=["sign"]) ?_ ?_)
    | 'á'=>`(tactic| exact (aP 0 (show S1 (["sign"]:List Str) from by decide +kernel)))
    | 'ã'=>`(tactic| refine bE (N':=["one"]) ?_ ?_)
    | 'ä'=>`(tactic| exact (aP 0 (show S1 (["one"]:List Str) from by decide +kernel)))
    | 'ç'=>`(tactic| exact (iJ 4 5 rfl kD.nd))
    | 'è'=>`(tactic| exact (cG rfl rfl T0.Hz (by decide)))
    | 'é'=>`(tactic| exact (iJ 4 5 rfl fY.nd))
    | 'ê'=>`(tactic| exact (cG rfl rfl T0.yJ (by decide)))
    | 'í'=>`(tactic| refine bE (N':=["_law_k","_law_well_here"]) ?_ ?_)
    | 'î'=>`(tactic| exact (aP 0 (show S1 (["_law_k","_law_well_here"]:List Str) from by decide +kernel)))
    | 'ò'=>`(tactic| refine bE (N':=["_law_one"]) ?_ ?_)
    | 'ó'=>`(tactic| exact (aP 0 (show S1 (["_law_one"]:List Str) from by decide +kernel)))
    | 'ù'=>`(tactic| refine bE (N':=["_law_number_here"]) ?_ ?_)
    | 'ú'=>`(tactic| exact (aP 0 (show S1 (["_law_number_here"]:List Str) from by decide +kernel)))
    |_=>match("13Gk 20JG 30Ig 4v0 55GP 60hr 80go.lk 91GN av1 c3LQ f0hr.units g0Hi h2JY i4HM j4IP ov2 q2HW r1JD sv3 t0T1.qS u1HR v0T8 w7F3 Av4 B5HU C0T0.NY D2M6 E1Lr F1Oc G0Pu I2HC J1Ij K1PW.pt Ls2 M2LX N0T0.Jj O4J9 P1Fu Q6HY R0T0.wI Tv5 U2G7 V0T0.N0 W1LB X0K2 Ys1 Z4Gv !0T0.HL #5EL $0Jd %3zN &2HF (0Lz )v7 *0EC +s4 ,5zu -v6 .0T0.Na /0T1.lg :0T1.kJ ;s3 <5ED =0T0.MW >0T1.ie ?5Ez @1Ip [0yP.nd ]0T1.qZ ^0jT.nd _0go.po `3JX {2Fc |0F1 }2DM ~v8 À0T1.rl Á0sG.nd Â0T1.gM Ã2Iy Ä1Jl Å0mN.nd Æ7GR Ç0T1.eB È2Eo É2A2 Ê0gS.nd Ës5 Ì0uG.nd Í0T0.KH Î0Cu.nd Ï5Jf Ò0T1.fG Ó0l6.nd Ôs6 Õv11 Ö2Fo Ø0T1.hZ Ù4Fs Ú0T1.qP Û0T1.kK Þ0T1.gZ ß0T1.gE â0T1.dE å0T1.eA æ0T1.cV ë3IA ì2AL ï5GB ð0T1.lj ñ0T1.fE ôs8 õ0fQ.nd ö0T1.lA ø5C9 û0T1.gA".splitOn " ").find? (λe=>e.toList.head?==some c) with
     |some e=>
      let d:=e.toList.tail.headD c
      let x:=String.ofList (e.toList.drop 2)
      if d=='v' then `(tactic| exact (vr $(Lean.quote x.toNat!)))
      else if d=='s' then `(tactic| refine sg (i:=$(Lean.quote x.toNat!)) ?_ ?_ ?_)
      else if d=='0' then `(tactic| exact $(Lean.mkIdent x.toName))
      else `(tactic| refine $(Lean.mkIdent x.toName) $((List.replicate (d.toNat-48) q).toArray)*)
     |_=>Lean.Macro.throwUnsupported
   r:=r.push t
  `(tactic| ($[$r:tactic];*))
theorem qo:ao ["text"] ["text"] (ag dN):=by
 wtm_at "l"
theorem Ah:ao ["thing"] ["thing"] (ag k9):=by
 wtm_at "l"
theorem yo:ao ["thing"] ["thing"] (ag jw):=by
 wtm_at "l"
theorem xl:ao ["thing"] ["thing"] (ag ib):=by
 wtm_at "l"
theorem zO:ao ["thing"] ["thing"] (ag k6):=by
 wtm_at "l"
theorem Ib:ao ["words"] ["words"] (ag wk):=by
 wtm_at "l"
theorem vq:ao ["thing"] ["thing"] (ag ia):=by
 wtm_at "l"
theorem Bs:ao ["thing"] ["thing"] (ag lN):=by
 wtm_at "l"
theorem wU:ao ["thing"] ["thing"] (ag gB):=by
 wtm_at "l"
theorem zW:ao ["thing"] ["thing"] (ag kT):=by
 wtm_at "l"
theorem vL:ao ["thing","texts"] ["thing","texts"] (ag g6):=by
 wtm_at "l"
theorem oM:ao ["thing"] ["thing"] (ag dg):=by
 wtm_at "l"
theorem tX:ao ["thing"] ["thing"] (ag fB):=by
 wtm_at "l"
theorem wC:ao ["thing"] ["thing"] (ag gR):=by
 wtm_at "l"
theorem zh:ao ["thing"] ["thing"] (ag jr):=by
 wtm_at "l"
theorem mN:ao ["thing","layer","parts","depth"] ["thing"] (ag kM):=by
 wtm_at "l"
theorem ug:ao ["thing","low","high"] ["thing","low","high"] (ag fJ):=by
 wtm_at "l"
theorem qg:ao ["thing","side","card","wish","many","least","weight","till"] ["thing"] (ag jh):=by
 wtm_at "l"
theorem ji:ao ["wish","word","between"] ["wish"] (ag gQ):=by
 wtm_at "l"
theorem j5:ao ["word","wish","text"] ["word","wish"] (ag ez):=by
 wtm_at "l"
theorem om:ao ["word"] ["word"] (ag cU):=by
 wtm_at "l"
theorem Bo:ao ["words","at"] ["words","at"] (ag lM):=by
 wtm_at "l"
theorem su:ao ["words","at","word"] ["words","at"] (ag lD):=by
 wtm_at "l"
theorem nP:ao ["words","at","word"] ["words","at"] (ag hU):=by
 wtm_at "l"
theorem l6:ao ["words","at","word","size","sign"] ["words","at"] (ag fC):=by
 wtm_at "l"
theorem kD:ao ["words","at","within","word","wish","behind"] ["words","at","within"] (ag jz):=by
 wtm_at "l"
theorem fY:ao ["words","at","within","joins","wish","behind","wishes"] ["words","at","within","joins"] (ag eD):=by
 wtm_at "l"
theorem jM:ao ["text","words","wish","behind"] ["text"] (ag hG):=by
 wtm_at "l"
theorem wW:ao ["texts"] ["texts"] (ag gx):=by
 wtm_at "l"
theorem vD:ao ["text"] ["text"] (ag gz):=by
 wtm_at "l"
theorem er:ao ["offer","side","card","wish","many","least","weight","till","name","kind","marks","sizes","size_text"] ["offer"] (ag fI):=by
 wtm_at "l"
theorem kF:ao ["row","word","numbers"] ["row"] (ag jJ):=by
 wtm_at "l"
theorem wM:ao ["book"] ["book"] (ag gy):=by
 wtm_at "l"
theorem vX:ao ["word"] ["word"] (ag hV):=by
 wtm_at "l"
theorem sY:ao ["text","name","sign","number"] ["text"] (ag lK):=by
 wtm_at "l"
theorem A4:ao ["text"] ["text"] (ag ll):=by
 wtm_at "l"
theorem gS:ao ["text","head","bar","wish","words","marks","sizes","many","least","weight","till","offer"] ["text"] (ag jj):=by
 wtm_at "l"
theorem pW:ao ["kind","word","number"] ["kind","word"] (ag jy):=by
 wtm_at "l"
theorem zj:ao ["text"] ["text"] (ag jH):=by
 wtm_at "l"
theorem rO:ao ["words","form"] ["words"] (ag lf):=by
 wtm_at "l"
theorem uG:ao ["text","words","form","told","word"] ["text"] (ag nY):=by
 wtm_at "l"
theorem og:ao ["text","rows"] ["text"] (ag gH):=by
 wtm_at "l"
theorem FA:ao ["_law_script","_law_k"] ["_law_script","_law_k"] (ag qU):=by
 wtm_at "l"
theorem u5:ao ["_law_cell_here","_law_k","_law_number_here"] ["_law_cell_here","_law_k"] (ag mW):=by
 wtm_at "l"
theorem uB:ao ["_law_cell_here","_law_k","_law_number_here"] ["_law_cell_here","_law_k"] (ag oh):=by
 wtm_at "l"
theorem yd:ao ["_law_script","_law_k","_law_cell_here"] ["_law_script","_law_k"] (ag qF):=by
 wtm_at "l"
theorem ye:ao ["_law_well_here","_law_most","_law_number_here"] ["_law_well_here","_law_most"] (ag qT):=by
 wtm_at "l"
theorem nj:ao ["_law_well_here","_law_words","_law_most","_law_left","_law_found","_law_k"] ["_law_well_here","_law_words","_law_most"] (ag qN):=by
 wtm_at "l"
theorem Ay:ao ["_law_well_here"] ["_law_well_here"] (ag lq):=by
 wtm_at "l"
theorem rZ:ao ["_law_well_here","_law_letters","_law_word_here"] ["_law_well_here"] (ag rh):=by
 wtm_at "l"
theorem GK:ao ["_law_well_here","_law_some_here"] ["_law_well_here","_law_some_here"] (ag qH):=by
 wtm_at "l"
theorem yP:ao ["_law_well_here","_law_name","_law_kind","_law_some_here","_law_marks","_law_sizes"] ["_law_well_here"] (ag qD):=by
 wtm_at "l"
theorem xN:ao ["_law_well_here","_law_way"] ["_law_well_here"] (ag qE):=by
 wtm_at "l"
theorem rq:ao ["_law_well_here","_law_deep","_law_room","_law_way","_law_many"] ["_law_well_here","_law_deep","_law_room"] (ag re):=by
 wtm_at "l"
theorem jT:ao ["_law_well_here","_law_many","_law_least","_law_weight","_law_till","_law_card_here","_law_wish_here"] ["_law_well_here"] (ag dS):=by
 wtm_at "l"
theorem sC:ao ["_law_wish_here","_law_kinds","_law_text"] ["_law_wish_here","_law_kinds"] (ag lw):=by
 wtm_at "l"
theorem lW:ao ["_law_wish_here","_law_word_here"] ["_law_wish_here"] (ag fo):=by
 wtm_at "l"
theorem AM:ao ["_law_words"] ["_law_words"] (ag lB):=by
 wtm_at "l"
theorem fQ:ao ["_law_offer","_law_side","_law_card_here","_law_wish_here","_law_many","_law_least","_law_weight","_law_till","_law_words"] ["_law_offer"] (ag eE):=by
 wtm_at "l"
theorem FV:ao ["_law_well_here"] ["_law_well_here"] (ag qO):=by
 wtm_at "l"
theorem Cu:ao ["_law_well_here","_law_way","_law_time_here","_law_name","_law_numbers"] ["_law_well_here"] (ag v8):=by
 wtm_at "l"
theorem xu:ao ["_law_row_here"] ["_law_row_here"] (ag gw):=by
 wtm_at "l"
theorem vf:ao ["_law_row_here","_law_head","_law_between","_law_wish_here"] ["_law_row_here"] (ag nW):=by
 wtm_at "l"
theorem sG:ao ["_law_script","_law_k","_law_well_here","_law_rows","_law_handed","_law_text","_law_turn","_law_found"] ["_law_script"] (ag pS):=by
 wtm_at "l"
structure IR (P:Rk) (w:Rx) (K:Rs) (mg:Str->Option Q7):Prop where
 MW:mg "all" = Zy
 Ms:mg "bool" = Zy
 Na:mg "int" = Zy
 wI:mg "isinstance" = Zy
 NY:mg "len" = Zy
 KH:mg "list" = Zy
 KB:mg "min" = Zy
 HL:mg "range" = Zy
 M8:mg "set" = Zy
 yI:mg "sorted" = Zy
 N0:mg "str" = Zy
 Jj:mg "tuple" = Zy
 Np:mg "zip" = Zy
 Dp:bM K mg "LETTERS" (.str [97,98,99,100,101,102,103,104,105,106,107,108,109,110,111,112,113,114,115,116,117,118,119,120,121,122])
 rD:bM K mg "LONGEST_WORD" (.int 8)
 w9:bM K mg "WISH_WORDS" (.tup [(.str [97,110,121]),(.str [105,115]),(.str [98,121]),(.str [110,111,116]),(.str [97,110,100]),(.str [111,114])])
 ny:bM K mg "GREATEST_NUMBER" (.int 1000000000)
 wR:bM K mg "MOST_MARKS" (.int 6)
 wT:bM K mg "MOST_SIZES" (.int 6)
 DC:bM K mg "DEEPEST" (.int 6)
 vR:bM K mg "MOST_PARTS" (.int 40)
 qp:bM K mg "FEWEST_JOINED" (.int 2)
 uk:bM K mg "MOST_JOINED" (.int 6)
 JW:bM K mg "SIDES" (.tup [(.str [103,105,118,101]),(.str [116,97,107,101]),(.str [98,101,97,114])])
 qz:bM K mg "GREATEST_MANY" (.int 1000000)
 nG:bM K mg "GREATEST_WEIGHT" (.int 1000)
 DA:bM K mg "FIGURES" (.str [48,49,50,51,52,53,54,55,56,57])
 sN:bM K mg "MOST_FIGURES" (.int 10)
 tU:bM K mg "MOST_WITHIN" (.int 12)
 Cv:pR P w K mg "SIGNS" (Ud (λk=>.inr ⟨k.toArray⟩) [[62,61],[60,61]]) [(.str [108,101,97,115,116]),(.str [109,111,115,116])]
 Hz:bM K mg "JOINS" (.tup [(.str [111,114]),(.str [97,110,100])])
 yb:pR P w K mg "BRACKETED" (Ud (λk=>.inr ⟨k.toArray⟩) [[110,111,116],[97,110,100],[111,114]]) [(.tup [(.str [97,110,100]),(.str [111,114])]),(.tup [(.str [97,110,100]),(.str [111,114])]),(.tup [(.str [111,114])])]
 yJ:bM K mg "NONE_TEXT" (.str [45])
 Jn:pR P w K mg "FORMS" (Ud (λk=>.inr ⟨k.toArray⟩) [[99,111,109,101],[111,102,102],[99,104,97,110,103,101],[108,101,115,115],[119,97,105,116],[109,101,101,116],[111,117,116]]) [(.tup [(.str [110,117,109,98,101,114]),(.str [110,117,109,98,101,114]),(.str [111,102,102,101,114])]),(.tup [(.str [110,117,109,98,101,114]),(.str [110,97,109,101])]),(.tup [(.str [110,117,109,98,101,114]),(.str [110,117,109,98,101,114]),(.str [111,102,102,101,114])]),(.tup [(.str [110,117,109,98,101,114]),(.str [110,97,109,101]),(.str [109,97,110,121])]),(.tup [(.str [110,117,109,98,101,114]),(.str [110,97,109,101]),(.str [110,117,109,98,101,114])]),(.tup [(.str [110,117,109,98,101,114]),(.str [109,97,110,121]),(.str [110,117,109,98,101,114]),(.str [110,117,109,98,101,114])]),(.tup [(.str [110,117,109,98,101,114]),(.str [110,117,109,98,101,114])])]
structure KQ (P:Rk) (w:Rx) (K:Rs) (mg:Str->Option Q7) (base:Rj) (k:Nat):Prop where
 dE:c5 P w K mg base fns gv k "is_long_word" 0
 lg:c5 P w K mg base fns gv k "is_word" 1
 gr:c5 P w K mg base fns gv k "is_whole" 2
 gM:c5 P w K mg base fns gv k "is_number" 3
 kR:c5 P w K mg base fns gv k "is_time" 4
 sr:c5 P w K mg base fns gv k "rise" 5
 gC:c5 P w K mg base fns gv k "are_marks" 6
 kO:c5 P w K mg base fns gv k "is_size" 7
 gI:c5 P w K mg base fns gv k "are_sizes" 8
 lG:c5 P w K mg base fns gv k "is_card" 9
 ie:c5 P w K mg base fns gv k "is_one_of" 10
 df:c5 P w K mg base fns gv k "is_plain_wish" 11
 fK:c5 P w K mg base fns gv k "are_joined" 12
 eW:c5 P w K mg base fns gv k "things_in" 13
 jL:c5 P w K mg base fns gv k "has_form" 14
 iT:c5 P w K mg base fns gv k "is_wish" 15
 fG:c5 P w K mg base fns gv k "is_between" 16
 jI:c5 P w K mg base fns gv k "is_offer" 17
 eN:c5 P w K mg base fns gv k "wish_text" 18
 eA:c5 P w K mg base fns gv k "text_within" 19
 cV:c5 P w K mg base fns gv k "is_number_text" 20
 kJ:c5 P w K mg base fns gv k "word_at" 21
 iO:c5 P w K mg base fns gv k "name_at" 22
 gu:c5 P w K mg base fns gv k "number_at" 23
 fv:c5 P w K mg base fns gv k "read_plain" 24
 ge:c5 P w K mg base fns gv k "read_one" 25
 eB:c5 P w K mg base fns gv k "read_joined" 26
 gU:c5 P w K mg base fns gv k "read_wish" 27
 eY:c5 P w K mg base fns gv k "list_text" 28
 fb:c5 P w K mg base fns gv k "read_list" 29
 fw:c5 P w K mg base fns gv k "offer_text" 30
 js:c5 P w K mg base fns gv k "row_text" 31
 gZ:c5 P w K mg base fns gv k "book_text" 32
 hZ:c5 P w K mg base fns gv k "number_in" 33
 kY:c5 P w K mg base fns gv k "size_in" 34
 kZ:c5 P w K mg base fns gv k "wish_in" 35
 jQ:c5 P w K mg base fns gv k "offer_in" 36
 jA:c5 P w K mg base fns gv k "thing_in" 37
 ju:c5 P w K mg base fns gv k "words_in" 38
 kW:c5 P w K mg base fns gv k "form_of" 39
 mZ:c5 P w K mg base fns gv k "row_in" 40
 gE:c5 P w K mg base fns gv k "read_book" 41
 qM:c5 P w K mg base fns gv k "_law_cell" 42
 oA:c5 P w K mg base fns gv k "_law_mixed" 43
 nC:c5 P w K mg base fns gv k "_law_twice" 44
 qX:c5 P w K mg base fns gv k "_law_well" 45
 qS:c5 P w K mg base fns gv k "_law_draw" 46
 m5:c5 P w K mg base fns gv k "_law_some" 47
 lj:c5 P w K mg base fns gv k "_law_number" 48
 oo:c5 P w K mg base fns gv k "_law_free" 49
 qZ:c5 P w K mg base fns gv k "_law_word" 50
 qQ:c5 P w K mg base fns gv k "_law_card" 51
 qJ:c5 P w K mg base fns gv k "_law_leaf" 52
 qP:c5 P w K mg base fns gv k "_law_wish" 53
 dF:c5 P w K mg base fns gv k "_law_great_offer" 54
 kK:c5 P w K mg base fns gv k "_law_closed" 55
 fE:c5 P w K mg base fns gv k "_law_wish_text" 56
 lA:c5 P w K mg base fns gv k "_law_listed" 57
 eu:c5 P w K mg base fns gv k "_law_offer_text" 58
 rl:c5 P w K mg base fns gv k "_law_time" 59
 xi:c5 P w K mg base fns gv k "_law_row" 60
 gA:c5 P w K mg base fns gv k "_law_row_text" 61
 nh:c5 P w K mg base fns gv k "_law_typed" 62
 F6:c5 P w K mg base fns gv k "law" 63
abbrev c8(ns:List Str)(x:Str)(st:Rt)(n:Nat)(b:S):Prop:=∀{P:Rk}{w:Rx}{K:Rs}{mg:Str->Option Q7}{base:Rj}{k:Nat}{f:R3}{cdv:Q7}{A:SO}{outer:List T6}{s:R1}{H:Hp}{E:XK},IR P w K mg->KQ P w K mg base k->jF k (A.deeper (envOfC x (ag st) s.heap.objs.size f cdv))->∀{xe:Q7->R1->Prop}{pn:List (R3×Obj)}{xr:XR},Go (asX (mi (ux P w) P w K mg base ns x (ag st) f cdv A outer s H E) xe pn) xr->Bd (asX (mi (ux P w) P w K mg base ns x (ag st) f cdv A outer s H E) xe pn) (cW st) (tS K (f8 fns gv k) gv xr n b)
section
variable{P:Rk}{w:Rx}{K:Rs}{mg:Str->Option Q7}{base:Rj}{k:Nat}{f:R3}{cdv:Q7}{A:SO}{outer:List T6}{s:R1}{H:Hp}{E:XK}
theorem qw:c8 ["text"] "is_long_word" dN 1 cR:=by
 wtm_at "mn9IOB0C1420003efIO4";exact(cG rfl rfl T0.w9 (by decide));wtm_at "efP<0=1à0wkkF4pxyávz0O4";exact(cG rfl rfl T0.Dp (by decide));wtm_at "efdd2000"
theorem AN:c8 ["thing"] "is_word" k9 1 d4:=by
 wtm_at "mn9IQ40R0VSIOB0C142000";exact(cG rfl rfl T0.rD (by decide));wtm_at "efP58â601420"
theorem yh:c8 ["thing"] "is_whole" jw 1 jm:=by
 wtm_at "mn9IQ40R0.SP";refine IN ?_;wtm_at "Q40R0";exact T0.Ms;wtm_at "S"
theorem wZ:c8 ["thing"] "is_number" ib 1 eF:=by
 wtm_at "mn9I58";exact T1.gr;wtm_at "601420PÏ34";exact(cG rfl rfl T0.ny (by decide));wtm_at "ef"
theorem Ak:c8 ["thing"] "is_time" k6 1 lI:=by
 wtm_at "mn958Â601420"
theorem IX:c8 ["words"] "rise" wk 1 sv:=by
 wtm_at "mn9<0=1";refine bE (N':=["at","words"]) ?_ ?_;wtm_at "0wkk";refine Bt ?_ ?_ ?_;wtm_at "0!131B0C142000200pxy";exact(aP 0 (show S1 (["at","words"]:List Str)from by decide +kernel));wtm_at "vz0Ocah43bca4befdd2000"
theorem wO:c8 ["thing"] "are_marks" ia 1 eI:=by
 wtm_at "mniKMJDQ40R0NSpWjB0C142000";exact(cG rfl rfl T0.wR (by decide));wtm_at "ef9Xg9I<0=1";refine bE (N':=["mark"]) ?_ ?_;wtm_at "0wkkF4pxy";exact(aP 0 (show S1 (["mark"]:List Str)from by decide +kernel));wtm_at "vz05G/601420dd2000P58";exact T1.sr;wtm_at "601420"
theorem Ai:c8 ["thing"] "is_size" lN 1 i8:=by
 wtm_at "mn9IQ40R0NSIOB0C1420003efI58/601c43b20P58Â601c43b20"
theorem xo:c8 ["thing"] "are_sizes" gB 1 eX:=by
 wtm_at "mniKMJDQ40R0NSpWjB0C142000";exact(cG rfl rfl T0.wT (by decide));wtm_at "ef9Xg9I<0=1Ð0wkkF4pxyÑvz05G";exact T1.kO;wtm_at "601420dd2000P58";exact T1.sr;wtm_at "601Ð0wkkF4pxyÑvz0c43bdd20"
theorem zY:c8 ["thing"] "is_card" kT 1 iQ:=by
 wtm_at "mniKMJDQ40R0NSpWjB0C1420003ef9Xg9I58/601c43b20I58/601c43b20I58";exact T1.gC;wtm_at "601c43b20P58";exact T1.gI;wtm_at "601c43b20"
theorem wH:c8 ["thing","texts"] "is_one_of" g6 2 gW:=by
 wtm_at "mn9IQ40R0VSPO4aef"
theorem pj:c8 ["thing"] "is_plain_wish" dg 1 cD:=by
 wtm_at "mniJDQ40R0NSp9XgijB0C1420003ef958>601c43b1r1720200gijB0C1420003ef9I58>601c43b1r1717200200P58/601c43b20gijB0C1420003ef9I58>601c43b1r1717200200I58/601c43b20P58Â601c43b20g9X"
theorem ul:c8 ["thing"] "are_joined" fB 1 dR:=by
 wtm_at "mn9IQ40R0NSPÏ";exact(cG rfl rfl T0.qp (by decide));wtm_at "B0C142000";exact(cG rfl rfl T0.uk (by decide));wtm_at "ef"
theorem w6:c8 ["thing"] "things_in" gR 1 eJ:=by
 wtm_at "mniKMJDQ40R0NSpWjB0C1420003ef9r2giD58>601c43b1r1720200p9r1c43b20giKÃD58>601c43b1r1717200200pÄD58";exact T1.fK;wtm_at "601c43b20p9c43bg9r2"
theorem yu:c8 ["thing"] "has_form" jr 1 gj:=by
 wtm_at "mn9";refine Gd ?_ ?_;wtm_at "58";exact T1.df;wtm_at "601420POB0C158";exact T1.eW;wtm_at "60142020003ef"
theorem Ap:c8 ["thing","layer","parts","depth"] "is_wish" kM 4 iR:=by
 wtm_at "mnYÅu1420LÅ3Æ0_%0!1";exact(cG rfl rfl T0.DC (by decide));wtm_at "20";exact(aP 3 mN.nd);wtm_at "d";refine E3 (i:=2) ?_ ?_ ?_;wtm_at "ÅB0C1a2000iKMjo";exact(cG rfl rfl T0.vR (by decide));wtm_at "efWJD<0=1ã0wkkFapxyävz05G";exact T1.jL;wtm_at "601420dd2000p9Xg";refine nI (N':=["one","below"]) ?_ ?_ ?_ ?_ ?_ ?_ ?_;wtm_at "0wkkFapxy";exact(aP 0 (show S1 (["one","below"]:List Str)from by decide +kernel));wtm_at "v";refine .more rfl ?_ (λ_=>rfl) ?_ ?_ (by decide) (show ∀i∈lO (.nm 1)++dX (.emit (.var 1)),i<2 from by decide) ?_;wtm_at "F5G";exact T1.eW;wtm_at "601420";exact(aP 1 (show S1 (["one","below"]:List Str)from by decide +kernel));wtm_at "vz0addÅ000g9OB0C1a20003ef"
theorem uj:c8 ["thing","low","high"] "is_between" fJ 3 dB:=by
 wtm_at "mn9I58";exact T1.gr;wtm_at "601420PÏa4oef"
theorem yR:c8 ["thing","side","card","wish","many","least","weight","till"] "is_offer" jh 8 gh:=by
 wtm_at "mniKMJDQ40R0NSpWjB0C1420003ef9XgZd4";exact(sM 1 2 3 4 5 6 7 rfl qg.nd);wtm_at "iKMJD58>601a1";exact(cG rfl rfl T0.JW (by decide));wtm_at "200pMJD58";exact T1.lG;wtm_at "601o20pWJD58";exact T1.iT;wtm_at "601s20p9XgiKMJD58Ò601A131";exact(cG rfl rfl T0.qz (by decide));wtm_at "2000pWJD58Ò601T131A2000p9Xg9I58Ò601-131";exact(cG rfl rfl T0.nG (by decide));wtm_at "2000P58";exact T1.kR;wtm_at "601)20"
theorem vV:c8 ["wish","word","between"] "wish_text" gQ 3 bT:=by
 wtm_at "mnY";exact ji.nd;wtm_at "c43bija7ef9agijar1717200ef9&qEaqHqEc43b(dgija7ef9&qEc43bqHqEc43b(dgija7ef9&qEc43bqHqEc43b(dgija7ef9&qHqE58å601a1c43b200(dgL";exact ji.nd;wtm_at "&qHqEaqH(d9Uo1";refine bE (N':=["one","word"]) ?_ ?_;wtm_at "0wkkFc43bpxy";exact(aP 0 (show S1 (["one","word"]:List Str)from by decide +kernel));wtm_at "vz05Gå601a14200dd20"
theorem rA:c8 ["word","wish","text"] "text_within" ez 3 c6:=by
 wtm_at "mnL";exact j5.nd;wtm_at "58";exact T1.eN;wtm_at "601a20ijca3b";refine BO (ok:=T0.yb) ?_ ?_ ?_ ?_ ?_;wtm_at "004bdef9&qHqEoqH(dg9o"
theorem nA:c8 ["word"] "is_number_text" cU 1 b9:=by
 wtm_at "mniKMJ";refine Im ?_ ?_ ?_ ?_ ?_;wtm_at "3B0C142000";exact(cG rfl rfl T0.sN (by decide));wtm_at "efWJD<0=1à0wkkF4pxyávz0O4";exact(cG rfl rfl T0.DA (by decide));wtm_at "efdd2000p9Xg9";refine Gd ?_ ?_;wtm_at "O47efPOc43b7ef"
theorem Bx:c8 ["words","at"] "word_at" lM 2 i4:=by
 wtm_at "mnijaB0C142000ef9c4abg97"
theorem zZ:c8 ["words","at","word"] "name_at" lD 3 iD:=by
 wtm_at "mnL";exact su.nd;wtm_at "58:60141a200iJD58â601o20p*g9o"
theorem wB:c8 ["words","at","word"] "number_at" hU 3 eQ:=by
 wtm_at "mnL";exact nP.nd;wtm_at "58:60141a200iJD58æ601o20p*g9?0.1o2000"
theorem ue:c8 ["words","at","word","size","sign"] "read_plain" fC 5 dP:=by
 wtm_at "mnLÓ58:60141a200ijo7ef9r1r1o201ha3200gijor1717200ef9r1r1o158";exact T1.iO;wtm_at "60141ha32002001ha3200g;Ó58";exact T1.iO;wtm_at "60141a200+Ó58:60141ha3200i";refine Ht (neg:=true) (ok:=T0.Cv) ?_ ?_ ?_ ?_ ?_;wtm_at "00Ade*g9r1r1";refine BO (ok:=T0.Cv) ?_ ?_ ?_ ?_ ?_;wtm_at "00Abd1s158";exact T1.gu;wtm_at "60141ha320020001ha3200"
theorem xE:c8 ["words","at","within","word","wish","behind"] "read_one" jz 6 cq:=by
 wtm_at "mn;";exact kD.nd;wtm_at "58:60141a200ijsr1717200ef958";exact T1.fv;wtm_at "60141a200gijo";exact(cG rfl rfl T0.tU (by decide));wtm_at "ef*gijs7efZd58";exact T1.ge;wtm_at "60141ha31ho32000ç9r1r171A2001T200gZd58Ç60141ha31ho31è20000çij58:60141T2007ef*g9r1A1hT3200"
theorem tm:c8 ["words","at","within","joins","wish","behind","wishes"] "read_joined" eD 7 bZ:=by
 wtm_at "mnijB0C1s20003ef958";exact T1.ge;wtm_at "60141a1o2000gZd58Ç60141a1o1`s{30|20000éÔ";exact fY.nd;wtm_at "@1A20";refine BC ?_ ?_ ?_ ?_;wtm_at "_j58:60141T200cs3befZd58Ç60141hT31o1`s{30|20000éÈÉ-1A20gijB0C1-20003ef9r1A1T200g9r1r1cs3b1,0N1-20002001T200"
theorem xn:c8 ["text","words","wish","behind"] "read_wish" hG 4 eU:=by
 wtm_at "mniJDQ40R0VSp*gY";exact jM.nd;wtm_at "}41720Zd58Ç601a13131è20000";exact(iJ 2 3 rfl jM.nd);wtm_at "iKMjsB0C1a2000efWJD58";exact T1.iT;wtm_at "601o20p*g9o"
theorem xk:c8 ["texts"] "list_text" gx 1 eK:=by
 wtm_at "mn9";refine Hw (t:=(.str [45])) ?_ ?_ ?_;wtm_at "0U71420ê"
theorem wf:c8 ["text"] "read_list" gz 1 eS:=by
 wtm_at "mnij4êef9u2g9}41720"
theorem tR:c8 ["offer","side","card","wish","many","least","weight","till","name","kind","marks","sizes","size_text"] "offer_text" fI 13 dD:=by
 wtm_at "mnZd4";exact(sM 1 2 3 4 5 6 7 rfl er.nd);wtm_at "Zdo";exact(Gr 8 9 10 11 rfl er.nd);refine sg (i:=12) ?_ ?_ ?_;exact er.nd;wtm_at "58";exact T1.eY;wtm_at "601";refine bE (N':=["word","number"]) ?_ ?_;wtm_at "0wkkFÕpxy";exact(iJ 0 1 rfl (show S1 (["word","number"]:List Str)from by decide +kernel));wtm_at "vz0&qE4qHqEa(ddd209&qEaqHqE~qHqE";exact(vr 9);wtm_at "qHqE58";exact T1.eY;wtm_at "601";exact(vr 10);wtm_at "20qHqE";exact(vr 12);wtm_at "qHqEAqHqETqHqE-qHqE)qHqE58";exact T1.eN;wtm_at "601s20(d"
theorem yk:c8 ["row","word","numbers"] "row_text" jJ 3 cv:=by
 wtm_at "mnY";exact kF.nd;wtm_at "c43bijar1717200ef9&qEaqHqEc43bqHqEc43bqHqE58";exact T1.fw;wtm_at "601c43b20(dgija7efL";exact kF.nd;wtm_at "U71";refine bE (N':=["number"]) ?_ ?_;wtm_at "0wkkFc43bpxy";exact(aP 0 (show S1 (["number"]:List Str)from by decide +kernel));wtm_at "vz0#0V142000dd209&qEaqHqEc43bqHqEc43bqHqEo(dg9U71ã0wkkF4pxyävz0#0V142000dd20"
theorem wX:c8 ["book"] "book_text" gy 1 eL:=by
 wtm_at "mn9U71";refine bE (N':=["row"]) ?_ ?_;wtm_at "0wkkF4pxy";exact(aP 0 (show S1 (["row"]:List Str)from by decide +kernel));wtm_at "vz05G";exact T1.js;wtm_at "601420dd20"
theorem wK:c8 ["word"] "number_in" hV 1 eR:=by
 wtm_at "mniKÃD58æ601420pÄD58Â601?0.14200020p9?0.142000g9$"
theorem AT:c8 ["text","name","sign","number"] "size_in" lK 4 i9:=by
 wtm_at "mnZdÖ41720";exact(sH 1 2 3 rfl sY.nd);wtm_at "9r1a158Ø601s20200"
theorem AU:c8 ["text"] "wish_in" ll 1 iC:=by
 wtm_at "mn";refine CL ?_ ?_;intro xe pn xr go;wtm_at "958";exact T1.gU;wtm_at "601420g"
theorem xV:c8 ["text","head","bar","wish","words","marks","sizes","many","least","weight","till","offer"] "offer_in" jj 12 fW:=by
 wtm_at "mnZdÖ41720";exact(sH 1 2 3 rfl gS.nd);wtm_at "+Ê}a1720ijB0C1A20003ef9$gËÊ,0N158";exact T1.fb;wtm_at "601cA3b202000ÔÊ,0N1Ð0wkkF5G";exact T1.fb;wtm_at "601cA3b20pxyÑvz05G";exact T1.kY;wtm_at "601420dd2000";refine D5 ?_ ?_ ?_ ?_;wtm_at "d";refine bE (N':=["word"]) ?_ ?_;wtm_at "0wkkF`A{30|pxy";exact(aP 0 (show S1 (["word"]:List Str)from by decide +kernel));wtm_at "vz05GØ601420dd";exact(Ge 7 8 9 10 rfl gS.nd);refine sg (i:=11) ?_ ?_ ?_;wtm_at "Êr1cA3b1r1cA3b1cA3b1T1-20000158";exact T1.kZ;wtm_at "601s201)1~1";exact(vr 9);wtm_at "1";exact(vr 10);wtm_at "20000000iD58";exact T1.jI;wtm_at "601Õ20p9Õg9$"
theorem ze:c8 ["kind","word","number"] "thing_in" jy 3 bG:=by
 wtm_at "mnij47ef958";exact T1.jQ;wtm_at "601a20gij47ef9ëD58/601a20pa$gL";exact pW.nd;wtm_at "58Ø601a209ëKÃj47efÄjo3ef$o"
theorem yq:c8 ["text"] "words_in" jH 1 di:=by
 wtm_at "mniKMDì41720pWDì41720p9";refine zM ?_ ?_;wtm_at "41713200g9}41720"
theorem zH:c8 ["words","form"] "form_of" lf 2 ee:=by
 wtm_at "mnY";exact rO.nd;refine HJ (ok:=T0.Jn) ?_ ?_ ?_ ?_;wtm_at "00c43bdiKÃjc43b7efÄjB0C1420003ef9har1720g9a"
theorem C8:c8 ["text","words","form","told","word"] "row_in" nY 5 gi:=by
 wtm_at "mnYÌ58";exact T1.ju;wtm_at "601420LÌ58";exact T1.kW;wtm_at "601a20iKMjo$efWjB0C1a2000hB0C1o20003ef9$g";refine nI (N':=["kind","word"]) ?_ ?_ ?_ ?_ ?_ ?_ ?_;wtm_at "0wkk";refine IG ?_ ?_ ?_;wtm_at "0";exact T0.Np;wtm_at "1o1`a{30|200pxy";exact(iJ 0 1 rfl (show S1 (["kind","word"]:List Str)from by decide +kernel));wtm_at "vz05G";exact T1.jA;wtm_at "60141a200ddÌ000ij$sef9$g+Ìca3bijAr1717200ef9r1A1cs3b1cs3b1cs3b20000gijA7ef9r1A1cs3b1,0N1`s{30|20001cs3b20000g9,0N1hu1A20s2000"
theorem xf:c8 ["text","rows"] "read_book" gH 2 eG:=by
 wtm_at "mniJDQ40R0VSp*gij47ef9@2g";refine D2 (N':=["line"]) ?_ ?_ ?_ ?_ ?_ ?_ ?_;wtm_at "0wkkF}41720pxy";exact(aP 0 (show S1 (["line"]:List Str)from by decide +kernel));wtm_at "vz05G";exact T1.mZ;wtm_at "601420dd";exact og.nd;wtm_at "000ij$aef*g9a"
theorem FC:c8 ["_law_script","_law_k"] "_law_cell" qU 2 nH:=by
 wtm_at "mnijaB0C142000ef9c4abg93"
theorem Ee:c8 ["_law_cell_here","_law_k","_law_number_here"] "_law_mixed" mW 3 kb:=by
 wtm_at "mnL";exact u5.nd;wtm_at "hhhh4h3a3339hhohho333"
theorem CS:c8 ["_law_cell_here","_law_k","_law_number_here"] "_law_twice" oh 3 kg:=by
 wtm_at "mnL";exact uB.nd;wtm_at "hhhh58";exact T1.oA;wtm_at "60141a200h3a3339hhohho333"
theorem E4:c8 ["_law_script","_law_k","_law_cell_here"] "_law_well" qF 3 ox:=by
 wtm_at "mnL";exact yd.nd;wtm_at "58";exact T1.qM;wtm_at "60141a2009@1cu131o200?0.1Ooh33ef2000b131hoa2000"
theorem GU:c8 ["_law_well_here","_law_most","_law_number_here"] "_law_draw" qT 3 oF:=by
 wtm_at "mnijc43b3efL";exact ye.nd;wtm_at "hc43baÙhc43ba439ogÙhc43b3439h58";exact T1.nC;wtm_at "601c43b1c43b200a"
theorem GD:c8 ["_law_well_here","_law_words","_law_most","_law_left","_law_found","_law_k"] "_law_some" qN 6 nu:=by
 wtm_at "mn;";exact nj.nd;refine Fm ?_ ?_ ?_ ?_;wtm_at "0Í1a200+";exact nj.nd;wtm_at "@2Æ0_%0!158t60141ho320020";exact(aP 5 nj.nd);wtm_at "dÈÉA1";refine IQ ?_ ?_;wtm_at "s158t60141B0C1s20002002020g9,0N1";refine xP ?_ ?_ ?_ ?_ ?_;wtm_at "0";exact T0.yI;wtm_at "1A20002000"
theorem As:c8 ["_law_well_here"] "_law_number" lq 1 iY:=by
 wtm_at "mn9cu158t601413200158t6014132001hh3358t6014132002000hh58t60141320033b"
theorem E0:c8 ["_law_well_here","_law_letters","_law_word_here"] "_law_free" rh 3 n5:=by
 wtm_at "mnY";exact rZ.nd;wtm_at "7L";exact rZ.nd;wtm_at "U71";refine bE (N':=["_law_k","_law_letters","_law_well_here"]) ?_ ?_;wtm_at "0wkk%0!1h35Gt60141320020pxy";exact(aP 0 (show S1 (["_law_k","_law_letters","_law_well_here"]:List Str)from by decide +kernel));wtm_at "vz0ca5Gt601o13200bdd20ijor1717171717172000000ef9ho7g9o"
theorem F4:c8 ["_law_well_here","_law_some_here"] "_law_word" qH 2 nO:=by
 wtm_at "mnij58t6014132003ef958";exact T1.oo;wtm_at "601420g9ca58t60141B0C1a2000200b"
theorem Gs:c8 ["_law_well_here","_law_name","_law_kind","_law_some_here","_law_marks","_law_sizes"] "_law_card" qD 6 nR:=by
 wtm_at "mnY[58]60141u1717171717200000200L[58]60141u1717172000200;[u1u17171717171720000001u1717171720000200ij58t6014132003ef";refine nI (N':=["_law_turn","_law_well_here"]) ?_ ?_ ?_ ?_ ?_ ?_ ?_;wtm_at "0wkk%0!1320pxy";exact(aP 0 (show S1 (["_law_turn","_law_well_here"]:List Str)from by decide +kernel));wtm_at "vz0";refine zc ?_ ?_ ?_ ?_ ?_ ?_;wtm_at "00";exact T0.yI;wtm_at "0";exact T0.M8;wtm_at "1hí0wkk%0!1320pxyîvz05G";exact T1.oo;wtm_at "601a20ddu172020dd[000gg+[58";exact T1.m5;wtm_at "60141cs3b1ï0";exact T0.KB;wtm_at "131B0C1cs3b2000200002000Ë[,0N1";refine bE (N':=["_law_word_here","_law_well_here"]) ?_ ?_;wtm_at "0wkkF5G";exact T1.m5;wtm_at "60141cs3b1ï0";exact T0.KB;wtm_at "131B0C1cs3b2000200002000pxy";exact(aP 0 (show S1 (["_law_word_here","_law_well_here"]:List Str)from by decide +kernel));wtm_at "vz0r1415Gð601a20200dd20009r1a1o1A1T20000"
theorem FK:c8 ["_law_well_here","_law_way"] "_law_leaf" qE 2 nM:=by
 wtm_at "mnY";exact xN.nd;wtm_at "58t601413200ija3ef9r1720gija3ef9r17158]60141u1717171720000200200gija3ef9r1cu1717200ha3b158]60141u1717171720000200158ð6014202000g9r17158]60141u1717171717172000000200200"
theorem G2:c8 ["_law_well_here","_law_deep","_law_room","_law_way","_law_many"] "_law_wish" re 5 jx:=by
 wtm_at "mnÙhco3b3o3;";exact rq.nd;wtm_at "58t601413200iKMja3efMjs3efWjco3b3ef958";exact T1.qJ;wtm_at "601420gijs3ef9r17158Ú60141ha31o2000200g+";exact rq.nd;wtm_at "h358t60141cu1313200h58t6014132003b2009r1cu1717200hs3b1,0N1";refine bE (N':=["_law_k","_law_well_here","_law_room","_law_deep"]) ?_ ?_;wtm_at "0wkk%0!1A20pxy";exact(aP 0 (show S1 (["_law_k","_law_well_here","_law_room","_law_deep"]:List Str)from by decide +kernel));wtm_at "vz05GÚ601a1hs31o2000dd2000200"
theorem qA:c8 ["_law_well_here","_law_many","_law_least","_law_weight","_law_till","_law_card_here","_law_wish_here"] "_law_great_offer" dS 7 cN:=by
 wtm_at "mnY^cu1h358t6014132001h358t60141h332001h33200058t601413200bL^cu131h358t60141a2001a200058t601413200b;^cu1313158t601413200200058t601413200b+^cu131h33158t60141hh333200158t6014132002000058t601413200bË^58";exact T1.qQ;wtm_at "601420Ô^58Ú60141h358t6014132001@132020009r1cu171717200058t601413200b1T1-1a1o1s1A20000000"
theorem AW:c8 ["_law_wish_here","_law_kinds","_law_text"] "_law_closed" lw 3 iP:=by
 wtm_at "mnL";exact sC.nd;wtm_at "58ñ601420ijc43baef9hh7o7g9o"
theorem tW:c8 ["_law_wish_here","_law_word_here"] "_law_wish_text" fo 2 bD:=by
 wtm_at "mnY";exact lW.nd;wtm_at "c43bijar1717200ef9hhc43bcu1717200?0.1Oa7ef2000b#0V1c43b2000gija7ef9h758Û601c43b1r1717200200gija7ef9U71ò0wkkFc43bpxyóvz05GÛ60141r1717200200dd20gija7ef9U71ò0wkkFc43bpxyóvz05GÛ60141r1720200dd20g9U71420"
theorem BA:c8 ["_law_words"] "_law_listed" lB 1 iK:=by
 wtm_at "mn9cu1U7142017200?0.1O4u2ef2000b"
theorem sT:c8 ["_law_offer","_law_side","_law_card_here","_law_wish_here","_law_many","_law_least","_law_weight","_law_till","_law_words"] "_law_offer_text" eE 9 c9:=by
 wtm_at "mnZd4";exact(sM 1 2 3 4 5 6 7 rfl fQ.nd);wtm_at "ôõ@1a1co3b1co3b158ö601ø0Í1co3b20002020000ÈÉ~158ö601";refine bE (N':=["_law_size","_law_number_here"]) ?_ ?_;wtm_at "0wkkFco3bpxy";exact(iJ 0 1 rfl (show S1 (["_law_size","_law_number_here"]:List Str)from by decide +kernel));wtm_at "vz0hh47#0V1a2000dd2020ôõ";refine E5 ?_ ?_;wtm_at "~ù0wkkFu1A1T1-1)20000pxyúvz0#0V142000dd9hhU71~20758ñ601s20"
theorem FG:c8 ["_law_well_here"] "_law_time" qO 1 m9:=by
 wtm_at "mn9cu131h33158t601413200158t60141h332002000058t601413200b"
theorem Il:c8 ["_law_well_here","_law_way","_law_time_here","_law_name","_law_numbers"] "_law_row" v8 5 fj:=by
 wtm_at "mnYÎ58t601413200LÎ58À601420;Î58]60141u1717171720000200ija3ef9r1cu1717200ab1o158";exact T1.dF;wtm_at "601420158À60142020000gija3ef9r171o1s2000gija3ef9r171o1s1cu131h331h358t601413200200058t601413200b20000gija3ef9r171o1s158À60142020000gija3ef+Î,0N1í0wkk%0!1h35Gt60141320020pxyîvz05GÀ601a20dd20009r171o1A1cu131h331h358t601413200200058t601413200b20000g9r171o158À6014202000"
theorem we:c8 ["_law_row_here"] "_law_row_text" gw 1 bU:=by
 wtm_at "mnijc43br1717200ef9U71u1c43b1#0V1c43b20001#0V1c43b2000158";exact T1.eu;wtm_at "601c43b202000020gijc43b7ef9U71hu171#0V1c43b20001#0V1c43b20002000ù0wkkFc43bpxyúvz0#0V142000dd20g9U71";refine bE (N':=["_law_thing"]) ?_ ?_;wtm_at "0wkkF4pxy";exact(aP 0 (show S1 (["_law_thing"]:List Str)from by decide +kernel));wtm_at "vz0#0V142000dd20"
theorem C6:c8 ["_law_row_here","_law_head","_law_between","_law_wish_here"] "_law_typed" nW 4 f9:=by
 wtm_at "mnZdÖ58û6014201720";exact(sH 1 2 3 rfl vf.nd);wtm_at "ijo7ef9ag9hhhhao7s7"
theorem EV:c8 ["_law_script","_law_k","_law_well_here","_law_rows","_law_handed","_law_text","_law_turn","_law_found"] "law" pS 8 va:=by
 wtm_at "mnÆ0_%0!1320";exact(aP 1 sG.nd);wtm_at "dLÁ58";exact T1.qX;wtm_at "60141a200";refine nI (N':=["_law_j","_law_well_here"]) ?_ ?_ ?_ ?_ ?_ ?_ ?_;wtm_at "0wkk%0!15Gt601o1320020pxy";exact(aP 0 (show S1 (["_law_j","_law_well_here"]:List Str)from by decide +kernel));wtm_at "vz05G";exact T1.xi;wtm_at "601a20ddÁ000+Áø0Í1s2000ËÁU71Ü0wkkFspxyÝvz05Gû601420dd20iKMj58Þ601A20TefWjAsef9XgÆ0_%0!1320";exact(aP 6 sG.nd);wtm_at "d";refine sg (i:=7) ?_ ?_ ?_;wtm_at "Á58ß601T20iKMJDQ)0R0ÍSpMj)sefWj58Þ601)20Tef9XgijÜ0wkkF)pxyÝ";refine⟨?_,?_⟩;wtm_at "JDQ40R0NSpvz04ddu2ef9XgÈÉ)1$20gij58ß601U71Ü0wkkFspxyÝvz05G";exact T1.nh;wtm_at "601420dd2020sef9Xgg9IO58ß601720u2efPO58Þ601u2207ef"
end
abbrev FB(K:Rs)(mg:Str->Option Q7)(x:Str)(st:Rt)(ps:List Str):Prop:=∃f fd,Kz K x x st f fd/\mg x=Zz (.ref f)/\Binds K fd ps []
structure Nt (K:Rs) (mg:Str->Option Q7):Prop where
 dE:FB K mg "is_long_word" dN ["text"]
 lg:FB K mg "is_word" k9 ["thing"]
 gr:FB K mg "is_whole" jw ["thing"]
 gM:FB K mg "is_number" ib ["thing"]
 kR:FB K mg "is_time" k6 ["thing"]
 sr:FB K mg "rise" wk ["words"]
 gC:FB K mg "are_marks" ia ["thing"]
 kO:FB K mg "is_size" lN ["thing"]
 gI:FB K mg "are_sizes" gB ["thing"]
 lG:FB K mg "is_card" kT ["thing"]
 ie:FB K mg "is_one_of" g6 ["thing","texts"]
 df:FB K mg "is_plain_wish" dg ["thing"]
 fK:FB K mg "are_joined" fB ["thing"]
 eW:FB K mg "things_in" gR ["thing"]
 jL:FB K mg "has_form" jr ["thing"]
 iT:FB K mg "is_wish" kM ["thing"]
 fG:FB K mg "is_between" fJ ["thing","low","high"]
 jI:FB K mg "is_offer" jh ["thing"]
 eN:FB K mg "wish_text" gQ ["wish"]
 eA:FB K mg "text_within" ez ["word","wish"]
 cV:FB K mg "is_number_text" cU ["word"]
 kJ:FB K mg "word_at" lM ["words","at"]
 iO:FB K mg "name_at" lD ["words","at"]
 gu:FB K mg "number_at" hU ["words","at"]
 fv:FB K mg "read_plain" fC ["words","at"]
 ge:FB K mg "read_one" jz ["words","at","within"]
 eB:FB K mg "read_joined" eD ["words","at","within","joins"]
 gU:FB K mg "read_wish" hG ["text"]
 eY:FB K mg "list_text" gx ["texts"]
 fb:FB K mg "read_list" gz ["text"]
 fw:FB K mg "offer_text" fI ["offer"]
 js:FB K mg "row_text" jJ ["row"]
 gZ:FB K mg "book_text" gy ["book"]
 hZ:FB K mg "number_in" hV ["word"]
 kY:FB K mg "size_in" lK ["text"]
 kZ:FB K mg "wish_in" ll ["text"]
 jQ:FB K mg "offer_in" jj ["text"]
 jA:FB K mg "thing_in" jy ["kind","word"]
 ju:FB K mg "words_in" jH ["text"]
 kW:FB K mg "form_of" lf ["words"]
 mZ:FB K mg "row_in" nY ["text"]
 gE:FB K mg "read_book" gH ["text"]
 qM:FB K mg "_law_cell" qU ["_law_script","_law_k"]
 oA:FB K mg "_law_mixed" mW ["_law_cell_here","_law_k"]
 nC:FB K mg "_law_twice" oh ["_law_cell_here","_law_k"]
 qX:FB K mg "_law_well" qF ["_law_script","_law_k"]
 qS:FB K mg "_law_draw" qT ["_law_well_here","_law_most"]
 m5:FB K mg "_law_some" qN ["_law_well_here","_law_words","_law_most"]
 lj:FB K mg "_law_number" lq ["_law_well_here"]
 oo:FB K mg "_law_free" rh ["_law_well_here"]
 qZ:FB K mg "_law_word" qH ["_law_well_here","_law_some_here"]
 qQ:FB K mg "_law_card" qD ["_law_well_here"]
 qJ:FB K mg "_law_leaf" qE ["_law_well_here"]
 qP:FB K mg "_law_wish" re ["_law_well_here","_law_deep","_law_room"]
 dF:FB K mg "_law_great_offer" dS ["_law_well_here"]
 kK:FB K mg "_law_closed" lw ["_law_wish_here","_law_kinds"]
 fE:FB K mg "_law_wish_text" fo ["_law_wish_here"]
 lA:FB K mg "_law_listed" lB ["_law_words"]
 eu:FB K mg "_law_offer_text" eE ["_law_offer"]
 rl:FB K mg "_law_time" qO ["_law_well_here"]
 xi:FB K mg "_law_row" v8 ["_law_well_here"]
 gA:FB K mg "_law_row_text" gw ["_law_row_here"]
 nh:FB K mg "_law_typed" nW ["_law_row_here"]
 F6:FB K mg "law" pS ["_law_script"]
theorem aI{x:Str}{st:Rt}{N ps:List Str}{fi np n:Nat}{b:S}{cell:Bool}(sc:ao N ps (ag st))(p:c8 N x st n b)(hd:fns[fi]?=Zz ⟨np,n,b,cell⟩)(hps:np=ps.length)(hn:N.length=n){P:Rk}{w:Rx}{K:Rs}{mg:Str->Option Q7}{base:Rj}{k:Nat}(T0:IR P w K mg)(ih:KQ P w K mg base k)(F:FB K mg x st ps):c5 P w K mg base fns gv (k+1) x fi:=by
 obtain⟨f,fd,F,m,bb⟩:=F;exact⟨f,fd,_,m,F.kp,bb,Gf F sc hd hps hn λ_ _ _ _ _ _ hr _ _ _ go=>p T0 ih hr go⟩
theorem aJ{x:Str}{st:Rt}{ps:List Str}{i:Nat}{P:Rk}{w:Rx}{K:Rs}{mg:Str->Option Q7}{base:Rj}(F:FB K mg x st ps):c5 P w K mg base fns gv 0 x i:=
 let⟨_,_,F,m,b⟩:=F
 ⟨_,_,_,m,F.kp,b,HB⟩
theorem Gb{P:Rk}{w:Rx}{K:Rs}{mg:Str->Option Q7}{base:Rj}(T0:IR P w K mg)(TF:Nt K mg):∀k:Nat,KQ P w K mg base k
 |0=>⟨aJ TF.dE,aJ TF.lg,aJ TF.gr,aJ TF.gM,aJ TF.kR,aJ TF.sr,aJ TF.gC,aJ TF.kO,aJ TF.gI,aJ TF.lG,aJ TF.ie,aJ TF.df,aJ TF.fK,aJ TF.eW,aJ TF.jL,aJ TF.iT,aJ TF.fG,aJ TF.jI,aJ TF.eN,aJ TF.eA,aJ TF.cV,aJ TF.kJ,aJ TF.iO,aJ TF.gu,aJ TF.fv,aJ TF.ge,aJ TF.eB,aJ TF.gU,aJ TF.eY,aJ TF.fb,aJ TF.fw,aJ TF.js,aJ TF.gZ,aJ TF.hZ,aJ TF.kY,aJ TF.kZ,aJ TF.jQ,aJ TF.jA,aJ TF.ju,aJ TF.kW,aJ TF.mZ,aJ TF.gE,aJ TF.qM,aJ TF.oA,aJ TF.nC,aJ TF.qX,aJ TF.qS,aJ TF.m5,aJ TF.lj,aJ TF.oo,aJ TF.qZ,aJ TF.qQ,aJ TF.qJ,aJ TF.qP,aJ TF.dF,aJ TF.kK,aJ TF.fE,aJ TF.lA,aJ TF.eu,aJ TF.rl,aJ TF.xi,aJ TF.gA,aJ TF.nh,aJ TF.F6⟩
 |k+1 =>
  have ih:=Gb T0 TF k
  ⟨aI qo qw rfl rfl rfl T0 ih TF.dE,aI Ah AN rfl rfl rfl T0 ih TF.lg,aI yo yh rfl rfl rfl T0 ih TF.gr,aI xl wZ rfl rfl rfl T0 ih TF.gM,aI zO Ak rfl rfl rfl T0 ih TF.kR,aI Ib IX rfl rfl rfl T0 ih TF.sr,aI vq wO rfl rfl rfl T0 ih TF.gC,aI Bs Ai rfl rfl rfl T0 ih TF.kO,aI wU xo rfl rfl rfl T0 ih TF.gI,aI zW zY rfl rfl rfl T0 ih TF.lG,aI vL wH rfl rfl rfl T0 ih TF.ie,aI oM pj rfl rfl rfl T0 ih TF.df,aI tX ul rfl rfl rfl T0 ih TF.fK,aI wC w6 rfl rfl rfl T0 ih TF.eW,aI zh yu rfl rfl rfl T0 ih TF.jL,aI mN Ap rfl rfl rfl T0 ih TF.iT,aI ug uj rfl rfl rfl T0 ih TF.fG,aI qg yR rfl rfl rfl T0 ih TF.jI,aI ji vV rfl rfl rfl T0 ih TF.eN,aI j5 rA rfl rfl rfl T0 ih TF.eA,aI om nA rfl rfl rfl T0 ih TF.cV,aI Bo Bx rfl rfl rfl T0 ih TF.kJ,aI su zZ rfl rfl rfl T0 ih TF.iO,aI nP wB rfl rfl rfl T0 ih TF.gu,aI l6 ue rfl rfl rfl T0 ih TF.fv,aI kD xE rfl rfl rfl T0 ih TF.ge,aI fY tm rfl rfl rfl T0 ih TF.eB,aI jM xn rfl rfl rfl T0 ih TF.gU,aI wW xk rfl rfl rfl T0 ih TF.eY,aI vD wf rfl rfl rfl T0 ih TF.fb,aI er tR rfl rfl rfl T0 ih TF.fw,aI kF yk rfl rfl rfl T0 ih TF.js,aI wM wX rfl rfl rfl T0 ih TF.gZ,aI vX wK rfl rfl rfl T0 ih TF.hZ,aI sY AT rfl rfl rfl T0 ih TF.kY,aI A4 AU rfl rfl rfl T0 ih TF.kZ,aI gS xV rfl rfl rfl T0 ih TF.jQ,aI pW ze rfl rfl rfl T0 ih TF.jA,aI zj yq rfl rfl rfl T0 ih TF.ju,aI rO zH rfl rfl rfl T0 ih TF.kW,aI uG C8 rfl rfl rfl T0 ih TF.mZ,aI og xf rfl rfl rfl T0 ih TF.gE,aI FA FC rfl rfl rfl T0 ih TF.qM,aI u5 Ee rfl rfl rfl T0 ih TF.oA,aI uB CS rfl rfl rfl T0 ih TF.nC,aI yd E4 rfl rfl rfl T0 ih TF.qX,aI ye GU rfl rfl rfl T0 ih TF.qS,aI nj GD rfl rfl rfl T0 ih TF.m5,aI Ay As rfl rfl rfl T0 ih TF.lj,aI rZ E0 rfl rfl rfl T0 ih TF.oo,aI GK F4 rfl rfl rfl T0 ih TF.qZ,aI yP Gs rfl rfl rfl T0 ih TF.qQ,aI xN FK rfl rfl rfl T0 ih TF.qJ,aI rq G2 rfl rfl rfl T0 ih TF.qP,aI jT qA rfl rfl rfl T0 ih TF.dF,aI sC AW rfl rfl rfl T0 ih TF.kK,aI lW tW rfl rfl rfl T0 ih TF.fE,aI AM BA rfl rfl rfl T0 ih TF.lA,aI fQ sT rfl rfl rfl T0 ih TF.eu,aI FV FG rfl rfl rfl T0 ih TF.rl,aI Cu Il rfl rfl rfl T0 ih TF.xi,aI xu we rfl rfl rfl T0 ih TF.gA,aI vf C6 rfl rfl rfl T0 ih TF.nh,aI sG EV rfl rfl rfl T0 ih TF.F6⟩
end My
namespace My
open PySem PySem.Spec PyProof.Rows L2 Mi
theorem Po{α:Type}{P:List α->Prop}{us:List α}(hl:us.length=1)(h:∀x0:α,P [x0]):P us:=by
 rcases us with _|⟨x0,us⟩
 ·simp at hl
 rcases us with _|⟨y,us⟩
 ·exact h x0
 ·simp at hl
theorem OO{α:Type}{P:List α->Prop}{us:List α}(hl:us.length=2)(h:∀x0 x1:α,P [x0,x1]):P us:=by
 rcases us with _|⟨x0,us⟩
 ·simp at hl
 rcases us with _|⟨x1,us⟩
 ·simp at hl
 rcases us with _|⟨y,us⟩
 ·exact h x0 x1
 ·simp at hl
theorem OM{α:Type}{P:List α->Prop}{us:List α}(hl:us.length=3)(h:∀x0 x1 x2:α,P [x0,x1,x2]):P us:=by
 rcases us with _|⟨x0,us⟩
 ·simp at hl
 rcases us with _|⟨x1,us⟩
 ·simp at hl
 rcases us with _|⟨x2,us⟩
 ·simp at hl
 rcases us with _|⟨y,us⟩
 ·exact h x0 x1 x2
 ·simp at hl
theorem Pp{α:Type}{P:List α->Prop}{us:List α}(hl:us.length=4)(h:∀x0 x1 x2 x3:α,P [x0,x1,x2,x3]):P us:=by
 rcases us with _|⟨x0,us⟩
 ·simp at hl
 rcases us with _|⟨x1,us⟩
 ·simp at hl
 rcases us with _|⟨x2,us⟩
 ·simp at hl
 rcases us with _|⟨x3,us⟩
 ·simp at hl
 rcases us with _|⟨y,us⟩
 ·exact h x0 x1 x2 x3
 ·simp at hl
abbrev FE(K:Rs)(x:Str)(st:Rt):Prop:=∃(f:R3) (oc kV dc pm cd ct:Q7) (od an:Option R3) (sl:Array (Option Q7)),nsIn K RQ x=Zz (Zz (.ref f))/\K.lookup f=Zz ⟨oc,od,.func (fnOf x x (gG st) (cW st) (ag st) .none kV dc pm an cd ct),sl⟩/\codeIn K cd x=true
theorem aK{K:Rs}{tbs:List R3}(tT:∀P∈tbs,K.lookup P=Zz (tabObj #[])){h:Rj}{mg:Str->Option Q7}{x:Str}{st:Rt}{ps:List Str}(X:K.In h)(G:h.Ns RQ mg)(e:FE K x st)(hb:∀(kV doc pm:Q7) (an:Option R3) (cdv ct:Q7) (us:List Q7),us.length=ps.length->Tj (fnOf x x (gG st) (cW st) (ag st) .none kV doc pm an cdv ct) ⟨us,[]⟩=pure (ps.zip us)):FB (bF tbs K) mg x st ps:=by
 obtain⟨f,oc,kV,dc,pm,cd,ct,od,an,sl,a,l,c⟩:=e;have F:=Hd (st:=st) (b8 tT l (λz=>by cases z)) (Cj tT c) (BM tT l);exact⟨_,_,F,mg_of X G a,F.binds (ps:=ps) hb⟩
theorem fe_in{K:Rs}{x:Str}{st:Rt}{f:R3}{oc kV dc pm cd ct:Q7}{od an:Option R3}{sl:Array (Option Q7)}(a:nsIn K RQ x=Zz (Zz (.ref f)))(l:K.lookup f=Zz ⟨oc,od,.func (fnOf x x (gG st) (cW st) (ag st) .none kV dc pm an cd ct),sl⟩)(c:codeIn K cd x=true):FE K x st:=
 ⟨_,_,_,_,_,_,_,_,_,_,a,l,c⟩
theorem bJ{fd:TK}{ps:List Str}(h:∀x0:Q7,Tj fd ⟨[x0],[]⟩=pure (UP ps [x0]))(us:List Q7)(hl:us.length=1):Tj fd ⟨us,[]⟩=pure (UP ps us):=Po (P:=λus=>Tj fd ⟨us,[]⟩=pure (UP ps us)) hl h
theorem nL{fd:TK}{ps:List Str}(h:∀x0 x1:Q7,Tj fd ⟨[x0,x1],[]⟩=pure (UP ps [x0,x1]))(us:List Q7)(hl:us.length=2):Tj fd ⟨us,[]⟩=pure (UP ps us):=OO (P:=λus=>Tj fd ⟨us,[]⟩=pure (UP ps us)) hl h
theorem JP{fd:TK}{ps:List Str}(h:∀x0 x1 x2:Q7,Tj fd ⟨[x0,x1,x2],[]⟩=pure (UP ps [x0,x1,x2]))(us:List Q7)(hl:us.length=3):Tj fd ⟨us,[]⟩=pure (UP ps us):=OM (P:=λus=>Tj fd ⟨us,[]⟩=pure (UP ps us)) hl h
theorem Pr{fd:TK}{ps:List Str}(h:∀x0 x1 x2 x3:Q7,Tj fd ⟨[x0,x1,x2,x3],[]⟩=pure (UP ps [x0,x1,x2,x3]))(us:List Q7)(hl:us.length=4):Tj fd ⟨us,[]⟩=pure (UP ps us):=Pp (P:=λus=>Tj fd ⟨us,[]⟩=pure (UP ps us)) hl h
theorem all_mk{l:Wk}{w:Rx}{K:Rs}{h:Rj}{mg:Str->Option Q7}{fa:R3}(tT:∀P∈([]:List R3),K.lookup P=Zz (tabObj #[]))(tB:Jb ([]:List R3) K=true)(X:K.In h)(G:h.Ns RQ mg)(hfa:mg "law" = Zz (.ref fa))(h0:FE K "is_long_word" dN)(h1:FE K "is_word" k9)(h2:FE K "is_whole" jw)(h3:FE K "is_number" ib)(h4:FE K "is_time" k6)(h5:FE K "rise" wk)(h6:FE K "are_marks" ia)(h7:FE K "is_size" lN)(h8:FE K "are_sizes" gB)(h9:FE K "is_card" kT)(h10:FE K "is_one_of" g6)(h11:FE K "is_plain_wish" dg)(h12:FE K "are_joined" fB)(h13:FE K "things_in" gR)(h14:FE K "has_form" jr)(h15:FE K "is_wish" kM)(h16:FE K "is_between" fJ)(h17:FE K "is_offer" jh)(h18:FE K "wish_text" gQ)(h19:FE K "text_within" ez)(h20:FE K "is_number_text" cU)(h21:FE K "word_at" lM)(h22:FE K "name_at" lD)(h23:FE K "number_at" hU)(h24:FE K "read_plain" fC)(h25:FE K "read_one" jz)(h26:FE K "read_joined" eD)(h27:FE K "read_wish" hG)(h28:FE K "list_text" gx)(h29:FE K "read_list" gz)(h30:FE K "offer_text" fI)(h31:FE K "row_text" jJ)(h32:FE K "book_text" gy)(h33:FE K "number_in" hV)(h34:FE K "size_in" lK)(h35:FE K "wish_in" ll)(h36:FE K "offer_in" jj)(h37:FE K "thing_in" jy)(h38:FE K "words_in" jH)(h39:FE K "form_of" lf)(h40:FE K "row_in" nY)(h41:FE K "read_book" gH)(h42:FE K "_law_cell" qU)(h43:FE K "_law_mixed" mW)(h44:FE K "_law_twice" oh)(h45:FE K "_law_well" qF)(h46:FE K "_law_draw" qT)(h47:FE K "_law_some" qN)(h48:FE K "_law_number" lq)(h49:FE K "_law_free" rh)(h50:FE K "_law_word" qH)(h51:FE K "_law_card" qD)(h52:FE K "_law_leaf" qE)(h53:FE K "_law_wish" re)(h54:FE K "_law_great_offer" dS)(h55:FE K "_law_closed" lw)(h56:FE K "_law_wish_text" fo)(h57:FE K "_law_listed" lB)(h58:FE K "_law_offer_text" eE)(h59:FE K "_law_time" qO)(h60:FE K "_law_row" v8)(h61:FE K "_law_row_text" gw)(h62:FE K "_law_typed" nW)(h63:FE K "law" pS){t0:Tok}(gv0:nsIn K RQ "LETTERS" = Zz (Zz (.str "abcdefghijklmnopqrstuvwxyz" t0))){t1:Tok}(gv1:nsIn K RQ "LONGEST_WORD" = Zz (Zz (.int 8 t1))){ga2:R3}{its2:Array Q7}{gn2:Nat}{gsl2:Array (Option Q7)}(gv2:nsIn K RQ "WISH_WORDS" = Zz (Zz (.ref ga2)))(gl2:K.lookup ga2=Zz ⟨.type "tuple",Zy,.seq its2 gn2,gsl2⟩)(gz2:its2.size<=RV)(gs2:pV [[97,110,121],[105,115],[98,121],[110,111,116],[97,110,100],[111,114]] its2.toList){t3:Tok}(gv3:nsIn K RQ "GREATEST_NUMBER" = Zz (Zz (.int 1000000000 t3))){t4:Tok}(gv4:nsIn K RQ "MOST_MARKS" = Zz (Zz (.int 6 t4))){t5:Tok}(gv5:nsIn K RQ "MOST_SIZES" = Zz (Zz (.int 6 t5))){t6:Tok}(gv6:nsIn K RQ "DEEPEST" = Zz (Zz (.int 6 t6))){t7:Tok}(gv7:nsIn K RQ "MOST_PARTS" = Zz (Zz (.int 40 t7))){t8:Tok}(gv8:nsIn K RQ "FEWEST_JOINED" = Zz (Zz (.int 2 t8))){t9:Tok}(gv9:nsIn K RQ "MOST_JOINED" = Zz (Zz (.int 6 t9))){ga10:R3}{its10:Array Q7}{gn10:Nat}{gsl10:Array (Option Q7)}(gv10:nsIn K RQ "SIDES" = Zz (Zz (.ref ga10)))(gl10:K.lookup ga10=Zz ⟨.type "tuple",Zy,.seq its10 gn10,gsl10⟩)(gz10:its10.size<=RV)(gs10:pV [[103,105,118,101],[116,97,107,101],[98,101,97,114]] its10.toList){t11:Tok}(gv11:nsIn K RQ "GREATEST_MANY" = Zz (Zz (.int 1000000 t11))){t12:Tok}(gv12:nsIn K RQ "GREATEST_WEIGHT" = Zz (Zz (.int 1000 t12))){t13:Tok}(gv13:nsIn K RQ "FIGURES" = Zz (Zz (.str "0123456789" t13))){t14:Tok}(gv14:nsIn K RQ "MOST_FIGURES" = Zz (Zz (.int 10 t14))){t15:Tok}(gv15:nsIn K RQ "MOST_WITHIN" = Zz (Zz (.int 12 t15))){ga16:R3}{des16:Array VZ}{gn16:Nat}{dus16:List Q7}(gv16:nsIn K RQ "SIGNS" = Zz (Zz (.ref ga16)))(gl16:K.lookup ga16=Zz ⟨.type "dict",Zy,.dict des16 gn16,#[]⟩)(gz16:(ga16==Uh)=false)(ge16:eT w [[62,61],[60,61]] dus16 des16.toList)(gx16:dz (bF ([]:List R3) K) dus16 [(.str [108,101,97,115,116]),(.str [109,111,115,116])]){ga17:R3}{its17:Array Q7}{gn17:Nat}{gsl17:Array (Option Q7)}(gv17:nsIn K RQ "JOINS" = Zz (Zz (.ref ga17)))(gl17:K.lookup ga17=Zz ⟨.type "tuple",Zy,.seq its17 gn17,gsl17⟩)(gz17:its17.size<=RV)(gs17:pV [[111,114],[97,110,100]] its17.toList){ga18:R3}{des18:Array VZ}{gn18:Nat}{dus18:List Q7}(gv18:nsIn K RQ "BRACKETED" = Zz (Zz (.ref ga18)))(gl18:K.lookup ga18=Zz ⟨.type "dict",Zy,.dict des18 gn18,#[]⟩)(gz18:(ga18==Uh)=false)(ge18:eT w [[110,111,116],[97,110,100],[111,114]] dus18 des18.toList)(gx18:dz (bF ([]:List R3) K) dus18 [(.tup [(.str [97,110,100]),(.str [111,114])]),(.tup [(.str [97,110,100]),(.str [111,114])]),(.tup [(.str [111,114])])]){t19:Tok}(gv19:nsIn K RQ "NONE_TEXT" = Zz (Zz (.str "-" t19))){ga20:R3}{des20:Array VZ}{gn20:Nat}{dus20:List Q7}(gv20:nsIn K RQ "FORMS" = Zz (Zz (.ref ga20)))(gl20:K.lookup ga20=Zz ⟨.type "dict",Zy,.dict des20 gn20,#[]⟩)(gz20:(ga20==Uh)=false)(ge20:eT w [[99,111,109,101],[111,102,102],[99,104,97,110,103,101],[108,101,115,115],[119,97,105,116],[109,101,101,116],[111,117,116]] dus20 des20.toList)(gx20:dz (bF ([]:List R3) K) dus20 [(.tup [(.str [110,117,109,98,101,114]),(.str [110,117,109,98,101,114]),(.str [111,102,102,101,114])]),(.tup [(.str [110,117,109,98,101,114]),(.str [110,97,109,101])]),(.tup [(.str [110,117,109,98,101,114]),(.str [110,117,109,98,101,114]),(.str [111,102,102,101,114])]),(.tup [(.str [110,117,109,98,101,114]),(.str [110,97,109,101]),(.str [109,97,110,121])]),(.tup [(.str [110,117,109,98,101,114]),(.str [110,97,109,101]),(.str [110,117,109,98,101,114])]),(.tup [(.str [110,117,109,98,101,114]),(.str [109,97,110,121]),(.str [110,117,109,98,101,114]),(.str [110,117,109,98,101,114])]),(.tup [(.str [110,117,109,98,101,114]),(.str [110,117,109,98,101,114])])])(z0:nsIn K RQ "all" = Zz Zy)(z1:nsIn K RQ "bool" = Zz Zy)(z2:nsIn K RQ "int" = Zz Zy)(z3:nsIn K RQ "isinstance" = Zz Zy)(z4:nsIn K RQ "len" = Zz Zy)(z5:nsIn K RQ "list" = Zz Zy)(z6:nsIn K RQ "min" = Zz Zy)(z7:nsIn K RQ "range" = Zz Zy)(z8:nsIn K RQ "set" = Zz Zy)(z9:nsIn K RQ "sorted" = Zz Zy)(z10:nsIn K RQ "str" = Zz Zy)(z11:nsIn K RQ "tuple" = Zz Zy)(z12:nsIn K RQ "zip" = Zz Zy): ∃fd:TK,(∀(s:R1) (v:Q7),WS s fd ⟨[v],[]⟩ [("_law_script",v)])/\∀base:Rj,(bF ([]:List R3) K).In base->base.Ns RQ mg->oQ l.prog w (bF ([]:List R3) K) mg base (ux l.prog w) 63 fa fd ["_law_script"] (Fb (bF ([]:List R3) K) fns gv 63 63):=by
 have T0:IR l.prog w (bF ([]:List R3) K) mg:=⟨TJ X G z0,TJ X G z1,TJ X G z2,TJ X G z3,TJ X G z4,TJ X G z5,TJ X G z6,TJ X G z7,TJ X G z8,TJ X G z9,TJ X G z10,TJ X G z11,TJ X G z12,rR (mg_of X G gv0) (by decide +kernel),cB (mg_of X G gv1),oU (mg_of X G gv2) (b8 tT gl2 (λz=>by cases z)) gz2 gs2,cB (mg_of X G gv3),cB (mg_of X G gv4),cB (mg_of X G gv5),cB (mg_of X G gv6),cB (mg_of X G gv7),cB (mg_of X G gv8),cB (mg_of X G gv9),oU (mg_of X G gv10) (b8 tT gl10 (λz=>by cases z)) gz10 gs10,cB (mg_of X G gv11),cB (mg_of X G gv12),rR (mg_of X G gv13) (by decide +kernel),cB (mg_of X G gv14),cB (mg_of X G gv15),oW (mg_of X G gv16) (b8 tT gl16 (λz=>by cases z)) gz16 ge16 (by decide) gx16,oU (mg_of X G gv17) (b8 tT gl17 (λz=>by cases z)) gz17 gs17,oW (mg_of X G gv18) (b8 tT gl18 (λz=>by cases z)) gz18 ge18 (by decide) gx18,rR (mg_of X G gv19) (by decide +kernel),oW (mg_of X G gv20) (b8 tT gl20 (λz=>by cases z)) gz20 ge20 (by decide) gx20⟩
 have TF:Nt (bF ([]:List R3) K) mg:=⟨aK tT X G h0 λ_ _ _ _ _ _ us hl=>bJ (λ_=>rfl) us hl,aK tT X G h1 λ_ _ _ _ _ _ us hl=>bJ (λ_=>rfl) us hl,aK tT X G h2 λ_ _ _ _ _ _ us hl=>bJ (λ_=>rfl) us hl,aK tT X G h3 λ_ _ _ _ _ _ us hl=>bJ (λ_=>rfl) us hl,aK tT X G h4 λ_ _ _ _ _ _ us hl=>bJ (λ_=>rfl) us hl,aK tT X G h5 λ_ _ _ _ _ _ us hl=>bJ (λ_=>rfl) us hl,aK tT X G h6 λ_ _ _ _ _ _ us hl=>bJ (λ_=>rfl) us hl,aK tT X G h7 λ_ _ _ _ _ _ us hl=>bJ (λ_=>rfl) us hl,aK tT X G h8 λ_ _ _ _ _ _ us hl=>bJ (λ_=>rfl) us hl,aK tT X G h9 λ_ _ _ _ _ _ us hl=>bJ (λ_=>rfl) us hl,aK tT X G h10 λ_ _ _ _ _ _ us hl=>nL (λ_ _=>rfl) us hl,aK tT X G h11 λ_ _ _ _ _ _ us hl=>bJ (λ_=>rfl) us hl,aK tT X G h12 λ_ _ _ _ _ _ us hl=>bJ (λ_=>rfl) us hl,aK tT X G h13 λ_ _ _ _ _ _ us hl=>bJ (λ_=>rfl) us hl,aK tT X G h14 λ_ _ _ _ _ _ us hl=>bJ (λ_=>rfl) us hl,aK tT X G h15 λ_ _ _ _ _ _ us hl=>bJ (λ_=>rfl) us hl,aK tT X G h16 λ_ _ _ _ _ _ us hl=>JP (λ_ _ _=>rfl) us hl,aK tT X G h17 λ_ _ _ _ _ _ us hl=>bJ (λ_=>rfl) us hl,aK tT X G h18 λ_ _ _ _ _ _ us hl=>bJ (λ_=>rfl) us hl,aK tT X G h19 λ_ _ _ _ _ _ us hl=>nL (λ_ _=>rfl) us hl,aK tT X G h20 λ_ _ _ _ _ _ us hl=>bJ (λ_=>rfl) us hl,aK tT X G h21 λ_ _ _ _ _ _ us hl=>nL (λ_ _=>rfl) us hl,aK tT X G h22 λ_ _ _ _ _ _ us hl=>nL (λ_ _=>rfl) us hl,aK tT X G h23 λ_ _ _ _ _ _ us hl=>nL (λ_ _=>rfl) us hl,aK tT X G h24 λ_ _ _ _ _ _ us hl=>nL (λ_ _=>rfl) us hl,aK tT X G h25 λ_ _ _ _ _ _ us hl=>JP (λ_ _ _=>rfl) us hl,aK tT X G h26 λ_ _ _ _ _ _ us hl=>Pr (λ_ _ _ _=>rfl) us hl,aK tT X G h27 λ_ _ _ _ _ _ us hl=>bJ (λ_=>rfl) us hl,aK tT X G h28 λ_ _ _ _ _ _ us hl=>bJ (λ_=>rfl) us hl,aK tT X G h29 λ_ _ _ _ _ _ us hl=>bJ (λ_=>rfl) us hl,aK tT X G h30 λ_ _ _ _ _ _ us hl=>bJ (λ_=>rfl) us hl,aK tT X G h31 λ_ _ _ _ _ _ us hl=>bJ (λ_=>rfl) us hl,aK tT X G h32 λ_ _ _ _ _ _ us hl=>bJ (λ_=>rfl) us hl,aK tT X G h33 λ_ _ _ _ _ _ us hl=>bJ (λ_=>rfl) us hl,aK tT X G h34 λ_ _ _ _ _ _ us hl=>bJ (λ_=>rfl) us hl,aK tT X G h35 λ_ _ _ _ _ _ us hl=>bJ (λ_=>rfl) us hl,aK tT X G h36 λ_ _ _ _ _ _ us hl=>bJ (λ_=>rfl) us hl,aK tT X G h37 λ_ _ _ _ _ _ us hl=>nL (λ_ _=>rfl) us hl,aK tT X G h38 λ_ _ _ _ _ _ us hl=>bJ (λ_=>rfl) us hl,aK tT X G h39 λ_ _ _ _ _ _ us hl=>bJ (λ_=>rfl) us hl,aK tT X G h40 λ_ _ _ _ _ _ us hl=>bJ (λ_=>rfl) us hl,aK tT X G h41 λ_ _ _ _ _ _ us hl=>bJ (λ_=>rfl) us hl,aK tT X G h42 λ_ _ _ _ _ _ us hl=>nL (λ_ _=>rfl) us hl,aK tT X G h43 λ_ _ _ _ _ _ us hl=>nL (λ_ _=>rfl) us hl,aK tT X G h44 λ_ _ _ _ _ _ us hl=>nL (λ_ _=>rfl) us hl,aK tT X G h45 λ_ _ _ _ _ _ us hl=>nL (λ_ _=>rfl) us hl,aK tT X G h46 λ_ _ _ _ _ _ us hl=>nL (λ_ _=>rfl) us hl,aK tT X G h47 λ_ _ _ _ _ _ us hl=>JP (λ_ _ _=>rfl) us hl,aK tT X G h48 λ_ _ _ _ _ _ us hl=>bJ (λ_=>rfl) us hl,aK tT X G h49 λ_ _ _ _ _ _ us hl=>bJ (λ_=>rfl) us hl,aK tT X G h50 λ_ _ _ _ _ _ us hl=>nL (λ_ _=>rfl) us hl,aK tT X G h51 λ_ _ _ _ _ _ us hl=>bJ (λ_=>rfl) us hl,aK tT X G h52 λ_ _ _ _ _ _ us hl=>bJ (λ_=>rfl) us hl,aK tT X G h53 λ_ _ _ _ _ _ us hl=>JP (λ_ _ _=>rfl) us hl,aK tT X G h54 λ_ _ _ _ _ _ us hl=>bJ (λ_=>rfl) us hl,aK tT X G h55 λ_ _ _ _ _ _ us hl=>nL (λ_ _=>rfl) us hl,aK tT X G h56 λ_ _ _ _ _ _ us hl=>bJ (λ_=>rfl) us hl,aK tT X G h57 λ_ _ _ _ _ _ us hl=>bJ (λ_=>rfl) us hl,aK tT X G h58 λ_ _ _ _ _ _ us hl=>bJ (λ_=>rfl) us hl,aK tT X G h59 λ_ _ _ _ _ _ us hl=>bJ (λ_=>rfl) us hl,aK tT X G h60 λ_ _ _ _ _ _ us hl=>bJ (λ_=>rfl) us hl,aK tT X G h61 λ_ _ _ _ _ _ us hl=>bJ (λ_=>rfl) us hl,aK tT X G h62 λ_ _ _ _ _ _ us hl=>bJ (λ_=>rfl) us hl,aK tT X G h63 λ_ _ _ _ _ _ us hl=>bJ (λ_=>rfl) us hl⟩
 obtain⟨f63,oc63,kV63,dc63,pm63,cd63,ct63,od63,an63,sl63,a63,l63,c63⟩:=h63;have e:=hfa.symm.trans (mg_of X G a63);cases e;have F63:=Hd (st:=pS) (b8 tT l63 (λz=>by cases z)) (Cj tT c63) (BM tT l63);refine⟨fnOf "law" "law" (gG pS) (cW pS) (ag pS) .none kV63 dc63 pm63 an63 cd63 ct63,λs v=>.of_eq rfl,λbase _ _=>?_⟩;refine Gf (fi:=63) (np:=1) (n:=8) (body:=va) (cell:=false) F63 sG ?_ ?_ ?_ ?_;exact rfl;exact rfl;exact rfl;intro _ _ _ _ _ _ hr _ _ _ go;refine EV ?_ ?_ ?_ ?_;exact T0;exact Gb T0 TF 62;exact hr;exact go
theorem NC{l:Wk}{q:Rk}{loose:List Str}{XP:(Str->Option Q7)->Rj->Prop}{d:DefRec}{K:XS->Rs}{as:List R3}{n t:Nat}(hn:l.most=Zz 63)(hdf:d.params.defaults=[])(he:∀P,as=(K P).map (·.1))(T:∀(w:Rx) P,P∈([]:List R3)->(K w.params).lookup P=Zz (tabObj #[]))(C:∀(w:Rx) P,P∈([]:List R3)->∃c,XO (K w.params) c P=true)(B:∀w:Rx,Jb ([]:List R3) (K w.params)=true)(F:∀(w:Rx) (mg:Str->Option Q7) (fa:R3) (h:Rj),(K w.params).In h->h.Ns RQ mg->mg d.name=Zz (.ref fa) ->
   ∃fd:TK,(∀(s:R1) (u:Q7),WS s fd ⟨[u],[]⟩ [("_law_script",u)])/\∀base:Rj,(bF ([]:List R3) (K w.params)).In base->base.Ns RQ mg->oQ l.prog w (bF ([]:List R3) (K w.params)) mg base (ux l.prog w) 63 fa fd ["_law_script"] (Fb (bF ([]:List R3) (K w.params)) fns gv 63 63)):
  PySem.W.WalkX q loose XP (PySem.W.X.obsZ as) (PySem.W.X.valZ K n t) l.row.toRowW d [] (λf vs=>U7 f vs):=by
 intro w s₀ s₁ mg mb G y fa o pm cd doc dV kV ho hd hcd hD hmg hg args vals as' L;exact Mi.GJ (n:=63) (k:=63) (x:="_law_script") (CX:=λw=>ux l.prog w) (sp:=λw=>Fb (bF ([]:List R3) (K w.params)) fns gv 63 63) (YP:=λw h=>(K w.params).In h) hn (by decide) hdf ⟨rfl,by decide,by decide⟩ (λ_ _ h=>h) T C B F (λ_ _ a ns hl hO hS=>law_sp hO hS (law_true ns hl)) (λ_ _ _ _ _ z=>by obtain⟨_,_,_,_,_,_,h⟩:=z;exact h) w s₀ s₁ mg mb G (PySem.W.InK.keeps w _ _ (PySem.W.X.z_facts he y).2.1 (PySem.W.Laid.keeps L)) fa o pm cd doc dV kV ho hd hcd hD hmg hg args vals as'
end My
set_option Elab.async false
namespace PySem.W.Fast
def tw16880606473133114700:=()
def tw4772981881330166830:=()
def tw17110055062958914528:=()
def tw17618681569704480169:=()
def tw5990990381882289474:=()
def tw13635414114975513321:=()
def tw5118218382700201863:=()
def tw6596456725667612899:=()
def tw3272873442583944081:=()
def tw4549498306728205066:=()
def tw2375358141013533758:=()
def tw2902978472847924542:=()
def tw4108512400618327881:=()
def tw14045620114754572732:=()
def tw9487057774780268764:=()
def tw16009231407301363759:=()
def tw6605994396629728193:=()
def tw5196577896658645548:=()
def tw2282123833329577508:=()
def tw4477001894366304078:=()
def tw14209774231630604226:=()
def tw13146852523987182687:=()
def tw15354845471096057815:=()
def tw3936084790059647231:=()
def tw17097762303034878861:=()
def tw14748707238752057124:=()
def tw882221155590241926:=()
def tw3652222249254812414:=()
def tw4700703601425191360:=()
def tw8425125899530871289:=()
def tw205558159942230212:=()
def tw1157407695209934098:=()
def tw17097336290991726557:=()
def tw11356429822759764081:=()
def tw9187231673618285576:=()
def tw15835140622908013975:=()
def tw1937656705962152076:=()
def tw8712562299815613229:=()
def tw17202661796934307894:=()
def tw1219531726515349202:=()
def tw7803841928041502407:=()
def tw4842452975013512387:=()
def tw402518384518283866:=()
def tw12102505043727775890:=()
def tw6053300453791001037:=()
def tw1097556990934307825:=()
def tw9282280770660591888:=()
def tw2944269369587151122:=()
def tw15267787437590960328:=()
def tw15902764647068624732:=()
def tw7512702690533914187:=()
def tw4913860220041961124:=()
def tw11845997178985693677:=()
def tw12659119694661201694:=()
def tw13932686034098853699:=()
def tw7393454199099334025:=()
def tw4078335772565695324:=()
def tw13465807198833110313:=()
def tw14002969520155929381:=()
def tw8215479288314422644:=()
def tw7129798678981579431:=()
def tw14541640039726593557:=()
def tw15195403395160603013:=()
def tw7325042937833825426:=()
def tw4688619382014166980:=()
def tw8021929763003582798:=()
def tw17663766192315087515:=()
def tw13408639675432976343:=()
def tw11826530166519112358:=()
def tw850752656167642785:=()
def tw8969343195761280631:=()
def tw18309607979867624287:=()
def tw14259957115726710746:=()
def tw7837934215738771405:=()
def tw17440126620748920256:=()
def tw892446690555466817:=()
def tw16606637424851620524:=()
def tw15843188154617033271:=()
def tw5790932990130291670:=()
def tw16310138194852475387:=()
def tw12028190931372325668:=()
def tw8480336403770671215:=()
def tw2781416619827186258:=()
def tw9163250173532268528:=()
def tw13727841905693054870:=()
def tw11927415302734056799:=()
def tw9442077461979927221:=()
def tw14755350287402720934:=()
def tw8164319083573775618:=()
def tw14217244910509000493:=()
def tw8431691525773034668:=()
def tw12025405985998322659:=()
def tw5574735762097205465:=()
def tw5039207095131354302:=()
def tw16125732018152296951:=()
def tw17526966354517548814:=()
def tw17907277291215255237:=()
def tw14286380594189163979:=()
def tw17625006458626136786:=()
def tw11959632400625059318:=()
def tw2094425932807269845:=()
def tw1962555117107378830:=()
def tw592415888833109397:=()
def tw12738272883911709923:=()
def tw15328606807815147253:=()
def tw15578402741020306632:=()
def tw16377058171330720671:=()
def tw14124542238686516961:=()
def tw15775961963364481467:=()
def tw8993670526343505585:=()
def tw9416119695941346688:=()
def tw14889732231042492576:=()
def tw14330945157474869987:=()
def tw7636813832980865330:=()
def tw11010838826862691143:=()
def tw4685380924087678398:=()
def tw16504230235681287000:=()
def tw9528594127192918762:=()
def tw6017876171350857605:=()
def tw5529476968105897190:=()
def tw2851324552959575046:=()
def tw13760994080551766822:=()
def tw16191114743646228603:=()
def tw1811576415346558121:=()
def tw8011585541303347081:=()
def tw3466936260695542502:=()
def tw4363953027798185018:=()
def tw12862130792305077853:=()
def tw10492000543647587549:=()
def tw4612513558432939488:=()
def tw2022504237430068920:=()
def tw3169641627126048083:=()
def tw11828949436383784864:=()
def tw17639012950695609211:=()
def tw15232739574140415278:=()
def tw3320812694936265005:=()
def tw16548740164608555383:=()
def tw8825273330670235115:=()
def tw1643864271927608372:=()
def tw4565526138007168497:=()
def tw2214684012938324828:=()
def tw5776572445435042831:=()
def tw16674607115590366929:=()
def tw7724455444335976379:=()
def tw16164356143458083096:=()
def tw18072659324590234809:=()
def tw666513737166125231:=()
def tw4748954116450985581:=()
def tw12898055798748356664:=()
def tw7512392983660174112:=()
def tw8464297428057480351:=()
def tw12002024386529457943:=()
def tw13216067173043898796:=()
def tw13072260140616436729:=()
def tw7924969485762846510:=()
def tw5885011774736718698:=()
def tw9655864785911580793:=()
def tw851200649557841364:=()
def tw7037254777289589283:=()
def tw1360619895343906115:=()
def tw13226217110922134425:=()
def tw17133082451895893457:=()
def tw6883784206737167496:=()
def tw16562621422572530458:=()
def tw484140114517513858:=()
def tw6998429997198255327:=()
def tw266631196826523862:=()
def tw6857973882360284399:=()
def tw14682169142512422737:=()
def tw8512343267034079884:=()
def tw9510008073714427523:=()
def tw16485488729903392723:=()
def tw2562755754609600705:=()
def tw2534101700055814732:=()
def tw5187018056552496424:=()
def tw14788662125643086259:=()
def tw11712355312029103175:=()
def tw14661378915896828518:=()
def tw317837213909653695:=()
def tw16327454665931598188:=()
def tw5190916053478817732:=()
def tw12274905235228000705:=()
def tw8351997684500106028:=()
def tw17265878415154573003:=()
def tw11195147301009912955:=()
def tw3523832781470228573:=()
def tw7575832941616760806:=()
def tw4713956896350459499:=()
def tw134658074489030568:=()
def tw13466761403737212682:=()
def tw6161553308254486876:=()
def tw3916809073906111638:=()
def tw14908746620839690628:=()
def tw4639746943176096731:=()
def tw16695551582272448598:=()
def tw3313667249937040244:=()
def tw9069654219391744159:=()
def tw3904952320454218246:=()
def tw17419541058362953238:=()
def tw7768238906585665379:=()
def tw14539786562279014281:=()
def tw13787262386300664835:=()
def tw6599926364115987604:=()
def tw7042782481968158777:=()
def tw13747873820186202096:=()
def tw4296552929619608179:=()
def tw5538473236560147153:=()
def tw17715296580896525679:=()
def tw7435653100053063310:=()
def tw9554605174000867230:=()
def tw7334187769509041301:=()
def tw389281207014190696:=()
def tw11743860951600613232:=()
def tw12668974415867756527:=()
def tw516061063633503797:=()
def tw10775847407485901912:=()
def tw2053411319919828027:=()
def tw9466572549760464040:=()
def tw579110857256359405:=()
def tw14467079030492943214:=()
def tw15188812604125809300:=()
def tw2072270594343355859:=()
def tw11213181624513356930:=()
def tw12412173102159393698:=()
def tw6728717890579606233:=()
def tw3950516315809840507:=()
def tw2450146137037013858:=()
def tw3995440216389661733:=()
def tw11828753989268422915:=()
def tw8207032790507963289:=()
def tw10550386577303637590:=()
def tw3295644238645028772:=()
def tw578540681965949062:=()
def tw18169269874832713493:=()
def tw11067864424200153667:=()
def tw730440728673504617:=()
def tw10106766731219977873:=()
def tw44165939654252825:=()
def tw9526320647240940671:=()
def tw1331585159343673751:=()
def tw1889352517415487439:=()
def tw18390463243662003107:=()
def tw2661195807046924922:=()
def tw14085046558010351495:=()
def tw7830531402865288130:=()
def tw14529679626898686308:=()
def tw9383255373830703460:=()
def tw8800293008413272985:=()
def tw11087422684612357511:=()
def tw12415142756132436847:=()
def tw15000185963547272490:=()
def tw15787090125662803790:=()
def tw10308709773034635287:=()
def tw16168534064826393522:=()
def tw318463406464106572:=()
def tw203126979245087625:=()
def tw12674279866055882049:=()
def tw2781618780693878532:=()
def tw18387298113375438378:=()
def tw2343756948769991931:=()
def tw14232567247747006955:=()
def tw13037713758464077071:=()
def tw10430299826613500197:=()
def tw14733207981501640779:=()
def tw8677440509502115869:=()
def tw17684632298317190032:=()
def tw7710631452625038107:=()
def tw9022431248142506047:=()
def tw6049506882112647985:=()
def tw7257405881852819514:=()
def tw14578739362981451798:=()
def tw9686862617289701035:=()
def tw17804812828158915873:=()
def tw545446369518365229:=()
def tw6270910217587269654:=()
def tw18417803491824696475:=()
def tw18389837366234099539:=()
def tw4922830511366969063:=()
def tw1739063892224711200:=()
def tw16293830594261748087:=()
def tw1978370364789941169:=()
def tw8393826434410759572:=()
def tw8581921486082744589:=()
def tw10141304779175721952:=()
def tw18128480164058299825:=()
def tw6285630668181456092:=()
def tw2454609591625904862:=()
def tw2058132269338102141:=()
def tw13284760097085967086:=()
def tw11858510598464161290:=()
def tw12910991580868002672:=()
def tw11586934594051318816:=()
def tw16897593691991974961:=()
def tw5123396792766654091:=()
def tw13766621429768106935:=()
def tw3920309351474736134:=()
def tw8178451544844792862:=()
def tw12118586532734934377:=()
def tw13284974171280765090:=()
def tw7713902059356126865:=()
def tw16494848059461204005:=()
end PySem.W.Fast
noncomputable def PySem.W.Fast.tw2322505475458296864:PySem.Program:=PySem.Challenge.pw_matepoint_k73_books_as_texts
theorem PySem.W.Fast.te2322505475458296864:PySem.Challenge.pw_matepoint_k73_books_as_texts=PySem.W.Fast.tw2322505475458296864:=rfl
open PySem PySem.W PyProof.Rows
set_option maxRecDepth 100000 in
set_option maxHeartbeats 0 in
theorem PySem.Challenge.cw_matepoint_k73_books_as_texts_holds : PySem.Challenge.rw_matepoint_k73_books_as_texts.Holds := by
 w_on;o_law;z_head;(case hw=>w_witness2)
 k_fill
 refine My.NC (l:=PySem.Challenge.rw_matepoint_k73_books_as_texts) rfl rfl (λ_=>rfl) ?T ?C ?B ?F
 case T=>exact λw=>(λ_ h=>XZ h R4)
 case C=>exact λw=>(λ_ h=>XZ h R4)
 case B=>exact λw=>by kernel_rfl
 case F =>
  intro w mg fa h KX G hmg
  refine' My.all_mk ?tT ?tB KX G hmg ?h0 ?h1 ?h2 ?h3 ?h4 ?h5 ?h6 ?h7 ?h8 ?h9 ?h10 ?h11 ?h12 ?h13 ?h14 ?h15 ?h16 ?h17 ?h18 ?h19 ?h20 ?h21 ?h22 ?h23 ?h24 ?h25 ?h26 ?h27 ?h28 ?h29 ?h30 ?h31 ?h32 ?h33 ?h34 ?h35 ?h36 ?h37 ?h38 ?h39 ?h40 ?h41 ?h42 ?h43 ?h44 ?h45 ?h46 ?h47 ?h48 ?h49 ?h50 ?h51 ?h52 ?h53 ?h54 ?h55 ?h56 ?h57 ?h58 ?h59 ?h60 ?h61 ?h62 ?h63 ?gv0 ?gv1 ?gv2 ?gl2 ?gz2 ?gs2 ?gv3 ?gv4 ?gv5 ?gv6 ?gv7 ?gv8 ?gv9 ?gv10 ?gl10 ?gz10 ?gs10 ?gv11 ?gv12 ?gv13 ?gv14 ?gv15 ?gv16 ?gl16 ?gz16 ?ge16 ?gx16 ?gv17 ?gl17 ?gz17 ?gs17 ?gv18 ?gl18 ?gz18 ?ge18 ?gx18 ?gv19 ?gv20 ?gl20 ?gz20 ?ge20 ?gx20 ?z0 ?z1 ?z2 ?z3 ?z4 ?z5 ?z6 ?z7 ?z8 ?z9 ?z10 ?z11 ?z12
  (case h0|h1|h2|h3|h4|h5|h6|h7|h8|h9|h10|h11|h12|h13|h14|h15|h16|h17|h18|h19|h20|h21|h22|h23|h24|h25|h26|h27|h28|h29|h30|h31|h32|h33|h34|h35|h36|h37|h38|h39|h40|h41|h42|h43|h44|h45|h46|h47|h48|h49|h50|h51|h52|h53|h54|h55|h56|h57|h58|h59|h60|h61|h62|h63=>refine' My.fe_in ?a ?l ?c;(case a=>k_is);(case l=>k_is);(case c=>k_is))
  (case tT=>exact(λ_ h=>XZ h R4))
  (case tB=>kernel_rfl)
  (case gv0|gv1|gv2|gl2=>k_is)
  (case gz2=>decide)
  (case gs2=>exact(.cons (by decide +kernel) (.cons (by decide +kernel) (.cons (by decide +kernel) (.cons (by decide +kernel) (.cons (by decide +kernel) (.cons (by decide +kernel) .nil)))))))
  (case gv3|gv4|gv5|gv6|gv7|gv8|gv9|gv10|gl10=>k_is)
  (case gz10=>decide)
  (case gs10=>exact(.cons (by decide +kernel) (.cons (by decide +kernel) (.cons (by decide +kernel) .nil))))
  (case gv11|gv12|gv13|gv14|gv15|gv16|gl16=>k_is)
  (case gz16=>decide)
  (case ge16=>exact(Mi.eT.cons (by decide +kernel) (by with_unfolding_all rfl) (Mi.eT.cons (by decide +kernel) (by with_unfolding_all rfl) Mi.eT.nil)))
  (case gx16=>exact(Mi.dz.cons (Mi.bp (by decide +kernel)) (Mi.dz.cons (Mi.bp (by decide +kernel)) Mi.dz.nil)))
  (case gv17|gl17=>k_is)
  (case gz17=>decide)
  (case gs17=>exact(.cons (by decide +kernel) (.cons (by decide +kernel) .nil)))
  (case gv18|gl18=>k_is)
  (case gz18=>decide)
  (case ge18=>exact(Mi.eT.cons (by decide +kernel) (by with_unfolding_all rfl) (Mi.eT.cons (by decide +kernel) (by with_unfolding_all rfl) (Mi.eT.cons (by decide +kernel) (by with_unfolding_all rfl) Mi.eT.nil))))
  (case gx18=>exact(Mi.dz.cons (Mi.il (Mi.b8 (ps:=([]:List R3)) ((λ_ h=>XZ h R4)) (by k_is) (λz=>by cases z)) (by decide) (Mi.dz.cons (Mi.bp (by decide +kernel)) (Mi.dz.cons (Mi.bp (by decide +kernel)) Mi.dz.nil))) (Mi.dz.cons (Mi.il (Mi.b8 (ps:=([]:List R3)) ((λ_ h=>XZ h R4)) (by k_is) (λz=>by cases z)) (by decide) (Mi.dz.cons (Mi.bp (by decide +kernel)) (Mi.dz.cons (Mi.bp (by decide +kernel)) Mi.dz.nil))) (Mi.dz.cons (Mi.il (Mi.b8 (ps:=([]:List R3)) ((λ_ h=>XZ h R4)) (by k_is) (λz=>by cases z)) (by decide) (Mi.dz.cons (Mi.bp (by decide +kernel)) Mi.dz.nil)) Mi.dz.nil))))
  (case gv19|gv20|gl20=>k_is)
  (case gz20=>decide)
  (case ge20=>exact(Mi.eT.cons (by decide +kernel) (by with_unfolding_all rfl) (Mi.eT.cons (by decide +kernel) (by with_unfolding_all rfl) (Mi.eT.cons (by decide +kernel) (by with_unfolding_all rfl) (Mi.eT.cons (by decide +kernel) (by with_unfolding_all rfl) (Mi.eT.cons (by decide +kernel) (by with_unfolding_all rfl) (Mi.eT.cons (by decide +kernel) (by with_unfolding_all rfl) (Mi.eT.cons (by decide +kernel) (by with_unfolding_all rfl) Mi.eT.nil))))))))
  (case gx20=>exact(Mi.dz.cons (Mi.il (Mi.b8 (ps:=([]:List R3)) ((λ_ h=>XZ h R4)) (by k_is) (λz=>by cases z)) (by decide) (Mi.dz.cons (Mi.bp (by decide +kernel)) (Mi.dz.cons (Mi.bp (by decide +kernel)) (Mi.dz.cons (Mi.bp (by decide +kernel)) Mi.dz.nil)))) (Mi.dz.cons (Mi.il (Mi.b8 (ps:=([]:List R3)) ((λ_ h=>XZ h R4)) (by k_is) (λz=>by cases z)) (by decide) (Mi.dz.cons (Mi.bp (by decide +kernel)) (Mi.dz.cons (Mi.bp (by decide +kernel)) Mi.dz.nil))) (Mi.dz.cons (Mi.il (Mi.b8 (ps:=([]:List R3)) ((λ_ h=>XZ h R4)) (by k_is) (λz=>by cases z)) (by decide) (Mi.dz.cons (Mi.bp (by decide +kernel)) (Mi.dz.cons (Mi.bp (by decide +kernel)) (Mi.dz.cons (Mi.bp (by decide +kernel)) Mi.dz.nil)))) (Mi.dz.cons (Mi.il (Mi.b8 (ps:=([]:List R3)) ((λ_ h=>XZ h R4)) (by k_is) (λz=>by cases z)) (by decide) (Mi.dz.cons (Mi.bp (by decide +kernel)) (Mi.dz.cons (Mi.bp (by decide +kernel)) (Mi.dz.cons (Mi.bp (by decide +kernel)) Mi.dz.nil)))) (Mi.dz.cons (Mi.il (Mi.b8 (ps:=([]:List R3)) ((λ_ h=>XZ h R4)) (by k_is) (λz=>by cases z)) (by decide) (Mi.dz.cons (Mi.bp (by decide +kernel)) (Mi.dz.cons (Mi.bp (by decide +kernel)) (Mi.dz.cons (Mi.bp (by decide +kernel)) Mi.dz.nil)))) (Mi.dz.cons (Mi.il (Mi.b8 (ps:=([]:List R3)) ((λ_ h=>XZ h R4)) (by k_is) (λz=>by cases z)) (by decide) (Mi.dz.cons (Mi.bp (by decide +kernel)) (Mi.dz.cons (Mi.bp (by decide +kernel)) (Mi.dz.cons (Mi.bp (by decide +kernel)) (Mi.dz.cons (Mi.bp (by decide +kernel)) Mi.dz.nil))))) (Mi.dz.cons (Mi.il (Mi.b8 (ps:=([]:List R3)) ((λ_ h=>XZ h R4)) (by k_is) (λz=>by cases z)) (by decide) (Mi.dz.cons (Mi.bp (by decide +kernel)) (Mi.dz.cons (Mi.bp (by decide +kernel)) Mi.dz.nil))) Mi.dz.nil))))))))
  (case z0|z1|z2|z3|z4|z5|z6|z7|z8|z9|z10|z11|z12=>k_is)
end
