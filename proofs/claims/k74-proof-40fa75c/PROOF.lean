import PyProof.Rows.All
import Wide.All
import OpenK.AllK
import Wide.FinOn
import Lean
import PyProof.EqAt
import PyProof.EqKinds
import PyProof.TupleCall
import PyProof.ToksMono
import PyProof.StrCalls6
import PyProof.StrLawsReplace
import PyProof.DictUpdate
import PyProof.AutoListH
import PyProof.PassesOwn
import PyProof.Rows.StrSplitMax
import PySem.Challenge.RW_matepoint_k74_no_book_text
set_option Elab.async false
set_option linter.all false
set_option maxRecDepth 100000
noncomputable section
theorem Xy{c:Prop}{h:Decidable c}(hc:c){α:Sort u}{t e:α}:ite c t e=t:=if_pos hc
theorem Xz{c:Prop}{h:Decidable c}(hc:¬c){α:Sort u}{t e:α}:ite c t e=e:=if_neg hc
theorem Y0{p:Prop}[Decidable p](h:¬p):decide p=false:=decide_eq_false h
theorem Y1{p:Prop}[Decidable p](h:p):decide p=true:=decide_eq_true h
theorem Y2{α}[BEq α][LawfulBEq α]{a b:α}:(a==b)=false↔a≠b:=beq_eq_false_iff_ne
theorem Y3{a b:Prop}(h:a)(k:¬a):b:=absurd h k
theorem Y4{p:Prop}[i:Decidable p](h:decide p=true):p:=of_decide_eq_true h
open Option renaming some->Zz,none->Zy,ite_none_right_eq_some->RB,bind_eq_some_iff->RE,map_eq_some_iff->RY,bind_some->SE,isSome_iff_exists->Ug,map_some->VY
open PySem renaming wpAny_bind->R0,wpAny_pure->R3,Value->R4,Shared->RA,Addr->RC,wpAny->RF,mainGlobals->RH,sizeLine->Ri,model->Rp,Heap->Rq,wpAny_execs_cons->Ry,Stmt->S6,wpAny_callSpecial?_slot->S8,wpAny_field->S9,wpAny_newObj_type->SF,Expr->SJ,wpAny_call_entry->SQ,wpAny_setField->SX,strKind->SY,wpAny_holding->SZ,attributeBase->Sa,Around->Sb,Program->Sf,wpAny_truthy_bool->Si,call_meets->Sk,wpAny_Call_Name_kw->Sl,Env->Sn,wpAny_setEntries_of->So,wpAny_setState_of->Sp,sizeLine_eq->Sv,mem_of_lookup->T5,call->T7,World->TB,wpAny_seqItems->TG,wpAny_standAt->TM,wpAny_mono->TT,FuncData->TV,bindArgs->TW,letOwnedTupleGo->Tb,wpAny_passesOwn->Tc,codeAny_mono->Td,bootBuiltins->Ti,starEach->Tk,wpAny_attempt->Tp,typeIs_str->U3,assignEach->U4,wpAny_setField_rec->U5,SetTable->U6,codeAny_builtin->U8,foldedSetIterable->UE,wpAny_rule->UG,wpAny_fieldsOf->UJ,NameKind->UO,codeAny->UR,wpAny_askSetting->UT,cellsFrom->UV,Comprehension->Uh,wpAny_execs_nil->Um,builtinsNs->Up,pickOrder->Uu,sliceBounds->Ux,wpAny_pyIter_list->V1,wpAny_loadPart_at->V8,scanBound->VE,compareOp->VF,codeAny_call_builtin->VM,wpAny_loadName_local->VN,codeAny_of_tree->VP,wpAny_ite_false->VQ,wpAny_loadPart'->VR,wpAny_loadName_cell->Va,wpAny_Assign_stores->Vb,getItem->Vg,setFlight->Vi,relayAll->Vj,wpAny_call->Vl,Scope->Vn,wpAny_pyIter_tuple->Vq,recursionLimit->Vv,fits_of_scanBound->Vx,standAt->W0,subscripted->W1,wpAny_assign_Name->W2,valueAt->W4,plainId_quiet->W5,call_list_seq->W6,IsPart->W7,slotArgs->WA,wpAny_isInstance->WB,Operator->WC,binaryOp->WE,noFill_tuple_add->WF,noteFrame->WI,DictEntry->WJ,typeLookup->WO,wpAny_typeOf->WP,sysModules->WQ,wpAny_Name->WR,wpAny_of_eq->WY,isSubtype_type->WZ,fitsIndex_both->Wb,slicePicked->We,compTurn->Wi,strValues->Wl,limitOf->Wm,seq_tuple_add->Wp,behindInMarks->Wq,swapsWithSole->Wt,swappedStores->Wu,wpAny_onRaise->Wv,typeIs_int->Wy,Flow->X0,setAddHashed->X2,concat_meets->X5,Keyword->X8,BindsTo->XB,swapsWith->XC,keywordEach->XE,CmpOp->XH,callerA->XM,holding->XN,isInstance->XS,Model->XV,drawOrder->XW,storeName->XX,IsZip->XY,onTheHeap->Xb,Fin->Xc,compStart->Xd,setNext->Xe,spliced->Xg,PlainL->Xh,operate->Xi,IsPair->Xk,entryFor->Xm,setField->Xn,raiseNew->Xo,CmpOp->Xp,IntMulOk->Xr,backToKw->Xt,ZipApart->Xu,Params->Xv,Meets->Xw,Str->Xx
open List renaming forall_mem_cons->R1,length_map->R2,mem_cons_of_mem->R5,mem_cons->R7,not_mem_nil->R8,mem_cons_self->RD,getElem?_eq_some_iff->RG,length_cons->RI,replicate->RL,mem_singleton->RN,length_eq_zero_iff->RP,map_cons->RQ,set_cons_succ->RR,set_cons_zero->RS,length_append->RV,all_eq_true->RX,getElem?_eq_getElem->RZ,length->Rf,mem_map->Rg,append_nil->Rm,getElem?_append_left->Ro,getElem?_set_self->Rr,isPrefixOf->Rs,getElem?_append_right->Ru,getElem?_map->Rv,getElem?_set_ne->Rx,length_nil->Rz,length_take->SD,mem_of_getElem?->SG,pairwise_cons->SL,mem_append->SP,Nodup->SR,size_toArray->SS,range->Sc,append_assoc->Sg,map_map->Sh,forIn_cons->Ss,lookup_cons->Sw,take_of_length_le->Sy,map_nil->TC,all_cons->TD,sum_cons->TE,nil_append->TJ,replicate_succ->TL,getElem_mem->TN,isEmpty_nil->TP,any_eq_true->TQ,length_drop->TR,getElem?_eq_none->TX,length_set->Ta,flatten_cons->Tl,getElem?_replicate->Tw,mem_filterMap->U1,all_map->U2,map_append->U7,zip->U9,set_append_right->UB,length_range->UC,flatMap_cons->UF,length_eraseIdx_of_lt->UI,isPrefixOf_iff_prefix->UM,mem_append_left->UN,mem_of_mem_take->UP,mem_of_mem_drop->UQ,drop_eq_getElem_cons->Ua,getElem_of_mem->Ub,nodup_cons->Un,of_mem_zip->Uo,zip_cons_cons->Ur,pairwise_singleton->Uz,any_eq_false->V4,length_singleton->VB,mem_append_right->VC,length_replicate->VD,cons_append->VH,mem_flatMap->VI,foldl_cons->VS,take_left'->VX,mem_map_of_mem->Vc,zipWith->Vf,foldl->Vo,getElem?_take->Vr,take_length->WH,map->WL,map_id'->WU,mem_range->Wa,drop_zero->Wd,forIn_nil->Wf,lookup->Wh,map_take->Wr,map_drop->Ws,range'->XJ
open Bool renaming and_eq_true->R6,false_eq_true->Rk,false_ne_true->S4,eq_false_iff->SU,true_and->SW,or_eq_true->Sm,not_true->UA,or_true->UW,beq_comm->Ui,eq_iff_iff->Uk
open PySem.Heap renaming get?_push_of_some->R9,get?_push_size->RM,lt_size->Rj,get?_none_of_le->Rt,size_push->Rw,get?_update_self->S5,get?_update_other->SH,SameBut->Te,ExtBut->Uv
open Array renaming length_toList->RK,getElem?_toList->SN,getElem?_eq_some_iff->T2,getElem?_eq_none_iff->UL,toList_push->V0,isEmpty_toList->VO
open Nat renaming le_refl->RU,le_trans->Rn,lt_irrefl->SI,ne_of_lt->SO,lt_succ_of_lt->Sx,lt_of_lt_of_le->T8,le_of_lt->Th,lt_succ_self->Ts,le_add_right->Tz,le_succ->UH,sub_self->UX,toDigits->UY,min_eq_left->Ul,zero_le->Ut,zero_add->V7,ne_of_gt->WM,not_lt->WV,mul_comm->X6,le_of_eq->X9,mul_add->XI,mod_lt->XO
open And renaming intro->Rh
open PySem.Obj renaming data_mapFields->S3,isFreed_of_fields->Sr,mapFields->Tq,mapSeq->U0,cls_mapFields->V2,putSet->Vk
open PySem.Heap.SameBut renaming update->SA
open PySem.PyData renaming eqv->SK,canLay0->Tt,depth->UU,eqvAll->VJ,canLayAll0->Vz,depthAll->WX
open PyProof.Rows renaming callWith_type1->SM,callWith_builtin1->TA,slot_tuple_getitem->VA,subscriptTail->W8,AllBare->Wk,IntsAre->XK,Subscript_->XQ,StrsAre->Xf,IsTup->Xq
open PySem.NameKind renaming free->SV,cell->W9
open PySem.Str renaming length->Se,join->X7
open PySem.Builtin.Str renaming occurrences->Sj,partsBetween->Uf
open Int renaming toNat_natCast->Sq,emod_lt_of_pos->Us,eq_ofNat_of_zero_le->Uy,emod_nonneg->VW
open ForInStep renaming yield->Su
open PySem.F renaming plainAttrs_str->Sz,slot_tuple_iterator_next->TU,entry_str_split->Tn,slot_str_split->Tu,plainAttrs_list->Tv,args_tuple_add_2->Ue,entry_tuple_add->Uw,slot_tuple_add->V3,slot_str_split->V5,type_str_split->V6,slot_int_rmul->VU,slot_zip_next->VV,args_tuple_mul_2->Vp,args_str_split_2->Vs,args_str_split_3->Vt,entry_tuple_mul->Vy,slot_tuple_mul->WG
open PySem.W renaming mg_none_of->T3,Frag->V9,cellsFrom_some->Vu,kia_one->W3,looks_findIn->WW,OpenLaw->X1,any_some->XA,hasDictIn->XZ,Looks->Xa,findObj->Xl
open PySem.Value renaming ref->T4,isStrOf->To,none->UK,builtin->VL,isStrOf_shape->VZ,type->Wx,bool->Wz,str->XU
open Option.some renaming inj->T6
open PySem.Calls renaming spliced_cons->T9,spliced_nil->UD
open PySem.SetTable renaming below->TH,grown->TS
open PyProof.Rows.F renaming plain_set_update_loop->TK
open PySem.Builtin.Slice renaming slicePlaces->TY,sliceAdjust->UZ
open PySem.Builtin.SmallTypes renaming nextOf->TZ
open PySem.Around renaming under_plainId->Tf
open Ne renaming symm->Tj
open PySem.Builtin.Tuple renaming tupleExact->Tr
open PySem.AutoSeq1 renaming sub_tuple_tuple->Uc,idx_int->WD
open PySem.Builtin.List renaming listTooLong->Ud
open Sum renaming inr->Uj,inl->Wj
open True renaming intro->Uq
open PySem.Txt renaming split->VG,partition->Ve,splitMax->Vh,partition->Wo,join->Xs
open PySem.Code renaming quiet_builtin->Vm
open False renaming elim->Vw
open PySem.Walks renaming list->WN,tuple->Wc,strAscii->Wg,strWide->Ww,range->XG
open PySem.SeqAt renaming EqAt->WS
open PySem.Shared renaming TypeIs->Wn
open PySem.pickOrder renaming go->X3
open Nat.succ renaming inj->X4
open Sum.inr renaming inj->XD
open Or renaming inr->XR,inl->Xj
open PySem.W.Looks renaming here->XT
open PySem.W (Frag OpenLaw cellsFrom_some codeIn exmOne findIn fnOf keepIn kia_one kitOne mg_none_of mg_of nsIn)
section
set_option Elab.async false
namespace L2
open PySem PySem.Spec PyProof.Rows
noncomputable abbrev Key:=Sum Int Str
noncomputable def rN:Key->R4->Bool
 |.inl k,v=>Value.isInt k v
 |.inr x,v=>To x v
noncomputable def Lx(w:TB):Key->Int
 |.inl k=>hashInt k
 |.inr x=>hashStr w x
theorem bN:∀{k:Key}{v:R4},rN k v=true->(∃i t,k=Wj i/\v=Value.int i t)∨(∃x t,k=Uj x/\v=XU x t)
 |.inl i,v,h=>by
  obtain⟨t,e⟩:=Value.isInt_shape (k:=i) (v:=v) h;exact .inl ⟨i,t,rfl,e⟩
 |.inr x,v,h=>by
  obtain⟨t,e⟩:=VZ (x:=x) (v:=v) h;exact .inr ⟨x,t,rfl,e⟩
theorem Cv(i:Int)(t:Tok):rN (.inl i) (.int i t)=true:=by simp[rN,Value.isInt]
theorem oP(x:Str)(t:Tok):rN (.inr x) (.str x t)=true:=by simp[rN,To]
theorem J9(a b:Int):decide ((Wj a:Key)=Wj b)=(a==b):=by
 by_cases e:a=b
 ·subst e;simp
 ·have h:¬(Wj a:Key)=Wj b:=λq=>e (Sum.inl.inj q)
  rw[Y0 h];exact(Y2.mpr e).symm
theorem JP(a b:Str):decide ((Uj a:Key)=Uj b)=decide (a=b):=by
 by_cases e:a=b
 ·subst e;simp
 ·have h:¬(Uj a:Key)=Uj b:=λq=>e (XD q)
  rw[Y0 h,Y0 e]
theorem IY(a:Int)(b:Str):decide ((Wj a:Key)=Uj b)=false:=Y0 (λq=>nomatch q)
theorem JU(a:Str)(b:Int):decide ((Uj a:Key)=Wj b)=false:=Y0 (λq=>nomatch q)
noncomputable def c9(prog:Sf)(w:TB):PySem.KeyKind prog w Key where
 is:=rN
 hash:=Lx w
 inj:=λv a b ha hb=>by
  rcases bN ha with⟨i,t,rfl,rfl⟩|⟨x,t,rfl,rfl⟩
  ·rcases bN hb with⟨j,u,rfl,e⟩|⟨y,u,rfl,e⟩
   ·injection e with e1 _;rw[e1]
   ·exact nomatch e
  ·rcases bN hb with⟨j,u,rfl,e⟩|⟨y,u,rfl,e⟩
   ·exact nomatch e
   ·injection e with e1 _;rw[e1]
 byValue:=λk v h=>by
  rcases bN h with⟨i,t,rfl,rfl⟩|⟨x,t,rfl,rfl⟩<;>rfl
 pyHash:=λhv h=>by
  rcases bN hv with⟨i,t,rfl,rfl⟩|⟨x,t,rfl,rfl⟩
  ·exact wpAny_pyHash_int h
  ·exact wpAny_pyHash_str h
 eqBool:=λhu hv h=>by
  rcases bN hu with⟨i,t,rfl,rfl⟩|⟨x,t,rfl,rfl⟩
  ·rcases bN hv with⟨j,u,rfl,rfl⟩|⟨y,u,rfl,rfl⟩
   ·rw[J9]at h;exact wpAny_eqBool_int h
   ·rw[IY]at h;exact SeqAt.EqAt.int_str i t y u _ _ _ _ h
  ·rcases bN hv with⟨j,u,rfl,rfl⟩|⟨y,u,rfl,rfl⟩
   ·rw[JU]at h;exact SeqAt.EqAt.str_int x t j u _ _ _ _ h
   ·rw[JP]at h;exact wpAny_eqBool_str h
 «strs»:=λk x t v h=>by
  rcases bN h with⟨i,u,rfl,e⟩|⟨y,u,rfl,e⟩
  ·exact nomatch e
  ·injection e with e1 _
   subst e1;cases v<;>rfl
theorem yy(prog:Sf)(w:TB)(i:Int)(t:Tok):(c9 prog w).is (.inl i) (.int i t)=true:=Cv i t
theorem yw(prog:Sf)(w:TB)(x:Str)(t:Tok):(c9 prog w).is (.inr x) (.str x t)=true:=oP x t
end L2
namespace Att
open PySem PySem.W PySem.Calls PyProof.Rows
theorem p0{P:Xv}{h:Rq}:∀(ns:List Int) (vs:List R4),WellAll P h vs (ns.map WData.int)->XK vs ns:=by
 intro ns
 induction ns with
 |nil =>
  intro vs w;rw[TC]at w;cases w;exact .nil
 |cons n ns ih =>
  intro vs w;rw[RQ]at w;cases w with
  |cons a b =>
   cases a;exact .cons _ _ (ih _ b)
theorem Dg{l:X1}{n:Nat}(hn:l.most=Zz n){P:Xv}{h:Rq}{args:List WData}{vals:List R4}(hpre:l.row.toRowW.claim.pre args=true)(hwl:WellAll P h vals args):
  ∃a vs ns,vals=[T4 a]/\args=[WData.list (ns.map WData.int)]/\h.get? a=Zz { cls:=.type "list",data:=.seq vs.toArray }/\XK vs ns/\ns.length<=n:=by
 have hsh:WShape.hasAll [] args [.list .int]=true:=(pre_splitW hpre).1;have hc:l.pre.holds [] { args:=args }=true:=(pre_splitW hpre).2;obtain⟨d,r,rfl,h1,h2⟩:=hasAllW_cons hsh;obtain rfl:=hasAllW_nil h2;obtain⟨xs,rfl,h3⟩:=hasW_list h1;obtain⟨ns,rfl⟩:=items_int h3;have hlen:ns.length<=n:=by
  unfold OpenLaw.pre at hc;have h4:(WTm.not (.lt (.lit (.int (n:Int))) (.len (.arg 0)))).holds [] { args:=[.list (ns.map .int)] }=true:=by
   have h4:=(holds_andW hc).1;rw[hn]at h4;exact h4
  have h5:=condW_of h4 (w_not (w_lt w_lit (w_len_list (w_arg rfl))));rw[R2]at h5;refine Nat.le_of_not_lt λq=>?_
  have q':(n:Int)<((ns.length:Nat):Int):=by omega
  first
   |(rw[Y1 q']at h5;exact Y3 h5 (by decide))
   |(simp at h5;omega)
 cases hwl with
 |cons w1 w2 =>
  cases w2;cases w1 with
  |list ho hall=>exact⟨_,_,ns,rfl,rfl,ho,p0 ns _ hall,hlen⟩
theorem CT(l:X1)(args:List WData):l.row.toRowW.claim.post args (.bool true) args=true:=
 postW_of (r:=l.row.toRowW) (X:=(true==true))
  (show WShape.has [] (.bool true) .bool=true by first|rfl|decide|simp[WShape.has,WShape.arms,WShape.armsAll])
  (show(WTm.eq .res (.lit (.bool true))).value [] { args:=args,res:=Zz (.bool true),after:=args }=Zz (.bool (true==true))from w_eq_bool (w_res rfl) w_lit) rfl
theorem ym{l:X1}{n:Nat}{q:Sf}{loose:List Str}{XP:(Str->Option R4)->Rq->Prop}{YP:TB->Rq->Prop}{d:DefRec}(hn:l.most=Zz n)(hdf:d.params.defaults=[])(call:∀(w:TB) (s₀ s₁:RA) (mg mb:Str->Option R4) (fa:RC) (o:Obj) (pm cd doc:R4) (a:RC) (vs:List R4) (ns:List Int),
   Ground q loose [] XP w s₀ mg mb s₁.heap->YP w s₁.heap ->
   s₁.heap.get? fa=Zz o->o.data=.func (docDef d.name d.params d.body d.scope pm cd doc)->s₁.heap.CodeRec cd d.name->mg d.name=Zz (.ref fa) ->
   s₁.heap.get? a=Zz { cls:=.type "list",data:=.seq vs.toArray }->XK vs ns->ns.length<=n->s₁.gens=#[] ->
   UR (Rp l.prog w) XM (.call (.ref fa) ⟨[.ref a],[]⟩) (λr s'=>r=.ok (.ret (.bool true))/\OldK s₁.heap s'.heap/\s'.os=s₁.os/\Wk s'.gens) s₁):
  WalkO q loose XP YP l.row.toRowW d [] (λf vs=>T7 f vs):=by
 intro w s₀ s₁ mg mb G Y fa o pm cd doc dV kV ho hd hcd hD hmg hg args vals as hpre hlay hrd hwl hlo;obtain rfl:dV=.none:=Dflts.none hD hdf;obtain rfl:kV=.none:=Dflts.noKw hD;obtain⟨a,vs,ns,rfl,rfl,hobj,hints,hlen⟩:=Dg hn hpre hwl;refine enter_call (Td (call w s₀ s₁ mg mb fa o pm cd doc a vs ns G Y ho (fd_plain hd) hcd hmg hobj hints hlen hg) λr s' hq=>?_);obtain⟨rfl,h2,h3,h4⟩:=hq;exact⟨.inl ⟨.bool true,.bool true,[],rfl,λ_=>rfl,.bool true,CT l _,λ_=>⟨List.Pairwise.nil,λ_ hm=>(nomatch hm)⟩⟩,h2,h3,h4⟩
end Att
end
section
set_option backward.eqns.nonrecursive false
set_option backward.eqns.deepRecursiveSplit false
namespace Mi
open PySem PySem.Spec PyProof.Rows L2
theorem tH(t:U6)(n:Nat):(t.orStandIn n).led=t.led:=by unfold SetTable.orStandIn;split<;>rfl
theorem qi(t:U6)(n:Nat)(h:t.plain=false):(t.orStandIn n).plain=false:=by unfold SetTable.orStandIn;split<;>first|exact h|rfl
theorem Ag(t:U6)(es:Array (Int×R4))(h:Int)(x:R4):(layNew t es h x).2.1.led=t.led:=by
 unfold layNew;split
 ·exact tH _ _
 ·rfl
theorem wb(t:U6)(es:Array (Int×R4))(h:Int)(x:R4)(hp:t.plain=false):(layNew t es h x).2.1.plain=false:=by
 unfold layNew;split
 ·exact qi _ _ hp
 ·rfl
theorem rU{t t':U6}(h:t.relaid hs n=Zz (t',o)):t'.led=t.led/\t'.plain=t.plain:=by
 unfold SetTable.relaid SetTable.laid at h;simp only[Option.bind_eq_bind]at h;obtain⟨w,_,h2⟩:=RE.mp h;cases h2;exact⟨rfl,rfl⟩
theorem u8(t:U6)(es:Array (Int×R4))(n:Nat):(Vj t es n).2.1.led=t.led:=by
 unfold Vj;split
 ·rename_i t' o h
  dsimp only;split
  ·exact(rU h).1
  ·rfl
 ·rfl
theorem sJ(t:U6)(es:Array (Int×R4))(n:Nat)(hp:t.plain=false):(Vj t es n).2.1.plain=false:=by
 unfold Vj;split
 ·rename_i t' o h
  dsimp only;split
  ·exact(rU h).2.trans hp
  ·rfl
 ·rfl
structure Lb (prog:Sf) (w:TB) (led:Bool) (o:Obj) (D:List Str) (es:Array (Int×R4)) (ep:Nat) (t:U6):Prop where
 ex:o.ExactSet
 data:o.data=.set es ep t
 el:ElemsOf (SY prog w) es.toList
 KO:(es.toList.map λe=>strOf e.2).Perm D
 nd:D.Nodup
 room:es.size<VE
 fits:t.fits es.size=true
 led:t.led=led
 plain:es.size≠0->t.plain=false
inductive ng (prog:Sf) (w:TB) (led:Bool) (h:Rq) (a:RC) (D:List Str)  : Prop where
 |mk (o es ep t) (_:h.get? a=Zz o) (_:Lb prog w led o D es ep t)
theorem pI(h:To x v=true):strOf v=x:=by
 obtain⟨t,rfl⟩:=VZ h;rfl
section
variable{prog:Sf}{w:TB}{A:Sb}{E:R4->RA->Prop}{s:RA}{led:Bool}
theorem EN(h:∃k,(SY prog w).is k v=true):To (strOf v) v=true:=by
 obtain⟨k,hk⟩:=h;have hk:=hk;rw[pI hk];exact hk
theorem xF(he:ElemsOf (SY prog w) es)(k:Str):(∃e∈es,(SY prog w).is k e.2=true)↔k∈es.map λe=>strOf e.2:=by
 constructor
 ·rintro ⟨e,he,hk⟩
  exact Rg.mpr ⟨e,he,pI hk⟩
 ·intro h
  obtain⟨e,hm,rfl⟩:=Rg.mp h;obtain⟨⟨k,hk,_⟩,_⟩:=he e hm;exact⟨e,hm,EN ⟨k,hk⟩⟩
theorem EJ(hS:ng prog w led s.heap a D)(hroom:D.length+1<VE)(h:∀h' b,Te a s.heap h'->ng prog w led h' a (if x∈D then D else D++[x])->Q b { s with heap:=h' }):
  RF (Rp prog w) A (X2 a (.str x tk) (hashStr w x)) Q E s:=by
 obtain⟨o,es,ep,t,ho,hE⟩:=hS;have hex:=hE.ex;have hd:=hE.data;have hel:=hE.el;have hf:=hE.fits;have hkey:(SY prog w).is x (.str x tk)=true:=by show To x (.str x tk)=true;simp[To]
 have hsc:(XU x tk).scannable=true:=rfl;have hlen:es.size=D.length:=by rw[<-hE.KO.length_eq,R2,RK]
 show RF (Rp prog w) A (X2 a (.str x tk) ((SY prog w).hash x)) Q E s;unfold X2 setAddHashedIn;refine SZ (R0 (Sp ho hd hf ?_));dsimp only;rw[byScan_of hsc hE.room hel];simp only[↓reduceIte];unfold setAddByScan;refine R0 ?_;refine R0 (UG ?_);refine R0 (wpAny_setScan_of hkey ho hd hf hel ?_);cases hr:List.findIdx? (λe=>(SY prog w).is x e.2) es.toList with
 |some j =>
  obtain⟨hj,hpj,_⟩:=List.findIdx?_eq_some_iff_getElem.mp hr;have hm:=hE.KO.mem_iff.mp ((xF hel x).mp ⟨_,TN hj,hpj⟩);refine R3 (R3 ?_);have:=h s.heap false (Heap.SameBut.refl a s.heap) (by rw[Xy hm];exact⟨o,es,ep,t,ho,hE⟩);exact this
 |none =>
  have hm:x∉D:=λhx=>by
   obtain⟨e,he,hp⟩:=(xF hel x).mpr (hE.KO.mem_iff.mpr hx);have:=List.findIdx?_eq_none_iff.mp hr e he;rw[hp]at this;exact Bool.noConfusion this
  have hgw:∀(b:Bool) (s₁:RA) (Q':Unit->RA->Prop),Q' () s₁->RF (Rp prog w) A (match b with|true=>rule "set.scan.the-table-gave-way" | false=>pure ()) Q' E s₁:=
   λb s₁ Q' hq=>by cases b<;>first|exact R3 hq|exact UG hq
  have hperm:=layNew_perm t es ((SY prog w).hash x) (.str x tk);have hfits:=layNew_fits t es ((SY prog w).hash x) (.str x tk);have hled:=Ag t es ((SY prog w).hash x) (.str x tk);have hplain:=wb t es ((SY prog w).hash x) (.str x tk);generalize hL:layNew t es ((SY prog w).hash x) (.str x tk)=L at hperm hfits hled hplain ⊢;obtain⟨es1,t1,wasDummy,gave⟩:=L;dsimp only at hperm hfits hled hplain ⊢;rw[V0]at hperm;have hel1:=(hel.push hkey hsc).perm hperm;have hsz1:es1.size=es.size+1:=by rw[<-RK,hperm.length_eq,RV,RK];rfl
  have hb1:es1.size<VE:=by omega
  have hst1:(es1.toList.map λe=>strOf e.2).Perm (D++[x]):=by
   refine(hperm.map _).trans ?_;rw[U7];exact hE.KO.append_right _
  have hnd:(D++[x]).Nodup:=by
   rw[List.nodup_append];refine⟨hE.nd,by simp,λy hy z hz=>?_⟩;rw[RN.mp hz];exact λe=>hm (e▸hy)
  -- the end,at a table that is plain no more
  have fin:∀t2:U6,t2.led=led->t2.plain=false->t2.fits es1.size=true->RF (Rp prog w) A (do
    storeSet a es1 t2
    if(!wasDummy&&t2.tooFull)=true then do
      (match(Vj t2 es1 (TS es1.size)).2.2 with|true=>rule "set.scan.the-table-gave-way" | false=>pure ())
      storeSet a (Vj t2 es1 (TS es1.size)).1 (Vj t2 es1 (TS es1.size)).2.1
      pure (Zz true)
     else pure (Zz true)) (λr s'=>match r with
      |some b=>Q b s'
      |none=>False) E s:=λt2 hl2 hp2 hf2=>by
   have hg1:(s.heap.update a (Vk es1 t2)).get? a=Zz { o with data:=.set es1 (ep+1) t2 }:=by
    have:=S5 (Vk es1 t2) ho (by rw[putSet_of es1 t2 hd];rfl);rw[putSet_of es1 t2 hd]at this;exact this
   have hsb1:=SA s.heap a (Vk es1 t2);refine R0 (wpAny_storeSet_of ho hd ?_ (Vx hb1));split
   ·have hp:=relayAll_perm t2 es1 (TS es1.size)
    have hfr:=relayAll_fits t2 es1 (TS es1.size);have hrl:=u8 t2 es1 (TS es1.size);have hrp:=sJ t2 es1 (TS es1.size) hp2;generalize Vj t2 es1 (TS es1.size)=Rl at hp hfr hrl hrp ⊢;obtain⟨es2,t3,gave2⟩:=Rl;dsimp only at hp hfr hrl hrp ⊢;have hsz:es2.size=es1.size:=by rw[<-RK,hp.length_eq,RK]
    refine R0 (hgw _ _ _ ?_);refine R0 (wpAny_storeSet_of hg1 rfl ?_ (Vx (by omega)));have hg2:((s.heap.update a (Vk es1 t2)).update a (Vk es2 t3)).get? a=Zz { o with data:=.set es2 (ep+1+1) t3 }:=
     S5 (Vk es2 t3) hg1 rfl
    refine R3 (h _ true (hsb1.trans (SA _ a _)) ?_);rw[Xz hm];exact⟨_,es2,_,t3,hg2,⟨hex,rfl,hel1.perm hp,(hp.map _).trans hst1,hnd,by omega,hfr,hrl.trans hl2,λ_=>hrp⟩⟩
   ·refine R3 (h _ true hsb1 ?_)
    rw[Xz hm];exact⟨_,es1,_,t2,hg1,⟨hex,rfl,hel1,hst1,hnd,hb1,hf2,hl2,λ_=>hp2⟩⟩
  refine R0 (hgw _ _ _ ?_);have done:∀{r:Option Bool}{s':RA},(match r with
    |some b=>Q b s'
    |none=>False)->RF (Rp prog w) A (match r with
     |some added=>pure added
     |none=>setAddHashedIn a (.str x tk) ((SY prog w).hash x) 99999) Q E s':=λ{r s'} hr=>by
   cases r with
   |none=>exact hr.elim
   |some b=>exact R3 hr
  split
  ·refine R0 ?_
   rw[hashByValue_scannable 8 hsc];refine R3 ?_;exact TT (fin { t1 with plain:=false } (hled.trans hE.led) rfl (SetTable.fits_plain_off hfits)) (λr s' hr=>done hr) λ_ _ e=>e
  ·rename_i hpl
   refine R0 (R3 ?_);simp only[↓reduceIte];exact TT (fin t1 (hled.trans hE.led) (by simpa using hpl) hfits) (λr s' hr=>done hr) λ_ _ e=>e
noncomputable def dd(val:Nat->Str):Nat->List Str
 |0=>[]
 |i+1=>if val i∈dd val i then dd val i else dd val i++[val i]
theorem An(val:Nat->Str):∀i,(dd val i).length<=i
 |0=>RU _
 |i+1=>by
  have:=An val i;unfold dd;split
  ·omega
  ·rw[RV,VB];omega
noncomputable abbrev eU(w:TB):Bool:=!w.params.followText "set-order"
theorem ng.at'(hS:ng prog w led h a D)(k:∀o,h.get? a=Zz o->h'.get? a=Zz o):ng prog w led h' a D:=by
 obtain⟨o,es,ep,t,ho,hE⟩:=hS;exact⟨o,es,ep,t,k o ho,hE⟩
theorem Fs{St:Nat->RA->Prop}(W:WalksS prog w A.in1 I fp wr G n P St)(S:RC)(hSf:S∉fp)(val:Nat->Str)(hval:∀i v,P i v->∃t,v=.str (val i) t)(hb:n+1<VE):∀(k i:Nat) (s:RA),n-i=k->i<=n->St i s->ng prog w led s.heap S (dd val i) ->
   (∀s',Moved (S::wr) G s s'->ng prog w led s'.heap S (dd val n)->R (.ok (.ret .none)) s')->UR (Rp prog w) A (.builtin "set.update.loop" ⟨[.ref S,.ref I],[]⟩) R s:=by
 have hSw:=λh=>hSf (W.sub _ h)
 have hsub:∀b∈wr,b∈S::wr:=λb hb=>R5 _ hb
 intro k
 induction k with
 |zero =>
  intro i s hk hi hst hS hR;have hin:i=n:=by omega
  subst hin;refine U8 PyProof.Rows.F.entry_set_update_loop ?_;rw[Tf TK _];refine R0 (W.done s _ _ hst λs' hm=>?_);exact R3 (hR s' (hm.mono hsub) (hS.at' λo ho=>hm.heap S _ hSw ho))
 |succ k ih =>
  intro i s hk hi hst hS hR;have hlt:i<n:=by omega
  refine U8 PyProof.Rows.F.entry_set_update_loop ?_;rw[Tf TK _];refine R0 (W.item i s _ _ hlt hst λv s' hP hst' hm=>?_);obtain⟨t,rfl⟩:=hval i v hP;have hS':=hS.at' λo ho=>hm.heap S _ hSw ho
  refine R0 (SZ ?_);unfold setAdd;refine SZ ?_;refine R0 ((SY prog w).pyHash (by show To (val i) (.str (val i) t)=true;simp[To]) ?_);have hroom:(dd val i).length+1<VE:=by have:=An val i;omega
  refine EJ hS' hroom λh' b hsb hS2=>?_
  refine R3 ⟨W5 TK _,ih (i+1) _ (by omega) hlt (W.frame _ s' _ _ hst' (UH _) λb hb o e=>?_) hS2 λs'' hm'' hS''=>?_⟩
  ·rw[hsb.2 b (λh:b=S=>hSf (by rw[<-h];exact hb))];exact e
  ·refine hR s'' (Moved.trans W.gtrans ((hm.mono hsub).then_heap (UH _) λb o hb e=>?_) hm'') hS''
   rw[hsb.2 b (λh:b=S=>hb (by rw[h];exact RD))];exact e
theorem FU(a:R4)(h:Q₁ (.ref s.heap.objs.size) { s with heap:=s.heap.push { cls:=.type "set",dict:=Zy,data:=.set #[] 0 (.fresh 0 0 (eU w)) } }):
  UR (Rp prog w) A (.call (.builtin "set.__new__") ⟨[.type "set",a],[]⟩) (wants Q₁ E) s:=by
 refine VP ?_;refine R0 (WY (PySem.F.newCall_set_1 a) (R3 ⟨W5 PySem.F.plain_set_new _,U8 PySem.F.entry_set_new ?_⟩));rw[Tf PySem.F.plain_set_new _];unfold Builtin.«set.__new__» Builtin.Frozenset.newClass;have hsub:=sub_set_self;obtain⟨hp,g,d,tk,os⟩:=s
 wp_walk
 refine UT (R3 ?_);simp only[newObj];refine R0 (wpAny_alloc (R3 ?_));exact R3 h
theorem B2(ha:h.get? a=Zz { cls:=.type "set",dict:=Zy,data:=.set #[] 0 (.fresh 0 0 led) }):ng prog w led h a []:=
 ⟨_,#[],0,_,ha,⟨⟨rfl,rfl,rfl⟩,rfl,λe he=>by simp at he,List.Perm.nil,List.nodup_nil,by unfold VE;decide,rfl,rfl,λh=>Y3 rfl h⟩⟩
set_option maxHeartbeats 3200000 in
theorem ti(hh:A.handled=Zy)(hl:s.heap.IsList l items)(hv:∀(i:Nat) v,items[i]?=Zz v->∃t,v=.str (val i) t)(hb:items.size+1<VE)(h:∀(h':Rq) (tk:Nat),ng prog w (eU w) h' s.heap.objs.size (dd val items.size)->(∀b o,s.heap.get? b=Zz o->h'.get? b=Zz o)->Q (.ref s.heap.objs.size) { s with heap:=h',toks:=tk }):
  RF (Rp prog w) A (T7 (.type "set") [.ref l]) Q E s:=by
 obtain⟨c,tl,hmro⟩:=PySem.F.called_set.mro;have hmade:=PySem.F.called_set.made;have hsub:=PySem.F.called_set.sub;refine Vl (VP ?_);refine R3 ⟨Vm _ (by decide +kernel),U8 PySem.F.entry_type_call ?_⟩;rw[Around.under_plain (weight_type_call_type "set" [.ref l] []) rfl];have h1:=PySem.F.called_set.notType;have h2:=PySem.F.called_set.canCreate;have hct:=PySem.F.typeCall_set_1 (.ref l)
 repeat (any_goals (first|assumption|wp_step))
 refine Td (FU (.ref l) (E:=E) (Q₁:=λobj s₁=>obj=.ref s.heap.objs.size/\s₁={ s with heap:=s.heap.push { cls:=.type "set",dict:=Zy,data:=.set #[] 0 (.fresh 0 0 (eU w)) } }) ⟨rfl,rfl⟩) λr s₁ hr=>?_
 cases r with
 |error e=>exact hr
 |ok fl =>
  cases fl with
  |ret obj =>
   obtain⟨rfl,rfl⟩:=hr;have hS:(s.heap.push { cls:=.type "set",dict:=Zy,data:=.set #[] 0 (.fresh 0 0 (eU w)) }).get? s.heap.objs.size=Zz { cls:=.type "set",dict:=Zy,data:=.set #[] 0 (.fresh 0 0 (eU w)) }:=RM _ rfl;have hT:Wn { s with heap:=s.heap.push { cls:=.type "set",dict:=Zy,data:=.set #[] 0 (.fresh 0 0 (eU w)) } } (.ref s.heap.objs.size) "set":=⟨_,hS,rfl⟩
   have hli:=PySem.F.called_set.init.lookup;have hbi:=PySem.F.called_set.init.bind (.ref s.heap.objs.size)
   repeat (any_goals (first|assumption|wp_step))
   refine Td (VM (R:=wants (λr s₂=>r=.none/\∃h' tk,s₂={ s with heap:=h',toks:=tk }/\ng prog w (eU w) h' s.heap.objs.size (dd val items.size)/\(∀b o,s.heap.get? b=Zz o->h'.get? b=Zz o)) E) PySem.F.called_set.init.plain PySem.F.entry_set_init (check_set_init_1 hT ?_)) λr₂ s₂ hr₂=>?_
   ·obtain⟨ol,hol,hcl,nl,hdl⟩:=hl
    obtain⟨ocls,odict,odata,oslots⟩:=ol;simp only at hcl hdl;subst hcl;subst hdl;have hol':(s.heap.push { cls:=.type "set",dict:=Zy,data:=.set #[] 0 (.fresh 0 0 (eU w)) }).get? l=Zz { cls:=.type "list",dict:=odict,data:=.seq items nl,slots:=oslots }:=R9 _ hol;have hsls:=PySem.F.sub_list_set;have hslf:=PySem.F.sub_list_frozenset;have hne:(Wx "list" == Wx "dict")=false:=by decide
    have hl1:(s.heap.push { cls:=.type "set",dict:=Zy,data:=.set #[] 0 (.fresh 0 0 (eU w)) }).IsList l items:=⟨_,hol',rfl,nl,rfl⟩
    unfold Builtin.«set.__init__» noKeywords Builtin.Frozenset.updateFrom;generalize hPI:pyIter=PI
    wp_walk
    subst hPI;refine V1 hl1 ?_;refine R0 (wpAny_runValue ?_);have hlS:=Rj hol;have hh3:A.in1.in1.in1.handled=Zy:=by simp[hh]
    have hneI:l≠(s.heap.push { cls:=.type "set",dict:=Zy,data:=.set #[] 0 (.fresh 0 0 (eU w)) }).objs.size:=by
     rw[Rw];exact SO (Sx hlS)
    have hSf:s.heap.objs.size∉[(s.heap.push { cls:=.type "set",dict:=Zy,data:=.set #[] 0 (.fresh 0 0 (eU w)) }).objs.size,l]:=by
     rw[Rw];simp only[R7,RN,R8,or_false,not_or];exact⟨SO (Ts _),WM hlS⟩
    refine Fs (led:=eU w) ((WN hh3 _ l hneI items).toS) s.heap.objs.size hSf val hv hb (items.size-0) 0 _ (by omega) (Ut _)
     ⟨⟨_,RM _ rfl,rfl,rfl⟩,(hl1.push _)⟩ ?hS0 ?hR
    case hS0 =>
     exact B2 (R9 _ hS)
    case hR =>
     intro s' hm hS';obtain⟨h',g',d',tk',os'⟩:=s';have eg:=hm.gens;have ed:=hm.drawn;have eo:=hm.os;subst eg;subst ed;subst eo;refine R3 ?_;refine R3 ⟨rfl,h',tk',rfl,hS',λb o e=>?_⟩;have hb:=Rj e;have hb1:=SO hb;have hb2:b≠(s.heap.push { cls:=.type "set",dict:=Zy,data:=.set #[] 0 (.fresh 0 0 (eU w)) }).objs.size:=by
      rw[Rw];exact SO (Sx hb)
     exact hm.heap b o (by simp only[R7,RN,R8,or_false,not_or];exact⟨hb1,hb2⟩) (R9 _ (R9 _ e))
   ·cases r₂ with
    |error e=>exact hr₂
    |ok fl₂ =>
     cases fl₂ with
     |ret r =>
      obtain⟨rfl,h',tk,rfl,hS',hk'⟩:=hr₂
      repeat (any_goals (first|assumption|wp_step))
      exact h _ _ hS' hk'
     |_=>exact hr₂.elim
  |_=>exact hr.elim
end
end Mi
namespace PySem.F
theorem iO:Manifest.owners.lookup (String.ofList ['r','o','t','a','r','e','t','i','_','t','e','s'].reverse)=Zz Manifest.sig_set_iterator:=by kernel_rfl
theorem aL:Slot "set_iterator" "__next__" "set_iterator.__next__" :=
 .of (owner:="set_iterator") (n:="__next__") (by rw[typeLookup_type,builtinLookup_eq_fast];kernel_rfl) (by decide +kernel) (by decide +kernel) (by decide +kernel)
  (by first|exact .inl (by decide +kernel)|exact .inr (by decide +kernel)) (by rw[WZ];kernel_rfl)
theorem bv:Xm table "set_iterator.__next__" = Zz Builtin.«set_iterator.__next__»:=entryFor_of_tree (by kernel_rfl)
theorem bu(a:R4):argsOk "set_iterator.__next__" ⟨[a],[]⟩:=by
 unfold argsOk;rw[signature?_of (n:=['_','_','t','x','e','n','_','_']) (by kernel_rfl) iO];kernel_rfl
theorem lf:Xm table "set.__iter__" = Zz Builtin.«frozenset.__iter__»:=entryFor_alias (id':="frozenset.__iter__") (by kernel_rfl) rfl (by decide +kernel) (by kernel_rfl)
end PySem.F
namespace Mi
open PySem PySem.Spec PyProof.Rows L2
section
variable{M:XV}{A:Sb}{E:R4->RA->Prop}{s:RA}
theorem wp_choose'(b:n≠0)(h:∀i d,i<n->Q i { s with drawn:=d }):RF M A (choose src n) Q E s:=
 λΓ p c=>⟨b,h _ _ (XO _ (Nat.pos_of_ne_zero b))⟩
theorem lM{α:Type}:∀(l:List α) (i:Nat) (h:i<l.length),(l[i]::l.eraseIdx i).Perm l
 |_::_,0,_=>.refl _
 |x::l,i+1,h=>by
  have a:i<l.length:=by simpa using h
  exact(List.Perm.swap ..).trans ((lM l i a).cons x)
theorem pE{α:Type}:∀(n:Nat) (xs:List α) {s:RA}{Q:List α->RA->Prop},xs.length=n->(∀ys d,ys.Perm xs->Q ys { s with drawn:=d })->RF M A (XW n xs) Q E s
 |0,xs,s,Q,hl,h=>by
  have e:=List.eq_nil_of_length_eq_zero hl;subst e;unfold XW;exact R3 (h [] s.drawn .nil)
 |n+1,[],s,Q,hl,h=>by simp at hl
 |n+1,x::xs,s,Q,hl,h=>by
  unfold XW;refine R0 (wp_choose' (by simp) λi d hi=>?_);have e:=RZ hi;rw[e];refine R0 (pE n ((x::xs).eraseIdx i) (by rw[UI hi,hl];rfl) λys d' hp=>?_);exact R3 (h _ d' ((hp.cons _).trans (lM _ _ hi)))
theorem ul{α:Type}(next:Nat->Nat):∀(a k:Nat) (left:List α) (b:Array α),left.length=a->(X3 next a k left b).toList.Perm (b.toList++left)
 |0,k,left,b,h=>by
  have e:=List.eq_nil_of_length_eq_zero h;subst e;unfold X3;rw[Rm]
 |a+1,k,left,b,h=>by
  unfold X3;have c:next k%left.length<left.length:=XO _ (by omega)
  rw[RZ c];refine(ul next a (k+1) _ _ (by rw[UI c];omega)).trans ?_;rw[V0,Sg];exact(lM left _ c).append_left _
theorem picked{α:Type}(next:Nat->Nat)(xs:Array α):(Uu next xs).toList.Perm xs.toList:=by
 unfold Uu;exact ul next xs.size 0 xs.toList #[] (by simp)
end
section
variable{prog:Sf}{w:TB}{A:Sb}{E:R4->RA->Prop}{s:RA}
def cV(h:Rq)(it a:RC)(first:R4)(i n ep:Nat):Prop:=∃o,h.get? it=Zz o/\o.cls=.type "set_iterator"/\o.data=.fields #[first,.int i 0,.ref a,.int n 0,.int ep 0]
theorem cV.typeIs(h:cV s.heap it a first i n ep):s.TypeIs (.ref it) "set_iterator":=let⟨o,b,c,_⟩:=h;⟨o,b,c⟩
theorem zP{pp:Nat}(h:cV s.heap it a (.ref tp) i es.size ep)(ha:s.heap.get? a=Zz o)(hd:o.data=.set es ep t)(hf:t.fits es.size=true)(htp:s.heap.IsTuple tp pl)(hp:pl[i]?=Zz (.int pp 0))(he:es[pp]?=Zz e)(q:∀h',cV h' it a (.ref tp) (i+1) es.size ep->Te it s.heap h'->Q (Zz e.2) { s with heap:=h' }):RF (Rp prog w) A (pyNext (.ref it)) Q E s:=by
 obtain⟨oi,d,hci,b⟩:=id h;obtain⟨ot,hot,_,nt,hdt⟩:=htp;unfold pyNext;refine R0 (Tp (S8 h.typeIs PySem.F.aL (SQ PySem.F.aL h.typeIs PySem.F.bv ?_ (PySem.F.bu _))));unfold Builtin.«set_iterator.__next__» WA;simp only[TP,UA,Rk,↓reduceIte,bind_assoc,Rz,bne_self_eq_false];refine R0 (R3 ?_);refine R0 (UJ d b ?_);refine R0 (So ha hd hf ?_);simp only[bne_self_eq_false,Rk,↓reduceIte];refine R0 (TG hot hdt ?_);simp only[Sq,hp];refine R0 ?_;unfold setNextDrawn;refine R0 (Sp ha hd hf ?_);simp only[bne_self_eq_false,Rk,↓reduceIte,he];refine R3 ?_;refine R0 (SX d b (by simp) (R3 ⟨_,rfl,R3 (q _ ⟨_,S5 _ d (Sr (S3 b _)),(V2 ..).trans hci,?_⟩ (SA ..))⟩));rw[S3 b];simp[rawInt]
theorem d5(h:Q (M.w.params.followText "set-order") s):RF M A setsByText Q E s:=by
 unfold setsByText;exact R0 (UT (R3 h))
theorem rx{Q:R4->RA->Prop}(h:cV s.heap it a f0 i n ep)(q:∀h',cV h' it a c (i+1) n ep->Te it s.heap h'->Q v { s with heap:=h' }):
  RF (Rp prog w) A (do Xn (.ref it) 0 c;Xn (.ref it) 1 (rawInt ((i:Int)+1));ret v) (λfin s'=>∃r,fin=.done (.ret r)/\Q r s') E s:=by
 obtain⟨oi,hoi,hci,d⟩:=id h;refine R0 (SX hoi d (by simp) ?_);have h1:(s.heap.update it (Tq λx=>x.setIfInBounds 0 c)).get? it=Zz (Tq (λx=>x.setIfInBounds 0 c) oi):=S5 _ hoi (Sr (S3 d _));have e:(Tq (λx=>x.setIfInBounds 0 c) oi).data=.fields #[c,.int i 0,.ref a,.int n 0,.int ep 0]:=by rw[S3 d];simp
 refine R0 (SX h1 e (by simp) (R3 ⟨_,rfl,q _ ⟨_,S5 _ h1 (Sr (S3 e _)),(V2 ..).trans ((V2 ..).trans hci),?_⟩ ((SA ..).trans (SA ..))⟩));rw[S3 e];simp[rawInt]
theorem CI{i sl:Nat}(hb:w.params.followText "set-order" = true)(h:cV s.heap it a (.int sl 0) i d.size ep)(ha:s.heap.get? a=Zz o)(hd:o.data=.set d ep t)(hf:t.fits d.size=true)(he:(Uu (w.params.setOrder a ep) d)[i]?=Zz e)(q:∀h',cV h' it a (.int sl 0) (i+1) d.size ep->Te it s.heap h'->Q (Zz e.2) { s with heap:=h' }):RF (Rp prog w) A (pyNext (.ref it)) Q E s:=by
 obtain⟨oi,hoi,hci,hdi⟩:=id h;unfold pyNext;refine R0 (Tp (S8 h.typeIs PySem.F.aL (SQ PySem.F.aL h.typeIs PySem.F.bv ?_ (PySem.F.bu _))));unfold Builtin.«set_iterator.__next__» WA;simp only[TP,UA,Rk,↓reduceIte,bind_assoc,Rz,bne_self_eq_false];refine R0 (R3 ?_);refine R0 (UJ hoi hdi ?_);refine R0 (So ha hd hf ?_);simp only[bne_self_eq_false,Rk,↓reduceIte];refine R0 ?_;unfold Xe;refine R0 (Sp ha hd hf ?_);refine R0 (d5 ?_);show RF _ _ (if w.params.followText "set-order" = true then _ else _) _ _ _;rw[Xy hb];simp only[Sq,bne_self_eq_false,Rk,↓reduceIte];refine R0 ?_;unfold setWalk;refine R0 (Sp ha hd hf ?_);refine R0 (d5 ?_);show RF _ _ (if w.params.followText "set-order" = true then _ else _) _ _ _;rw[Xy hb];refine R0 (UT (R3 ?_));refine R3 ?_;show RF _ _ (match((Uu (w.params.setOrder a ep) d)[i]?).map λe=>(e.2,sl)with
  |some (x,next)=>_
  |none=>_) _ _ _
 rw[he];exact rx h λh' h1 h2=>R3 (q h' h1 h2)
theorem JG(j:Nat):TH #[j] 0=0:=by simp[TH,SetTable.below.go]
theorem JE(j:Nat):TH #[j] (j+1)=1:=by simp[TH,SetTable.below.go]
theorem lO{α:Type}{Q:α->RA->Prop}(d:A.handled=Zy)(q:∀g e,(∀c o,s.heap.get? c=Zz o->g.get? c=Zz o)->(∃o,g.get? e=Zz o/\o.cls=.type "StopIteration")->E (.ref e) { s with heap:=g }):RF (Rp prog w) A (newExc (.type "StopIteration") [] >>= λe=>(Xo e:Sem α)) Q E s:=by
 refine R0 ?_;simp only[newExc,newTuple];refine R0 (SF ?_ (by size_fits));refine R0 (WY (by first|rfl|(simp only[firstArgMember];rfl)) (SF ?_ (by size_fits)));simp only[Xo];refine R0 (wpAny_handled ?_);rw[d];exact R0 (R3 (wpAny_throw (q _ _ (λc o e=>R9 _ (R9 _ e)) ⟨_,RM _ rfl,rfl⟩)))
theorem D7(hb:w.params.followText "set-order" = false)(d:t.led=true)(hpl:t.place=#[j])(h:cV s.heap it a (.int 0 0) 0 1 ep)(ha:s.heap.get? a=Zz o)(hd:o.data=.set #[e] ep t)(hf:t.fits 1=true)(q:∀h',cV h' it a (.int (j+1:Nat) 0) 1 1 ep->Te it s.heap h'->Q (Zz e.2) { s with heap:=h' }):RF (Rp prog w) A (pyNext (.ref it)) Q E s:=by
 obtain⟨oi,hoi,hci,hdi⟩:=id h;unfold pyNext;refine R0 (Tp (S8 h.typeIs PySem.F.aL (SQ PySem.F.aL h.typeIs PySem.F.bv ?_ (PySem.F.bu _))));unfold Builtin.«set_iterator.__next__» WA;simp only[TP,UA,Rk,↓reduceIte,bind_assoc,Rz,bne_self_eq_false];refine R0 (R3 ?_);refine R0 (UJ hoi hdi ?_);refine R0 (So ha hd hf ?_);rw[Xz (by simp)];refine R0 ?_;unfold Xe;refine R0 (Sp ha hd hf ?_);refine R0 (d5 ?_);show RF _ _ (if w.params.followText "set-order" = true then _ else _) _ _ _;rw[Xz (by rw[hb];decide)];split
 ·rename_i b
  have b:(!t.plain&&decide (1>1))=true:=b;simp at b
 ·refine R0 ?_
  show RF _ _ (if(!t.led&&!(#[e]:Array (Int×R4)).isEmpty)=true then _ else _) _ _ _;rw[Xz (by rw[d];simp)];refine R3 ?_;rw[hpl];show RF _ _ (pure (match(#[e]:Array (Int×R4))[TH #[j] 0]?,(#[j]:Array Nat)[TH #[j] 0]? with
   |some (_,x),Zz j=>Zz (x,j+1)
   |_,_=>Zy)) _ _ _
  rw[JG];refine R3 ?_;exact rx h λh' h1 h2=>R3 (q h' h1 h2)
theorem pw(hA:A.handled=Zy)(h:cV s.heap it a f0 i n ep)(b:∀{Q':Fin->RA->Prop}{E':R4->RA->Prop},(∀g e,Uv it s.heap g->(∃o,g.get? e=Zz o/\o.cls=.type "StopIteration")->E' (.ref e) { s with heap:=g })->RF (Rp prog w) A.in1 (Builtin.«set_iterator.__next__» ⟨[.ref it],[]⟩) Q' E' s)(q:∀g,Uv it s.heap g->Q Zy { s with heap:=g }):RF (Rp prog w) A (pyNext (.ref it)) Q E s:=by
 unfold pyNext;refine R0 (Tp (S8 h.typeIs PySem.F.aL (SQ PySem.F.aL h.typeIs PySem.F.bv (b λg e k he=>?_) (PySem.F.bu _))));obtain⟨o,ho,hc⟩:=he;exact R0 (WB ⟨o,ho,hc⟩ isSubtype_stop (R3 (q g k)))
theorem Cf(hA:A.handled=Zy)(h:cV s.heap it a (.ref tp) i es.size ep)(ha:s.heap.get? a=Zz o)(hd:o.data=.set es ep t)(hf:t.fits es.size=true)(htp:s.heap.IsTuple tp pl)(hp:pl[i]?=Zy)(q:∀g,Uv it s.heap g->Q Zy { s with heap:=g }):RF (Rp prog w) A (pyNext (.ref it)) Q E s:=by
 refine pw hA h (λ{Q' E'} r=>?_) q;obtain⟨oi,hoi,hci,hdi⟩:=id h;obtain⟨ot,hot,_,nt,hdt⟩:=htp;unfold Builtin.«set_iterator.__next__» WA;simp only[TP,UA,Rk,↓reduceIte,bind_assoc,Rz,bne_self_eq_false];refine R0 (R3 ?_);refine R0 (UJ hoi hdi ?_);refine R0 (So ha hd hf ?_);simp only[bne_self_eq_false,Rk,↓reduceIte];refine R0 (TG hot hdt ?_);simp only[Sq,hp];refine R0 (SX hoi hdi (by simp) ?_);have h1:(s.heap.update it (Tq λx=>x.setIfInBounds 0 (rawInt 0))).get? it=Zz (Tq (λx=>x.setIfInBounds 0 (rawInt 0)) oi):=S5 _ hoi (Sr (S3 hdi _));have hd1:(Tq (λx=>x.setIfInBounds 0 (rawInt 0)) oi).data=.fields #[rawInt 0,.int i 0,.ref a,.int es.size 0,.int ep 0]:=by rw[S3 hdi];simp
 refine R0 (SX h1 hd1 (by simp) (lO (by simp[hA]) λg e k he=>r g e (λc o n x=>?_) he));exact k c o (((SA ..).trans (SA ..)).extBut c o n x)
theorem FT{i u:Nat}(hA:A.handled=Zy)(hb:w.params.followText "set-order" = true)(h:cV s.heap it a (.int u 0) i es.size ep)(p:s.heap.get? a=Zz o)(m:o.data=.set es ep t)(j:t.fits es.size=true)(l:(Uu (w.params.setOrder a ep) es)[i]?=Zy)(q:∀g,Uv it s.heap g->Q Zy { s with heap:=g }):RF (Rp prog w) A (pyNext (.ref it)) Q E s:=by
 refine pw hA h (λ{Q' E'} r=>?_) q;obtain⟨oi,b,hci,d⟩:=id h;unfold Builtin.«set_iterator.__next__» WA;simp only[TP,UA,Rk,↓reduceIte,bind_assoc,Rz,bne_self_eq_false];refine R0 (R3 ?_);refine R0 (UJ b d ?_);refine R0 (So p m j ?_);simp only[bne_self_eq_false,Rk,↓reduceIte];refine R0 ?_;unfold Xe;refine R0 (Sp p m j ?_);refine R0 (d5 ?_);show RF _ _ (if w.params.followText "set-order" = true then _ else _) _ _ _;rw[Xy hb];simp only[Sq,bne_self_eq_false,Rk,↓reduceIte];refine R0 ?_;unfold setWalk;refine R0 (Sp p m j ?_);refine R0 (d5 ?_);show RF _ _ (if w.params.followText "set-order" = true then _ else _) _ _ _;rw[Xy hb];refine R0 (UT (R3 ?_));refine R3 ?_;show RF _ _ (match((Uu (w.params.setOrder a ep) es)[i]?).map λe=>(e.2,u)with
  |some (x,next)=>_
  |none=>_) _ _ _
 rw[l];refine R0 (SX b d (by simp) (lO (by simp[hA]) λg e k l=>r g e (λc o n x=>?_) l));exact k c o ((SA ..).extBut c o n x)
theorem G2{i sl:Nat}(hA:A.handled=Zy)(hb:w.params.followText "set-order" = false)(f:t.led=true)(h:cV s.heap it a (.int sl 0) i es.size ep)(ha:s.heap.get? a=Zz o)(hd:o.data=.set es ep t)(hf:t.fits es.size=true)(hs:es.size<=1)(he:es[TH t.place sl]?=Zy)(q:∀g,Uv it s.heap g->Q Zy { s with heap:=g }):RF (Rp prog w) A (pyNext (.ref it)) Q E s:=by
 refine pw hA h (λ{Q' E'} r=>?_) q;obtain⟨oi,d,hci,l⟩:=id h;unfold Builtin.«set_iterator.__next__» WA;simp only[TP,UA,Rk,↓reduceIte,bind_assoc,Rz,bne_self_eq_false];refine R0 (R3 ?_);refine R0 (UJ d l ?_);refine R0 (So ha hd hf ?_);simp only[bne_self_eq_false,Rk,↓reduceIte];refine R0 ?_;unfold Xe;refine R0 (Sp ha hd hf ?_);refine R0 (d5 ?_);show RF _ _ (if w.params.followText "set-order" = true then _ else _) _ _ _;rw[Xz (by rw[hb];decide)];split
 ·rename_i b
  have b:(!t.plain&&decide (es.size>1))=true:=b;simp at b;omega
 ·refine R0 ?_
  show RF _ _ (if(!t.led&&!es.isEmpty)=true then _ else _) _ _ _;rw[Xz (by rw[f];simp)];refine R3 ?_;show RF _ _ (pure (match es[TH t.place sl]?,t.place[TH t.place sl]? with
   |some (_,x),Zz j=>Zz (x,j+1)
   |_,_=>Zy)) _ _ _
  rw[he];refine R3 ?_;refine R0 (SX d l (by simp) (lO (by simp[hA]) λg e k he=>r g e (λc o n x=>?_) he));exact k c o ((SA ..).extBut c o n x)
end
end Mi
namespace PySem.F
theorem dJ:Slot "set_iterator" "__iter__" "set_iterator.__iter__" :=
 .of (owner:="set_iterator") (n:="__iter__") (by rw[typeLookup_type,builtinLookup_eq_fast];kernel_rfl) (by decide +kernel) (by decide +kernel) (by decide +kernel)
  (by first|exact .inl (by decide +kernel)|exact .inr (by decide +kernel)) (by rw[WZ];kernel_rfl)
theorem iB:Xm table "set_iterator.__iter__" = Zz Builtin.«dict_keyiterator.__iter__»:=entryFor_alias (id':="dict_keyiterator.__iter__") (by kernel_rfl) rfl (by decide +kernel) (by kernel_rfl)
theorem iq(a:R4):argsOk "set_iterator.__iter__" ⟨[a],[]⟩:=by
 unfold argsOk;rw[signature?_of (n:=['_','_','r','e','t','i','_','_']) (by kernel_rfl) iO];kernel_rfl
end PySem.F
namespace Mi
open PySem PySem.Spec PyProof.Rows L2
section
variable{prog:Sf}{w:TB}{A:Sb}{E:R4->RA->Prop}{s:RA}
theorem cV.at'(x:cV h it a f0 i n ep)(k:∀o,h.get? it=Zz o->h'.get? it=Zz o):cV h' it a f0 i n ep:=let⟨o,b,r⟩:=x;⟨o,k o b,r⟩
inductive mZ (w:TB) (h:Rq) (it a tp:RC) (vs:List R4) (i:Nat):Prop where
 |drawn {o:Obj}{es:Array (Int×R4)}{ep:Nat}{t:U6}{pl:Array R4}:cV h it a (.ref tp) i es.size ep->h.get? a=Zz o->o.data=.set es ep t->t.fits es.size=true->h.IsTuple tp pl ->
  (∀(k:Nat) v,vs[k]?=Zz v->∃(pp:Nat) (e:Int×R4),pl[k]?=Zz (.int pp 0)/\es[pp]?=Zz e/\e.2=v)->pl.size=vs.length->mZ w h it a tp vs i
 |text {o:Obj}{es:Array (Int×R4)}{ep:Nat}{t:U6}:w.params.followText "set-order" = true->cV h it a (.int (0:Nat) 0) i es.size ep->h.get? a=Zz o->o.data=.set es ep t->t.fits es.size=true ->
  vs=(Uu (w.params.setOrder a ep) es).toList.map (·.2)->mZ w h it a tp vs i
 |few {o:Obj}{es:Array (Int×R4)}{ep:Nat}{t:U6}{sl:Nat}:w.params.followText "set-order" = false->t.led=true->cV h it a (.int sl 0) i es.size ep->h.get? a=Zz o->o.data=.set es ep t->t.fits es.size=true->es.size<=1 ->
  vs=es.toList.map (·.2)->(i=0/\sl=0∨i=1/\es.size=1/\∃j,t.place=#[j]/\sl=j+1)->mZ w h it a tp vs i
theorem mZ.at'(x:mZ w h it a tp vs i)(k:∀b∈[it,a,tp],∀o,h.get? b=Zz o->h'.get? b=Zz o):mZ w h' it a tp vs i:=by
 cases x with
 |drawn g f e d c l j=>exact .drawn (g.at' (k it (by simp))) (k a (by simp) _ f) e d (let⟨o,ho,r⟩:=c;⟨o,k tp (by simp) o ho,r⟩) l j
 |text m g f e d c=>exact .text m (g.at' (k it (by simp))) (k a (by simp) _ f) e d c
 |few m hl g f e d c l j=>exact .few m hl (g.at' (k it (by simp))) (k a (by simp) _ f) e d c l j
theorem CN{t:U6}(h:t.fits 1=true):∃j,t.place=#[j]:=by
 unfold SetTable.fits at h;simp only[R6,beq_iff_eq]at h;have a:=h.1;rcases b:t.place with⟨l⟩
 rw[b]at a
 match l,a with
 |[j],_=>exact⟨j,rfl⟩
theorem Hh{α:Type}{es:Array α}(h:es.size=1):∃e,es=#[e]:=by
 rcases es with⟨l⟩
 match l,h with
 |[e],_=>exact⟨e,rfl⟩
theorem C2(hA:A.handled=Zy):Walks prog w A it [it,a,tp] [it] vs.length (λi v=>vs[i]?=Zz v) (λi h=>mZ w h it a tp vs i/\a≠it/\tp≠it) where
 sub:=λb hb=>by simp at hb;simp[hb]
 frame:=λ_ _ _ u hk=>⟨u.1.at' hk,u.2⟩
 item:=λi s Q E hi u hQ=>by
  obtain⟨u,na,nt⟩:=u;have hv:=RZ hi;cases u with
  |drawn c m f d p h6 h7 =>
   obtain⟨pp,e,q1,q2,q3⟩:=h6 i _ hv;refine zP c m f d p q1 q2 λh' r hs=>?_
   rw[q3];obtain⟨ot,hot,rt⟩:=p;exact hQ _ h' s.toks hv ⟨.drawn r (hs.extBut _ _ na m) f d ⟨ot,hs.extBut _ _ nt hot,rt⟩ h6 h7,na,nt⟩ λb o hb e=>hs.extBut b o (λh=>hb (by simp[h])) e
  |@text o y ep t h0 c m f d p =>
   have he:∃e,(Uu (w.params.setOrder a ep) y)[i]?=Zz e/\e.2=vs[i]:=by
    have n:=hv;generalize hx:vs[i]=x at n ⊢;rw[p,Rv,SN]at n;cases q:(Uu (w.params.setOrder a ep) y)[i]? with
    |none=>rw[q]at n;cases n
    |some e=>rw[q]at n;exact⟨e,rfl,T6 n⟩
   obtain⟨e,he,hev⟩:=he;refine CI h0 c m f d he λh' r hs=>?_
   rw[hev];exact hQ _ h' s.toks hv ⟨.text h0 r (hs.extBut _ _ na m) f d p,na,nt⟩ λb o hb e=>hs.extBut b o (λh=>hb (by simp[h])) e
  |@few o y ep t sl h0 hl c m f d p h6 h7 =>
   have hsz:vs.length=y.size:=by rw[h6,R2,RK]
   have e1:y.size=1:=by omega
   rcases h7 with⟨rfl,rfl⟩|⟨rfl,_⟩
   ·obtain⟨e,rfl⟩:=Hh e1
    obtain⟨j,hj⟩:=CN d;refine D7 h0 hl hj c m f d λh' r hs=>?_
    have hve:e.2=vs[0]:=by simp[h6]
    rw[hve];exact hQ _ h' s.toks hv ⟨.few h0 hl r (hs.extBut _ _ na m) f d p h6 (.inr ⟨rfl,rfl,j,hj,rfl⟩),na,nt⟩ λb o hb e=>hs.extBut b o (λh=>hb (by simp[h])) e
   ·omega
 done:=λs Q E u hQ=>by
  obtain⟨u,na,nt⟩:=u;have fin:∀g,Uv it s.heap g->Q Zy { s with heap:=g }:=λg k=>hQ g s.toks λb o hb e=>k b o (λh=>hb (by simp[h])) e
  cases u with
  |drawn c m f d p h6 h7=>exact Cf hA c m f d p (by rw[<-h7];simp) fin
  |@text o y ep t h0 c m f d p=>exact FT hA h0 c m f d (by rw[p];simp) fin
  |@few o y ep t sl h0 hl c m f d p h6 h7 =>
   have hsz:vs.length=y.size:=by rw[h6,R2,RK]
   refine G2 hA h0 hl c m f d p ?_ fin;rcases h7 with⟨h8,rfl⟩|⟨h8,h9,j,hj,rfl⟩
   ·have:y.size=0:=by omega
    simp[this]
   ·rw[hj,JE]
    simp[h9]
 self:=λi s Q E u h=>by
  have hT:s.TypeIs (.ref it) "set_iterator":=by
   cases u.1 with
   |drawn c=>exact c.typeIs
   |text _ c=>exact c.typeIs
   |few _ _ c=>exact c.typeIs
  refine wpAny_pyIter_slot hT PySem.F.dJ (SQ PySem.F.dJ hT PySem.F.iB ?_ (PySem.F.iq _));exact R3 ⟨_,rfl,"set_iterator",_,hT,PySem.F.aL.lookup,h⟩
def qB(vs:List R4)(D:List Str):Prop:=(∀v∈vs,∃x t,v=.str x t)/\(vs.map strOf).Perm D
theorem rF(b:Lb prog w led o D es ep t){l:List (Int×R4)}(a:l.Perm es.toList):qB (l.map (·.2)) D:=by
 constructor
 ·intro v c
  obtain⟨e,g,rfl⟩:=Rg.mp c;obtain⟨⟨k,f,_⟩,_⟩:=b.el e (a.mem_iff.mp g);obtain⟨u,d⟩:=VZ f;exact⟨k,u,d⟩
 ·rw[Sh]
  exact(a.map (strOf ∘ λe:Int×R4=>e.2)).trans b.KO
theorem range_list:∀l:List (Int×R4),(Sc l.length).filterMap (λp=>l[p]?)=l
 |[]=>rfl
 |x::l=>by
  rw[RI,List.range_succ_eq_map,List.filterMap_cons,List.filterMap_map];show x::(Sc l.length).filterMap (λp=>l[p]?)=_;rw[range_list l]
theorem zM(a:Array (Int×R4)):((Sc a.size).filterMap λp=>a[p]?)=a.toList:=by
 have:=range_list a.toList;rw[RK]at this;simpa only[SN]using this
theorem vX{b:Array (Int×R4)}:∀{ys:List Nat},(∀p∈ys,p<b.size)->(ys.filterMap λp=>b[p]?)=ys.map λp=>b[p]?.getD (0,.none)
 |[],_=>rfl
 |p::ys,h=>by
  have a:=h p RD;rw[List.filterMap_cons,RQ,vX λq c=>h q (R5 _ c)];simp[a]
theorem F3(hS:ng prog w (eU w) s.heap a D)(h:∀(h':Rq) d it n vs,mZ w h' it a n vs 0->a≠it->n≠it->qB vs D->s.heap.objs.size<=it->(n=a∨s.heap.objs.size<=n)->n<h'.objs.size->it<h'.objs.size->(∀b o,s.heap.get? b=Zz o->h'.get? b=Zz o)->Q (.ref it) { s with heap:=h',drawn:=d }):
  RF (Rp prog w) A (pyIter (.ref a)) Q E s:=by
 obtain⟨o,l,ep,t,ha,g⟩:=hS;have hT:s.TypeIs (.ref a) "set":=⟨o,ha,g.ex.1⟩
 have hal:=Rj ha;refine wpAny_pyIter_slot hT PySem.F.slot_set_iter (SQ PySem.F.slot_set_iter hT PySem.F.lf ?_ (PySem.F.args_set_iter_1 _));unfold Builtin.«frozenset.__iter__» Builtin.Frozenset.slot0 WA;simp only[TP,UA,Rk,↓reduceIte,bind_assoc,Rz,bne_self_eq_false];unfold Builtin.Frozenset.addrOf Builtin.Frozenset.sizeOf;refine R0 (R3 ?_)
 first
  |refine R0 (R0 (So ha g.data g.fits (R3 ?_)))
  |(refine R0 (R3 ?_);refine R0 (R0 (So ha g.data g.fits (R3 ?_))))
 refine R0 ?_;unfold setDrawn;refine R0 (Sp ha g.data g.fits ?_);refine R0 (d5 ?_);refine R3 ?_
 -- what is m at the end
 have m:∀(u:Rq) (d:_) (first:R4),(∀b o,s.heap.get? b=Zz o->u.get? b=Zz o)->s.heap.objs.size<=u.objs.size->(∀h':Rq,(∀b o,u.get? b=Zz o->h'.get? b=Zz o)->h'.objs.size=u.objs.size+1->cV h' u.objs.size a first 0 l.size ep->∃n vs,mZ w h' u.objs.size a n vs 0/\n≠u.objs.size/\qB vs D/\(n=a∨s.heap.objs.size<=n)/\n<h'.objs.size) ->
   RF (Rp prog w) A.in1 (do
    let e <-setEpoch a
    let r <-newFields "set_iterator" [first,rawInt 0,.ref a,rawInt l.size,rawInt e]
    ret r) (λfin s'=>∃v,fin=.done (.ret v)/\∃T' r,s'.TypeIs v T'/\WO (.type T') "__next__" = pure (Zz r)/\Q v s') E { s with heap:=u,drawn:=d }:=λu d first k1 z1 mk=>by
  refine R0 (wpAny_setEpoch_of (k1 _ _ ha) g.data g.fits ?_);refine R0 (SF (R3 ⟨_,rfl,"set_iterator",_,⟨_,RM _ rfl,rfl⟩,PySem.F.aL.lookup,?_⟩));have hz:(u.push { cls:=.type "set_iterator",data:=.fields [first,rawInt 0,.ref a,rawInt l.size,rawInt ep].toArray }).objs.size=u.objs.size+1:=Rw ..;obtain⟨n,vs,q1,q2,q3,q4,q5⟩:=mk (u.push { cls:=.type "set_iterator",data:=.fields [first,rawInt 0,.ref a,rawInt l.size,rawInt ep].toArray }) (λb o e=>R9 _ e) hz ⟨_,RM _ rfl,rfl,rfl⟩;exact h _ d u.objs.size n vs q1 (SO (T8 hal z1)) q2 q3 z1 q4 q5 (by rw[hz];exact Ts _) λb o e=>R9 _ (k1 b o e)
 cases hb:w.params.followText "set-order" with
 |true =>
  rw[Xz (by show ¬((!(w.params.followText "set-order")&&_)=true);rw[hb];simp)];refine R0 (R3 ?_);refine m s.heap s.drawn (rawInt 0) (λ_ _ e=>e) (RU _) λh' k hz r=>?_
  exact⟨a,_,.text hb r (k _ _ ha) g.data g.fits rfl,SO hal,rF g (picked _ _),.inl rfl,by rw[hz];exact Sx hal⟩
 |false =>
  by_cases h2:l.size<=1
  ·rw[Xz (by
    show ¬((!(w.params.followText "set-order")&&(!t.plain&&decide (l.size>1)))=true);simp
    intros
    omega)]
   refine R0 (R3 ?_);refine m s.heap s.drawn (rawInt 0) (λ_ _ e=>e) (RU _) λh' k hz r=>?_
   exact⟨a,_,.few hb (by rw[g.led];simp[hb]) (r) (k _ _ ha) g.data g.fits h2 rfl (.inl ⟨rfl,rfl⟩),SO hal,rF g (.refl _),.inl rfl,by rw[hz];exact Sx hal⟩
  ·have hpl:=g.plain (by omega)
   rw[Xy (by
    show(!(w.params.followText "set-order")&&(!t.plain&&decide (l.size>1)))=true;rw[hb,hpl];simp;omega)]
   refine R0 (pE l.size (Sc l.size) UC λys d hp=>?_);refine R0 (wpAny_newTuple ?_ (by rw[R2,hp.length_eq,UC];exact Vx g.room));have hz1:(s.heap.push { cls:=.type "tuple",data:=.seq (ys.map λ(i:Nat)=>rawInt i).toArray }).objs.size=s.heap.objs.size+1:=Rw ..;refine m (s.heap.push { cls:=.type "tuple",data:=.seq (ys.map λ(i:Nat)=>rawInt i).toArray }) d (.ref s.heap.objs.size) (λb o e=>R9 _ e) (by omega) λh' k hz r=>?_
   have hys:∀p∈ys,p<l.size:=λp hm=>Wa.mp (hp.mem_iff.mp hm)
   have hvs:(ys.filterMap λp=>l[p]?).Perm l.toList:=by
    rw[<-zM l];exact hp.filterMap _
   refine⟨s.heap.objs.size,(ys.filterMap λp=>l[p]?).map (·.2),.drawn r (k _ _ (R9 _ ha)) g.data g.fits ⟨_,k _ _ (RM _ rfl),rfl,_,rfl⟩ ?_ ?_,by rw[hz1];exact SO (Ts _),rF g hvs,.inr (RU _),by rw[hz,hz1];exact Sx (Ts _)⟩
   ·have e:=vX hys
    intro j v hv;rw[e,Sh,Rv]at hv;cases q:ys[j]? with
    |none=>rw[q]at hv;cases hv
    |some p =>
     rw[q]at hv;have hlt:=hys p (SG q);refine⟨p,l[p],?_,by simp[hlt],?_⟩
     ·simp[q,rawInt]
     ·have:=T6 hv
      simpa[hlt]using this
   ·rw[vX hys]
    simp only[SS,R2]
theorem yb(hA:A.handled=Zy)(hS:ng prog w (eU w) s.heap a D)(hz:D.length<=1000)(q:∀h' tk d vs,qB vs D->(∀b o,s.heap.get? b=Zz o->h'.get? b=Zz o)->s.toks<=tk->s.heap.objs.size<h'.objs.size->Q vs { s with heap:=h',toks:=tk,drawn:=d }):RF (Rp prog w) A (collect (.ref a)) Q E s:=by
 obtain⟨o,es,ep,t,ha,hE⟩:=id hS;have hal:=Rj ha;have hsz:D.length<=Ri:=by rw[Sv];omega
 unfold collect;refine R0 (wpAny_runValue (U8 PySem.F.entry_proto_collect ?_));rw[Tf PySem.F.plain_proto_collect _];refine R0 (SF ?_);refine R3 ⟨W5 PySem.F.plain_list_iadd _,U8 PySem.F.entry_list_iadd ?_⟩;rw[Tf PySem.F.plain_list_iadd _];have hS₁:ng prog w (eU w) (s.heap.push { cls:=.type "list",data:=.seq ([]:List R4).toArray }) a D:=hS.at' λo e=>R9 _ e
 have hL₁:(s.heap.push { cls:=.type "list",data:=.seq ([]:List R4).toArray }).get? s.heap.objs.size=Zz { cls:=.type "list",data:=.seq ([]:List R4).toArray }:=RM _ rfl;have ha₁:(s.heap.push { cls:=.type "list",data:=.seq ([]:List R4).toArray }).get? a=Zz o:=R9 _ ha;have hne:=WM hal;have h1:Builtin.List.listSameRef (.ref s.heap.objs.size) (.ref a)=false:=by simp[Builtin.List.listSameRef,hne]
 show RF _ A.in1 (Builtin.List.listExtendWith (.ref s.heap.objs.size) (.ref a) (.ref s.heap.objs.size)) _ _ _;unfold Builtin.List.listExtendWith;have hT:Wn { s with heap:=s.heap.push { cls:=.type "list",data:=.seq ([]:List R4).toArray } } (.ref a) "set":=⟨o,ha₁,hE.ex.1⟩
 refine R0 (WP hT ?_);rw[Xz (by rw[h1];decide)];refine R0 (F3 hS₁ λh' d it tp vs st na nt tx l1 l2 l3 l4 k=>?_);have hT':Wn { s with heap:=h',drawn:=d } (.ref a) "set":=⟨o,k _ _ ha₁,hE.ex.1⟩
 refine R0 (SZ ?_);unfold Builtin.List.listLengthHint;refine R0 (wpAny_specialOf hT' PySem.F.slot_set_len.lookup ?_);generalize hid:("set.__len__" : String)=id0
 wp_delta
 rw[show splitId id0=Zz ("set","__len__")from by subst hid;decide +kernel];subst hid;refine R0 (WB (b:=true) hT' (by rw[WZ];kernel_rfl) ?_);refine R0 (WP hT' ?_);refine R3 ?_;rw[Xy (by rfl)];refine R0 (UG ?_);have hL':=k _ _ hL₁;refine R0 ?_;unfold Builtin.List.listTouch;refine R0 (listUpdate_at hL' rfl ?_ (by simp) (by simp[Sv]));have hL2:=get?_update_seq hL' (λxs=>xs.push UK);refine listUpdate_at hL2 rfl ?_ (by simp[Sv]) (by simp[Sv]);have hL3:=get?_update_seq hL2 (λxs=>xs.pop);have hse:((#[]:Array R4).push UK).pop=#[]:=by simp
 rw[hse]at hL3;have hSf:s.heap.objs.size∉[it,a,tp]:=by
  have z:(s.heap.push { cls:=.type "list",data:=.seq ([]:List R4).toArray }).objs.size=s.heap.objs.size+1:=Rw ..;have l1':=z▸l1;simp only[R7,R8,or_false,not_or];refine⟨SO l1',hne,?_⟩;rcases l2 with rfl|l2
  ·exact hne
  ·have l2':=z▸l2
   exact SO l2'
 have hot:∀b∈[it,a,tp],∀o,h'.get? b=Zz o->((h'.update s.heap.objs.size (U0 λxs=>xs.push UK)).update s.heap.objs.size (U0 λxs=>xs.pop)).get? b=Zz o:=λb hb o e=>by
  have nb:s.heap.objs.size≠b:=λz=>hSf (by rw[z];exact hb)
  rw[SH _ _ nb,SH _ _ nb];exact e
 have hvl:vs.length=D.length:=by rw[<-tx.2.length_eq,R2]
 refine R3 ⟨W5 PySem.F.plain_extend_loop _,codeAny_extend_loopS ((C2 (by simp[hA])).toS) (by omega) _ hSf _ vs.length 0 _ _ _ rfl (Ut _) ⟨st.at' hot,na,nt⟩ hL3 (ItemsOf.nil _) λs' acc' c' hm hS' hacc=>?_⟩;refine R0 (wpAny_load hS' ?_);have hacc':acc'.toList=vs:=by
  obtain⟨h1,h2⟩:=hacc;refine List.ext_getElem? λj=>?_
  rw[SN];cases qj:acc'[j]? with
  |some v=>rw[h2 j v qj]
  |none =>
   rw[TX];have:=UL.mp qj;omega
 obtain⟨hh,g',d',tk',os'⟩:=s';have eg:g'=s.gens:=hm.gens;have ed:d'=d:=hm.drawn;have eo:os'=s.os:=hm.os;subst eg;subst ed;subst eo;refine R3 ?_;show Q acc'.toList _;rw[hacc'];refine q hh tk' d' vs tx (λb o e=>?_) hm.toks (Rj hS');have nb:s.heap.objs.size≠b:=WM (Rj e);have nit:b≠it:=λz=>by
  have z1:(s.heap.push { cls:=.type "list",data:=.seq ([]:List R4).toArray }).objs.size=s.heap.objs.size+1:=Rw ..;have l1':s.heap.objs.size+1<=it:=z1▸l1;have:=Rj e;rw[z]at this;exact Y3 (T8 this (Nat.le_of_succ_le l1')) (SI _)
 refine hm.heap b o (by simp only[R7,R8,or_false,not_or];exact⟨λz=>nb z.symm,nit⟩) ?_;show((h'.update s.heap.objs.size (U0 λxs=>xs.push UK)).update s.heap.objs.size (U0 λxs=>xs.pop)).get? b=Zz o;rw[SH _ _ nb,SH _ _ nb];exact k b o (R9 _ e)
theorem AJ(hA:A.handled=Zy)(hS:ng prog w (eU w) s.heap a D)(hz:D.length<64)(q:∀h' tk d l out ss' e,Xf out ss'->ss'.Perm D->sortedS ss'=true->h'.get? l=Zz (seqObj "list" out.toArray e)->s.heap.objs.size<=l->(∀b o,s.heap.get? b=Zz o->h'.get? b=Zz o)->s.toks<=tk->Q (.ref l) { s with heap:=h',toks:=tk,drawn:=d }):
  RF (Rp prog w) A (T7 (.builtin "sorted") [.ref a]) Q E s:=by
 refine Calls.call_function_entry kind_sorted plain_sorted entry_sorted (args_sorted1 _) ?_
 unfold Builtin.«sorted»;refine R0 (R3 ?_);refine R0 (yb (by simp[hA]) hS (by omega) λh' tk d vs tx k ht hlt=>?_);have hvl:vs.length=D.length:=by rw[<-tx.2.length_eq,R2]
 refine R0 (wpAny_newList ?_ (by rw[Sv];omega));have hoL:(h'.push (seqObj "list" vs.toArray 0)).get? h'.objs.size=Zz (seqObj "list" vs.toArray 0):=RM _ rfl;have hStr:=strsAre_map vs tx.1;refine R0 (SZ (SQ slot_list_sort ⟨_,hoL,rfl⟩ entry_list_sort (list_sort_treeK strKind_oneLt hoL hStr.keysOf (λv₁ v₂ rest e=>keyKind_strs (by rw[<-e];exact hStr)) (by omega) λst' a1 a2=>⟨_,rfl,?_⟩) (args_list_sort _)));obtain⟨ss',b1,b2,b3⟩:=sorted_out_str hStr a1 a2;obtain⟨e,he⟩:=sortedHeap_at hoL;refine R3 ⟨_,rfl,q _ tk d h'.objs.size ((arrOf st').map (·.2)).toList ss' e b1 (b2.trans tx.2) b3 he (Th hlt) (λb o x=>?_) ht⟩;rw[sortedHeap_old (SO (Rj (k b o x))) (by rw[size_push'];exact Sx (Rj (k b o x)))];exact R9 _ (k b o x)
end
end Mi
namespace Mi
open PySem
inductive T where
 |non|bl (b:Bool)|int (i:Int)|str (cs:List Nat)
 |tup (ts:List T)|lst (ts:List T)
 |dct (ks:List L2.Key) (ts:List T)
 |db (ns:List Int)
 deriving Inhabited
inductive W where
 |t (x:T)|c (i:Nat)|x (cls:Nat) (nms:List Str) (ts:List T)
 deriving Inhabited
noncomputable abbrev Mem:=List (Option (Bool×List T))
structure Exc where
 cls:Nat
 nms:List Str
 JW:List T
inductive Res (a:Type) where
 |ok (x:a) (m:Mem)|exc (x:Exc) (m:Mem)|stuck
noncomputable def Res.bind{a b:Type}(r:Res a)(f:a->Mem->Res b):Res b:=match r with
 |.ok x m=>f x m
 |.exc x m=>.exc x m
 |.stuck=>.stuck
noncomputable abbrev Env:=List (Option W)
inductive B where
 |len|int|str|tuple|list|all|min2|qV|sorted|di|md|enum
 deriving DecidableEq
inductive Mt where
 |join|append|fZ|insert|split|partition|starts|ma|jO
 deriving DecidableEq
inductive Ty where
 |int|bool|str|tuple|list|dict
 deriving DecidableEq
inductive Tg where
 |nm (i:Nat)|tp (is:List Nat)
 deriving DecidableEq
mutual
inductive E where
 |var (i:Nat)|gl (k:Nat)|con (x:T)
 |bin (op:WC) (a b:E)|neg (a:E)|not (a:E)
 |and (a b:E)|or (a b:E)
 |cmp (op:Xp) (a b:E)|zK (op op':Xp) (a b c:E)
 |ite (c a b:E)
 |tup (es:Es)|lst (es:Es)|sZ (es:Es)|zk (a:E)|JV (a b:E)
 |ix (a b:E)|qk (a lo hi:E)|hole
 |call (f:Nat) (es:Es)|blt (b:B) (es:Es)|cS (b:Mt) (o:E) (es:Es)
 |uV (a:E) (ty:Ty)
 |comp (own:Nat) (keep:List Nat) (it:E) (tg:Tg) (cs:Es) (inner:E)
 |more (it:E) (tg:Tg) (cs:Es) (inner:E)
 |emit (a:E)
 |tr (a:E)
 |Lk (a:E) (cs:List Nat) (nm:Str)|qf (a:E) (yes no:List Nat)
 |Kk (k:Nat) (e:E)|Li (k:Nat) (neg:Bool) (e:E)|Lp (k:Nat) (e:E)|Lz (es:Es)
inductive Es where
 |nil|cons (e:E) (es:Es)
end
noncomputable def aF:E->Bool
 |.hole=>true
 |_=>false
inductive S where
 |done
 |asg (i:Nat) (e:E) (k:S)
 |lK (is:List Nat) (e:E) (k:S)
 |Gp (is:List Nat) (e:E) (k:S)
 |set (o i v:E) (k:S)
 |aug (i:Nat) (op:WC) (e:E) (k:S)
 |bk (c:E) (a b k:S)
 |sF (tg:Tg) (it:E) (body k:S)
 |JI (c:E) (body k:S)
 |ret (e:E) (k:S)
 |expr (e:E) (k:S)
 |zj (c:Nat) (nms:List Str) (es:Es) (k:S)
 |tri (b:S) (yes:List Nat) (nm:Option Nat) (h k:S)
noncomputable def lim:Nat:=1000000
noncomputable def cO:List Nat->List Nat->Bool
 |[],[]=>false
 |[],_::_=>true
 |_::_,[]=>false
 |a::x,b::y=>if a<b then true else if b<a then false else cO x y
noncomputable def b2i(b:Bool):Int:=if b then 1 else 0
mutual
noncomputable def eqT:T->T->Bool
 |.non,.non=>true
 |.bl a,.bl b=>a==b
 |.bl a,.int b=>b2i a==b
 |.int a,.bl b=>a==b2i b
 |.int a,.int b=>a==b
 |.str a,.str b=>a==b
 |.tup a,.tup b=>r9 a b
 |.lst a,.lst b=>r9 a b
 |_,_=>false
noncomputable def r9:List T->List T->Bool
 |[],[]=>true
 |a::x,b::y=>eqT a b&&r9 x y
 |_,_=>false
end
mutual
noncomputable def ay:Nat->T->Bool
 |_,.non=>true
 |_,.bl _=>true
 |_,.int _=>true
 |_,.str cs=>PyData.strOk ⟨cs.toArray⟩
 |n+1,.tup ts=>au n ts
 |n+1,.lst ts=>au n ts
 |_,_=>false
noncomputable def au:Nat->List T->Bool
 |_,[]=>true
 |n,t::ts=>ay n t&&au n ts
end
noncomputable def flat:T->Bool
 |.non|.bl _|.int _|.str _=>true
 |_=>false
mutual
noncomputable def LN:Nat->T->Bool
 |_,.non=>true
 |_,.bl _=>true
 |_,.int _=>true
 |_,.str _=>true
 |n+1,.tup ts=>FF n ts
 |n+1,.lst ts=>FF n ts
 |_,_=>false
noncomputable def FF:Nat->List T->Bool
 |_,[]=>true
 |n,t::ts=>LN n t&&FF n ts
end
noncomputable def yX:T->Bool
 |.non=>false
 |.bl b=>b
 |.int i=>i != 0
 |.str cs=>!cs.isEmpty
 |.tup ts=>!ts.isEmpty
 |.lst ts=>!ts.isEmpty
 |.dct ks _=>!ks.isEmpty
 |.db ns=>!ns.isEmpty
noncomputable def ie(n:Nat)(i:Int):Option Nat:=if 0<=i then(if i<n then Zz i.toNat else Zy)else if -(n:Int)<=i then Zz (i+n).toNat else Zy
noncomputable def atT{a:Type}(xs:List a)(i:Int):Option a:=(ie xs.length i).bind λj=>xs[j]?
noncomputable def aT(n d:Nat):Option Int->Nat
 |none=>d
 |some i=>if i<0 then(i+n).toNat else min i.toNat n
noncomputable def cut{a:Type}(xs:List a)(lo hi:Option Int):List a:=
 (xs.drop (aT xs.length 0 lo)).take (aT xs.length xs.length hi-aT xs.length 0 lo)
noncomputable def ib{a:Type}(xs:List a)(k:Nat):List a:=(RL k xs).flatten
noncomputable def zh:Nat:=(2^250)^8
noncomputable def small(i:Int):Bool:=decide (i.natAbs<2^64)
noncomputable def hH(i j:Int):Bool:=small i || small j || (decide (i.natAbs<zh)&&decide (j.natAbs<zh))
noncomputable def B7:T->T->Option T
 |.int i,.int j=>Zz (.int (i+j))
 |.str a,.str b=>if a.length+b.length<=lim then Zz (.str (a++b))else Zy
 |.tup a,.tup b=>if a.length+b.length<=lim then Zz (.tup (a++b))else Zy
 |.lst a,.lst b=>if a.length+b.length<=lim then Zz (.lst (a++b))else Zy
 |_,_=>Zy
noncomputable def Jw(x y:T):Option T:=match y with
 |.int k=>match x with
  |.int i=>if hH i k then Zz (.int (i*k))else Zy
  |.tup a=>if(-(lim:Int)<=k/\k<=lim)/\a.length*k.toNat<=lim then Zz (.tup (ib a k.toNat))else Zy
  |.lst a=>if(-(lim:Int)<=k/\k<=lim)/\a.length*k.toNat<=lim then Zz (.lst (ib a k.toNat))else Zy
  |.str a=>if(0<=k/\k<=64)/\a.length<=1000 then Zz (.str (ib a k.toNat))else Zy
  |_=>Zy
 |_=>Zy
noncomputable def Dq(f:Int->Int->Option T)(x y:T):Option T:=match x with
 |.int i=>match y with
  |.int j=>f i j
  |_=>Zy
 |_=>Zy
noncomputable def oO(op:WC)(x y:T):Option T:=
 match op with
 |.Add=>B7 x y
 |.Sub=>Dq (λi j=>Zz (.int (i-j))) x y
 |.Mult=>Jw x y
 |.FloorDiv=>Dq (λi j=>if 0<j/\j<1073741824 then Zz (.int (i / j))else Zy) x y
 |.Mod=>Dq (λi j=>if 0<j then Zz (.int (i%j))else Zy) x y
 |.Pow=>Dq (λi j=>if 0<=j/\j<=1000/\i.natAbs<2^64 then Zz (.int (i^j.toNat))else Zy) x y
 |_=>Zy
noncomputable def Jj(op:WC)(x y:T):Option T:=
 match op,x,y with
 |.Add,.int i,.int j=>Zz (.int (i+j))
 |.Sub,.int i,.int j=>Zz (.int (i-j))
 |_,_,_=>Zy
noncomputable def rM(x y:T):Bool:=match x,y with
 |.bl _,.int _=>false
 |.int _,.bl _=>false
 |x,y=>flat x&&flat y
noncomputable def jL(x:T)(y:T):Option Bool:=
 match y with
 |.tup ts=>if flat x&&ts.all flat then Zz (ts.any λt=>eqT t x)else if ay 59 x&&au 59 ts then Zz (ts.any λt=>eqT t x)else Zy
 |.lst ts=>if flat x&&ts.all flat then Zz (ts.any λt=>eqT t x)else if ay 59 x&&au 59 ts then Zz (ts.any λt=>eqT t x)else Zy
 |_=>Zy
noncomputable def pS(f:Int->Int->Bool)(x y:T):Option Bool:=match x with
 |.int i=>match y with
  |.int j=>Zz (f i j)
  |_=>Zy
 |_=>Zy
noncomputable def Ju(x y:T):Option Bool:=match x with
 |.int i=>match y with
  |.int j=>Zz (decide (i<j))
  |_=>Zy
 |.str a=>match y with
  |.str b=>Zz (cO a b)
  |_=>Zy
 |_=>Zy
noncomputable def HN(x y:T):Option Bool:=match x with
 |.int i=>match y with
  |.int j=>Zz (decide (i<=j))
  |_=>Zy
 |.str a=>match y with
  |.str b=>Zz (!cO b a)
  |_=>Zy
 |_=>Zy
noncomputable def A4(x y:T):Option Bool:=match x with
 |.str [a]=>match y with
  |.str b=>Zz (decide (a∈b))
  |y=>jL (.str [a]) y
 |.str (a::a'::r)=>match y with
  |.str b=>Zz (!(Sj ⟨b.toArray⟩ ⟨(a::a'::r).toArray⟩ 0 b.length 1).isEmpty)
  |y=>jL (.str (a::a'::r)) y
 |x=>jL x y
noncomputable def BL(x y:T):Option Bool:=match y with
 |.non=>Zz (match x with|.non=>true|_=>false)
 |.bl b=>Zz (match x with|.bl a=>a==b|_=>false)
 |_=>Zy
noncomputable def bD(op:Xp)(x y:T):Option Bool:=
 match op with
 |.Lt=>Ju x y
 |.LtE=>HN x y
 |.Gt=>pS (λi j=>decide (j<i)) x y
 |.GtE=>pS (λi j=>decide (j<=i)) x y
 |.Eq=>if rM x y || (ay 60 x&&ay 60 y)then Zz (eqT x y)else Zy
 |.NotEq=>if rM x y || (ay 60 x&&ay 60 y)then Zz (!eqT x y)else Zy
 |.In=>A4 x y
 |.NotIn=>(A4 x y).map (!·)
 |.Is=>BL x y
 |.IsNot=>(BL x y).map (!·)
noncomputable def cz(x:T)(ty:Ty):Bool:=
 match x,ty with
 |.int _,.int=>true
 |.bl _,.int=>true
 |.bl _,.bool=>true
 |.str _,.str=>true
 |.tup _,.tuple=>true
 |.lst _,.list=>true
 |.db _,.list=>true
 |.dct _ _,.dict=>true
 |_,_=>false
noncomputable def rn(x i:T):Option T:=
 match x,i with
 |.tup ts,.int k=>atT ts k
 |.lst ts,.int k=>atT ts k
 |.db ns,.int k=>(atT ns k).map .int
 |.str cs,.int k=>if cs.length<=lim then(atT cs k).map λc=>.str [c]else Zy
 |_,_=>Zy
noncomputable def GM(x:T)(lo hi:Option Int):Option T:=
 match x with
 |.tup ts=>Zz (.tup (cut ts lo hi))
 |.lst ts=>Zz (.lst (cut ts lo hi))
 |.db ns=>Zz (.lst ((cut ns lo hi).map .int))
 |.str cs=>if cs.length<=lim then Zz (.str (cut cs lo hi))else Zy
 |_=>Zy
noncomputable def sw(x:List Nat):List (List Nat)->List (List Nat)
 |[]=>[x]
 |y::r=>if cO x y then x::y::r else if cO y x then y::sw x r else y::r
noncomputable def bS(xs:List (List Nat)):List (List Nat):=xs.foldr sw []
noncomputable def vp(x:List Nat):List (List Nat)->List (List Nat)
 |[]=>[x]
 |y::r=>if cO y x then y::vp x r else x::y::r
noncomputable def iP(xs:List (List Nat)):List (List Nat):=xs.foldr vp []
noncomputable def strs?: List T->Option (List (List Nat))
 |[]=>Zz []
 |.str c::r=>(strs? r).map (c::·)
 |_=>Zy
noncomputable def i0:List T->Option (List Bool)
 |[]=>Zz []
 |.bl c::r=>(i0 r).map (c::·)
 |_=>Zy
noncomputable def aK(sep:List Nat):List (List Nat)->List Nat
 |[]=>[]
 |[x]=>x
 |x::r=>x++sep++aK sep r
noncomputable def cA(i:Int):List Nat:=(Str.ofString (toString i)).cps.toList
noncomputable def rangeT(lo:Int)(n:Nat):List T:=(Sc n).map λk:Nat=>.int (lo+(k:Int))
noncomputable def az(c:Nat):List Nat->List (List Nat)
 |[]=>[[]]
 |a::r=>if a=c then[]::az c r else match az c r with
  |x::xs=>(a::x)::xs
  |[]=>[[a]]
noncomputable def jb(c k:Nat)(cs:List Nat):List (List Nat):=if(az c cs).length<=k then az c cs else(az c cs).take k++[aK [c] ((az c cs).drop k)]
noncomputable def LZ:T->Option (List Nat)
 |.str cs=>Zz cs
 |.int i=>if i.natAbs<2^250 then Zz (cA i)else Zy
 |_=>Zy
noncomputable def mi:T->Option (List T)
 |.tup ts=>Zz ts
 |.lst ts=>Zz ts
 |.db ns=>Zz (ns.map .int)
 |.str cs=>if cs.length<=lim then Zz (cs.map λc=>.str [c])else Zy
 |_=>Zy
noncomputable def view(w:W)(m:Mem):Option T:=match w with
 |.t x=>Zz x
 |.x _ _ _=>Zy
 |.c i=>match m[i]? with
  |some (Zz (_,ts))=>Zz (.lst ts)
  |_=>Zy
noncomputable def bX(o:Option T)(m:Mem):Res W:=match o with
 |some t=>.ok (.t t) m
 |none=>.stuck
noncomputable def Ff(w:W)(m:Mem):Res T:=match w with
 |.t x=>.ok x m
 |.x _ _ _=>.stuck
 |.c i=>match m[i]? with
  |some (Zz (false,ts))=>.ok (.lst ts) (m.set i Zy)
  |_=>.stuck
noncomputable def ii:List W->Mem->Res (List T)
 |[],m=>.ok [] m
 |w::ws,m=>(Ff w m).bind λt m=>(ii ws m).bind λts m=>.ok (t::ts) m
noncomputable def views:List W->Mem->Option (List T)
 |[],_=>Zz []
 |w::ws,m=>(view w m).bind λt=>(views ws m).map (t::·)
noncomputable def ba(w:W)(m:Mem):Res (List T):=match w with
 |.x _ _ _=>.stuck
 |.t x=>match mi x with
  |some ts=>.ok ts m
  |none=>.stuck
 |.c i=>match m[i]? with
  |some (Zz (_,ts))=>.ok ts (m.set i (Zz (true,ts)))
  |_=>.stuck
noncomputable def giveBack(w:W)(m0 m:Mem):Mem:=match w with
 |.t _=>m
 |.x _ _ _=>m
 |.c i=>match m0[i]? with
  |some c=>m.set i c
  |none=>m
noncomputable def bJ(tg:Tg)(t:T)(env:Env):Option Env:=match tg with
 |.nm i=>Zz (env.set i (Zz (.t t)))
 |.tp is=>match t with
  |.tup ts=>if ts.length=is.length then Zz ((is.zip ts).foldl (λenv p=>env.set p.1 (Zz (.t p.2))) env)else Zy
  |_=>Zy
noncomputable def gq(f:T->Option T):List T->Option T
 |[x]=>f x
 |_=>Zy
noncomputable def Gs(f:Int->Int->Option T):List T->Option T
 |[.int i,.int j]=>f i j
 |_=>Zy
noncomputable def HX:T->Option T
 |.str cs=>if cs.length<=lim then Zz (.int cs.length)else Zy
 |.tup ts=>Zz (.int ts.length)
 |.lst ts=>Zz (.int ts.length)
 |.db ns=>Zz (.int ns.length)
 |_=>Zy
noncomputable def fL(cs:List Nat):Int:=((cs.foldl (λn c=>n*10+(c-48)) 0:Nat):Int)
noncomputable def LO:T->Option T
 |.int i=>Zz (.int i)
 |.bl b=>Zz (.int (b2i b))
 |.str cs=>if cs≠[]/\cs.length<=600/\cs.all (λc=>decide (48<=c)&&decide (c<=57))=true then Zz (.int (fL cs))else Zy
 |_=>Zy
noncomputable def LS:T->Option T
 |.int i=>if i.natAbs<2^250 then Zz (.str (cA i))else Zy
 |.str cs=>Zz (.str cs)
 |_=>Zy
noncomputable def LG:T->Option T
 |.tup ts=>Zz (.tup ts)
 |.lst ts=>Zz (.tup ts)
 |.str cs=>if cs.length<=lim then Zz (.tup (cs.map λc=>.str [c]))else Zy
 |_=>Zy
noncomputable def LY:T->Option T
 |.tup ts=>Zz (.lst ts)
 |.lst ts=>Zz (.lst ts)
 |_=>Zy
noncomputable def Fg(f:List T->Option T):T->Option T
 |.lst ts=>f ts
 |_=>Zy
noncomputable def LQ:T->Option T
 |.int i=>if i<2^62/\-(2^62)<=i then Zz (.lst (rangeT 0 i.toNat))else Zy
 |_=>Zy
noncomputable def wA(xs ys:List T):List T:=Vf (λx y=>.tup [x,y]) xs ys
noncomputable def pG(xs:List T):List T:=Vf (λ(k:Nat) x=>T.tup [.int (k:Int),x]) (Sc xs.length) xs
noncomputable def pZ:T->Option L2.Key
 |.int i=>Zz (.inl i)
 |.str cs=>Zz (.inr ⟨cs.toArray⟩)
 |_=>Zy
noncomputable def bR(ks:List L2.Key)(ts:List T)(k:L2.Key):Option T:=((ks.zip ts).find? λp=>decide (p.1=k)).map (·.2)
noncomputable def vo(o:Option T)(f:List L2.Key->List T->Option T):Option T:=match o with
 |some (.dct ks vs)=>f ks vs
 |_=>Zy
noncomputable def BG(f:List T->Option T):T->Option T
 |.lst ts=>f ts
 |.tup ts=>f ts
 |_=>Zy
noncomputable def cv(b:B)(ts:List T):Option T:=
 match b with
 |.len=>gq HX ts
 |.int=>gq LO ts
 |.str=>gq LS ts
 |.tuple=>gq LG ts
 |.list=>gq LY ts
 |.all=>gq (BG λts=>(i0 ts).map λbs=>.bl (bs.all id)) ts
 |.qV=>gq (Fg λts=>(strs? ts).bind λxs=>if xs.length<64 then Zz (.lst ((bS xs).map .str))else Zy) ts
 |.sorted=>gq (Fg λts=>(strs? ts).bind λxs=>if xs.length<64 then Zz (.lst ((iP xs).map .str))else Zy) ts
 |.min2=>Gs (λi j=>Zz (.int (if j<i then j else i))) ts
 |.di=>gq LQ ts
 |.enum=>gq (Fg λts=>if ts.length<=lim then Zz (.lst (pG ts))else Zy) ts
 |.md=>Gs (λi j=>if(i<2^62/\-(2^62)<=i)/\j<2^62/\-(2^62)<=j then Zz (.lst (rangeT i (j-i).toNat))else Zy) ts
noncomputable def bj:T->Bool
 |.non=>true
 |_=>false
noncomputable def Iz(cs sep:List Nat):T:=let p:=Wo ⟨cs.toArray⟩ ⟨sep.toArray⟩;.tup [.str p.1.cps.toList,.str p.2.1.cps.toList,.str p.2.2.cps.toList]
noncomputable def dR(b:Mt)(o:T)(ts:List T):Option T:=
 match b with
 |.join=>match o with
  |.str sep=>gq (BG λxs=>(strs? xs).bind λys=>if(ys.map Rf).sum+ys.length*sep.length<=lim then Zz (.str (aK sep ys))else Zy) ts
  |_=>Zy
 |.split=>match o with
  |.str cs=>match ts with
   |[.str [c]]=>if cs.length<=900000 then Zz (.lst ((az c cs).map .str))else Zy
   |_=>Zy
  |_=>Zy
 |.jO=>match o with
  |.lst xs=>match ts with
   |[.non]=>if au 59 xs=true/\xs.length<=lim then(xs.findIdx? bj).map λk=>.int (k:Int)else Zy
   |_=>Zy
  |_=>Zy
 |.starts=>match o with
  |.str cs=>match ts with
   |[.str p]=>Zz (.bl (p.isPrefixOf cs))
   |_=>Zy
  |_=>Zy
 |.ma=>match o with
  |.str cs=>match ts with
   |[.str [c],.int k]=>if cs.length<=900000/\1<=k/\k<=cs.length then Zz (.lst ((jb c k.toNat cs).map .str))else Zy
   |_=>Zy
  |_=>Zy
 |.partition=>match o with
  |.str cs=>match ts with
   |[.str (c::sep)]=>if cs.length<=900000 then Zz (Iz cs (c::sep))else Zy
   |_=>Zy
  |_=>Zy
 |_=>Zy
noncomputable def rO(b:Mt)(xs:List T)(ts:List T):Option (T×List T):=
 match b,ts with
 |.append,[t]=>if xs.length<lim then Zz (.non,xs++[t])else Zy
 |.insert,[.int i,t]=>if 0<=i/\i<=xs.length/\xs.length<lim then Zz (.non,xs.take i.toNat++t::xs.drop i.toNat)else Zy
 |.fZ,[.int i]=>match ie xs.length i with
  |some k=>(xs[k]?).map λt=>(t,xs.eraseIdx k)
  |none=>Zy
 |_,_=>Zy
noncomputable def ri(b:Mt)(o:W)(ws:List W)(m:Mem):Res W:=match b with
 |.append|.fZ|.insert=>match o with
  |.c i=>(ii ws m).bind λts m=>match m[i]? with
   |some (Zz (false,xs))=>match rO b xs ts with
    |some (t,ys)=>.ok (.t t) (m.set i (Zz (false,ys)))
    |none=>.stuck
   |_=>.stuck
  |.t _=>.stuck
  |.x _ _ _=>.stuck
 |_=>bX ((view o m).bind λx=>(views ws m).bind λts=>dR b x ts) m
noncomputable def JB(x y:W)(m:Mem):Res W:=match(view x m).bind λx=>(view y m).bind λy=>B7 x y with
 |some (.lst ts)=>.ok (.c m.length) (m++[Zz (false,ts)])
 |_=>.stuck
noncomputable def setM(o i v:W)(m:Mem):Res Unit:=match o,i with
 |.c c,.t (.int k)=>(Ff v m).bind λt m=>match m[c]? with
  |some (Zz (false,xs))=>match ie xs.length k with
   |some j=>.ok () (m.set c (Zz (false,xs.set j t)))
   |none=>.stuck
  |_=>.stuck
 |_,_=>.stuck
noncomputable def zX(w:W)(m:Mem):Res (Option Int):=match w with
 |.t (.int i)=>.ok (Zz i) m
 |_=>.stuck
noncomputable def oY(b:Mt)(w:W)(m:Mem):Bool:=match b with
 |.join|.split|.partition|.starts|.ma=>match view w m with
  |some (.str _)=>true
  |_=>false
 |.append|.fZ|.insert=>match w with
  |.c i=>match m[i]? with
   |some (Zz _)=>true
   |_=>false
  |_=>false
 |.jO=>match view w m with
  |some (.lst _)=>true
  |_=>false
noncomputable def bU(f:Env->Mem->Res (List T))(tg:Tg):List T->Env->Mem->Res (List T)
 |[],_,m=>.ok [] m
 |t::ts,env,m=>match bJ tg t env with
  |none=>.stuck
  |some env'=>(f env' m).bind λxs m=>(bU f tg ts env m).bind λys m=>.ok (xs++ys) m
noncomputable def Res.only{a:Type}(r:Res a):Res a:=match r with
 |.exc _ _=>.stuck
 |r=>r
inductive Flow where
 |next (env:Env)|ret (w:W)
noncomputable def bF(f:Env->Mem->Res Flow)(tg:Tg):List T->Env->Mem->Res Flow
 |[],env,m=>.ok (.next env) m
 |t::ts,env,m=>match bJ tg t env with
  |none=>.stuck
  |some env=>(f env m).bind λfl m=>match fl with
   |.next env=>bF f tg ts env m
   |.ret w=>.ok (.ret w) m
noncomputable def fc(c:Env->Mem->Res Bool)(f:Env->Mem->Res Flow):Nat->Env->Mem->Res Flow
 |0,_,_=>.stuck
 |n+1,env,m=>(c env m).bind λb m=>if b then(f env m).bind λfl m=>match fl with
   |.next env=>fc c f n env m
   |.ret w=>.ok (.ret w) m
  else .ok (.next env) m
noncomputable def turns:Nat:=1000000
noncomputable def LR:T->Bool
 |.str cs=>decide (cs.length<=lim)
 |_=>true
noncomputable def bT(w:W)(m:Mem):Res Bool:=match view w m with
 |some t=>if LR t then .ok (yX t) m else .stuck
 |none=>.stuck
noncomputable def jt(w:W)(m:Mem):Res Bool:=match w with
 |.t (.bl b)=>.ok b m
 |_=>.stuck
noncomputable def mJ(w:W)(m:Mem):Res (List T):=match w with
 |.t (.lst ts)=>.ok ts m
 |_=>.stuck
noncomputable def LU(cs:List Nat)(nm:Str)(x:W):Option T:=match x with
 |.x c nms ts=>if c∈cs then(nms.zip ts).lookup nm else Zy
 |_=>Zy
noncomputable def Le(yes no:List Nat)(x:W):Option T:=match x with
 |.x c _ _=>if c∈yes then Zz (.bl true)else if c∈no then Zz (.bl false)else Zy
 |_=>Zy
noncomputable def B5(n:Nat)(nm:Option Nat)(x:Exc):Env:=match nm with
 |some i=>(RL n Zy).set i (Zz (.x x.cls x.nms x.JW))
 |none=>RL n Zy
noncomputable def LM(nm:Option Nat)(env:Env):Env:=match nm with
 |some i=>env.set i Zy
 |none=>env
noncomputable def LB(acc:List Nat)(w:W)(m:Mem):Res (List Nat):=match(view w m).bind LZ with
 |some a=>if acc.length+a.length<=lim then .ok (acc++a) m else .stuck
 |none=>.stuck
noncomputable def KL(w:W)(m:Mem):Res W:=match w with
 |.t x=>.ok (.t x) m
 |.c _=>.stuck
 |.x _ _ _=>.stuck
noncomputable def H8(ws:List W)(m:Mem):Res W:=match ws with
 |[.t (.tup xs),.t (.lst ys)]=>if xs.length=ys.length/\xs.length<=lim then .ok (.t (.lst (wA xs ys))) m else .stuck
 |_=>.stuck
section
variable(call:Nat->List W->Mem->Res W) (gv:List T)
mutual
noncomputable def ev:E->Env->Mem->Res W
 |.var i,env,m=>match env[i]? with
  |some (Zz w)=>.ok w m
  |_=>.stuck
 |.gl k,_,m=>bX gv[k]? m
 |.con t,_,m=>.ok (.t t) m
 |.bin op a b,env,m=>(ev a env m).bind λx m=>(ev b env m).bind λy m=>bX ((view x m).bind λx=>(view y m).bind λy=>oO op x y) m
 |.neg a,env,m=>(ev a env m).bind λx m=>bX ((view x m).bind λx=>match x with
  |.int i=>Zz (.int (-i))
  |_=>Zy) m
 |.not a,env,m=>(ev a env m).bind λx m=>(jt x m).bind λk m=>.ok (.t (.bl (!k))) m
 |.and a b,env,m=>(ev a env m).bind λx m=>(jt x m).bind λk m=>if k then ev b env m else .ok (.t (.bl false)) m
 |.or a b,env,m=>(ev a env m).bind λx m=>(jt x m).bind λk m=>if k then .ok (.t (.bl true)) m else ev b env m
 |.cmp op a b,env,m=>(ev a env m).bind λx m=>(ev b env m).bind λy m=>bX (((view x m).bind λx=>(view y m).bind λy=>bD op x y).map .bl) m
 |.zK op op' a b c,env,m=>(ev a env m).bind λx m=>(ev b env m).bind λy m =>
   match(view x m).bind λx=>(view y m).bind λy=>bD op x y with
   |some true=>(ev c env m).bind λz m=>bX (((view y m).bind λy=>(view z m).bind λz=>bD op' y z).map .bl) m
   |some false=>.ok (.t (.bl false)) m
   |none=>.stuck
 |.ite c a b,env,m=>(ev c env m).bind λx m=>(bT x m).bind λk m=>if k then ev a env m else ev b env m
 |.tup es,env,m=>(evs es env m).bind λws m=>(ii ws m).bind λts m=>if ts.length<=lim then .ok (.t (.tup ts)) m else .stuck
 |.lst es,env,m=>(evs es env m).bind λws m=>(ii ws m).bind λts m=>if ts.length<=lim then .ok (.t (.lst ts)) m else .stuck
 |.sZ es,env,m=>(evs es env m).bind λws m=>(ii ws m).bind λts m=>if ts.length<=lim then .ok (.c m.length) (m++[Zz (false,ts)])else .stuck
 |.zk a,env,m=>(ev a env m).bind λx m=>match view x m with
  |some (.lst ts)=>.ok (.c m.length) (m++[Zz (false,ts)])
  |some (.tup ts)=>.ok (.c m.length) (m++[Zz (false,ts)])
  |_=>.stuck
 |.JV a b,env,m=>(ev a env m).bind λx m=>(ev b env m).bind λy m=>JB x y m
 |.ix a b,env,m=>(ev a env m).bind λx m=>(ev b env m).bind λy m=>bX ((view x m).bind λx=>(view y m).bind λy=>rn x y) m
 |.qk a lo hi,env,m=>(ev a env m).bind λx m=>(if aF lo then Res.ok Zy m else(ev lo env m).bind zX).bind λl m =>
   (if aF hi then Res.ok Zy m else(ev hi env m).bind zX).bind λh m=>bX ((view x m).bind λx=>GM x l h) m
 |.hole,_,m=>.ok (.t .non) m
 |.call f es,env,m=>(evs es env m).bind λws m=>call f ws m
 |.blt b es,env,m=>(evs es env m).bind λws m=>bX ((views ws m).bind λts=>cv b ts) m
 |.cS b o es,env,m=>(ev o env m).bind λx m=>if oY b x m then(evs es env m).bind λws m=>ri b x ws m else .stuck
 |.uV a ty,env,m=>(ev a env m).bind λx m=>bX ((view x m).map λx=>.bl (cz x ty)) m
 |.comp own keep it tg cs inner,env,m=>(ev it env m).only.bind λx m0=>(ba x m0).bind λts m =>
   (bU (λenv m=>(tests cs env m).bind λk m=>if k then(ev inner env m).bind mJ else .ok [] m) tg ts (RL own Zy++keep.map λi=>(env[i]?).join) m).only.bind λout m =>
    if out.length<=lim then .ok (.t (.lst out)) (giveBack x m0 m)else .stuck
 |.more it tg cs inner,env,m=>(ev it env m).bind λx m0=>(ba x m0).bind λts m =>
   (bU (λenv m=>(tests cs env m).bind λk m=>if k then(ev inner env m).bind mJ else .ok [] m) tg ts env m).bind λout m=>.ok (.t (.lst out)) (giveBack x m0 m)
 |.emit a,env,m=>(ev a env m).bind λx m=>(Ff x m).bind λt m=>.ok (.t (.lst [t])) m
 |.tr a,env,m=>(ev a env m).bind KL
 |.Lk a cs nm,env,m=>(ev a env m).bind λx m=>bX (LU cs nm x) m
 |.qf a yes no,env,m=>(ev a env m).bind λx m=>bX (Le yes no x) m
 |.Kk k e,env,m=>(ev e env m).bind λx m=>bX ((view x m).bind λx=>vo gv[k]? λks vs=>(pZ x).bind (bR ks vs)) m
 |.Lz es,env,m=>(evs es env m).bind H8
 |.Lp k e,env,m=>(ev e env m).bind λx m=>bX ((view x m).bind λx=>vo gv[k]? λks vs=>(pZ x).map λk=>(bR ks vs k).getD .non) m
 |.Li k neg e,env,m=>(ev e env m).bind λx m=>bX ((view x m).bind λx=>vo gv[k]? λks vs=>(pZ x).map λk=>.bl (if neg then !(bR ks vs k).isSome else(bR ks vs k).isSome)) m
noncomputable def evs:Es->Env->Mem->Res (List W)
 |.nil,_,m=>.ok [] m
 |.cons e es,env,m=>(ev e env m).bind λw m=>(evs es env m).bind λws m=>.ok (w::ws) m
noncomputable def Me:Es->List Nat->Env->Mem->Res (List Nat)
 |.nil,acc,_,m=>.ok acc m
 |.cons e es,acc,env,m=>(ev e env m).bind λw m=>(LB acc w m).bind λacc m=>Me es acc env m
noncomputable def tests:Es->Env->Mem->Res Bool
 |.nil,_,m=>.ok true m
 |.cons e es,env,m=>(ev e env m).bind λx m=>(bT x m).bind λk m=>if k then tests es env m else .ok false m
end
noncomputable def ex:S->Env->Mem->Res Flow
 |.done,env,m=>.ok (.next env) m
 |.asg i e k,env,m=>(ev call gv e env m).bind λw m=>ex k (env.set i (Zz w)) m
 |.lK is e k,env,m=>(ev call gv e env m).bind λw m=>match w with
  |.t t=>match bJ (.tp is) t env with
   |some env=>ex k env m
   |none=>.stuck
  |.c _=>.stuck
  |.x _ _ _=>.stuck
 |.Gp is e k,env,m=>(ev call gv e env m).bind λw m=>match w with
  |.t (.lst ts)=>match bJ (.tp is) (.tup ts) env with
   |some env=>ex k env m
   |none=>.stuck
  |_=>.stuck
 |.set o i v k,env,m=>(ev call gv v env m).bind λz m=>(ev call gv o env m).bind λx m=>(ev call gv i env m).bind λy m =>
   (setM x y z m).bind λ_ m=>ex k env m
 |.aug i op e k,env,m=>match env[i]? with
  |some (Zz x)=>(ev call gv e env m).bind λy m=>(bX ((view x m).bind λx=>(view y m).bind λy=>Jj op x y) m).bind λz m=>ex k (env.set i (Zz z)) m
  |_=>.stuck
 |.bk c a b k,env,m=>(ev call gv c env m).bind λx m=>(bT x m).bind λt m =>
   (if t then ex a env m else ex b env m).bind λfl m=>match fl with
    |.next env=>ex k env m
    |fl=>.ok fl m
 |.sF tg it body k,env,m=>(ev call gv it env m).bind λx m0=>(ba x m0).bind λts m =>
   (bF (λenv m=>ex body env m) tg ts env m).bind λfl m=>match fl with
    |.next env=>ex k env (giveBack x m0 m)
    |.ret w=>.ok (.ret w) (giveBack x m0 m)
 |.JI c body k,env,m=>(fc (λenv m=>(ev call gv c env m).bind bT) (λenv m=>ex body env m) turns env m).bind λfl m=>match fl with
    |.next env=>ex k env m
    |fl=>.ok fl m
 |.ret e _,env,m=>(ev call gv e env m).bind λw m=>.ok (.ret w) m
 |.expr e k,env,m=>(ev call gv e env m).bind λ_ m=>ex k env m
 |.zj c nms es _,env,m=>(evs call gv es env m).bind λws m=>(ii ws m).bind λts m=>if nms=[]then(if ts.length<=1000 then .exc ⟨c,[],[]⟩ m else .stuck)else if ts.length=nms.length then .exc ⟨c,nms,ts⟩ m else .stuck
 |.tri b yes nm h k,env,m=>match ex b env m with
  |.ok fl m=>match fl with
   |.next env=>ex k env m
   |fl=>.ok fl m
  |.exc x m=>if x.cls∈yes then(ex h (B5 env.length nm x) m).only.bind λfl m=>match fl with
    |.next env=>ex k (LM nm env) m
    |.ret w=>.ok (.ret w) m
   else .stuck
  |.stuck=>.stuck
end
structure Fn where
 ps:Nat
 n:Nat
 body:S
 cell:Bool:=false
noncomputable def fin(n:Nat)(cell:Bool)(fl:Flow)(m:Mem):Res W:=match fl with
 |.ret (.t t)=>.ok (.t t) (m.take n)
 |.ret (.c i)=>if i<n then .ok (.c i) (m.take n)else match m[i]? with
  |some (Zz (false,ts))=>if cell then .ok (.c n) (m.take n++[Zz (false,ts)])else .ok (.t (.lst ts)) (m.take n)
  |_=>.stuck
 |.next _=>.ok (.t .non) (m.take n)
 |_=>.stuck
noncomputable def dS(fns:List Fn)(gv:List T):Nat->Nat->List W->Mem->Res W
 |0,_,_,_=>.stuck
 |n+1,f,ws,m=>match fns[f]? with
  |none=>.stuck
  |some d=>if ws.length=d.ps then(ex (dS fns gv n) gv d.body (ws.map Zz++RL (d.n-d.ps) Zy) m).bind λfl m'=>fin m.length d.cell fl m' else .stuck
end Mi
end
namespace Mi
open PySem PySem.Spec PyProof.Rows
def pN(k:String)(h:Rq)(a:RC)(x:Array R4):Prop:=∃o n,h.get? a=Zz o/\o.cls=.type k/\o.data=.seq x n/\o.dict=Zy/\x.size<=Ri
def fN(fs:List RC)(h:Rq)(a:RC)(x:Array R4):Prop:=(∃n,h.get? a=Zz { cls:=.type "list",data:=.seq x n })/\a∉fs/\x.size<=Ri
def aU(cm:List RC)(m:Mem)(a:RC):Prop:=∀(i:Nat) p,m[i]?=Zz (Zz p)->cm[i]?≠Zz a
def Al{α β:Type}(R:α->β->Prop)(l:List α)(x:List β):Prop:=l.length=x.length/\∀(i:Nat) t v,l[i]?=Zz t->x[i]?=Zz v->R t v
structure Dm where
 P:Sf
 w:TB
 fs:List RC
def LI(D:Dm)(h:Rq)(a:RC)(k:List (L2.Key×R4)):Prop:=k.length<=Ri/\(a==WQ)=false/\h.DictOf (L2.c9 D.P D.w) a k/\a∉D.fs
inductive RT (D:Dm) (cm:List RC) (m:Mem) (h:Rq):T->R4->Prop where
 |non:RT D cm m h .non .none
 |bl (b:Bool):RT D cm m h (.bl b) (.bool b)
 |int (i:Int) (t:Tok):RT D cm m h (.int i) (.int i t)
 |str (x:List Nat) (t:Tok):RT D cm m h (.str x) (.str ⟨x.toArray⟩ t)
 |tup {a:RC}{x:Array R4}{l:List T}:pN "tuple" h a x->a∉D.fs->l.length=x.toList.length->(∀(i:Nat) t v,l[i]?=Zz t->x.toList[i]?=Zz v->RT D cm m h t v)->RT D cm m h (.tup l) (.ref a)
 |lst {a:RC}{x:Array R4}{l:List T}:fN D.fs h a x->aU cm m a->l.length=x.toList.length->(∀(i:Nat) t v,l[i]?=Zz t->x.toList[i]?=Zz v->RT D cm m h t v)->RT D cm m h (.lst l) (.ref a)
 |dct {a:RC}{k:List L2.Key}{x:List R4}{l:List T}:LI D h a (k.zip x)->aU cm m a->k.length=x.length->l.length=x.length->(∀(i:Nat) t v,l[i]?=Zz t->x[i]?=Zz v->RT D cm m h t v)->RT D cm m h (.dct k l) (.ref a)
 |db {a:RC}{x:Array R4}(l:List Int):pN "list" h a x->aU cm m a->a∉D.fs->Al (λn v=>∃t,v=.int n t) l x.toList->RT D cm m h (.db l) (.ref a)
noncomputable abbrev jx(D:Dm)(cm:List RC)(m:Mem)(h:Rq):=Al (RT D cm m h)
def XF(D:Dm)(cm:List RC)(m:Mem)(h:Rq)(k:List Str)(l:List T):Option RC->Prop
 |none=>k=[]/\l=[]
 |some d=>∃vs f,d∉D.fs/\h.Ns1 d f/\(∀y,(k.zip vs).lookup y=f y)/\k.length=vs.length/\jx D cm m h l vs
def XP(h:Rq)(e C:RC)(dx:Option RC):Prop:=∃o vs u,h.get? e=Zz o/\o.cls=.ref C/\o.dict=dx/\o.data=.fields vs/\vs[1]?=Zz u/\(u=.none∨∃T p ts,u=.ref T/\T≠e/\h.get? T=Zz p/\p.cls=.type "traceback"/\p.data=.fields ts/\ts[3]?=Zz .none)
def RW(D:Dm)(cm:List RC)(m:Mem)(h:Rq):W->R4->Prop
 |.t x,v=>RT D cm m h x v
 |.c i,v=>∃a,cm[i]?=Zz a/\v=.ref a
 |.x C k l,v=>∃e dx,v=.ref e/\XP h e C dx/\XF D cm m h k l dx
noncomputable abbrev wz(D:Dm)(cm:List RC)(m:Mem)(h:Rq):=Al (RW D cm m h)
structure Mod (K:V9) (mg:Str->Option R4) (base:Rq):Prop where
 jq:K.In base
 glob:base.Ns RH mg
 blt:∃f,base.Ns Up f/\∀x:Str,x≠"__name__"->f x=Ti x
 nolimit:base.NoLimit
 bm:∃b o,mg "__builtins__" = Zz (.ref b)/\b≠Up/\base.get? b=Zz o/\o.cls=.type "module"/\o.dict=Zz Up/\o.data=.plain
structure Bs where
 prog:Sf
 w:TB
 K:V9
 mg:Str->Option R4
 base:Rq
 tb:List RC
 Tab:Rq->Prop
structure Cx extends Bs where
 A:Sb
 N:List Str
 env:Sn
 stack:List Sn
 fs:List RC
 fn:Str->Bool
 calm:Bool
noncomputable def frs(l:List Sn):List RC:=l.filterMap (·.frame)
noncomputable abbrev Cx.D(X:Cx):Dm:=⟨X.prog,X.w,X.fs⟩
noncomputable abbrev Cx.M(X:Cx):XV:=Rp X.prog X.w
structure bh (X:Cx) (cm:List RC) (m:Mem) (h:Rq):Prop where
 len:cm.length=m.length
 inj:∀(i j:Nat) a p q,m[i]?=Zz (Zz p)->m[j]?=Zz (Zz q)->cm[i]?=Zz a->cm[j]?=Zz a->i=j
 at':∀(i:Nat) p,m[i]?=Zz (Zz p)->∃a x,cm[i]?=Zz a/\fN X.fs h a x/\X.base.get? a=Zy/\jx X.D cm m h p.2 x.toList
 tab:X.Tab h
structure ExtK (fs ch:List RC) (cm:List RC) (m:Mem) (s:RA) (cm':List RC) (m':Mem) (s':RA):Prop where
 os:s'.os=s.os
 bare:Wk s.gens->Wk s'.gens
 pre:∀(i:Nat) a,cm[i]?=Zz a->cm'[i]?=Zz a
 len:m.length<=m'.length
 keep:∀b o,s.heap.get? b=Zz o->b∉ch->aU cm m b->aU cm' m' b/\∃o',s'.heap.get? b=Zz o'/\(o'=o∨b∈fs/\(∀x n,o.data≠.seq x n)/\∃sl,o'={ o with slots:=sl })
def Kd(o o':Obj):Prop:=((∀v,o.data≠.fields v)->∀v,o'.data≠.fields v)/\((∀x n,o.data≠.seq x n)->∀x n,o'.data≠.seq x n)
theorem Kd.r{o:Obj}:Kd o o:=⟨id,id⟩
structure bz (fs ch:List RC) (cm:List RC) (m:Mem) (s:RA) (cm':List RC) (m':Mem) (s':RA):Prop extends ExtK fs ch cm m s cm' m' s' where
 lent:∀(i:Nat) l,m[i]?=Zz (Zz (true,l))->m'[i]?=Zz (Zz (true,l))
 thr:∀b o,s.heap.get? b=Zz o->∃o',s'.heap.get? b=Zz o'/\Kd o o'
noncomputable instance {fs ch cm cm':List RC}{m m':Mem}{s s':RA}:CoeOut (bz fs ch cm m s cm' m' s') (ExtK fs ch cm m s cm' m' s'):=⟨bz.toExtK⟩
inductive KY (fs:List RC) (b:RC) (o:Obj):Prop where
 |seq (x n) (_:o.data=.seq x n) (_:b∉fs)
 |dict (x n) (_:o.data=.dict x n) (_:b∉fs)
 |ref (C v) (_:o.cls=.ref C) (_:o.data=.fields v)
 |trace (v) (_:o.cls=.type "traceback") (_:o.data=.fields v)
def Nq(fs ch:List RC)(h:Rq):Prop:=∀b∈ch,∀o,h.get? b=Zz o->¬KY fs b o
def Nr(fs ch:List RC)(h:Rq):Prop:=∀b∈ch,∀o,h.get? b=Zz o->KY fs b o->∃v,o.data=.fields v
theorem Nq.r{fs ch:List RC}{h:Rq}(N:Nq fs ch h):Nr fs ch h:=λb z o e f=>Y3 f (N b z o e)
def Nc(base:Rq)(ch:List RC)(h:Rq):Prop:=∀b∈ch,base.get? b=Zy/\∀o,h.get? b=Zz o->(∃vs,o.data=.fields vs)/\(∀C,o.cls≠.ref C)/\o.cls≠.type "traceback"
section
variable{X:Cx}{D:Dm}{fs ch:List RC}{cm cm' cm'':List RC}{m m' m'':Mem}{s s' s'':RA}{h h':Rq}{a b e:RC}{o:Obj}{i:Nat}
theorem Al.cons{α β:Type}{R:α->β->Prop}{t:α}{v:β}{l:List α}{x:List β}(r:R t v)(q:Al R l x):Al R (t::l) (v::x):=⟨congrArg (·+1) q.1,λi u w a b=>by
 cases i with
 |zero=>cases a;cases b;exact r
 |succ i=>exact q.2 i u w a b⟩
theorem Al.nil{α β:Type}{R:α->β->Prop}:Al R [] []:=⟨rfl,λ_ _ _ a=>by simp at a⟩
theorem Al.inv{α β:Type}{R:α->β->Prop}{t:α}{l:List α}{x:List β}(q:Al R (t::l) x):∃v y,x=v::y/\R t v/\Al R l y:=by
 cases x with
 |nil=>cases q.1
 |cons v y=>exact⟨v,y,rfl,q.2 0 _ _ rfl rfl,X4 q.1,λi a b c d=>q.2 (i+1) a b c d⟩
theorem Al.mp{α β:Type}{R S:α->β->Prop}{l:List α}{x:List β}(q:Al R l x)(f:∀a b,R a b->S a b):Al S l x:=⟨q.1,λi a b c d=>f _ _ (q.2 i a b c d)⟩
theorem Al.get{α β:Type}{R:α->β->Prop}{l:List α}{x:List β}{i:Nat}{t:α}(q:Al R l x)(h:l[i]?=Zz t):∃v,x[i]?=Zz v/\R t v:=by
 have k:=(RG.mp h).1;have e:x[i]?=Zz (x[i]'(q.1▸k)):=RZ _;exact⟨_,e,q.2 i _ _ h e⟩
theorem Hp(M:bh X cm m h)(e:h.get? a=Zz o)(n:o.cls≠.type "list"):aU cm m a:=λi p q z=>by
 obtain⟨b,x,h1,⟨⟨_,h2⟩,_⟩,_⟩:=M.at' i p q;rw[h1]at z;cases z;rw[e]at h2;cases h2;exact n rfl
theorem ExtK.sq(x:ExtK fs ch cm m s cm' m' s')(e:s.heap.get? a=Zz o)(hc:a∉ch)(n:aU cm m a):aU cm' m' a/\∃o',s'.heap.get? a=Zz o'/\o'.cls=o.cls/\o'.data=o.data/\o'.dict=o.dict:=by
 obtain⟨n',o',e',q⟩:=x.keep a o e hc n;refine⟨n',o',e',?_⟩;rcases q with rfl|⟨_,_,sl,rfl⟩<;>exact⟨rfl,rfl,rfl⟩
theorem Nc.q{base:Rq}(N:Nc base ch h):Nq fs ch h:=λb z o e f=>by
 obtain⟨⟨v,d⟩,c,t⟩:=(N b z).2 o e;cases f with
 |seq x n q _=>rw[d]at q;cases q
 |dict x n q=>rw[d]at q;cases q
 |ref C _ q=>exact c C q
 |trace _ q=>exact t q
theorem Nq.nil:Nq fs [] h:=λ_ z=>nomatch z
theorem Nq.no(N:Nq fs ch h)(e:h.get? a=Zz o)(d:KY fs a o):a∉ch:=λz=>N a z o e d
theorem Nr.no(N:Nr fs ch h)(e:h.get? a=Zz o)(d:KY fs a o)(n:∀v,o.data≠.fields v):a∉ch:=λz=>(N a z o e d).elim n
theorem pN.Dy{k:String}{y:Array R4}(x:ExtK fs ch cm m s cm' m' s')(N:Nr fs ch s.heap)(p:pN k s.heap a y)(n:aU cm m a)(f:a∉fs):pN k s'.heap a y/\aU cm' m' a:=by
 obtain⟨o,q,e,c,d,r,z⟩:=p;obtain⟨n',o',e',c',d',r'⟩:=x.sq e (N.no e (.seq _ _ d f) λv z=>(by rw[d]at z;cases z)) n;exact⟨⟨o',q,e',c'.trans c,d'.trans d,r'.trans r,z⟩,n'⟩
theorem pN.go{k:String}{y:Array R4}(x:ExtK fs ch cm m s cm' m' s')(N:Nq fs ch s.heap)(p:pN k s.heap a y)(n:aU cm m a)(f:a∉fs):pN k s'.heap a y/\aU cm' m' a:=p.Dy x N.r n f
theorem fN.Dy{y:Array R4}(x:ExtK fs ch cm m s cm' m' s')(N:Nr fs ch s.heap)(p:fN fs s.heap a y)(n:aU cm m a):fN fs s'.heap a y/\aU cm' m' a:=by
 obtain⟨⟨q,e⟩,f,z⟩:=p;obtain⟨n',o',e',r⟩:=x.keep _ _ e (N.no e (.seq _ _ rfl f) λv z=>(by cases z)) n;rcases r with rfl|⟨g,_⟩
 ·exact⟨⟨⟨q,e'⟩,f,z⟩,n'⟩
 ·exact Y3 g f
theorem fN.go{y:Array R4}(x:ExtK fs ch cm m s cm' m' s')(N:Nq fs ch s.heap)(p:fN fs s.heap a y)(n:aU cm m a):fN fs s'.heap a y/\aU cm' m' a:=p.Dy x N.r n
theorem pN.nl{y:Array R4}(M:bh X cm m h)(p:pN "tuple" h a y):aU cm m a:=let⟨_,_,e,c,_⟩:=p;Hp M e (by rw[c];decide)
theorem RT.Dy(x:ExtK D.fs ch cm m s cm' m' s')(M:bh X cm m s.heap)(N:Nr D.fs ch s.heap){t:T}{v:R4}(r:RT D cm m s.heap t v):RT D cm' m' s'.heap t v:=by
 induction r with
 |non=>exact .non
 |bl b=>exact .bl b
 |int i t=>exact .int i t
 |str i t=>exact .str i t
 |tup p f l _ ih=>exact .tup (p.Dy x N (p.nl M) f).1 f l ih
 |lst p n l _ ih=>exact .lst (p.Dy x N n).1 (p.Dy x N n).2 l ih
 |db ns p n f l=>exact .db ns (p.Dy x N n f).1 (p.Dy x N n f).2 f l
 |dct p n l1 l2 _ ih =>
  obtain⟨z,y,⟨o,es,ep,e,c,d,q⟩,f⟩:=p;obtain⟨n',o',e',r⟩:=x.keep _ o e (N.no e (.dict _ _ d f) λv z=>(by rw[d]at z;cases z)) n;rcases r with rfl|⟨g,_⟩
  ·exact .dct ⟨z,y,⟨_,es,ep,e',c,d,q⟩,f⟩ n' l1 l2 ih
  ·exact Y3 g f
theorem RT.go(x:ExtK D.fs ch cm m s cm' m' s')(M:bh X cm m s.heap)(N:Nq D.fs ch s.heap){t:T}{v:R4}(r:RT D cm m s.heap t v):RT D cm' m' s'.heap t v:=r.Dy x M N.r
theorem bz.of(t:∀b o,s.heap.get? b=Zz o->∃o',s'.heap.get? b=Zz o'/\Kd o o')(l:∀(i:Nat) l,m[i]?=Zz (Zz (true,l))->m'[i]?=Zz (Zz (true,l)))(k:ExtK fs ch cm m s cm' m' s'):bz fs ch cm m s cm' m' s':=⟨k,l,t⟩
theorem bz.refl:bz fs ch cm m s cm m s:=.of (λ_ o e=>⟨o,e,.r⟩) (λ_ _ h=>h) ⟨rfl,id,λ_ _ h=>h,RU _,λ_ o e _ n=>⟨n,o,e,.inl rfl⟩⟩
theorem ExtK.trans(x:ExtK fs ch cm m s cm' m' s')(y:ExtK fs ch cm' m' s' cm'' m'' s''):ExtK fs ch cm m s cm'' m'' s'':=
 ⟨y.os.trans x.os,λh=>y.bare (x.bare h),λi a h=>y.pre i a (x.pre i a h),Rn x.len y.len,λb o e c n=>by
  obtain⟨n1,o1,e1,q1⟩:=x.keep b o e c n;obtain⟨n2,o2,e2,q2⟩:=y.keep b o1 e1 c n1;refine⟨n2,o2,e2,?_⟩;rcases q1 with rfl|⟨hf,hn,sl,rfl⟩
  ·exact q2
  ·rcases q2 with rfl|⟨_,_,sl',rfl⟩
   ·exact .inr ⟨hf,hn,sl,rfl⟩
   ·exact .inr ⟨hf,hn,sl',rfl⟩⟩
theorem bz.trans(x:bz fs ch cm m s cm' m' s')(y:bz fs ch cm' m' s' cm'' m'' s''):bz fs ch cm m s cm'' m'' s'':=.of (λb o e=>(x.thr b o e).elim λo' ⟨e,k⟩=>(y.thr b o' e).elim λo2 ⟨e,q⟩=>⟨o2,e,q.1 ∘ k.1,q.2 ∘ k.2⟩) (λi l h=>y.lent i l (x.lent i l h)) (x.toExtK.trans y.toExtK)
theorem bz.weak{ch':List RC}(x:bz fs ch cm m s cm' m' s')(w:∀b∈ch,b∉ch'->s.heap.get? b=Zy):bz fs ch' cm m s cm' m' s':=
 .of x.thr x.lent ⟨x.os,x.bare,x.pre,x.len,λb o e c n=>x.keep b o e (λz=>by rw[w b z c]at e;cases e) n⟩
theorem bz.heap{g:Rq}{t:Nat}{d:Drawn}(k:∀b o,b∉ch->s.heap.get? b=Zz o->g.get? b=Zz o)(q:∀b∈ch,∀o,s.heap.get? b=Zz o->∃o',g.get? b=Zz o'/\Kd o o'):bz fs ch cm m s cm m { s with heap:=g,toks:=t,drawn:=d }:=
 .of (λb o e=>(Classical.em (b∈ch)).elim (λz=>q b z o e) λz=>⟨o,k b o z e,.r⟩) (λ_ _ h=>h) ⟨rfl,id,λ_ _ h=>h,RU _,λb o e c n=>⟨n,o,k b o c e,.inl rfl⟩⟩
theorem bz.kept{g:Rq}{t:Nat}{d:Drawn}(k:∀b o,s.heap.get? b=Zz o->g.get? b=Zz o):bz fs ch cm m s cm m { s with heap:=g,toks:=t,drawn:=d }:=.heap (λb o _=>k b o) λb _ o e=>⟨o,k b o e,.r⟩
theorem bh.go(M:bh X cm m s.heap)(N:Nq X.fs ch s.heap)(x:ExtK X.fs ch cm m s cm m s')(k:∀b o,b∉ch->s.heap.get? b=Zz o->s'.heap.get? b=Zz o)(q:X.Tab s'.heap):bh X cm m s'.heap:=⟨M.len,M.inj,λi p e=>by
 obtain⟨a,y,h1,⟨⟨n,h2⟩,h3⟩,h5,h6⟩:=M.at' i p e;exact⟨a,y,h1,⟨⟨n,k _ _ (N.no h2 (.seq _ _ rfl h3.1)) h2⟩,h3⟩,h5,h6.mp λ_ _ r=>r.go x M N⟩,q⟩
theorem bh.Kc{q:Option (Bool×List T)}{p:Bool×List T}(M:bh X cm m s.heap)(hp:m[i]?=Zz (Zz p))(ha:cm[i]?=Zz a)(ho:∀b o,b≠a->s.heap.get? b=Zz o->s'.heap.get? b=Zz o)(os:s'.os=s.os)(gs:s'.gens=s.gens)(hq:∀b l,q=Zz (b,l)->∃y,fN X.fs s'.heap a y/\jx X.D cm m s.heap l y.toList)(ht:X.Tab s'.heap):ExtK X.fs ch cm m s cm (m.set i q) s'/\bh X cm (m.set i q) s'.heap:=by
 have hi:=(RG.mp hp).1;have live:∀{j:Nat}{r:Bool×List T},(m.set i q)[j]?=Zz (Zz r)->∃r',m[j]?=Zz (Zz r'):=λ{j r} e=>by
  by_cases hj:j=i
  ·exact⟨p,hj▸hp⟩
  ·rw[Rx (Tj hj)]at e;exact⟨r,e⟩
 have ex:∀ch,ExtK X.fs ch cm m s cm (m.set i q) s':=λch=>⟨os,λh=>by rw[gs];exact h,λ_ _ h=>h,by simp,λb o e _ n=>⟨λj r e'=>(live e').elim λr' z=>n j r' z,o,ho b o (λz=>n i p hp (z▸ha)) e,.inl rfl⟩⟩
 have nc:Nq X.fs [] s.heap:=Nq.nil;refine⟨ex ch,by rw[Ta];exact M.len,λj k b r t e1 e2=>?_,λj r e=>?_,ht⟩
 ·obtain⟨r',e1⟩:=live e1
  obtain⟨t',e2⟩:=live e2;exact M.inj j k b r' t' e1 e2
 ·by_cases hj:j=i
  ·subst hj
   rw[Rr hi]at e;cases e;obtain⟨y,h1,h2⟩:=hq r.1 r.2 rfl;obtain⟨b,x,h3,h4,h5,h6⟩:=M.at' j p hp;rw[ha]at h3;cases h3;exact⟨a,y,ha,h1,h5,h2.mp λ_ _ z=>z.go (ex []) M nc⟩
  ·rw[Rx (Tj hj)]at e
   obtain⟨b,y,h1,⟨⟨n,h2⟩,h3⟩,h5,h6⟩:=M.at' j r e;have hb:b≠a:=λz=>hj (M.inj j i a r p e hp (z▸h1) ha)
   exact⟨b,y,h1,⟨⟨n,ho b _ hb h2⟩,h3⟩,h5,h6.mp λ_ _ z=>z.go (ex []) M nc⟩
theorem bh.upd{q:Option (Bool×List T)}{p:Bool×List T}(M:bh X cm m s.heap)(hp:m[i]?=Zz (Zz p))(ha:cm[i]?=Zz a)(ho:∀b o,b≠a->s.heap.get? b=Zz o->s'.heap.get? b=Zz o)(os:s'.os=s.os)(gs:s'.gens=s.gens)(hq:∀b l,q=Zz (b,l)->∃y,fN X.fs s'.heap a y/\jx X.D cm m s.heap l y.toList)(he:q=Zy->s'.heap=s.heap)(ht:X.Tab s'.heap)(hl:p.1=true->∃l,q=Zz (true,l)/\l=p.2):bz X.fs ch cm m s cm (m.set i q) s'/\bh X cm (m.set i q) s'.heap:=by
 obtain⟨x,M'⟩:=M.Kc (ch:=ch) hp ha ho os gs hq ht;refine⟨.of (λb o e=>?_) (λj l e=>?_) x,M'⟩
 ·by_cases hb:b=a
  ·subst hb
   cases q with
   |none=>rw[he rfl];exact⟨o,e,.r⟩
   |some r =>
    obtain⟨y,⟨⟨_,z⟩,_⟩,_⟩:=hq r.1 r.2 rfl;obtain⟨c,_,h1,⟨⟨_,h2⟩,_⟩,_⟩:=M.at' i p hp;rw[ha]at h1;cases h1;rw[e]at h2;cases h2;exact⟨_,z,(λ_ v z=>nomatch z),λn=>Y3 rfl (n _ _)⟩
  ·exact⟨o,ho b o hb e,.r⟩
 ·by_cases hj:j=i
  ·subst hj;rw[hp]at e;cases e
   obtain⟨l',rfl,rfl⟩:=hl rfl;exact Rr (RG.mp hp).1
  ·rw[Rx (Tj hj)];exact e
theorem bh.new{l:List T}{y:Array R4}(M:bh X cm m s.heap)(k:∀b o,s.heap.get? b=Zz o->s'.heap.get? b=Zz o)(os:s'.os=s.os)(gs:s'.gens=s.gens)(n:s.heap.get? a=Zy)(nb:X.base.get? a=Zy)(p:fN X.fs s'.heap a y)(r:jx X.D cm m s.heap l y.toList)(ht:X.Tab s'.heap):
  bz X.fs ch cm m s (cm++[a]) (m++[Zz (false,l)]) s'/\bh X (cm++[a]) (m++[Zz (false,l)]) s'.heap/\(cm++[a])[m.length]?=Zz a:=by
 have ml:=M.len;have top:(cm++[a])[m.length]?=Zz a:=by rw[<-ml];simp
 have old:∀{j:Nat}{q:Bool×List T},(m++[Zz (false,l)])[j]?=Zz (Zz q)->(m[j]?=Zz (Zz q)/\(cm++[a])[j]?=cm[j]?)∨j=m.length/\q=(false,l):=λ{j q} e=>by
  rcases Nat.lt_trichotomy j m.length with h|h|h
  ·rw[Ro h]at e
   exact .inl ⟨e,Ro (by omega)⟩
  ·subst h;simp at e;exact .inr ⟨rfl,e.symm⟩
  ·rw[TX (by simp;omega)]at e;cases e
 have ex:∀ch,bz X.fs ch cm m s (cm++[a]) (m++[Zz (false,l)]) s':=λch=>by
  refine .of (λb o e=>⟨o,k b o e,.r⟩) (λi q e=>?_) ⟨os,λh=>by rw[gs];exact h,λi b e=>?_,by simp,λb o e _ h=>⟨λj q z=>?_,o,k b o e,.inl rfl⟩⟩
  ·rw[Ro (RG.mp e).1];exact e
  ·rw[Ro (RG.mp e).1];exact e
  ·rcases old z with⟨z,c⟩|⟨rfl,_⟩
   ·rw[c];exact h j q z
   ·rw[top];intro z;cases z;rw[n]at e;cases e
 have nc:Nq X.fs [] s.heap:=Nq.nil;have nl:∀(j:Nat) q,m[j]?=Zz (Zz q)->cm[j]?≠Zz a:=λj q e z=>by
  obtain⟨b,x,h1,⟨⟨_,h2⟩,_⟩,_⟩:=M.at' j q e;rw[z]at h1;cases h1;rw[n]at h2;cases h2
 refine⟨ex ch,⟨by simp[ml],λi j b q t e1 e2 c1 c2=>?_,λi q e=>?_,ht⟩,top⟩
 ·rcases old e1 with⟨e1,c⟩|⟨rfl,_⟩<;>rcases old e2 with⟨e2,d⟩|⟨rfl,_⟩
  ·exact M.inj i j b q t e1 e2 (c▸c1) (d▸c2)
  ·rw[top]at c2;cases c2;exact Y3 (c▸c1) (nl i q e1)
  ·rw[top]at c1;cases c1;exact Y3 (d▸c2) (nl j t e2)
  ·rfl
 ·rcases old e with⟨e,c⟩|⟨rfl,rfl⟩
  ·obtain⟨b,x,h1,⟨⟨n',h2⟩,h3⟩,h4,h5⟩:=M.at' i q e
   exact⟨b,x,c.trans h1,⟨⟨n',k _ _ h2⟩,h3⟩,h4,h5.mp λ_ _ z=>z.go (ex []).toExtK M nc⟩
  ·exact⟨a,y,top,p,nb,r.mp λ_ _ z=>z.go (ex []).toExtK M nc⟩
end
def Lq(c:Vn)(x:Str):Prop:=c.names.lookup x=Zz .local∨c.names.lookup x=Zz .cell∨c.names.lookup x=Zz .free
def Loc(X:Cx)(x:Str):Prop:=X.env.scope.names.lookup x=Zz .local∨(X.env.scope.names.lookup x=Zz .cell/\X.fn x=true)
def Look(e:Sn)(h:Rq)(f:Str->Option R4)(x:Str)(u:R4):Prop:=
 (e.kindOf x=Zz .local/\f x=Zz u)∨((e.kindOf x=Zz .cell∨e.kindOf x=Zz .free)/\∃c,e.cells.lookup x=Zz c/\h.IsCell c (Zz u))
structure Cx.Ok (X:Cx):Prop where
 mod:Mod X.K X.mg X.base
 kind:X.env.scope.kind=.function
 glob:X.env.globals=RH
 blt:X.env.builtins=Up
 inj:∀x y c,X.env.cells.lookup x=Zz c->X.env.cells.lookup y=Zz c->x=y
 has:∀x,(X.env.kindOf x=Zz .cell∨X.env.kindOf x=Zz .free)->∃c,X.env.cells.lookup x=Zz c
 hd:X.calm=true->X.A.handled=Zy
 frames:X.A.frames=Zz X.stack
 GS:∀e∈X.stack,e.scope.kind≠.module/\∃L∈X.fs,e.frame=Zz L
 fr:X.env.locals∈X.fs
 cb:∀x c,X.env.cells.lookup x=Zz c->X.base.get? c=Zy
 tab:∀h,X.Tab h->Nc X.base X.tb h
 n9:∀h h',X.Tab h->(∀b o,b∈X.tb->h.get? b=Zz o->h'.get? b=Zz o)->X.Tab h'
 zw:∀h,X.Tab h->∀b∈X.tb,∃o,h.get? b=Zz o
def NF(X:Cx)(b:RC)(o:Obj):Prop:=(∀v,o.data≠.fields v)/\(b∈frs X.stack->∀x n,o.data≠.seq x n)
structure Fr (X:Cx) (env:Mi.Env) (cm:List RC) (m:Mem) (s:RA):Prop where
 ok:X.Ok
 mem:bh X cm m s.heap
 bare:Wk s.gens
 bs:∀b o,X.base.get? b=Zz o->s.heap.get? b=Zz o
 loc:∃f,s.heap.Ns X.env.locals f/\∀(i:Nat) x w,X.N[i]?=Zz x->env[i]?=Zz (Zz w)->Lq X.env.scope x->∃u,RW X.D cm m s.heap w u/\Look X.env s.heap f x u
 cell:∀x c,X.env.cells.lookup x=Zz c->∃v,s.heap.IsCell c v
 cN:∀b∈X.fs,X.base.get? b=Zy/\∃o,s.heap.get? b=Zz o/\NF X b o
 len:env.length=X.N.length
noncomputable def Cx.oc(X:Cx):List RC:=(X.env.cells.map (·.1)).filterMap λx=>if X.fn x then X.env.cells.lookup x else Zy
noncomputable abbrev Cx.own(X:Cx):List RC:=X.env.locals::(X.tb++X.oc)
theorem oV{X:Cx}{b:RC}:b∈X.oc↔∃x,X.fn x=true/\X.env.cells.lookup x=Zz b:=by
 unfold Cx.oc;rw[U1];refine⟨λ⟨x,_,h⟩=>?_,λ⟨x,h1,h2⟩=>⟨x,Rg.mpr ⟨_,T5 h2,rfl⟩,by rw[Xy h1];exact h2⟩⟩;obtain⟨h1,h2⟩:=RB.mp h;exact⟨x,h1,h2⟩
section
variable{X Y:Cx}{P:Sf}{w:TB}{f f':List RC}{cm:List RC}{m:Mem}{h h':Rq}{t:T}{v:R4}{u:W}{l:List T}{y:List R4}{a:RC}
theorem fN.fr{x:Array R4}(n:∀b∈f',b∈f∨h.get? b=Zy)(k:∀b o,h.get? b=Zz o->h'.get? b=Zz o)(p:fN f h a x):fN f' h' a x:=by
 obtain⟨⟨c,e⟩,q,z⟩:=p;exact⟨⟨c,k _ _ e⟩,λb=>(n a b).elim q λb=>(by rw[b]at e;cases e),z⟩
theorem pN.fr{x:Array R4}{c:String}(k:∀b o,h.get? b=Zz o->h'.get? b=Zz o)(p:pN c h a x):pN c h' a x:=let⟨o,n,e,r⟩:=p;⟨o,n,k _ _ e,r⟩
theorem RT.gen{cm':List RC}{m':Mem}(nl:∀a,aU cm m a->aU cm' m' a)(n:∀b∈f',b∈f∨h.get? b=Zy)(k:∀b o,h.get? b=Zz o->h'.get? b=Zz o)(r:RT ⟨P,w,f⟩ cm m h t v):RT ⟨P,w,f'⟩ cm' m' h' t v:=by
 induction r with
 |non=>exact .non
 |bl b=>exact .bl b
 |int i t=>exact .int i t
 |str i t=>exact .str i t
 |tup p f l _ ih=>exact .tup (p.fr k) (λb=>(n _ b).elim f λb=>(let⟨_,_,e,_⟩:=p;by rw[b]at e;cases e)) l ih
 |lst p c l _ ih=>exact .lst (p.fr n k) (nl _ c) l ih
 |db ns p c f l=>exact .db ns (p.fr k) (nl _ c) (λb=>(n _ b).elim f λb=>(let⟨_,_,e,_⟩:=p;by rw[b]at e;cases e)) l
 |dct p c l1 l2 _ ih =>
  obtain⟨z,y,⟨o,es,ep,e,r⟩,q⟩:=p;exact .dct ⟨z,y,⟨o,es,ep,k _ _ e,r⟩,λb=>(n _ b).elim q λb=>(by rw[b]at e;cases e)⟩ (nl _ c) l1 l2 ih
theorem RT.fr(n:∀b∈f',b∈f∨h.get? b=Zy)(k:∀b o,h.get? b=Zz o->h'.get? b=Zz o)(r:RT ⟨P,w,f⟩ cm m h t v):RT ⟨P,w,f'⟩ cm m h' t v:=r.gen (λ_ h=>h) n k
theorem XP.fr{C:RC}{dx:Option RC}(k:∀b o,h.get? b=Zz o->h'.get? b=Zz o)(p:XP h a C dx):XP h' a C dx:=by
 obtain⟨o,vs,u,e,c,d,q,g,r⟩:=p;exact⟨o,vs,u,k _ _ e,c,d,q,g,r.imp id λ⟨T,p,ts,a,b,c,d⟩=>⟨T,p,ts,a,b,k _ _ c,d⟩⟩
theorem XF.fr{ks:List Str}{dx:Option RC}(n:∀b∈f',b∈f∨h.get? b=Zy)(k:∀b o,h.get? b=Zz o->h'.get? b=Zz o)(p:XF ⟨P,w,f⟩ cm m h ks l dx):XF ⟨P,w,f'⟩ cm m h' ks l dx:=by
 cases dx with
 |none=>exact p
 |some d =>
  obtain⟨vs,g,h1,⟨o,es,ep,e,r⟩,h3,h4,h5⟩:=p;exact⟨vs,g,λb=>(n _ b).elim h1 λb=>(by rw[b]at e;cases e),⟨o,es,ep,k _ _ e,r⟩,h3,h4,h5.mp λ_ _ r=>r.fr n k⟩
theorem RW.fr(n:∀b∈f',b∈f∨h.get? b=Zy)(k:∀b o,h.get? b=Zz o->h'.get? b=Zz o)(r:RW ⟨P,w,f⟩ cm m h u v):RW ⟨P,w,f'⟩ cm m h' u v:=by
 cases u with
 |t t=>exact RT.fr n k r
 |c i=>exact r
 |x C ks l=>obtain⟨e,dx,h1,h2,h3⟩:=r;exact⟨e,dx,h1,h2.fr k,h3.fr n k⟩
theorem bh.fr(T:Y.toBs=X.toBs)(n:∀b∈Y.fs,b∈X.fs∨h.get? b=Zy)(k:∀b o,h.get? b=Zz o->h'.get? b=Zz o)(q:X.Tab h->X.Tab h')(M:bh X cm m h):bh Y cm m h':=by
 obtain⟨B,A,N,env,stack,fs,fn,calm⟩:=Y;cases T;exact⟨M.len,M.inj,λi p e=>by
  obtain⟨a,x,h1,h2,h3,h4⟩:=M.at' i p e;exact⟨a,x,h1,h2.fr n k,h3,h4.mp λ_ _ r=>r.fr n k⟩,q M.tab⟩
theorem bz.fr{fs fs' ch:List RC}{cm':List RC}{m':Mem}{s s':RA}(n:∀b∈fs',b∈fs∨s.heap.get? b=Zy)(x:bz fs' ch cm m s cm' m' s'):bz fs ch cm m s cm' m' s':=
 .of x.thr x.lent ⟨x.os,x.bare,x.pre,x.len,λb o e c nl=>by
  obtain⟨n',o',e',r⟩:=x.keep b o e c nl;exact⟨n',o',e',r.imp id λ⟨z,r⟩=>⟨(n b z).elim id λz=>(by rw[z]at e;cases e),r⟩⟩⟩
end
section
variable{h':Rq}{X:Cx}{D:Dm}{env:Mi.Env}{cm cm':List RC}{m m':Mem}{s s':RA}{w:W}{v:R4}{l:List T}{x:Array R4}{a:RC}{ch:List RC}{o:Obj}
theorem Fr.jq(I:Fr X env cm m s):X.K.In s.heap:=I.ok.mod.jq.keeps I.bs
theorem Fr.nc(I:Fr X env cm m s):Nc X.base X.tb s.heap:=I.ok.tab _ I.mem.tab
theorem ro(M:bh X cm m s.heap)(e:s.heap.get? a=Zz o)(n:∀x n,o.data≠.seq x n):aU cm m a:=λi p q z=>by
 obtain⟨b,x,h1,⟨⟨k,h2⟩,_⟩,_⟩:=M.at' i p q;rw[h1]at z;cases z;rw[e]at h2;cases h2;exact n _ _ rfl
theorem K5(M:bh X cm m s.heap)(h:a∈X.fs):aU cm m a:=λi p q z=>by
 obtain⟨b,x,h1,⟨_,h2,_⟩,_⟩:=M.at' i p q;rw[h1]at z;cases z;exact h2 h
theorem XP.go{C:RC}{dx:Option RC}(x:ExtK D.fs ch cm m s cm' m' s')(M:bh X cm m s.heap)(N:Nq D.fs ch s.heap)(p:XP s.heap a C dx):XP s'.heap a C dx:=by
 obtain⟨o,vs,u,e,c,d,f,g,r⟩:=p;obtain⟨_,o',e',c',f',d'⟩:=x.sq e (N.no e (.ref _ _ c f)) (ro M e λx n z=>by rw[f]at z;cases z);refine⟨o',vs,u,e',c'.trans c,d'.trans d,f'.trans f,g,r.imp id ?_⟩;rintro ⟨T,p,ts,t1,t2,t3,t4,t5,t6⟩;obtain⟨_,p',e',c',f',_⟩:=x.sq t3 (N.no t3 (.trace _ t4 t5)) (ro M t3 λx n z=>by rw[t5]at z;cases z);exact⟨T,p',ts,t1,t2,e',c'.trans t4,f'.trans t5,t6⟩
theorem XF.go{k:List Str}{l:List T}{dx:Option RC}(x:ExtK D.fs ch cm m s cm' m' s')(M:bh X cm m s.heap)(N:Nq D.fs ch s.heap)(p:XF D cm m s.heap k l dx):XF D cm' m' s'.heap k l dx:=by
 cases dx with
 |none=>exact p
 |some d =>
  obtain⟨vs,f,h1,⟨o,es,ep,e,c,r⟩,h3,h4,h5⟩:=p;obtain⟨_,o',e',q⟩:=x.keep d o e (N.no e (.dict _ _ c h1)) (ro M e λx n z=>by rw[c]at z;cases z);rcases q with rfl|⟨q,_⟩
  ·exact⟨vs,f,h1,⟨_,es,ep,e',c,r⟩,h3,h4,h5.mp λ_ _ r=>r.go x M N⟩
  ·exact Y3 q h1
theorem RW.go(x:ExtK D.fs ch cm m s cm' m' s')(M:bh X cm m s.heap)(N:Nq D.fs ch s.heap)(r:RW D cm m s.heap w v):RW D cm' m' s'.heap w v:=by
 cases w with
 |t t=>exact RT.go x M N r
 |c i=>obtain⟨a,h1,h2⟩:=r;exact⟨a,x.pre i a h1,h2⟩
 |x C k l=>obtain⟨e,dx,h1,h2,h3⟩:=r;exact⟨e,dx,h1,h2.go x M N,h3.go x M N⟩
theorem wz.go{l:List W}{y:List R4}(x:ExtK D.fs ch cm m s cm' m' s')(M:bh X cm m s.heap)(N:Nq D.fs ch s.heap)(r:wz D cm m s.heap l y):wz D cm' m' s'.heap l y:=r.mp λ_ _ r=>r.go x M N
theorem Fr.Ma{f:List RC}{env2:Mi.Env}(I:Fr X env cm m s)(K:Cx.Ok { X with fs:=f })(nn:∀b∈f,b∈X.fs∨s.heap.get? b=Zy)(fu:∀b∈f,b∉X.fs->X.base.get? b=Zy/\∃o,s'.heap.get? b=Zz o/\NF X b o)(x:ExtK f ch cm m s cm' m' s')(M:bh { X with fs:=f } cm' m' s'.heap)(N:∀b∈ch,X.base.get? b=Zy/\∀o,s.heap.get? b=Zz o->∃vs,o.data=.fields vs)(tr:∀(i:Nat) w2,env2[i]?=Zz (Zz w2)->∃w,env[i]?=Zz (Zz w)/\∀u,RW X.D cm m s.heap w u->RW (Cx.D { X with fs:=f }) cm' m' s'.heap w2 u)(hl2:env2.length=env.length):Fr { X with fs:=f } env2 cm' m' s':=by
 have nc:∀{b o},s.heap.get? b=Zz o->(∀v,o.data≠.fields v)->b∉ch:=λe n z=>((N _ z).2 _ e).elim λv d=>n v d
 have sq:∀{b o},s.heap.get? b=Zz o->(∀v,o.data≠.fields v)->(∀x n,o.data≠.seq x n)->∃o',s'.heap.get? b=Zz o'/\o'.cls=o.cls/\o'.data=o.data/\o'.dict=o.dict:=λe n k=>(x.sq e (nc e n) (ro I.mem e k)).2
 have cell:∀{c v},s.heap.IsCell c v->s'.heap.IsCell c v:=λ⟨o,e,d⟩=>by
  obtain⟨o',e',_,d',_⟩:=sq e (λv z=>by rw[d]at z;cases z) λx n z=>by rw[d]at z;cases z
  exact⟨o',e',d'.trans d⟩
 obtain⟨f,⟨o,es,ep,e,d,r⟩,hl⟩:=I.loc;obtain⟨o',e',_,d',_⟩:=sq e (λv z=>by rw[d]at z;cases z) λx n z=>by rw[d]at z;cases z
 refine⟨K,M,x.bare I.bare,λb o q=>?_,⟨f,⟨o',es,ep,e',d'.trans d,r⟩,λi y w h1 h2 h3=>?_⟩,λy c h=>(I.cell y c h).elim λv z=>⟨v,cell z⟩,λb hb=>?_,hl2.trans I.len⟩
 ·have e:=I.bs b o q
  have nl:aU cm m b:=λi p h1 h2=>by
   obtain⟨a,y,h3,h4,h5,_⟩:=I.mem.at' i p h1;rw[h2]at h3;cases h3;rw[h5]at q;cases q
  obtain⟨_,o',e',z⟩:=x.keep b o e (λz=>by rw[(N b z).1]at q;cases q) nl;rcases z with rfl|⟨z,_⟩
  ·exact e'
  ·rcases nn _ z with z|z
   ·have:=(I.cN _ z).1;rw[q]at this;cases this
   ·rw[e]at z;cases z
 ·obtain⟨w',hw,tr⟩:=tr i w h2
  obtain⟨u,h4,h5⟩:=hl i y w' h1 hw h3;exact⟨u,tr u h4,h5.imp id λ⟨k,c,h6,h7⟩=>⟨k,c,h6,cell h7⟩⟩
 ·by_cases hf:b∈X.fs
  rotate_left
  ·exact fu b hb hf
  obtain⟨hb,o,e,n⟩:=I.cN _ hf;obtain⟨_,o',e',_,d',_⟩:=x.sq e (nc e n.1) (K5 I.mem ‹_›);exact⟨hb,o',e',λv z=>n.1 v (d'.symm.trans z),λh x c z=>n.2 h x c (d'.symm.trans z)⟩
theorem Fr.LC{f:List RC}(I:Fr X env cm m s)(K:Cx.Ok { X with fs:=f })(nn:∀b∈f,b∈X.fs∨s.heap.get? b=Zy)(fu:∀b∈f,b∉X.fs->X.base.get? b=Zy/\∃o,s'.heap.get? b=Zz o/\NF X b o)(x:ExtK f ch cm m s cm' m' s')(M:bh { X with fs:=f } cm' m' s'.heap)(N:Nc X.base ch s.heap):Fr { X with fs:=f } env cm' m' s':=
 I.Ma K nn fu x M (λb h=>⟨(N b h).1,λo e=>((N b h).2 o e).1⟩) (λi w e=>⟨w,e,λu h=>(h.fr nn λ_ _ e=>e).go x I.mem N.q⟩) rfl
theorem Fr.go(I:Fr X env cm m s)(x:ExtK X.fs ch cm m s cm' m' s')(M:bh X cm' m' s'.heap)(N:Nc X.base ch s.heap):Fr X env cm' m' s':=I.LC (f:=X.fs) I.ok (λ_ h=>.inl h) (λ_ h n=>Y3 h n) x M N
theorem rh{N:List Str}(hN:N.Nodup){i j:Nat}{x:Str}(a:N[i]?=Zz x)(b:N[j]?=Zz x):i=j:=by
 obtain⟨h1,e1⟩:=RG.mp a;obtain⟨h2,e2⟩:=RG.mp b;exact(List.getElem_inj hN).mp (e1.trans e2.symm)
theorem Fr.nq(I:Fr X env cm m s):Nq X.fs X.own s.heap:=λb hb o e f=>by
 have no:∀d,o.data=d->(∀x n,d≠.seq x n)->(b∈X.fs∨∀x n,d≠.dict x n)->(∀v,d≠.fields v)->False:=λd h h1 h2 h3=>by
  cases f with
  |seq x n q _=>exact h1 x n (h.symm.trans q)
  |dict x n q g=>exact h2.elim g λk=>k x n (h.symm.trans q)
  |ref _ v _ q=>exact h3 v (h.symm.trans q)
  |trace v _ q=>exact h3 v (h.symm.trans q)
 rcases R7.mp hb with rfl|hb
 ·obtain⟨g,⟨o',es,ep,e',d,_⟩,_⟩:=I.loc
  rw[e]at e';cases e';exact no _ d (λ_ _ z=>nomatch z) (.inl I.ok.fr) λ_ z=>nomatch z
 ·rcases SP.mp hb with hb|hb
  ·exact I.nc.q b hb o e f
  ·obtain⟨y,_,hm⟩:=oV.mp hb
   obtain⟨v,o',e',d⟩:=I.cell y b hm;rw[e]at e';cases e';exact no _ d (λ_ _ z=>nomatch z) (.inr λ_ _ z=>nomatch z) λ_ z=>nomatch z
theorem IE{f:Str->Option R4}(h:h'.Ns a f):∃o,h'.get? a=Zz o/\(∀v,o.data≠.fields v)/\∀x n,o.data≠.seq x n:=by obtain⟨o,es,ep,e,d,_⟩:=h;exact⟨o,e,(λv z=>by rw[d]at z;cases z),λx n z=>by rw[d]at z;cases z⟩
theorem Fr.put{env2:Mi.Env}{g:Str->Option R4}{t:Nat}(I:Fr X env cm m s)(ha:a∈X.own)(e0:s.heap.get? a=Zz o)(d0:∀v,o.data≠.fields v)(hd:∃o,h'.get? a=Zz o/\(∀v,o.data≠.fields v)/\∀x n,o.data≠.seq x n)(hs:Te a s.heap h')(hb:X.base.get? a=Zy)(hg:h'.Ns X.env.locals g)(hloc:∀(j:Nat) y w',X.N[j]?=Zz y->env2[j]?=Zz (Zz w')->Lq X.env.scope y->∃u,RW X.D cm m s.heap w' u/\Look X.env h' g y u)(hcell:∀y c,X.env.cells.lookup y=Zz c->∃v,h'.IsCell c v)(hl:env2.length=env.length):bz X.fs X.own cm m s cm m { s with heap:=h',toks:=t }/\Fr X env2 cm m { s with heap:=h',toks:=t }:=by
 have kp:∀b o,b≠a->s.heap.get? b=Zz o->h'.get? b=Zz o:=λb o n e=>(hs.2 b n).trans e
 have ex:bz X.fs X.own cm m s cm m { s with heap:=h',toks:=t }:=.heap (λb o n e=>kp b o (λz=>n (z▸ha)) e) λb n o e=>by
  by_cases z:b=a
  ·subst z;rw[e0]at e;cases e
   obtain⟨o',e',q⟩:=hd;exact⟨o',e',λ_=>q.1,λ_=>q.2⟩
  ·exact⟨o,kp b o z e,.r⟩
 have M:=I.mem.go I.nq ex.toExtK (λb o n e=>kp b o (λz=>n (z▸ha)) e) (I.ok.n9 _ _ I.mem.tab λb o hb' e=>kp b o (λz=>by
  obtain⟨v,q⟩:=((I.nc b hb').2 o e).1;rw[z,e0]at e;cases e;exact d0 v q) e)
 refine⟨ex,I.ok,M,I.bare,λb o e=>kp b o (λz=>by rw[z,hb]at e;cases e) (I.bs b o e),⟨g,hg,λj y w' h1 h2 h3=>?_⟩,hcell,λb hb=>?_,hl.trans I.len⟩
 ·obtain⟨u,h4,h5⟩:=hloc j y w' h1 h2 h3
  exact⟨u,h4.go ex I.mem I.nq,h5⟩
 ·obtain⟨hb,o,e,n⟩:=I.cN b hb
  refine⟨hb,?_⟩;by_cases z:b=a
  ·subst z;exact hd.imp λo q=>⟨q.1,q.2.1,λ_=>q.2.2⟩
  ·exact⟨o,kp b o z e,n⟩
theorem store{M:XV}{A:Sb}{i:Nat}{x:Str}{Q F}(I:Fr X env cm m s)(hN:X.N.Nodup)(hi:X.N[i]?=Zz x)(hx:Loc X x)(r:RW X.D cm m s.heap w v)(k:∀s',bz X.fs X.own cm m s cm m s'->Fr X (env.set i (Zz w)) cm m s'->Q () s'):RF M A (XX X.env x v) Q F s:=by
 obtain⟨f,hn,hl⟩:=id I.loc;have li:i<env.length:=by rw[I.len];exact(RG.mp hi).1
 have cne:∀{y c},X.env.cells.lookup y=Zz c->c≠X.env.locals:=λh z=>by
  obtain⟨v,o,e,d⟩:=I.cell _ _ h;obtain⟨o',es,ep,e',d',_⟩:=hn;rw[z,e']at e;cases e;rw[d']at d;cases d
 have hcls:(X.env.scope.kind==.class || (X.env.scope.kind==.module&&X.env.locals != X.env.globals))=false:=by rw[I.ok.kind];rfl
 have nb:∀{a o},s.heap.get? a=Zz o->(∀b,X.base.get? a=Zz b->b=o):=λe b q=>by have:=I.bs _ _ q;rw[e]at this;cases this;rfl
 have nbl:X.base.get? X.env.locals=Zy:=(I.cN _ I.ok.fr).1;obtain⟨oL,es,ep,eL,dL,rL⟩:=id hn;rcases hx with hk|⟨hk,hf⟩
 ·refine wpAny_storeName_local hk hn (λh' hn' hs=>(λp=>k _ p.1 p.2) (I.put RD eL (λv z=>by rw[dL]at z;cases z) (IE hn') hs nbl hn' (λj y w' h1 h2 h3=>?_) (λy c h=>(I.cell y c h).elim λv z=>⟨v,?_⟩) Ta)) hcls
  ·by_cases hj:j=i
   ·subst hj
    rw[hi]at h1;cases h1;rw[Rr li]at h2;cases h2;exact⟨v,r,.inl ⟨hk,by simp⟩⟩
   ·rw[Rx (Tj hj)]at h2
    obtain⟨u,r',q⟩:=hl j y w' h1 h2 h3;refine⟨u,r',q.imp (λ⟨k,e⟩=>⟨k,?_⟩) λ⟨k,c,e,z⟩=>⟨k,c,e,z.sameBut hs (cne e)⟩⟩;have:y≠x:=λe=>hj (rh hN h1 (e▸hi))
    simp[this,e]
  ·refine z.sameBut hs λq=>?_
   obtain⟨o,e,d⟩:=z;rw[q,eL]at e;cases e;rw[dL]at d;cases d
 ·obtain⟨c,hc⟩:=I.ok.has x (.inl hk)
  obtain⟨w',z⟩:=I.cell x c hc;obtain⟨oc,ec,dc⟩:=id z;refine wpAny_storeName_cell I.ok.kind hk hc z (λh' hc' hs=>(λp=>k _ p.1 p.2) (I.put (t:=s.toks) (R5 _ (VC _ (oV.mpr ⟨_,hf,hc⟩))) ec (λv z=>by rw[dc]at z;cases z) (by obtain⟨o,e,d⟩:=hc';exact⟨o,e,(λv z=>by rw[d]at z;cases z),λx n z=>by rw[d]at z;cases z⟩) hs (I.ok.cb _ _ hc) (hn.sameBut hs (Tj (cne hc))) (λj y u h1 h2 h3=>?_) (λy c' h=>?_) Ta))
  ·by_cases hj:j=i
   ·subst hj
    rw[hi]at h1;cases h1;rw[Rr li]at h2;cases h2;exact⟨v,r,.inr ⟨.inl hk,c,hc,hc'⟩⟩
   ·rw[Rx (Tj hj)]at h2
    obtain⟨u',r',q⟩:=hl j y u h1 h2 h3;refine⟨u',r',q.imp id λ⟨k,c',e,z'⟩=>⟨k,c',e,z'.sameBut hs ?_⟩⟩;rintro rfl;exact hj (rh hN h1 (I.ok.inj _ _ _ e hc▸hi))
  ·by_cases hcc:c'=c
   ·subst hcc;exact⟨_,hc'⟩
   ·exact(I.cell y c' h).elim λv z=>⟨v,z.sameBut hs hcc⟩
theorem uD{i:Nat}{x:Str}{pos:Pos}{M:XV}{A:Sb}{Q:Unit->RA->Prop}{F:R4->RA->Prop}(I:Fr X env cm m s)(hN:X.N.Nodup)(hi:X.N[i]?=Zz x)(hk:X.env.scope.names.lookup x=Zz .local)(k:∀s',bz X.fs X.own cm m s cm m s'->Fr X (env.set i Zy) cm m s'->Q () s'):RF M A (do bindName X.env x .none;unbindBehindTheSuite X.env x pos) Q F s:=by
 obtain⟨f,hn,hl⟩:=id I.loc;have li:i<env.length:=by rw[I.len];exact(RG.mp hi).1
 obtain⟨oL,es,ep,eL,dL,rL⟩:=id hn;have cl:∀{c v h'},Te X.env.locals s.heap h'->s.heap.IsCell c v->h'.IsCell c v:=λhs z=>z.sameBut hs λq=>by
  obtain⟨o,e,d⟩:=z;rw[q,eL]at e;cases e;rw[dL]at d;cases d
 refine wpAny_nameGoes_keeps hk hn (by rw[I.ok.kind];rfl) λh' v hn' hs=>(λp=>k _ p.1 p.2) (I.put RD eL (λv z=>by rw[dL]at z;cases z) (IE hn') hs (I.cN _ I.ok.fr).1 hn' (λj y w' h1 h2 h3=>?_) (λy c h=>(I.cell y c h).elim λv z=>⟨v,cl hs z⟩) Ta)
 have hj:j≠i:=λz=>by rw[z,Rr li]at h2;cases h2
 rw[Rx (Tj hj)]at h2;obtain⟨u,r',q⟩:=hl j y w' h1 h2 h3;refine⟨u,r',q.imp (λ⟨k,e⟩=>⟨k,?_⟩) λ⟨k,c,e,z⟩=>⟨k,c,e,cl hs z⟩⟩;have:y≠x:=λe=>hj (rh hN h1 (e▸hi))
 simp[this,e]
end
def Md(X:Cx)(s0:RA)(cm:List RC)(m:Mem)(s:RA)(x:Exc)(v:R4):Prop:=(∃env,Fr X env cm m s)/\∃e dx,v=.ref e/\s0.heap.get? e=Zy/\XP s.heap e x.cls dx/\XF X.D cm m s.heap x.nms x.JW dx
noncomputable abbrev VK:=R4->RA->Prop
def aI{α:Type}(X:Cx)(ch:List RC)(cm:List RC)(m:Mem)(s:RA)(r:Res α)(J:VK)(k:α->List RC->Mem->RA->Prop):Prop:=match r with
 |.ok a m'=>∀cm' s',bz X.fs ch cm m s cm' m' s'->bh X cm' m' s'.heap->k a cm' m' s'
 |.exc x m'=>∀v cm' s',bz X.fs ch cm m s cm' m' s'->bh X cm' m' s'.heap->Md X s cm' m' s' x v->J v s'
 |.stuck=>False
section
variable{X:Cx}{env:Mi.Env}{cm cm':List RC}{m m':Mem}{s s':RA}{w:W}{v:R4}{ch:List RC}{α β:Type}{r:Res α}{J:VK}{k k':α->List RC->Mem->RA->Prop}
theorem aI.shift(h:aI X ch cm m s r J k)(x:bz X.fs ch cm m s cm' m' s'):aI X ch cm' m' s' r J k:=by
 cases r with
 |ok a m2=>exact λc t y M=>h c t (x.trans y) M
 |exc a m2 =>
  rintro v c t y M ⟨F,e,dx,h1,h2,h3⟩;refine h v c t (x.trans y) M ⟨F,e,dx,h1,?_,h3⟩;cases q:s.heap.get? e with
  |none=>rfl
  |some o=>obtain⟨_,z,_⟩:=x.thr e o q;rw[h2]at z;cases z
 |stuck=>exact h
theorem aI.bind{f:α->Mem->Res β}{k:β->List RC->Mem->RA->Prop}(h:aI X ch cm m s (r.bind f) J k):aI X ch cm m s r J λa cm' m' s'=>aI X ch cm' m' s' (f a m') J k:=by
 cases r with
 |ok a m2=>exact λc t x M=>aI.shift (r:=f a m2) h x
 |exc a m2=>exact h
 |stuck=>exact h
theorem aI.mono(h:aI X ch cm m s r J k)(f:∀a cm' m' s',bz X.fs ch cm m s cm' m' s'->bh X cm' m' s'.heap->k a cm' m' s'->k' a cm' m' s'):aI X ch cm m s r J k':=by
 cases r with
 |ok a m2=>exact λc t x M=>f a c m2 t x M (h c t x M)
 |exc a m2=>exact h
 |stuck=>exact h
theorem aI.to{a:α}(h:aI X ch cm m s (.ok a m') J k)(x:bz X.fs ch cm m s cm' m' s')(M:bh X cm' m' s'.heap):k a cm' m' s':=h _ _ x M
theorem aI.now{a:α}(h:aI X ch cm m s (.ok a m) J k)(M:bh X cm m s.heap):k a cm m s:=h cm s .refl M
theorem aV{f:α->Mem->Res β}{b:β}(e:r.bind f=.ok b m'):∃a m1,r=.ok a m1/\f a m1=.ok b m':=by
 cases r with
 |ok a m1=>exact⟨a,m1,rfl,e⟩
 |exc x m1=>cases e
 |stuck=>cases e
theorem Fr.up{g:Rq}{t:Nat}{d:Drawn}(I:Fr X env cm m s)(q:∀b o,s.heap.get? b=Zz o->g.get? b=Zz o):bz X.fs ch cm m s cm m { s with heap:=g,toks:=t,drawn:=d }/\Fr X env cm m { s with heap:=g,toks:=t,drawn:=d }:=by
 have x:bz X.fs [] cm m s cm m { s with heap:=g,toks:=t,drawn:=d }:=.kept q;have M:=I.mem.go Nq.nil x.toExtK (λb o _=>q b o) (I.ok.n9 _ _ I.mem.tab λb o _=>q b o);exact⟨.kept q,I.go x.toExtK M λ_ z=>nomatch z⟩
theorem lW{c:Prop}[Decidable c](h:aI X ch cm m s (if c then r else .stuck) J k):c/\aI X ch cm m s r J k:=by
 by_cases hc:c
 ·rw[Xy hc]at h;exact⟨hc,h⟩
 ·rw[Xz hc]at h;exact h.elim
theorem gf{o:Option T}{k:W->List RC->Mem->RA->Prop}(h:aI X ch cm m s (bX o m') J k):∃t,o=Zz t/\aI X ch cm m s (.ok (.t t) m') J k:=by
 cases o with
 |none=>exact h.elim
 |some t=>exact⟨t,rfl,h⟩
variable{call:Nat->List W->Mem->Res W}{gv:List T}
variable(call gv)
abbrev WK(X:Cx)(Q:VK):W->List RC->Mem->RA->Prop:=λw cm m s=>∀v,RW X.D cm m s.heap w v->Q v s
def PE(X:Cx)(e:SJ)(a:Mi.E):Prop:=∀env cm m s,Fr X env cm m s->∀Q J:VK,aI X X.tb cm m s (ev call gv a env m) J (WK X Q)->RF X.M X.A (eval e X.env) Q J s
def PA(X:Cx)(l:List SJ)(L:Es):Prop:=∀p env cm m s,Fr X env cm m s->∀(Q:List R4->RA->Prop) (J:VK),
 aI X X.tb cm m s (evs call gv L env m) J (λl cm m s=>∀y,wz X.D cm m s.heap l y->Q y s)->RF X.M X.A (Xg (backTo p (Tk l X.env))) Q J s
def PT(X:Cx)(e:SJ)(a:Mi.E):Prop:=∀env cm m s,Fr X env cm m s->∀(Q:Bool->RA->Prop) (J:VK),aI X X.tb cm m s ((ev call gv a env m).bind bT) J (λb _ _ s=>Q b s)->RF X.M X.A (isTrue e X.env (eval e X.env)) Q J s
def PW(X:Cx)(e:SJ)(a:Mi.E):Prop:=∀z env cm m s,Fr X env cm m s->∀(Q:Bool->RA->Prop) (J:VK),aI X X.tb cm m s ((ev call gv a env m).bind bT) J (λb _ _ s=>Q b s)->RF X.M X.A (isTrue e X.env z) Q J s
variable{call gv}
variable{e a b c:SJ}{es:List SJ}{E A B C:Mi.E}{L:Es}{pos p:Pos}
theorem PW.pt(h:PW call gv X e E):PT call gv X e E:=h _
theorem ta{α:Type}{t:Sem α}{Q Q':α->RA->Prop}{M:XV}{A:Sb}{E:R4->RA->Prop}{s:RA}(h:RF M A t Q E s)(hQ:∀a s,Q a s->Q' a s):RF M A t Q' E s:=TT h hQ λ_ _ x=>x
theorem PE.one{f:W->Mem->Res α}{Q:VK}(h:PE call gv X e E)(I:Fr X env cm m s)(hp:aI X X.tb cm m s ((ev call gv E env m).bind f) J k)(q:∀w v cm1 m1 s1,Fr X env cm1 m1 s1->bz X.fs X.tb cm m s cm1 m1 s1->RW X.D cm1 m1 s1.heap w v->aI X X.tb cm1 m1 s1 (f w m1) J k->Q v s1):RF X.M X.A (eval e X.env) Q J s:=
 h env cm m s I Q J (hp.bind.mono λw c1 m1 s1 x M o v r=>q w v c1 m1 s1 (I.go x M I.nc) x r o)
theorem PT.one{f:Bool->Mem->Res α}{Q:Bool->RA->Prop}(h:PT call gv X e E)(I:Fr X env cm m s)(hp:aI X X.tb cm m s (((ev call gv E env m).bind bT).bind f) J k)(q:∀b cm1 m1 s1,Fr X env cm1 m1 s1->bz X.fs X.tb cm m s cm1 m1 s1->aI X X.tb cm1 m1 s1 (f b m1) J k->Q b s1):RF X.M X.A (isTrue e X.env (eval e X.env)) Q J s:=
 h env cm m s I Q J (hp.bind.mono λw c1 m1 s1 x M o=>q w c1 m1 s1 (I.go x M I.nc) x o)
theorem PA.one{f:List W->Mem->Res α}{Q:List R4->RA->Prop}(h:PA call gv X es L)(I:Fr X env cm m s)(hp:aI X X.tb cm m s ((evs call gv L env m).bind f) J k)(q:∀w v cm1 m1 s1,Fr X env cm1 m1 s1->bz X.fs X.tb cm m s cm1 m1 s1->wz X.D cm1 m1 s1.heap w v->aI X X.tb cm1 m1 s1 (f w m1) J k->Q v s1):RF X.M X.A (Xg (backTo p (Tk es X.env))) Q J s:=
 h p env cm m s I Q J (hp.bind.mono λw c1 m1 s1 x M o v r=>q w v c1 m1 s1 (I.go x M I.nc) x r o)
theorem PE.two{f:W->W->Mem->Res α}{Q:R4->R4->RA->Prop}(ha:PE call gv X a A)(hb:PE call gv X b B)(I:Fr X env cm m s)(hp:aI X X.tb cm m s ((ev call gv A env m).bind λx m=>(ev call gv B env m).bind λy m=>f x y m) J k)(q:∀w u v z cm1 m1 s1,Fr X env cm1 m1 s1->bz X.fs X.tb cm m s cm1 m1 s1->RW X.D cm1 m1 s1.heap w v->RW X.D cm1 m1 s1.heap u z->aI X X.tb cm1 m1 s1 (f w u m1) J k->Q v z s1):RF X.M X.A (eval a X.env) (λv=>RF X.M X.A (eval b X.env) (λz=>Q v z) J) J s:=
 ha.one I hp λw v c1 m1 s1 I1 x1 r1 o=>hb.one I1 o λu z c2 m2 s2 I2 x2 r2 o=>q w u v z c2 m2 s2 I2 (x1.trans x2) (r1.go x2 I1.mem I1.nc.q) r2 o
theorem Fr.val{t:T}{k:Nat}{Q:VK}(I:Fr X env cm m s)(h:aI X X.tb cm m s (.ok (.t t) m) J (WK X Q))(r:RT X.D cm m s.heap t v):Q v { s with toks:=k }:=by
 have x:=(I.up (t:=k) (d:=s.drawn) (ch:=X.tb) (g:=s.heap) λ_ _ e=>e)
 exact h.to x.1 x.2.mem v r
theorem Fr.val'{t:T}{Q:VK}(I:Fr X env cm m s)(h:aI X X.tb cm m s (.ok (.t t) m) J (WK X Q))(r:RT X.D cm m s.heap t v):Q v s:=h.now I.mem v r
theorem HY{i:Nat}{x:Str}(hN:X.N[i]?=Zz x)(hv:Lq X.env.scope x)(hd:(x==("__debug__" : Str))=false:=by decide)(hcd:(x==("__classdict__" : Str))=false:=by decide):PE call gv X (.Name x pos) (.var i):=λenv cm m s I Q J h=>by
 rw[ev]at h;split at h
 ·obtain⟨f,hn,hl⟩:=I.loc
  obtain⟨u,r,l⟩:=hl i x _ hN ‹_› hv;have q:=h.now I.mem u r;rcases l with⟨hk,hm⟩|⟨hk|hk,c,hc,hcell⟩
  ·exact WR (VN I.ok.kind hk hn hm q) hd
  ·exact WR (Va I.ok.kind hk hc hcell q) hd
  ·exact WR (wpAny_loadName_free I.ok.kind hk hc hcell q hcd) hd
 ·exact h.elim
theorem Hy{i j}:PE call gv X (.Constant (.int i) j pos) (.con (.int i)):=λ_ _ _ _ I Q J h=>by rw[ev]at h;exact wpAny_Constant_int (I.val h (.int i _))
theorem JS{i j}:PE call gv X (.Constant (.bool i) j pos) (.con (.bl i)):=λ_ _ _ _ I Q J h=>by rw[ev]at h;exact Constant_bool (I.val' h (.bl i))
theorem Ii{j}:PE call gv X (.Constant .none j pos) (.con .non):=λ_ _ _ _ I Q J h=>by rw[ev]at h;exact Constant_none (I.val' h .non)
theorem Hj{x:List Nat}{y:Str}{j}(e:y=⟨x.toArray⟩):PE call gv X (.Constant (.str y) j pos) (.con (.str x)):=λ_ _ _ _ I Q J h=>by rw[ev]at h;subst e;exact Calls.Constant_str (I.val h (.str x _))
theorem Bl:PA call gv X [] .nil:=λp env cm m s I Q J h=>by rw[evs]at h;exact UD (h.now I.mem [] .nil)
theorem yg(ha:PE call gv X e E)(hr:PA call gv X es L)(hs:Tk (e::es) X.env=(false,eval e X.env)::Tk es X.env):PA call gv X (e::es) (.cons E L):=λp env cm m s I Q J h=>by
 rw[evs]at h;rw[hs];exact T9 (ha.one I h λw v c1 m1 s1 I1 x1 r h=>hr.one (p:=p) I1 h λws vs c2 m2 s2 I2 x2 rs h=>h.now I2.mem (v::vs) (.cons (r.go x2 I1.mem I1.nc.q) rs))
end
section
variable{X:Cx}{D:Dm}{env:Mi.Env}{cm cm':List RC}{m m':Mem}{s s':RA}{w u:W}{v z:R4}{ch:List RC}{α β:Type}{r:Res α}{J:VK}{k k':α->List RC->Mem->RA->Prop}{h g:Rq}{t:T}{l:List T}{y:List R4}{a:RC}{Q:VK}{n:Nat}{d:Drawn}{i:Nat}
theorem aY(M:bh X cm m h)(r:RW X.D cm m h w v)(e:view w m=Zz (.lst l)):∃a x,v=.ref a/\fN X.fs h a x/\jx X.D cm m h l x.toList:=by
 cases w with
 |t t =>
  cases e;cases r with
  |lst p _ q r=>exact⟨_,_,rfl,p,q,r⟩
 |c i =>
  obtain⟨a,h1,rfl⟩:=r;have e:(match m[i]? with|some (Zz (_,l))=>Zz (T.lst l)|_=>Zy)=Zz (.lst l):=e;split at e<;>cases e;obtain⟨b,x,h2,h3,_,h4⟩:=M.at' i _ ‹_›;rw[h1]at h2;cases h2;exact⟨a,x,rfl,h3,h4⟩
 |x _ _ _=>cases e
theorem aw(r:RW D cm m h w v)(e:view w m=Zz t)(n:∀l,t≠.lst l:=by intro l z;cases z):RT D cm m h t v:=by
 cases w with
 |t t=>cases e;exact r
 |c i =>
  have e:(match m[i]? with|some (Zz (_,l))=>Zz (T.lst l)|_=>Zy)=Zz t:=e;split at e<;>cases e;exact Y3 rfl (n _)
 |x _ _ _=>cases e
theorem RT.dO{i:Int}(r:RT D cm m h (.int i) v):∃t,v=.int i t:=by cases r;exact⟨_,rfl⟩
theorem RT.eX{x:List Nat}(r:RT D cm m h (.str x) v):∃t,v=.str ⟨x.toArray⟩ t:=by cases r;exact⟨_,rfl⟩
theorem RT.Ly{b:Bool}(r:RT D cm m h (.bl b) v):v=.bool b:=by cases r;rfl
theorem RT.jQ(r:RT D cm m h (.tup l) v):∃a x,v=.ref a/\pN "tuple" h a x/\jx D cm m h l x.toList:=by cases r with|tup p f q r=>exact⟨_,_,rfl,p,q,r⟩
theorem RT.tf(r:RT D cm m h (.tup l) (.ref a)):a∉D.fs:=by cases r with|tup p f q r=>exact f
theorem pN.tup{x:Array R4}(p:pN "tuple" h a x):Xq h a x:=let⟨o,n,e,c,d,_⟩:=p;⟨o,e,c,n,d⟩
theorem pN.pl{x:Array R4}(p:pN "list" h a x):Xh h a x:=let⟨o,n,e,c,d,q,_⟩:=p;⟨o,n,e,c,q,d⟩
theorem fN.pl{x:Array R4}{fs:List RC}(p:fN fs h a x):Xh h a x:=let⟨⟨n,e⟩,_⟩:=p;⟨_,n,e,rfl,rfl,rfl⟩
theorem fN.new{x:Array R4}(I:Fr X env cm m s)(z:x.size<=Ri):fN X.fs (s.heap.push { cls:=.type "list",data:=.seq x n }) s.heap.objs.size x:=⟨⟨n,RM _ rfl⟩,λhb=>by obtain⟨_,o,ho,_⟩:=I.cN _ hb;exact SI _ (Rj ho),z⟩
theorem line:lim<Ri/\Ri<2^62:=by rw[Sv];decide
theorem pN.new{k:String}{x:Array R4}{o:Obj}(e:o.cls=.type k)(e2:o.data=.seq x n)(e3:o.dict=Zy)(e4:o.slots=#[])(z:x.size<=Ri):pN k (h.push o) h.objs.size x:=⟨o,n,RM _ (by obtain⟨c,d,dt,sl⟩:=o;cases e2;rfl),e,e2,e3,z⟩
theorem AO{t:T}(I:Fr X env cm m s)(r:RW X.D cm m s.heap w v)(e:Ff w m=.ok t m'):bz X.fs X.tb cm m s cm m' s/\Fr X env cm m' s/\RT X.D cm m' s.heap t v:=by
 cases w with
 |t t=>cases e;exact⟨.refl,I,r⟩
 |c i =>
  obtain⟨a,h1,rfl⟩:=r;have e:(match m[i]? with|some (Zz (false,l))=>Res.ok (T.lst l) (m.set i Zy)|_=>.stuck)=.ok t m':=e;split at e<;>cases e;obtain⟨b,x,h2,h3,h4,h5⟩:=I.mem.at' i _ ‹_›;rw[h1]at h2;cases h2;obtain⟨x1,M⟩:=I.mem.upd (s':=s) (ch:=[]) (q:=Zy) ‹_› h1 (λ_ _ _ e=>e) rfl rfl (λ_ _ z=>nomatch z) (λ_=>rfl) I.mem.tab λz=>by cases z
  have I':=I.go x1.toExtK M λ_ z=>nomatch z
  refine⟨x1.weak λ_ z=>(nomatch z),I',.lst h3 (λj p e e2=>?_) h5.1 λj t v a b=>(h5.2 j t v a b).go x1 I.mem Nq.nil⟩;by_cases hj:j=i
  ·subst hj;rw[Rr (RG.mp ‹m[j]?=_›).1]at e;cases e
  ·rw[Rx (Tj hj)]at e;exact hj (I.mem.inj _ _ _ _ _ e ‹_› e2 h1)
 |x _ _ _=>cases e
theorem uB{x:Exc}:Ff w m≠.exc x m':=by
 intro h;unfold Ff at h;split at h<;>first|cases h|(split at h<;>cases h)
theorem l9:∀{l:List W}{m m':Mem}{x:Exc},ii l m≠.exc x m'
 |[],_,_,_=>λh=>by cases h
 |w::l,m,m',x=>λh=>by
  rw[ii]at h;cases q:Ff w m with
  |stuck=>rw[q]at h;cases h
  |exc y m1=>exact uB q
  |ok t m1 =>
   rw[q]at h;have h':((ii l m1).bind λts m=>Res.ok (t::ts) m)=.exc x m':=h;cases q2:ii l m1 with
   |stuck=>rw[q2]at h';cases h'
   |exc y m2=>exact l9 q2
   |ok ts m2=>rw[q2]at h';cases h'
theorem ww:∀{l:List W}{y:List R4}{t:List T}{m m':Mem},Fr X env cm m s->wz X.D cm m s.heap l y->ii l m=.ok t m'->bz X.fs X.tb cm m s cm m' s/\Fr X env cm m' s/\jx X.D cm m' s.heap t y
 |[],y,_,_,_,I,r,e=>by cases e;exact⟨.refl,I,by obtain rfl:y=[]:=RP.mp r.1.symm;exact .nil⟩
 |w::l,_,t,m,m',I,r,e=>by
  obtain⟨v,y,rfl,r,rs⟩:=r.inv;rw[ii]at e;obtain⟨t,m1,e1,e⟩:=aV e;obtain⟨ts,m2,e2,e⟩:=aV e;cases e;obtain⟨x1,I1,r1⟩:=AO I r e1;obtain⟨x2,I2,r2⟩:=ww I1 (wz.go x1 I.mem I.nc.q rs) e2;exact⟨x1.trans x2,I2,.cons (r1.go x2 I1.mem I1.nc.q) r2⟩
theorem nA{f:List T->Mem->Res α}{l:List W}(I:Fr X env cm m s)(r:wz X.D cm m s.heap l y)(h:aI X X.tb cm m s ((ii l m).bind f) J k):∃t m',Fr X env cm m' s/\jx X.D cm m' s.heap t y/\aI X X.tb cm m' s (f t m') J k:=by
 cases q:ii l m with
 |stuck=>rw[q]at h;exact h.elim
 |exc x m'=>exact Y3 q l9
 |ok t m' =>
  rw[q]at h;obtain⟨x,I',r'⟩:=ww I r q;exact⟨t,m',I',r',h.shift x⟩
theorem gj(h:Rq):h.get? h.objs.size=Zy:=Rt (RU _)
theorem Iw(k:∀b o,h.get? b=Zz o->g.get? b=Zz o):h.get? g.objs.size=Zy:=by
 cases q:h.get? g.objs.size with
 |none=>rfl
 |some o=>exact Y3 (Rj (k _ _ q)) (SI _)
theorem Fr.tup(I:Fr X env cm m s)(h:aI X X.tb cm m s (.ok (.t (.tup l)) m) J (WK X Q))(r:jx X.D cm m s.heap l y)(q:∀b o,s.heap.get? b=Zz o->g.get? b=Zz o)(p:pN "tuple" g a y.toArray)(e:s.heap.get? a=Zy:=by exact gj _):Q (.ref a) { s with heap:=g,toks:=n,drawn:=d }:=by
 obtain⟨x,J⟩:=I.up (t:=n) (d:=d) (ch:=X.tb) q;exact h.to x J.mem _ (.tup p (λhb=>by obtain⟨_,o,g,_⟩:=I.cN _ hb;rw[e]at g;cases g) r.1 λi t v a b=>(r.2 i t v a b).go x I.mem I.nc.q)
theorem Fr.fresh(I:Fr X env cm m s)(e:s.heap.get? a=Zy):aU cm m a:=λi p h1 h2=>by
 obtain⟨b,x,h3,⟨⟨_,h4⟩,_⟩,_⟩:=I.mem.at' i p h1;rw[h2]at h3;cases h3;rw[e]at h4;cases h4
theorem Fr.lst(I:Fr X env cm m s)(h:aI X X.tb cm m s (.ok (.t (.lst l)) m) J (WK X Q))(r:jx X.D cm m s.heap l y)(q:∀b o,s.heap.get? b=Zz o->g.get? b=Zz o)(e:s.heap.get? a=Zy)(p:fN X.fs g a y.toArray):Q (.ref a) { s with heap:=g,toks:=n,drawn:=d }:=by
 obtain⟨x,J⟩:=I.up (t:=n) (d:=d) (ch:=X.tb) q;exact h.to x J.mem _ (.lst p (I.fresh e) r.1 λi t v a b=>(r.2 i t v a b).go x I.mem I.nc.q)
theorem Fr.sZ(I:Fr X env cm m s)(h:aI X X.tb cm m s (.ok (.c m.length) (m++[Zz (false,l)])) J (WK X Q))(r:jx X.D cm m s.heap l y)(q:∀b o,s.heap.get? b=Zz o->g.get? b=Zz o)(e:s.heap.get? a=Zy)(p:fN X.fs g a y.toArray):Q (.ref a) { s with heap:=g,toks:=n,drawn:=d }:=by
 have nb:X.base.get? a=Zy:=by
  cases z:X.base.get? a with
  |none=>rfl
  |some o=>rw[I.bs _ _ z]at e;cases e
 obtain⟨x,M,top⟩:=I.mem.new (s':={ s with heap:=g,toks:=n,drawn:=d }) (ch:=X.tb) (y:=y.toArray) q rfl rfl e nb p (by simpa using r) (I.ok.n9 _ _ I.mem.tab λb o _=>q b o);exact h.to x M _ ⟨a,top,rfl⟩
variable{call:Nat->List W->Mem->Res W}{gv:List T}
variable{e f c:SJ}{es:List SJ}{E A B C:Mi.E}{L:Es}{pos p:Pos}
theorem Ie{x1}(h:PA call gv X es L):PE call gv X (.Tuple es x1 pos) (.tup L):=λ_ _ _ _ I Q J hp=>by
 rw[ev]at hp;refine wpAny_Tuple_spliced (h.one I hp λws vs c1 m1 s1 I x1 rs h=>?_);obtain⟨ts,m2,I,r,h⟩:=nA I rs h;obtain⟨hl,h⟩:=lW h;have z:vs.length<=Ri:=by have:=r.1;have:=line.1;omega
 exact⟨z,I.tup h r (λb o e=>R9 _ e) (.new rfl rfl rfl rfl (by simpa using z))⟩
theorem Gx(h:PA call gv X es L):PE call gv X (.List es pos) (.lst L):=λ_ _ _ _ I Q J hp=>by
 rw[ev]at hp;refine wpAny_List_spliced (h.one I hp λws vs c1 m1 s1 I x1 rs h=>?_);obtain⟨ts,m2,I,r,h⟩:=nA I rs h;obtain⟨hl,h⟩:=lW h;have z:vs.length<=Ri:=by have:=r.1;have:=line.1;omega
 exact⟨z,I.lst h r (λb o e=>R9 _ e) (gj _) (.new I (by simpa using z))⟩
theorem Hu(h:PA call gv X es L):PE call gv X (.List es pos) (.sZ L):=λ_ _ _ _ I Q J hp=>by
 rw[ev]at hp;refine wpAny_List_spliced (h.one I hp λws vs c1 m1 s1 I x1 rs h=>?_);obtain⟨ts,m2,I,r,h⟩:=nA I rs h;obtain⟨hl,h⟩:=lW h;have z:vs.length<=Ri:=by have:=r.1;have:=line.1;omega
 exact⟨z,I.sZ h r (λb o e=>R9 _ e) (gj _) (.new I (by simpa using z))⟩
end
end Mi
namespace Mi
open PySem PySem.Spec PyProof.Rows PySem.Builtin
theorem rS:lim<=Ri:=Th line.1
section
variable{prog:Sf}{w:TB}{A:Sb}{E:R4->RA->Prop}{s:RA}{i j k:Int}{t x y:T}{cs:List Nat}{n:Nat}{f:Int->Int->Option T}
theorem oR:fillsNumberSlot (.type "tuple") "mul" = pure false:=
 PySem.fillsNumberSlot_seq F.slot_tuple_mul.lookup (by decide +kernel) F.slot_tuple_rmul.lookup (by decide +kernel)
theorem uT:seqRepeat? (.type "tuple")=pure (Zz (.builtin "tuple.__mul__")):=by
 unfold seqRepeat?;rw[PySem.seqSlot_of (name:="__mul__") F.slot_tuple_mul.lookup (by decide +kernel),PySem.seqSlot_of (name:="__rmul__") F.slot_tuple_rmul.lookup (by decide +kernel)];rfl
theorem yQ(a:Int)(t:Tok)(l:RC)(items:Array R4)(n:Nat)(dd:Option RC)(sl:Array (Option R4)):
  Xw (Builtin.«int.__rmul__» ⟨[.int a t,.ref l],[]⟩) (λ_ R s=>s.heap.get? l=Zz { cls:=.type "tuple",dict:=dd,data:=.seq items n,slots:=sl }/\R (.ok (.ret Value.notImplemented)) s):=
 .of_wp λprog w A R s h=>by obtain⟨hp,g,d,tk,os⟩:=s;obtain⟨hl,h⟩:=h;wp_walk;exact⟨_,rfl,h⟩
theorem KJ(l:RC)(items:Array R4)(n:Nat)(dd:Option RC)(sl:Array (Option R4))(k:Int)(u:Tok)(h1:(decide (k < -(2^63)) || decide (k ≥ 2^63))=false)(hc:(items.isEmpty || k==1)=true):
  Xw (Builtin.«tuple.__mul__» ⟨[.ref l,.int k u],[]⟩) (λ_ R s=>s.heap.get? l=Zz { cls:=.type "tuple",dict:=dd,data:=.seq items n,slots:=sl }/\R (.ok (.ret (T4 l))) s):=
 .of_wp λprog w A R s h=>by obtain⟨hp,g,d,tk,os⟩:=s;obtain⟨hl,h⟩:=h;have f1:=WD;have f2:=Uc;wp_walk;refine VQ (Y0 (SU.mp h1)) ?_;wp_walk using VR hl;exact⟨_,rfl,h⟩
theorem KS(l:RC)(items:Array R4)(n:Nat)(dd:Option RC)(sl:Array (Option R4))(k:Int)(u:Tok)(h1:(decide (k < -(2^63)) || decide (k ≥ 2^63))=false)(hc:¬(items.isEmpty || k==1)=true)(hc1:(decide (k<=0) || items.isEmpty)=true):
  Xw (Builtin.«tuple.__mul__» ⟨[.ref l,.int k u],[]⟩) (λ_ R s=>s.heap.get? l=Zz { cls:=.type "tuple",dict:=dd,data:=.seq items n,slots:=sl }/\R (.ok (.ret (T4 s.heap.objs.size))) { s with heap:=s.heap.push { cls:=Wx "tuple",data:=Data.seq #[] },toks:=s.toks }):=
 .of_wp λprog w A R s h=>by obtain⟨hp,g,d,tk,os⟩:=s;obtain⟨hl,h⟩:=h;have f1:=WD;have f2:=Uc;wp_walk;refine VQ (Y0 (SU.mp h1)) ?_;wp_walk using VR hl;exact⟨_,rfl,h⟩
theorem KQ(l:RC)(items:Array R4)(n:Nat)(dd:Option RC)(sl:Array (Option R4))(k:Int)(u:Tok)(h1:(decide (k < -(2^63)) || decide (k ≥ 2^63))=false)(hc:¬(items.isEmpty || k==1)=true)(hc1:¬(decide (k<=0) || items.isEmpty)=true)(hc2:¬(items.size:Int)*k>(2^63-1) / 8)(hc3:¬Tuple.tupleTooMany ((items.size:Int)*k)=true)(hz:(Vo (λx1 x2=>x1++x2) #[] (RL k.toNat items)).size<=Ri):
  Xw (Builtin.«tuple.__mul__» ⟨[.ref l,.int k u],[]⟩) (λ_ R s=>s.heap.get? l=Zz { cls:=.type "tuple",dict:=dd,data:=.seq items n,slots:=sl }/\R (.ok (.ret (T4 s.heap.objs.size))) { s with heap:=s.heap.push { cls:=Wx "tuple",data:=Data.seq (Vo (λx1 x2=>x1++x2) #[] (RL k.toNat items)) },toks:=s.toks }):=
 .of_wp λprog w A R s h=>by obtain⟨hp,g,d,tk,os⟩:=s;obtain⟨hl,h⟩:=h;have f1:=WD;have f2:=Uc;wp_walk;refine VQ (Y0 (SU.mp h1)) ?_;wp_walk using VR hl;refine VQ (Y0 hc2) ?_;wp_walk using VR hl;exact⟨_,rfl,h⟩
theorem zT(h:n<=Ri):¬Tuple.tupleTooMany (n:Int)=true:=by
 unfold Tuple.tupleTooMany;intro hc;have:=Y4 hc;have e:=Sv;omega
theorem wO(cs:List Nat):∀(n:Nat) (acc:Array Nat),(RL n cs.toArray).foldl (·++·) acc=acc++(RL n cs).flatten.toArray
 |0,acc=>by simp
 |n+1,acc=>by
  rw[TL,VS,wO cs n,TL,Tl];apply Array.toList_inj.mp;simp
theorem Gf(h:0<=k):Txt.mul ⟨cs.toArray⟩ k=⟨(ib cs k.toNat).toArray⟩:=by
 unfold Txt.mul ib;by_cases h1:k<1
 ·have:k=0:=by omega
  subst this;rw[Xy h1];rfl
 ·rw[Xz h1]
  by_cases h2:(k==1 || (⟨cs.toArray⟩:Str).length==0)=true
  ·rw[Xy h2]
   rcases Sm _ _▸h2 with h3|h3
   ·have:k=1:=eq_of_beq h3
    subst this;simp
   ·have hl:cs.toArray.size=0:=eq_of_beq h3
    have:cs=[]:=by simpa using hl
    subst this;simp
  ·rw[Xz h2,wO]
   simp
theorem mul_fits{cs:List Nat}(h:0<=k/\k<=64)(hl:cs.length<=1000):MulOk ⟨cs.toArray⟩ k:=by
 have e:(⟨cs.toArray⟩:Str).length=cs.length:=by show cs.toArray.size=_;simp
 have hk:k.toNat<=64:=by omega
 have hm:=Nat.mul_le_mul hl hk;refine⟨?_,λh1 _=>?_,λh1 _=>?_⟩
 ·have a:¬k < -(2^63:Int):=by omega
  have b:¬k ≥ (2^63:Int):=by omega
  simp only[a,b,decide_false,Bool.or_self]
 ·rw[e]
  have:(1000:Int)<=(2^63-1) / k:=(Int.le_ediv_iff_mul_le (by omega)).mpr (by omega);omega
 ·rw[e]
  unfold Builtin.Str.tooLong;have:=rS;unfold lim at this;exact Y0 (by omega)
theorem E0{n:Nat}(h:n<=Ri):Ud n=false:=by
 unfold Ud;exact Y0 (by omega)
theorem foldl_rep(its:List R4):∀(k:Nat) (acc:List R4),
  Vo (λx1 x2=>x1++x2) acc.toArray (RL k its.toArray)=(acc++(RL k its).flatten).toArray
 |0,acc=>by simp
 |k+1,acc=>by
  have e:acc.toArray++its.toArray=(acc++its).toArray:=by simp
  have e2:(acc++its)++(RL k its).flatten=acc++(RL (k+1) its).flatten:=by
   rw[TL,Tl,Sg]
  rw[<-e2,<-foldl_rep its k (acc++its),<-e,TL,VS]
theorem GE{t b:RC}{vs ws:List R4}{Q:R4->RA->Prop}(ht:Xq s.heap t vs.toArray)(hb:Xq s.heap b ws.toArray)(hv:vs≠[])(h1:ws=[]->Q (.ref t) s)(h2:ws≠[]->Q (.ref s.heap.objs.size) { s with heap:=s.heap.push { cls:=.type "tuple",data:=.seq (vs++ws).toArray } })(hsz:vs.length+ws.length<=Ri):RF (Rp prog w) A (WE .Add (.ref t) (.ref b)) Q E s:=by
 obtain⟨⟨cls,dd,data,sl⟩,ho,hc,n,hd⟩:=id ht;obtain⟨⟨cls2,dd2,data2,sl2⟩,ho2,hc2,n2,hd2⟩:=id hb;simp only at hc hd hc2 hd2;subst hc hd hc2 hd2;have e:vs.toArray++ws.toArray=(vs++ws).toArray:=by simp
 by_cases hw:ws=[]
 ·exact X5 ⟨_,ho,rfl⟩ ⟨_,ho2,rfl⟩ WF Wp V3 Uw (Ue _ _)
   (tuple_addW1 t b vs.toArray ws.toArray n n2 dd dd2 sl sl2 (by simpa using hv) (by simp[hw])) ⟨ho,ho2,h1 hw⟩
 ·refine X5 ⟨_,ho,rfl⟩ ⟨_,ho2,rfl⟩ WF Wp V3 Uw (Ue _ _)
   (tuple_addW2 t b vs.toArray ws.toArray n n2 dd dd2 sl sl2 (by simpa using hv) (by simpa using hw) (by rw[SS,SS];exact hsz)) ⟨ho,ho2,?_⟩
  rw[e];exact h2 hw
def H5(i j:Int):Prop:=(-(2^64)<i/\i<2^64)∨(-(2^64)<j/\j<2^64)
theorem H5.ok{i j:Int}(h:H5 i j):Xr i j:=by
 rcases h with⟨h1,h2⟩|⟨h1,h2⟩
 ·exact .of_left (intBits_le_64 h1 h2)
 ·exact .of_right (intBits_le_64 h1 h2)
theorem AB(a b:List Nat):(⟨a.toArray⟩:Str)++⟨b.toArray⟩=⟨(a++b).toArray⟩:=by
 show(⟨a.toArray++b.toArray⟩:Str)=_;simp
theorem dg(a:List Nat):(⟨a.toArray⟩:Str).length=a.length:=by simp[Se]
theorem GJ(c:i.natAbs<zh)(a:j.natAbs<zh):Xr i j:=by
 have b:∀{k:Int},k.natAbs<zh->Builtin.Int.intBits k<=2000:=λ{k} h=>intBits_le (by
  have e:zh=2^(250*8):=by unfold zh;rw[<-Nat.pow_mul]
  rw[e]at h;exact h)
 exact mulOk_of_bits (b c) (b a) (by decide)
theorem uE(h:small i=true):-(2^64)<i/\i<2^64:=by
 have a:=Y4 h;omega
theorem EK(h:hH i j=true):Xr i j:=by
 unfold hH at h;simp only[Sm,R6,decide_eq_true_eq]at h;rcases h with(h|h)|⟨b,a⟩
 ·exact H5.ok (.inl (uE h))
 ·exact H5.ok (.inr (uE h))
 ·exact GJ b a
theorem Cs{x y t:T}(e:Dq f x y=Zz t):∃i j,x=.int i/\y=.int j/\f i j=Zz t:=by
 cases x with
 |int i=>cases y with
  |int j=>exact⟨i,j,rfl,rfl,e⟩
  |_=>cases e
 |_=>cases e
end
section
variable{prog:Sf}{w:TB}{A:Sb}{E:R4->RA->Prop}{s:RA}{t a b:RC}
theorem HH{E:R4->RA->Prop}{ws:List R4}(q:Xq s.heap t ([]:List R4).toArray)(r:Xq s.heap b ws.toArray)(h:Q (.ref b) s):RF (Rp prog w) A (WE .Add (.ref t) (.ref b)) Q E s:=by
 obtain⟨⟨v,u,l,o⟩,i,k,n,j⟩:=id q;obtain⟨⟨m,f,g,e⟩,a,d,p,c⟩:=id r;simp only at k j d c;subst k j d c;exact X5 ⟨_,i,rfl⟩ ⟨_,a,rfl⟩ WF Wp V3 Uw (Ue _ _)
  (tuple_addW0 t b ([]:List R4).toArray ws.toArray n p u f o e (by simp)) ⟨i,a,h⟩
end
section
variable{X:Cx}{D:Dm}{env:Mi.Env}{cm cm':List RC}{m m':Mem}{s s':RA}{w u:W}{v z:R4}{ch:List RC}{α β:Type}{r:Res α}{J:VK}{k k':α->List RC->Mem->RA->Prop}{h g:Rq}{t:T}{l:List T}{y:List R4}{a:RC}{Q:VK}{n:Nat}{d:Drawn}{i:Nat}
variable{call:Nat->List W->Mem->Res W}{gv:List T}{e f c:SJ}{es:List SJ}{E A B C:Mi.E}{L:Es}{pos p:Pos}
theorem m6{f:T->T->Option T}{k:W->List RC->Mem->RA->Prop}(h:aI X ch cm m s (bX ((view w m).bind λx=>(view u m).bind λy=>f x y) m') J k):∃x y t,view w m=Zz x/\view u m=Zz y/\f x y=Zz t/\aI X ch cm m s (.ok (.t t) m') J k:=by
 obtain⟨t,e,h⟩:=gf h;obtain⟨x,e1,e⟩:=RE.mp e;obtain⟨y,e2,e⟩:=RE.mp e;exact⟨x,y,t,e1,e2,e,h⟩
theorem Al.app{α β:Type}{R:α->β->Prop}{l l':List α}{x x':List β}(q:Al R l x)(q':Al R l' x'):Al R (l++l') (x++x'):=by
 refine⟨by rw[RV,RV,q.1,q'.1],λi t v a b=>?_⟩;by_cases h:i<l.length
 ·rw[Ro h]at a
  rw[Ro (q.1▸h)]at b;exact q.2 i t v a b
 ·rw[Ru (by omega)]at a
  rw[Ru (by have:=q.1;omega),<-q.1]at b;exact q'.2 _ t v a b
theorem Al.rep{α β:Type}{R:α->β->Prop}{l:List α}{x:List β}(q:Al R l x):∀n,Al R (ib l n) (ib x n)
 |0=>.nil
 |n+1=>by
  unfold ib;rw[TL,TL,Tl,Tl];exact q.app (q.rep n)
theorem wk{α:Type}(x:List α)(n:Nat):(ib x n).length=x.length*n:=by
 unfold ib;rw[List.length_flatten,List.map_replicate,List.sum_replicate_nat,X6]
theorem push{h:Rq}{o:Obj}:∀b p,h.get? b=Zz p->(h.push o).get? b=Zz p:=λ_ _ e=>R9 _ e
theorem lH(x y:Array R4):(x.toList++y.toList).toArray=x++y:=by rw[<-Array.toList_append,Array.toArray_toList]
theorem JT(I:Fr X env cm m s)(r1:RW X.D cm m s.heap w v)(r2:RW X.D cm m s.heap u z)(h:aI X X.tb cm m s (bX ((view w m).bind λx=>(view u m).bind λy=>B7 x y) m) J (WK X Q)):RF X.M X.A (WE .Add v z) Q J s:=by
 obtain⟨x,y,t,e1,e2,e,h⟩:=m6 h;have hz:=line;unfold B7 at e;split at e
 ·cases e
  obtain⟨_,rfl⟩:=(aw r1 e1).dO;obtain⟨_,rfl⟩:=(aw r2 e2).dO;exact add_int (I.val h (.int _ _))
 ·split at e<;>cases e
  rename_i a b hl;obtain⟨_,rfl⟩:=(aw r1 e1).eX;obtain⟨_,rfl⟩:=(aw r2 e2).eX;exact add_str (λt' tk=>I.val h (by rw[AB];exact .str _ _)) (by rw[dg,dg];omega)
 ·split at e<;>cases e
  obtain⟨a,⟨x⟩,rfl,p1,q1⟩:=(aw r1 e1).jQ;obtain⟨b,⟨y⟩,rfl,p2,q2⟩:=(aw r2 e2).jQ;have l1:=q1.1;have l2:=q2.1;by_cases hx:x=[]
  ·subst hx
   obtain rfl:=RP.mp l1;exact HH p1.tup p2.tup (I.val' h (.tup p2 (aw r2 e2).tf q2.1 q2.2))
  ·refine GE p1.tup p2.tup hx (λz=>?_) (λ_=>I.tup h (q1.app q2) push (.new rfl rfl rfl rfl (by simp at l1 l2 ⊢;omega))) (by simp at l1 l2;omega)
   subst z;obtain rfl:=RP.mp l2;rw[Rm]at h;exact I.val' h (.tup p1 (aw r1 e1).tf q1.1 q1.2)
 ·split at e<;>cases e
  obtain⟨a,x,rfl,p1,q1⟩:=aY I.mem r1 e1;obtain⟨b,y,rfl,p2,q2⟩:=aY I.mem r2 e2;have l1:=q1.1;have l2:=q2.1;obtain⟨⟨_,e1⟩,_⟩:=id p1;obtain⟨⟨_,e2⟩,_⟩:=id p2;have z:x.size+y.size<=Ri:=by simp at l1 l2;omega
  exact PySem.P.add_list e1 e2 (I.lst (y:=x.toList++y.toList) h (q1.app q2) push (gj _) (by rw[lH];exact .new I (by simpa using z))) z
 all_goals cases e
theorem Hk{f:Int->Int->Option T}{k:W->List RC->Mem->RA->Prop}(r1:RW X.D cm m s.heap w v)(r2:RW X.D cm m s.heap u z)(h:aI X X.tb cm m s (bX ((view w m).bind λx=>(view u m).bind λy=>Dq f x y) m) J k):∃i j t a b,v=.int i a/\z=.int j b/\f i j=Zz t/\aI X X.tb cm m s (.ok (.t t) m) J k:=by
 obtain⟨x,y,t,e1,e2,e,h⟩:=m6 h;obtain⟨i,j,rfl,rfl,e⟩:=Cs e;obtain⟨a,rfl⟩:=(aw r1 e1).dO;obtain⟨b,rfl⟩:=(aw r2 e2).dO;exact⟨i,j,t,a,b,rfl,rfl,e,h⟩
theorem FS{l:RC}{x:Array R4}{n:Nat}{k:Int}{t:Tok}(e:s.heap.get? l=Zz { cls:=.type "list",data:=.seq x n })(h1:-(2^63)<=k)(h2:k<2^63)(z:x.size*k.toNat<=Ri)(q:Q (.ref s.heap.objs.size) { s with heap:=s.heap.push { cls:=.type "list",data:=.seq (ib x.toList k.toNat).toArray } }):RF X.M X.A (WE .Mult (.ref l) (.int k t)) Q J s:=by
 have hcap:¬x.size*k.toNat>(2^63-1) / 8:=by
  have:(Ri:Nat)<=(2^63-1) / 8:=by decide
  omega
 have hfit:¬(!Builtin.List.listFitsIndex k)=true:=by
  rw[Wb h1 h2];exact S4
 have hlong:¬Ud (x.size*k.toNat)=true:=by
  rw[E0 z];exact S4
 have hnew:Vo (λx1 x2=>x1++x2) #[] (RL (if x.isEmpty=true then 0 else k.toNat) x)=(ib x.toList k.toNat).toArray:=by
  have f0:∀m:Nat,Vo (λx1 x2=>x1++x2) #[] (RL m x)=(ib x.toList m).toArray:=λm=>by
   have:=foldl_rep x.toList m [];rw[TJ]at this;simpa[ib]using this
  rw[f0];by_cases hx:x.isEmpty=true
  ·rw[Xy hx]
   have:x=#[]:=by simpa using hx
   subst this;simp[ib]
  ·rw[Xz hx]
 refine wpAny_binaryOp_repeat_ref (T:="list") (U:="int") (by decide) ⟨_,e,rfl⟩ (λs'=>Wy s' k t) noFill_list_mul F.fills_int_mul VU repeat_list F.slot_int_index.lookup
  (Sk VU (Wy s k t) F.entry_int_rmul (F.args_int_rmul_2 _ _) (int___rmul___int_list k t l x n)
   ⟨e,rfl,⟨_,e,rfl⟩,Sk F.slot_list_mul ⟨_,e,rfl⟩ F.entry_list_mul (F.args_list_mul_2 _ _) (AutoListH.list___mul___list_int_3 l x n k t hfit hcap hlong) ⟨e,?_⟩⟩)
 rw[hnew];exact q
theorem HM{l:RC}{x:Array R4}{k:Int}{t:Tok}(p:pN "tuple" s.heap l x)(h1:-(2^63)<=k)(h2:k<2^63)(z:x.size*k.toNat<=Ri)(q1:x.size=0∨k=1->Q (.ref l) s)(q:Q (.ref s.heap.objs.size) { s with heap:=s.heap.push { cls:=.type "tuple",data:=.seq (ib x.toList k.toNat).toArray } }):RF X.M X.A (WE .Mult (.ref l) (.int k t)) Q J s:=by
 obtain⟨⟨cls,dd,data,sl⟩,n,ho,hc,hd,hn,_⟩:=p;simp only at hc hd;subst hc hd;have g1:(decide (k < -(2^63)) || decide (k ≥ 2^63))=false:=by
  rw[Y0 (by omega),Y0 (by omega)];rfl
 refine wpAny_binaryOp_repeat_ref (by decide) ⟨_,ho,rfl⟩ (λs'=>Wy s' k t) oR F.fills_int_mul VU uT F.slot_int_index.lookup
   (Sk VU (Wy s k t) F.entry_int_rmul (F.args_int_rmul_2 _ _) (yQ k t l x n dd sl) ⟨ho,rfl,⟨_,ho,rfl⟩,?_⟩)
 have hf:∀m:Nat,Vo (λx1 x2=>x1++x2) #[] (RL m x)=(ib x.toList m).toArray:=λm=>by
  have:=foldl_rep x.toList m [];rw[TJ]at this;simpa[ib]using this
 by_cases hc:x.isEmpty=true∨k=1
 ·exact Sk WG ⟨_,ho,rfl⟩ Vy (Vp _ _) (KJ l x n dd sl k t g1 (by simpa using hc)) ⟨ho,q1 (hc.imp (λh=>by simpa using h) id)⟩
 ·have g2:¬(x.isEmpty || k==1)=true:=by simpa using hc
  by_cases h0:k<=0
  ·refine Sk WG ⟨_,ho,rfl⟩ Vy (Vp _ _) (KS l x n dd sl k t g1 g2 (by simp[h0])) ⟨ho,?_⟩
   rw[show k.toNat=0 by omega]at q;exact q
  ·have hk:(k.toNat:Int)=k:=by omega
   have hs:(x.size:Int)*k=((x.size*k.toNat:Nat):Int):=by rw[Int.natCast_mul,hk]
   have hsl:=Sv;refine Sk WG ⟨_,ho,rfl⟩ Vy (Vp _ _) (KQ l x n dd sl k t g1 g2 (by simp only[not_or]at hc;simp[h0];simpa using hc.1) (by rw[hs];omega) (by rw[hs];exact zT z) ?_) ⟨ho,by rw[hf];exact q⟩;rw[hf,SS,wk];simpa using z
theorem Jq(I:Fr X env cm m s)(r1:RW X.D cm m s.heap w v)(r2:RW X.D cm m s.heap u z)(h:aI X X.tb cm m s (bX ((view w m).bind λx=>(view u m).bind λy=>Jw x y) m) J (WK X Q)):RF X.M X.A (WE .Mult v z) Q J s:=by
 obtain⟨x,y,t,e1,e2,e,h⟩:=m6 h;have hz:=line;have hl:(lim:Int)<2^63:=by unfold lim;decide
 unfold Jw at e;split at e
 rotate_left
 ·cases e
 rename_i k;obtain⟨_,rfl⟩:=(aw r2 e2).dO;split at e
 ·split at e<;>cases e
  obtain⟨_,rfl⟩:=(aw r1 e1).dO;exact mul_int (I.val h (.int _ _)) (EK ‹_›)
 ·split at e<;>cases e
  rename_i l hc;obtain⟨a,x,rfl,p,q⟩:=(aw r1 e1).jQ;have l1:=q.1;refine HM p (by omega) (by omega) (by simp at l1;rw[<-l1];omega) (λhq=>?_) (I.tup h (q.rep _) push (.new rfl rfl rfl rfl (by rw[SS,wk,<-l1];omega)));have e:ib l k.toNat=l:=by
   rcases hq with hq|rfl
   ·obtain rfl:l=[]:=RP.mp (by simp at l1;omega)
    simp[ib]
   ·simp[ib]
  rw[e]at h;exact I.val' h (.tup p (aw r1 e1).tf q.1 q.2)
 ·split at e<;>cases e
  rename_i hc;obtain⟨a,x,rfl,p,q⟩:=aY I.mem r1 e1;obtain⟨⟨_,e1⟩,_⟩:=id p;have l1:=q.1;exact FS e1 (by omega) (by omega) (by simp at l1;rw[<-l1];omega) (I.lst h (q.rep _) push (gj _) (.new I (by rw[SS,wk,<-l1];omega)))
 ·split at e<;>cases e
  rename_i hc;obtain⟨_,rfl⟩:=(aw r1 e1).eX;refine SB.mul (mul_fits hc.1 hc.2) λt' k'=>I.val h ?_
  rw[Gf hc.1.1];exact .str _ _
 all_goals cases e
theorem Jh(op:WC)(I:Fr X env cm m s)(r1:RW X.D cm m s.heap w v)(r2:RW X.D cm m s.heap u z)(h:aI X X.tb cm m s (bX ((view w m).bind λx=>(view u m).bind λy=>oO op x y) m) J (WK X Q)):RF X.M X.A (WE op v z) Q J s:=by
 cases op
 case Add=>exact JT I r1 r2 h
 case Mult=>exact Jq I r1 r2 h
 case Sub =>
  obtain⟨i,j,t,a,b,rfl,rfl,e,h⟩:=Hk r1 r2 h;cases e;exact sub_int (I.val h (.int _ _))
 case FloorDiv =>
  obtain⟨i,j,t,a,b,rfl,rfl,e,h⟩:=Hk r1 r2 h;split at e<;>cases e;exact floordiv_int (by omega) (by rw[Int.fdiv_eq_ediv_of_nonneg i (by omega)];exact I.val h (.int _ _)) (.inl (PyProof.noPylong_small (by omega)))
 case Mod =>
  obtain⟨i,j,t,a,b,rfl,rfl,e,h⟩:=Hk r1 r2 h;split at e<;>cases e;exact mod_int' (by omega) (by rw[Int.fmod_eq_emod_of_nonneg i (by omega)];exact I.val h (.int _ _))
 case Pow =>
  obtain⟨i,j,t,a,b,rfl,rfl,e,h⟩:=Hk r1 r2 h;by_cases c:0<=j/\j<=1000/\i.natAbs<2^64
  ·rw[Xy c]at e
   cases e;exact pow_int_small c.1 (by omega) c.2.2 (I.val h (.int _ _))
  ·rw[Xz c]at e;cases e
 all_goals (obtain⟨x,y,t,_,_,e,_⟩:=m6 h;cases x<;>cases y<;>cases e)
theorem Hr{op:WC}(ha:PE call gv X e A)(hb:PE call gv X f B):PE call gv X (.BinOp e op f pos) (.bin op A B):=λ_ _ _ _ I Q J h=>by
 rw[ev]at h;exact wpAny_BinOp (ha.two hb I h λw u v z c1 m1 s1 I x r1 r2 h=>Jh op I r1 r2 h)
end
end Mi
namespace Mi
open PySem PySem.Spec
open PyProof.Rows
mutual
noncomputable def pyT:T->PyData
 |.bl b=>.bool b
 |.int i=>.int i
 |.str cs=>.str ⟨cs.toArray⟩
 |.tup ts=>.tuple (im ts)
 |.lst ts=>.list (im ts)
 |_=>.none
noncomputable def im:List T->List PyData
 |[]=>[]
 |t::ts=>pyT t::im ts
end
mutual
theorem sO:∀(n:Nat) (t:T),ay n t=true->Tt (pyT t)=true/\UU (pyT t)<=n
 |n,.non,h=>⟨by simp[pyT,Tt],by simp[pyT,UU]⟩
 |n,.bl b,h=>⟨by rw[pyT];simp[Tt],by rw[pyT];simp[UU]⟩
 |n,.int i,h=>⟨by rw[pyT];simp[Tt],by rw[pyT];simp[UU]⟩
 |n,.str c,h=>⟨by rw[pyT,Tt];rw[ay]at h;exact h,by rw[pyT];simp[UU]⟩
 |0,.tup a,h=>by simp[ay]at h
 |0,.lst a,h=>by simp[ay]at h
 |n+1,.tup a,h=>by
  rw[ay]at h;have:=vy n a h;exact⟨by rw[pyT,Tt];exact this.1,by rw[pyT];simp only[UU];omega⟩
 |n+1,.lst a,h=>by
  rw[ay]at h;have:=vy n a h;exact⟨by rw[pyT,Tt];exact this.1,by rw[pyT];simp only[UU];omega⟩
 |n,.dct _ _,h=>by cases n<;>simp[ay]at h
 |n,.db _,h=>by cases n<;>simp[ay]at h
theorem vy:∀(n:Nat) (ts:List T),au n ts=true->Vz (im ts)=true/\WX (im ts)<=n
 |n,[],h=>⟨by rw[im];simp[Vz],by rw[im];simp[WX]⟩
 |n,t::ts,h=>by
  rw[au,R6]at h;have b:=sO n t h.1;have a:=vy n ts h.2;refine⟨by rw[im,Vz,b.1,a.1];rfl,?_⟩;rw[im,WX];omega
end
theorem GO{a b:List Nat}:(⟨a.toArray⟩:Str)=⟨b.toArray⟩↔a=b:=by
 constructor
 ·intro h
  injection h with h;simpa using h
 ·intro h;rw[h]
theorem str_beq{a b:List Nat}:((⟨a.toArray⟩:Str)==⟨b.toArray⟩)=(a==b):=by
 by_cases h:a=b
 ·subst h;simp
 ·rw[Y2.mpr h,Y2.mpr λz=>h (GO.mp z)]
mutual
theorem AS:∀(n k:Nat) (x y:T),ay n x=true->ay k y=true->SK (pyT x) (pyT y)=eqT x y
 |n,k,.tup a,.tup ys,h1,c=>by
  cases n with
  |zero=>simp[ay]at h1
  |succ n=>cases k with
   |zero=>simp[ay]at c
   |succ k =>
    rw[ay]at h1 c;rw[pyT,pyT,SK,eqT];exact vS n k a ys h1 c
 |n,k,.lst a,.lst ys,h1,c=>by
  cases n with
  |zero=>simp[ay]at h1
  |succ n=>cases k with
   |zero=>simp[ay]at c
   |succ k =>
    rw[ay]at h1 c;rw[pyT,pyT,SK,eqT];exact vS n k a ys h1 c
 |n,k,.str a,.str ys,_,_=>by rw[pyT,pyT,SK,eqT];exact str_beq
 |n,k,.non,y,_,c=>by cases y<;>first|(simp[pyT,SK,eqT];done)|(cases k<;>simp[ay]at c)
 |n,k,.bl b,y,_,c=>by cases y<;>first|(simp[pyT,SK,eqT,b2i];done)|(cases k<;>simp[ay]at c)
 |n,k,.int b,y,_,c=>by cases y<;>first|(simp[pyT,SK,eqT,b2i];done)|(cases k<;>simp[ay]at c)
 |n,k,.str a,.non,_,_=>by simp[pyT,SK,eqT]
 |n,k,.str a,.bl _,_,_=>by simp[pyT,SK,eqT]
 |n,k,.str a,.int _,_,_=>by simp[pyT,SK,eqT]
 |n,k,.str a,.tup _,_,_=>by simp[pyT,SK,eqT]
 |n,k,.str a,.lst _,_,_=>by simp[pyT,SK,eqT]
 |n,k,.tup a,.non,_,_=>by simp[pyT,SK,eqT]
 |n,k,.tup a,.bl _,_,_=>by simp[pyT,SK,eqT]
 |n,k,.tup a,.int _,_,_=>by simp[pyT,SK,eqT]
 |n,k,.tup a,.str _,_,_=>by simp[pyT,SK,eqT]
 |n,k,.tup a,.lst _,_,_=>by simp[pyT,SK,eqT]
 |n,k,.lst a,.non,_,_=>by simp[pyT,SK,eqT]
 |n,k,.lst a,.bl _,_,_=>by simp[pyT,SK,eqT]
 |n,k,.lst a,.int _,_,_=>by simp[pyT,SK,eqT]
 |n,k,.lst a,.str _,_,_=>by simp[pyT,SK,eqT]
 |n,k,.lst a,.tup _,_,_=>by simp[pyT,SK,eqT]
 |n,k,x,.dct _ _,_,c=>by cases k<;>simp[ay]at c
 |n,k,x,.db _,_,c=>by cases k<;>simp[ay]at c
 |n,k,.dct _ _,y,h1,_=>by cases n<;>simp[ay]at h1
 |n,k,.db _,y,h1,_=>by cases n<;>simp[ay]at h1
theorem vS:∀(n k:Nat) (xs ys:List T),au n xs=true->au k ys=true->VJ (im xs) (im ys)=r9 xs ys
 |n,k,[],[],_,_=>by rw[im,VJ,r9]
 |n,k,[],_::_,_,_=>by rw[im,im,VJ,r9]<;>simp
 |n,k,_::_,[],_,_=>by rw[im,im,VJ,r9]<;>simp
 |n,k,x::xs,y::ys,b,a=>by
  rw[au,R6]at b a;rw[im,im,VJ,r9,AS n k x y b.1 a.1,vS n k xs ys b.2 a.2]
end
theorem ry:∀a b:List Nat,cO a b=decide (a<b)
 |[],[]=>by simp[cO]
 |[],_::_=>by simp[cO]
 |_::_,[]=>by simp[cO]
 |a::x,b::y=>by
  unfold cO;rw[ry x y];by_cases h:a<b
  ·rw[Xy h]
   exact(Y1 (List.cons_lt_cons_iff.mpr (.inl h))).symm
  ·rw[Xz h]
   by_cases h2:b<a
   ·rw[Xy h2]
    refine(Y0 λz=>?_).symm;rcases List.cons_lt_cons_iff.mp z with z|⟨z,_⟩<;>omega
   ·rw[Xz h2]
    have e:a=b:=by omega
    subst e;simp
theorem JA(b:List Nat)(a:Nat):(!(Sj ⟨b.toArray⟩ ⟨#[a]⟩ 0 (⟨b.toArray⟩:Str).length 1).isEmpty)=decide (a∈b):=by
 have:=PySem.StrLaws.found_one (⟨b.toArray⟩:Str) a;simpa using this
theorem j7(h:au n ts=true):∀x∈ts,ay n x=true:=by
 induction ts with
 |nil=>intro x hx;cases hx
 |cons y l ih =>
  intro x hx;rw[au,R6]at h;rcases R7.mp hx with rfl|hx
  ·exact h.1
  ·exact ih h.2 x hx
section
variable{X:Cx}{D:Dm}{env:Mi.Env}{cm cm':List RC}{m m':Mem}{s s':RA}{w u:W}{v z:R4}{ch:List RC}{J:VK}{h:Rq}{t x y:T}{l:List T}{a:RC}{Q:VK}{n:Nat}{i:Nat}{c:Bool}
theorem kC:∀{l:List T}{y:List R4},l.length=y.length->(∀(i:Nat) t v,l[i]?=Zz t->y[i]?=Zz v->∃as,Reads h v (pyT t) as)->∃as,ReadsAll h y (im l) as
 |[],[],_,_=>⟨_,by rw[im];exact .nil⟩
 |t::l,v::y,q,f=>by
  obtain⟨as,h1⟩:=f 0 t v rfl rfl;obtain⟨bs,h2⟩:=kC (X4 q) λi t v a b=>f (i+1) t v a b
  exact⟨_,by rw[im];exact .cons h1 h2⟩
theorem RT.reads(r:RT D cm m h t v):∀{n:Nat},ay n t=true->∃as,Reads h v (pyT t) as:=by
 induction r with
 |non=>intro _ _;exact⟨_,by simp only[pyT];exact .none⟩
 |bl b=>intro _ _;exact⟨_,by rw[pyT];exact .bool b⟩
 |int i t=>intro _ _;exact⟨_,by rw[pyT];exact .int i t⟩
 |str x t=>intro _ _;exact⟨_,by rw[pyT];exact .str _ t⟩
 |tup p _ q _ ih =>
  intro n d;cases n with
  |zero=>simp[ay]at d
  |succ n =>
   rw[ay]at d;obtain⟨o,k,e,c,e2,_⟩:=p;obtain⟨as,hr⟩:=kC q λi t v a b=>ih i t v a b (j7 d t (SG a))
   exact⟨_,by rw[pyT];exact .tuple e c e2 hr⟩
 |lst p _ q _ ih =>
  intro n d;cases n with
  |zero=>simp[ay]at d
  |succ n =>
   rw[ay]at d;obtain⟨⟨k,e⟩,_⟩:=p;obtain⟨as,hr⟩:=kC q λi t v a b=>ih i t v a b (j7 d t (SG a))
   exact⟨_,by rw[pyT];exact .list e rfl rfl hr⟩
 |dct _ _ _ _ _ _=>intro n d;cases n<;>simp[ay]at d
 |db _ _ _ _=>intro n d;cases n<;>simp[ay]at d
theorem lJ(M:bh X cm m h)(r:RW X.D cm m h w v)(e:view w m=Zz t)(d:ay n t=true):∃as,Reads h v (pyT t) as:=by
 cases t with
 |lst l =>
  cases n with
  |zero=>simp[ay]at d
  |succ n =>
   rw[ay]at d;obtain⟨a,x,rfl,⟨⟨k,e⟩,_⟩,q⟩:=aY M r e;obtain⟨as,hr⟩:=kC q.1 λi t v a b=>(q.2 i t v a b).reads (j7 d t (SG a))
   exact⟨_,by rw[pyT];exact .list e rfl rfl hr⟩
 |_=>exact(aw r e).reads d
theorem Gu{f:T->T->Option Bool}(I:Fr X env cm m s)(h:aI X X.tb cm m s (bX (((view w m).bind λx=>(view u m).bind λy=>f x y).map .bl) m) J (WK X Q)):∃x y c,view w m=Zz x/\view u m=Zz y/\f x y=Zz c/\Q (.bool c) s:=by
 obtain⟨t,e,h⟩:=gf h;obtain⟨c,q,rfl⟩:=RY.mp e;obtain⟨x,e1,q⟩:=RE.mp q;obtain⟨y,e2,q⟩:=RE.mp q;exact⟨x,y,c,e1,e2,q,h.now I.mem _ (.bl c)⟩
theorem ID(hu:X.A.units+64<cLine)(M:bh X cm m s.heap)(r1:RW X.D cm m s.heap w v)(r2:RW X.D cm m s.heap u z)(e1:view w m=Zz x)(e2:view u m=Zz y)(hc:(rM x y || (ay 60 x&&ay 60 y))=true):
  (Q (.bool (eqT x y)) s->RF X.M X.A (VF .Eq v z) Q J s)/\(Q (.bool (!eqT x y)) s->RF X.M X.A (VF .NotEq v z) Q J s):=by
 rcases Sm _ _▸hc with d|d
 ·have r1:=aw r1 e1 λl z=>by subst z;cases y<;>cases d
  have r2:=aw r2 e2 λl z=>by subst z;cases x<;>cases d
  cases r1<;>cases r2<;>first
   |(cases d;done)
   |(constructor<;>intro h<;>simp only[eqT,<-str_beq]at h<;>(first|with_reducible apply eq_int|with_reducible apply ne_int|with_reducible apply eq_str|with_reducible apply ne_str|with_reducible apply eq_bool|with_reducible apply ne_bool|with_reducible apply PySem.EqNone.eq_none_none|with_reducible apply PySem.EqNone.eq_none_bool|with_reducible apply PySem.EqNone.eq_none_int|with_reducible apply PySem.EqNone.eq_none_str|with_reducible apply PySem.EqNone.eq_bool_none|with_reducible apply PySem.EqNone.eq_int_none|with_reducible apply PySem.EqNone.eq_str_none|with_reducible apply PySem.EqNone.ne_none_none|with_reducible apply PySem.EqNone.ne_none_bool|with_reducible apply PySem.EqNone.ne_none_int|with_reducible apply PySem.EqNone.ne_none_str|with_reducible apply PySem.EqNone.ne_bool_none|with_reducible apply PySem.EqNone.ne_int_none|with_reducible apply PySem.EqNone.ne_str_none|with_reducible apply PySem.EqMixed.eq_bool_str|with_reducible apply PySem.EqMixed.eq_str_bool|with_reducible apply PySem.EqMixed.eq_int_str|with_reducible apply PySem.EqMixed.eq_str_int|with_reducible apply PySem.EqMixed.ne_bool_str|with_reducible apply PySem.EqMixed.ne_str_bool|with_reducible apply PySem.EqMixed.ne_int_str|with_reducible apply PySem.EqMixed.ne_str_int)<;>exact h)
 ·rw[R6]at d
  obtain⟨as,h1⟩:=lJ M r1 e1 d.1;obtain⟨bs,h2⟩:=lJ M r2 e2 d.2;have l1:=sO 60 x d.1;have l2:=sO 60 y d.2;rw[<-AS 60 60 x y d.1 d.2];exact⟨SeqAt.compareEq_reads h1 h2 l1.1 l2.1 (by omega),SeqAt.compareNe_reads h1 h2 l1.1 l2.1 (by omega)⟩
theorem IT{A:Sb}(hu:A.units+63<cLine)(r1:RT D cm m s.heap t z)(M:bh X cm m s.heap)(r2:RW X.D cm m s.heap w v)(e:view w m=Zz x)(hc:flat t=true/\flat x=true∨ay 59 t=true/\ay 59 x=true):WS A s z v (eqT t x):=by
 rcases hc with⟨f,g⟩|⟨d,e2⟩
 ·have r2:=aw r2 e λl z=>by subst z;cases g
  cases r1<;>cases r2<;>first
   |(cases f;done)
   |(cases g;done)
   |(simp only[eqT,b2i];first
    |with_reducible exact SeqAt.EqAt.none_bool _|with_reducible exact SeqAt.EqAt.none_int _ _|with_reducible exact SeqAt.EqAt.none_str _ _|with_reducible exact SeqAt.EqAt.bool_none _|with_reducible exact SeqAt.EqAt.bool_bool _ _|with_reducible exact SeqAt.EqAt.bool_int _ _ _|with_reducible exact SeqAt.EqAt.bool_str _ _ _|with_reducible exact SeqAt.EqAt.int_none _ _|with_reducible exact SeqAt.EqAt.int_bool _ _ _|with_reducible exact SeqAt.EqAt.int_int _ _ _ _|with_reducible exact SeqAt.EqAt.int_str _ _ _ _|with_reducible exact SeqAt.EqAt.str_none _ _|with_reducible exact SeqAt.EqAt.str_bool _ _ _|with_reducible exact SeqAt.EqAt.str_int _ _ _ _|(rw[<-str_beq];with_reducible exact SeqAt.EqAt.str_str _ _ _ _)|exact SeqAt.EqAt.same _)
 ·obtain⟨bs,h2⟩:=lJ M r2 e e2
  obtain⟨as,h1⟩:=r1.reads d;have l1:=sO 59 t d;have l2:=sO 59 x e2;rw[<-AS 59 59 t x d e2];exact SeqAt.eqAt_reads _ _ A s z v as bs h1 h2 l1.1 l2.1 (by omega)
theorem EM(e:jL x y=Zz c):∃l,(y=.tup l∨y=.lst l)/\(∀t∈l,flat t=true/\flat x=true∨ay 59 t=true/\ay 59 x=true)/\c=l.any λt=>eqT t x:=by
 have k:∀{l:List T},(if flat x&&l.all flat then Zz (l.any λt=>eqT t x)else if ay 59 x&&au 59 l then Zz (l.any λt=>eqT t x)else Zy)=Zz c->(∀t∈l,flat t=true/\flat x=true∨ay 59 t=true/\ay 59 x=true)/\c=l.any λt=>eqT t x:=λ{l} e=>by
  split at e
  ·cases e
   rename_i h;rw[R6,RX]at h;exact⟨λt z=>.inl ⟨h.2 t z,h.1⟩,rfl⟩
  ·split at e<;>cases e
   rename_i h;rw[R6]at h;exact⟨λt z=>.inr ⟨j7 h.2 t z,h.1⟩,rfl⟩
 unfold jL at e;split at e
 ·exact⟨_,.inl rfl,k e⟩
 ·exact⟨_,.inr rfl,k e⟩
 ·cases e
theorem HT(e:A4 x y=Zz c):(∃a b,x=.str a/\y=.str b/\c=!(Sj ⟨b.toArray⟩ ⟨a.toArray⟩ 0 (⟨b.toArray⟩:Str).length 1).isEmpty)∨jL x y=Zz c:=by
 unfold A4 at e;split at e
 ·split at e
  ·cases e;exact .inl ⟨_,_,rfl,rfl,(JA _ _).symm⟩
  ·exact .inr e
 ·split at e
  ·cases e;exact .inl ⟨_,_,rfl,rfl,rfl⟩
  ·exact .inr e
 ·exact .inr e
theorem Jt{A:Sb}{f:T->Bool}{y:Array R4}(q:l.length=y.toList.length)(k:∀(i:Nat) t z,l[i]?=Zz t->y.toList[i]?=Zz z->WS A s z v (f t)):∃e:R4->Bool,(∀z,z∈y->WS A s z v (e z))/\y.any e=l.any f:=by
 classical
 obtain⟨y⟩:=y;refine⟨λz=>decide (∃(i:Nat) (t:T),l[i]?=Zz t/\y[i]?=Zz z/\f t=true),λz hz=>?_,?_⟩
 ·by_cases q':∃(i:Nat) (t:T),l[i]?=Zz t/\y[i]?=Zz z/\f t=true
  ·obtain⟨i,t,e1,e2,e3⟩:=id q'
   dsimp only;rw[Y1 q',<-e3];exact k i t z e1 e2
  ·obtain⟨i,hi,e2⟩:=Ub (show z∈y by simpa using hz)
   have hi':i<l.length:=by simp at q;omega
   have e2:y[i]?=Zz z:=by rw[<-e2];exact RZ hi
   have e3:f l[i]=false:=by
    cases q2:f l[i]with
    |false=>rfl
    |true=>exact Y3 ⟨i,l[i],RZ hi',e2,q2⟩ q'
   dsimp only;rw[Y0 q',<-e3];exact k i _ z (RZ hi') e2
 ·rw[Uk,List.any_toArray,TQ,TQ]
  constructor
  ·rintro ⟨_,_,q⟩
   obtain⟨i,t,e1,_,e3⟩:=Y4 q;exact⟨t,SG e1,e3⟩
  ·rintro ⟨t,ht,e3⟩
   obtain⟨i,hi,e1⟩:=Ub ht;have hi':i<y.length:=by simp at q;omega
   exact⟨y[i],TN hi',Y1 ⟨i,t,by rw[<-e1];exact RZ hi,RZ hi',e3⟩⟩
theorem IV(hu:X.A.units+64<cLine)(M:bh X cm m s.heap)(r1:RW X.D cm m s.heap w v)(r2:RW X.D cm m s.heap u z)(e1:view w m=Zz x)(e2:view u m=Zz y)(e:A4 x y=Zz c):
  (Q (.bool c) s->RF X.M X.A (VF .In v z) Q J s)/\(Q (.bool (!c)) s->RF X.M X.A (VF .NotIn v z) Q J s):=by
 rcases HT e with⟨a,b,rfl,rfl,rfl⟩|e
 ·obtain⟨_,rfl⟩:=(aw r1 e1).eX
  obtain⟨_,rfl⟩:=(aw r2 e2).eX;exact⟨in_str,notIn_str⟩
 ·obtain⟨l,hy,hd,rfl⟩:=EM e
  have hu1:X.A.in1.units<=X.A.units+1:=by simp[Around.in1]
  have k:∀{y:Array R4},jx X.D cm m s.heap l y.toList->∃e:R4->Bool,(∀z,z∈y->WS X.A.in1 s z v (e z))/\y.any e=l.any λt=>eqT t x:=λq=>Jt q.1 λi t z a b=>IT (by omega) (q.2 i t z a b) M r1 e1 (hd t (SG a))
  rcases hy with rfl|rfl
  ·obtain⟨a,y,rfl,p,q⟩:=(aw r2 e2).jQ
   obtain⟨f,h1,h2⟩:=k q;rw[<-h2];exact⟨SeqAt.in_tupleAt f p.tup h1,SeqAt.notIn_tupleAt f p.tup h1⟩
  ·obtain⟨a,y,rfl,p,q⟩:=aY M r2 e2
   obtain⟨f,h1,h2⟩:=k q;rw[<-h2];exact⟨SeqAt.in_listAt f p.pl.isList h1,SeqAt.notIn_listAt f p.pl.isList h1⟩
theorem Iv(M:bh X cm m s.heap)(r1:RW X.D cm m s.heap w v)(r2:RW X.D cm m s.heap u z)(e1:view w m=Zz x)(e2:view u m=Zz y)(e:BL x y=Zz c):
  (Q (.bool c) s->RF X.M X.A (VF .Is v z) Q J s)/\(Q (.bool (!c)) s->RF X.M X.A (VF .IsNot v z) Q J s):=by
 have hp:plainIs v z=true/\(v==z)=c:=by
  unfold BL at e;split at e
  ·cases aw r2 e2
   cases e;cases x with
   |lst l=>obtain⟨a,x,rfl,_⟩:=aY M r1 e1;exact⟨rfl,rfl⟩
   |_=>cases aw r1 e1<;>exact⟨rfl,rfl⟩
  ·cases aw r2 e2
   cases e;cases x with
   |lst l=>obtain⟨a,x,rfl,_⟩:=aY M r1 e1;exact⟨rfl,rfl⟩
   |bl b=>cases aw r1 e1;rename_i b' ;cases b<;>cases b'<;>exact⟨rfl,rfl⟩
   |_=>cases aw r1 e1<;>exact⟨rfl,rfl⟩
  ·cases e
 rw[<-hp.2];exact⟨wpAny_is_plain hp.1,wpAny_isNot_plain hp.1⟩
theorem rP(op:Xp)(hu:X.A.units+64<cLine)(I:Fr X env cm m s)(r1:RW X.D cm m s.heap w v)(r2:RW X.D cm m s.heap u z)(h:aI X X.tb cm m s (bX (((view w m).bind λx=>(view u m).bind λy=>bD op x y).map .bl) m) J (WK X Q)):RF X.M X.A (VF op v z) Q J s:=by
 obtain⟨x,y,c,e1,e2,e,g⟩:=Gu I h;clear h;cases op
 case Eq=>obtain⟨hc,e⟩:=RB.mp e;cases e;exact(ID hu I.mem r1 r2 e1 e2 hc).1 g
 case NotEq=>obtain⟨hc,e⟩:=RB.mp e;cases e;exact(ID hu I.mem r1 r2 e1 e2 hc).2 g
 case In=>exact(IV hu I.mem r1 r2 e1 e2 e).1 g
 case NotIn=>obtain⟨c,q,rfl⟩:=RY.mp e;exact(IV hu I.mem r1 r2 e1 e2 q).2 g
 case Is=>exact(Iv I.mem r1 r2 e1 e2 e).1 g
 case IsNot=>obtain⟨c,q,rfl⟩:=RY.mp e;exact(Iv I.mem r1 r2 e1 e2 q).2 g
 all_goals
  cases x<;>first
   |(cases e;done)
   |(cases y<;>first
    |(cases e;done)
    |(
     cases e;cases aw r1 e1;cases aw r2 e2;try rw[ry]at g
     first|with_reducible apply lt_int|with_reducible apply le_int|with_reducible apply gt_int|with_reducible apply ge_int|with_reducible apply lt_str|with_reducible apply PySem.P.le_str
     exact g))
end
end Mi
namespace Mi
open PySem PySem.Spec PyProof.Rows
section
variable{X:Cx}{D:Dm}{env:Mi.Env}{cm cm':List RC}{m m':Mem}{s s':RA}{w u:W}{v z:R4}{ch:List RC}{J Q:VK}{h:Rq}{t x y:T}{l:List T}{a:RC}{n:Nat}{i:Nat}{c:Bool}{B:Bool->RA->Prop}{α β γ:Type}
variable{call:Nat->List W->Mem->Res W}{gv:List T}{e f g:SJ}{es:List SJ}{E F G:Mi.E}{L:Es}{pos p:Pos}{op op':Xp}
abbrev BK(B:Bool->RA->Prop):Bool->List RC->Mem->RA->Prop:=λb _ _ s=>B b s
theorem Al.Lu{α β:Type}{R:α->β->Prop}{l:List α}{x:List β}(q:Al R l x):x.isEmpty=l.isEmpty:=by
 have:=q.1;cases l<;>cases x<;>first|rfl|cases this
theorem Cj(I:Fr X env cm m s)(r:RW X.D cm m s.heap w v)(h:aI X X.tb cm m s (bT w m) J (BK B)):RF X.M X.A (truthy v) B J s:=by
 have hl:=line;have hs:Ri=16777216:=Sv;unfold bT at h;split at h
 rotate_left
 ·exact h.elim
 rename_i t e;obtain⟨ft,h⟩:=lW h;have up:∀{k:Nat},B (yX t) { s with toks:=k }:=λ{k}=>h.to (I.up λ_ _ e=>e).1 (I.up (ch:=[]) λ_ _ e=>e).2.mem
 have h:=h.now I.mem;cases t with
 |lst l =>
  obtain⟨a,x,rfl,p,q⟩:=aY I.mem r e;refine wpAny_truthy_list p.pl.isList (by have:=p.2.2;omega) ?_;rw[<-VO,q.Lu];exact up
 |tup l =>
  obtain⟨a,x,rfl,p,q⟩:=(aw r e).jQ;refine truthy_tuple p.tup (by obtain⟨_,_,_,_,_,_,z⟩:=p;omega) ?_;rw[<-VO,q.Lu];exact up
 |str x =>
  obtain⟨_,rfl⟩:=(aw r e).eX;have hf:=Y4 ft;refine PySem.P.truthy_str (by rw[dg];omega) ?_;have q:yX (.str x)=(((⟨x.toArray⟩:Str).length:Int) != 0):=by
   rw[dg];cases x with
   |nil=>rfl
   |cons c x=>show true=_;symm;simp;omega
  rw[<-q];exact up
 |dct k l =>
  cases aw r e with
  |@dct a k x l p n l1 l2 _ =>
   refine wpAny_truthy_dict p.2.1 p.2.2.1 (by have:=p.1;omega) ?_;have q:(k.zip x).isEmpty=k.isEmpty:=by cases k<;>cases x<;>first|rfl|cases l1
   rw[q];exact up
 |db l =>
  cases aw r e with
  |db l p n _ q =>
   refine wpAny_truthy_list p.pl.isList (by obtain⟨_,_,_,_,_,_,z⟩:=p;omega) ?_;rw[<-VO,q.Lu];exact up
 |non=>cases aw r e;exact truthy_none h
 |bl b=>cases aw r e;exact Si h
 |int i=>obtain⟨_,rfl⟩:=(aw r e).dO;exact PySem.P.truthy_int h
theorem bL{r:Res α}{f:α->Mem->Res β}{g:β->Mem->Res γ}:(r.bind f).bind g=r.bind λa m=>(f a m).bind g:=by cases r<;>rfl
theorem aI.Ls{r:Res W}(h:aI X ch cm m s (r.bind bT) J (BK B))(k:∀w m',r=.ok w m'->∃c,w=.t (.bl c)):aI X ch cm m s r J (WK X λv s=>RF X.M X.A (truthy v) B J s):=by
 cases r with
 |stuck=>exact h.elim
 |exc x m'=>exact h
 |ok w m' =>
  obtain⟨c,rfl⟩:=k w m' rfl;exact λcm1 s1 x M v r=>by cases r;exact Si (h cm1 s1 x M)
theorem aI.bt{r:Res W}{f:Bool->Mem->Res W}{k:Bool->List RC->Mem->RA->Prop}(h:aI X ch cm m s ((r.bind λx m=>(jt x m).bind f).bind bT) J k):aI X ch cm m s ((r.bind bT).bind λb m=>(f b m).bind bT) J k:=by
 cases r with
 |stuck=>exact h
 |exc x m'=>exact h
 |ok w m' =>
  cases w with
  |t t=>cases t<;>first|exact h|exact h.elim
  |_=>exact h.elim
theorem rC{f:Bool->Mem->Res α}{k:α->List RC->Mem->RA->Prop}(h:aI X ch cm m s ((jt w m).bind f) J k):∃b,w=.t (.bl b)/\aI X ch cm m s (f b m) J k:=by
 unfold jt at h;split at h
 ·exact⟨_,rfl,h⟩
 ·exact h.elim
theorem KI(ha:PE call gv X e E)(he:∀b,isTrue e X.env b=(do let v <-b;W0 e.pos;XN [v] (truthy v))):PT call gv X e E:=λenv cm m s I B J h =>
 isTrue_plain (ha.one I h λw v c1 m1 s1 I x r h=>Cj I r h) (he _)
theorem Gy{d:List SJ}(ha:PE call gv X e E)(hb:PE call gv X (.BoolOp .And (f::d) pos) F):PE call gv X (.BoolOp .And (e::f::d) pos) (.and E F):=λenv cm m s I Q J h=>by
 rw[ev]at h;refine BoolOp_and (ha.one I h λw v c1 m1 s1 I x r h=>?_);obtain⟨b,rfl,h⟩:=rC h;cases r;refine Si ?_;cases b with
 |true=>exact hb _ _ _ _ I Q J h
 |false=>exact I.val' h (.bl _)
theorem Fc{d:List SJ}(ha:PE call gv X e E)(hb:PE call gv X (.BoolOp .Or (f::d) pos) F):PE call gv X (.BoolOp .Or (e::f::d) pos) (.or E F):=λenv cm m s I Q J h=>by
 rw[ev]at h;refine BoolOp_or (ha.one I h λw v c1 m1 s1 I x r h=>?_);obtain⟨b,rfl,h⟩:=rC h;cases r;refine Si ?_;cases b with
 |true=>exact I.val' h (.bl _)
 |false=>exact hb _ _ _ _ I Q J h
theorem Jb{op}(h:PE call gv X e E):PE call gv X (.BoolOp op [e] pos) E:=λ_ _ _ _ I Q J hp=>BoolOp_one (h _ _ _ _ I Q J hp)
theorem Hc(ha:PE call gv X e E):PE call gv X (.UnaryOp .Not e pos) (.not E):=λenv cm m s I Q J h=>by
 rw[ev]at h;refine UnaryOp_ (ha.one I h λw v c1 m1 s1 I x r h=>?_);obtain⟨b,rfl,h⟩:=rC h;cases r;exact not_of (Si (I.val' h (.bl _)))
theorem HU(ha:PT call gv X e E):PT call gv X (.UnaryOp .Not e pos) (.not E):=λenv cm m s I B J h=>by
 rw[ev]at h;exact isTrue_not (ha.one I h.bt λb c1 m1 s1 I x h=>h.now I.mem)
theorem H4(ha:PT call gv X e E):PW call gv X (.BoolOp .And [e] pos) E:=λz env cm m s I B J h=>isTrue_and (ta (ha _ _ _ _ I B J h) λb s1 q=>by
 cases b with
 |true=>exact isTrue_and_nil q
 |false=>exact q)
theorem Jy(ha:PT call gv X e E):PW call gv X (.BoolOp .Or [e] pos) E:=λz env cm m s I B J h=>isTrue_or (ta (ha _ _ _ _ I B J h) λb s1 q=>by
 cases b with
 |true=>exact q
 |false=>exact isTrue_or_nil q)
theorem He{d:List SJ}(ha:PT call gv X e E)(hb:PW call gv X (.BoolOp .And (f::d) pos) F):PW call gv X (.BoolOp .And (e::f::d) pos) (.and E F):=λz env cm m s I B J h=>by
 rw[ev]at h;refine isTrue_and (ha.one I h.bt λb c1 m1 s1 I x h=>?_);cases b with
 |true=>exact hb z _ _ _ _ I B J h
 |false=>exact h.now I.mem
theorem JJ{d:List SJ}(ha:PT call gv X e E)(hb:PW call gv X (.BoolOp .Or (f::d) pos) F):PW call gv X (.BoolOp .Or (e::f::d) pos) (.or E F):=λz env cm m s I B J h=>by
 rw[ev]at h;refine isTrue_or (ha.one I h.bt λb c1 m1 s1 I x h=>?_);cases b with
 |true=>exact h.now I.mem
 |false=>exact hb z _ _ _ _ I B J h
theorem Ik(hc:PT call gv X g G)(ha:PE call gv X e E)(hb:PE call gv X f F):PE call gv X (.IfExp g e f pos) (.ite G E F):=λenv cm m s I Q J h=>by
 rw[ev,<-bL]at h;refine wpAny_IfExp (hc.one I h λb c1 m1 s1 I x h=>?_);cases b with
 |true=>exact ha _ _ _ _ I Q J h
 |false=>exact hb _ _ _ _ I Q J h
theorem Im(ha:PE call gv X e E):PE call gv X (.UnaryOp .USub e pos) (.neg E):=λenv cm m s I Q J h=>by
 rw[ev]at h;refine UnaryOp_ (ha.one I h λw v c1 m1 s1 I x r h=>?_);obtain⟨t,e1,h⟩:=gf h;obtain⟨x,e2,e1⟩:=RE.mp e1;cases x<;>cases e1;obtain⟨_,rfl⟩:=(aw r e2).dO;exact neg_int (I.val h (.int _ _))
theorem Kn(ha:PE call gv X e E)(hb:PE call gv X f F)(hu:X.A.units+64<cLine)(I:Fr X env cm m s)(h:aI X X.tb cm m s (ev call gv (.cmp op E F) env m) J (WK X Q)):RF X.M X.A (eval e X.env) (λv=>RF X.M X.A (eval f X.env) (λz=>RF X.M X.A (VF op v z) Q J) J) J s:=by
 rw[ev]at h;exact ha.two hb I h λw u v z c1 m1 s1 I x r1 r2 h=>rP op hu I r1 r2 h
theorem DL{o:Option Bool}(h:bX (o.map .bl) m=.ok w m'):∃c,w=.t (.bl c):=by cases o<;>cases h;exact⟨_,rfl⟩
theorem GY(ha:PE call gv X e E)(hb:PE call gv X f F)(hm:Wq op f=false)(hu:X.A.units+64<cLine):PE call gv X (.Compare e [op] [f] pos) (.cmp op E F):=λenv cm m s I Q J h=>wpAny_Compare1 (Kn ha hb hu I h) hm
theorem G5(ha:PE call gv X e E)(hb:PE call gv X f F)(hm:Wq op f=false)(hu:X.A.units+64<cLine):PT call gv X (.Compare e [op] [f] pos) (.cmp op E F):=λenv cm m s I B J h=>wpAny_isTrue_Compare1 (Kn ha hb hu I (h.Ls λw m' e=>by
 rw[ev]at e;obtain⟨_,_,_,e⟩:=aV e;obtain⟨_,_,_,e⟩:=aV e;exact DL e)) hm
theorem Ht(ha:PE call gv X e E)(hb:PE call gv X f F)(hc:PE call gv X g G)(hm:lastMarks [op,op'] [f,g]=false)(hu:X.A.units+64<cLine):PE call gv X (.Compare e [op,op'] [f,g] pos) (.zK op op' E F G):=λenv cm m s I Q J h=>by
 rw[ev]at h;refine Compare_chain (ha.one I h λw v c1 m1 s1 I1 x1 r1 h=>chain_link (hb.one I1 h λu z c2 m2 s2 I2 x2 r2 h=>rP op hu I2 (r1.go x2 I1.mem I1.nc.q) r2 ?_)) hm;split at h
 ·rename_i e1
  rw[e1];intro c3 s3 x3 M3 v r;cases r;have I3:=I2.go x3 M3 I2.nc;refine Si (ite_tt (chain_last (hc.one I3 (h.shift x3) λw' z' c4 m4 s4 I4 x4 r4 h=>rP op' hu I4 ((r2.go x3 I2.mem I2.nc.q).go x4 I3.mem I3.nc.q) r4 h)))
 ·rename_i e1
  rw[e1];intro c3 s3 x3 M3 v r;cases r;exact Si (ite_ff (h c3 s3 x3 M3 _ (.bl _)))
 ·exact h.elim
theorem GI(ha:PE call gv X e E)(hb:PE call gv X f F)(hc:PE call gv X g G)(hm:lastMarks [op,op'] [f,g]=false)(hu:X.A.units+64<cLine):PT call gv X (.Compare e [op,op'] [f,g] pos) (.zK op op' E F G):=λenv cm m s I B J h=>by
 rw[ev,bL]at h;refine isTrue_chain (ha.one I h λw v c1 m1 s1 I1 x1 r1 h=>test_link (hb.one I1 (bL▸h) λu z c2 m2 s2 I2 x2 r2 h=>rP op hu I2 (r1.go x2 I1.mem I1.nc.q) r2 ?_)) hm;split at h
 ·rename_i e1
  rw[e1];intro c3 s3 x3 M3 v r;cases r;have I3:=I2.go x3 M3 I2.nc;refine Si (ite_tt (test_last (hc.one I3 ((h.Ls λw m' e=>by obtain⟨_,_,_,e⟩:=aV e;exact DL e).shift x3) λw' z' c4 m4 s4 I4 x4 r4 h=>rP op' hu I4 ((r2.go x3 I2.mem I2.nc.q).go x4 I3.mem I3.nc.q) r4 h)))
 ·rename_i e1
  rw[e1];intro c3 s3 x3 M3 v r;cases r;exact Si (ite_ff (h c3 s3 x3 M3))
 ·exact h.elim
end
theorem Fi{x:Str}(h:x.cps.toList=cs):x=⟨cs.toArray⟩:=by
 subst h;cases x;simp
noncomputable def notStar:SJ->Bool
 |.Starred _ _=>false
 |_=>true
theorem bZ{env:Sn}(h:notStar e=true):Tk (e::es) env=(false,eval e env)::Tk es env:=by
 cases e<;>first|rfl|cases h
theorem vA:∀{a:List SJ},a.all notStar=true->(backTo pos (Tk a env)).all (λx=>!x.1)=true
 |[],_=>rfl
 |e::a,h=>by
  rw[TD,R6]at h;rw[bZ h.1];show(!false&&(backTo pos (Tk a env)).all (λx=>!x.1))=true;rw[vA h.2];rfl
theorem ik{env:Sn}{a:List SJ}(h:a.all notStar=true):(backTo pos (Tk a env)).any (·.1)=false:=by
 have c:=vA (pos:=pos) (env:=env) h;rw[V4];intro x b;have:=RX.mp c x b;simpa using this
theorem dq{t:T}{ts:List T}(q:views ws m=Zz (t::ts)):∃w us,ws=w::us/\view w m=Zz t/\views us m=Zz ts:=by
 cases ws with
 |nil=>cases q
 |cons w us =>
  unfold views at q;cases q1:view w m with
  |none=>rw[q1]at q;cases q
  |some u =>
   rw[q1]at q;cases q2:views us m with
   |none=>rw[q2]at q;cases q
   |some v=>rw[q2]at q;cases q;exact⟨w,us,rfl,q1,q2⟩
theorem kZ(q:views ws m=Zz []):ws=[]:=by
 cases ws with
 |nil=>rfl
 |cons w us =>
  unfold views at q;cases q1:view w m with
  |none=>rw[q1]at q;cases q
  |some u =>
   rw[q1]at q;cases q2:views us m with
   |none=>rw[q2]at q;cases q
   |some v=>rw[q2]at q;cases q
theorem pn{f:T->Option T}:∀{ts:List T}{t:T},gq f ts=Zz t->∃x,ts=[x]/\f x=Zz t
 |[],_,h=>by cases h
 |[x],_,h=>⟨x,rfl,h⟩
 |_::_::_,_,h=>by cases h
theorem uc(h:Gs f ts=Zz t):∃i j,ts=[.int i,.int j]/\f i j=Zz t:=by
 unfold Gs at h;split at h
 ·exact⟨_,_,rfl,h⟩
 ·cases h
theorem gw{b:B}(hb:b≠.min2/\b≠.md):∀ts t,cv b ts=Zz t->ts.length=1:=by
 intro ts t h;have h1:∀f:T->Option T,gq f ts=Zz t->ts.length=1:=λf h=>by
  obtain⟨x,rfl,_⟩:=pn h;rfl
 cases b<;>first|exact h1 _ h|exact Y3 hb (by decide)|cases h
theorem Bp{s:RA}{h':Rq}(c:∀b x,b∉[s.heap.objs.size]->(s.heap.push o).get? b=Zz x->h'.get? b=Zz x):∀b x,s.heap.get? b=Zz x->h'.get? b=Zz x:=
 λb x e=>c b x (λa=>by rw[RN.mp a]at e;exact SI _ (Rj e)) (R9 _ e)
theorem IZ{α:Type}(f:List α->Bool)(bs:List Bool)(d:Bool):(Sc bs.length).map (λi=>(bs[i]?).getD d)=bs:=by
 apply List.ext_getElem?;intro i;rw[Rv];by_cases h:i<bs.length
 ·rw[List.getElem?_range h];simp[h]
 ·simp[h]
section
variable{X:Cx}{D:Dm}{env:Mi.Env}{cm cm':List RC}{m m':Mem}{s s':RA}{w u:W}{v z:R4}{ch:List RC}{J Q:VK}{h g:Rq}{t x y:T}{l:List T}{ws:List W}{us:List R4}{a:RC}{n:Nat}{i:Nat}{c:Bool}{α β γ:Type}{b:Mi.B}
variable{call:Nat->List W->Mem->Res W}{gv:List T}{e f c:SJ}{es:List SJ}{E F G:Mi.E}{L:Es}{pos p:Pos}{N:Str}
def Gl(X:Cx)(x:Str):Prop:=X.env.kindOf x=Zz .globalImplicit
theorem gI{s:RA}{x:Str}{u:R4}{E:VK}(I:Fr X env cm m s)(hg:Gl X x)(hm:X.mg x=Zz u)(h:Q u s)(hd:(x==("__debug__" : Str))=false):RF X.M X.A (eval (.Name x pos) X.env) Q E s:=
 Calls.Name_function_global I.ok.kind hg (Calls.loadGlobal_global (by rw[I.ok.glob];exact I.ok.mod.glob.keeps I.bs) hm h) hd
theorem eh{s:RA}{x:Str}{u:R4}{E:VK}(I:Fr X env cm m s)(hg:Gl X x)(hm:X.mg x=Zy)(hv:Ti x=Zz u)(h:Q u s)(hn:x≠"__name__":=by decide)(hd:(x==("__debug__" : Str))=false:=by decide):RF X.M X.A (eval (.Name x pos) X.env) Q E s:=by
 obtain⟨k,h1,h2⟩:=I.ok.mod.blt;exact Calls.Name_function_global I.ok.kind hg (Calls.loadGlobal_builtin (by rw[I.ok.glob];exact I.ok.mod.glob.keeps I.bs) hm (by rw[I.ok.blt];exact h1.keeps I.bs) ((h2 x hn).trans hv) h) hd
def VT(K:V9)(u:R4)(t:T):Prop:=∀X:Cx,X.K=K->∀cm m h,bh X cm m h->K.In h->(∀b∈X.fs,K.lookup b=Zy)->RT X.D cm m h t u
inductive bI (B:Bs) (x:Str) (t:T):Prop where
 |mk (k:R4) (_:B.mg x=Zz k) (_:VT B.K k t)
theorem Fr.Ln(I:Fr X env cm m s):∀b∈X.fs,X.K.lookup b=Zy:=λb hb=>by
 cases e:X.K.lookup b with
 |none=>rfl
 |some o=>have:=I.ok.mod.jq _ _ e;rw[(I.cN b hb).1]at this;cases this
theorem cB{x:Str}{k:Nat}(hg:Gl X x)(hk:gv[k]?=Zz t)(ok:bI X.toBs x t)(hd:(x==("__debug__" : Str))=false):PE call gv X (.Name x pos) (.gl k):=λenv cm m s I Q J h=>by
 obtain⟨u,h1,h2⟩:=ok;rw[ev,hk]at h;exact gI I hg h1 (I.val' h (h2 X rfl _ _ _ I.mem I.jq I.Ln)) hd
def CB(X:Cx)(f:R4)(b:Mi.B):Prop:=∀env cm m s,Fr X env cm m s->∀ws us,wz X.D cm m s.heap ws us->∀Q J:VK,aI X X.tb cm m s (bX ((views ws m).bind λl=>cv b l) m) J (WK X Q)->RF X.M X.A (T7 f us) Q J s
theorem qy{id:String}(j:CB X (.builtin id) b)(d:Ti N=Zz (.builtin id))(h:Gl X N)(g:X.mg N=Zy)(k:PA call gv X (e::es) L)(f:N≠"__name__")(c:(N==("__debug__" : Str))=false)(i:notStar e=true)(a:es.all notStar=true):PE call gv X (.Call (.Name N p) (e::es) [] pos) (.blt b L):=λenv cm m s I Q J q=>by
 rw[ev]at q;exact Sl (eh I h g d (TA (k.one I q λws us c1 m1 s1 I x r q=>j _ _ _ _ I _ _ r _ _ q) (bZ i) (ik a)) f c)
theorem qQ{id:String}(j:CB X (.type id) b)(d:Ti N=Zz (.type id))(h:Gl X N)(g:X.mg N=Zy)(k:PA call gv X (e::es) L)(f:N≠"__name__")(c:(N==("__debug__" : Str))=false)(i:notStar e=true)(a:es.all notStar=true):PE call gv X (.Call (.Name N p) (e::es) [] pos) (.blt b L):=λenv cm m s I Q J q=>by
 rw[ev]at q;exact Sl (eh I h g d (SM (k.one I q λws us c1 m1 s1 I x r q=>j _ _ _ _ I _ _ r _ _ q) (bZ i) (ik a)) f c)
theorem xo(r:wz X.D cm m h ws us)(h1:∀l t,cv b l=Zz t->l.length=1)(q:aI X X.tb cm m s (bX ((views ws m).bind λl=>cv b l) m) J (WK X Q)):
  ∃w v t r,ws=[w]/\us=[v]/\RW X.D cm m h w v/\view w m=Zz t/\cv b [t]=Zz r/\aI X X.tb cm m s (.ok (.t r) m) J (WK X Q):=by
 obtain⟨t,e0,ho⟩:=gf q;clear q;obtain⟨l,q,e⟩:=RE.mp e0;clear e0;obtain⟨t1,rfl⟩:=List.length_eq_one_iff.mp (h1 l t e);obtain⟨w,us,rfl,q1,q2⟩:=dq q;obtain rfl:=kZ q2;obtain⟨v,y,rfl,r1,r2⟩:=r.inv;obtain rfl:=RP.mp r2.1.symm;exact⟨w,v,t1,t,rfl,rfl,r1,q1,e,ho⟩
theorem CG:CB X (.builtin "len") .len:=λenv cm m s I ws us r Q J q=>by
 obtain⟨w,v,t,rr,rfl,rfl,r,e,c,q⟩:=xo r (gw (by decide)) q;have hl:=line;have hs:Ri=16777216:=Sv;cases t with
 |str l =>
  obtain⟨hc,c⟩:=RB.mp c;cases c;obtain⟨_,rfl⟩:=(aw r e).eX;exact len_str (by rw[dg];omega) (by rw[dg];exact I.val q (.int _ _))
 |tup l =>
  cases c;obtain⟨a,x,rfl,p,k⟩:=(aw r e).jQ;have h1:=k.1;rw[k.1]at q;exact len_tuple p.tup (by obtain⟨_,_,_,_,_,_,z⟩:=p;omega) (I.val q (.int _ _))
 |lst l =>
  cases c;obtain⟨a,x,rfl,p,k⟩:=aY I.mem r e;rw[k.1]at q;exact Calls.call_len_list p.pl.isList (by have:=p.2.2;omega) (I.val q (.int _ _))
 |db l =>
  cases c;cases aw r e with
  |db l p n _ k =>
   rw[k.1]at q;exact Calls.call_len_list p.pl.isList (by obtain⟨_,_,_,_,_,_,z⟩:=p;omega) (I.val q (.int _ _))
 |_=>cases c
theorem C9:CB X (.type "int") .int:=λenv cm m s I ws us r Q J q=>by
 obtain⟨w,v,t,rr,rfl,rfl,r,e,f,q⟩:=xo r (gw (by decide)) q;cases t with
 |int i =>
  cases f;obtain⟨_,rfl⟩:=(aw r e).dO;exact call_int_int (I.val' q (.int _ _))
 |bl b =>
  cases f;obtain rfl:=(aw r e).Ly;exact call_int_bool (I.val q (.int _ _))
 |str a =>
  obtain⟨hc,f⟩:=RB.mp (show(if a≠[]/\a.length<=600/\a.all (λc=>decide (48<=c)&&decide (c<=57))=true then Zz (T.int (fL a))else Zy)=Zz rr from f);cases f;obtain⟨_,rfl⟩:=(aw r e).eX;have hd:NumText.AllDigits (⟨a.toArray⟩:Str).cps.toList:=λc hcm=>by
   have:=RX.mp hc.2.2 c (by simpa using hcm);rw[R6]at this;exact⟨Y4 this.1,Y4 this.2⟩
  have hz:(⟨a.toArray⟩:Str).length<=600:=by rw[dg];exact hc.2.1
  refine W.KIN.call_text (PySem.intText_digits hd (by simpa using hc.1) (by omega)) (by omega) ?_;rw[show(⟨a.toArray⟩:Str).cps.toList=a from by simp];exact I.val q (.int _ _)
 |_=>cases f
theorem CV:CB X (.type "str") .str:=λenv cm m s I ws us r Q J q=>by
 obtain⟨w,v,t,rr,rfl,rfl,r,e,f,q⟩:=xo r (gw (by decide)) q;cases t with
 |int i =>
  obtain⟨hc,f⟩:=RB.mp (show(if i.natAbs<2^250 then Zz (T.str (cA i))else Zy)=Zz rr from f);cases f;obtain⟨_,rfl⟩:=(aw r e).dO;refine PySem.P.str_of_int ?_ (by rw[Fi (cs:=cA i) rfl];exact I.val q (.str _ _));by_cases h0:i.natAbs=0
  ·rw[h0];decide
  ·exact T8 ((Nat.log2_lt h0).mpr hc) (by decide)
 |str cs =>
  cases f;obtain⟨_,rfl⟩:=(aw r e).eX;exact PySem.P.str_of_str (I.val' q (.str _ _))
 |_=>cases f
theorem xm(f:X.calm=true):CB X (.type "tuple") .tuple:=λenv cm m s I ws us r Q J q=>by
 obtain⟨w,v,t,rr,rfl,rfl,r,e,k,q⟩:=xo r (gw (by decide)) q;have hl:=line;cases t with
 |tup l =>
  cases k;obtain⟨a,x,rfl,p,k⟩:=(aw r e).jQ;exact call_tuple_same p.tup (I.val' q (.tup p (aw r e).tf k.1 k.2))
 |lst l =>
  cases k;obtain⟨a,x,rfl,p,k⟩:=aY I.mem r e;exact call_tuple_list p.pl.isList (λh' kp=>I.tup (y:=x.toList) (n:=s.toks) (d:=s.drawn) q k (λb o e=>R9 _ (kp b o e)) (.new rfl rfl rfl rfl p.2.2) (Iw kp)) p.2.2
 |str g =>
  obtain⟨hc,k⟩:=RB.mp (show(if g.length<=lim then Zz (T.tup (g.map λc=>T.str [c]))else Zy)=Zz rr from k);cases k;obtain⟨_,rfl⟩:=(aw r e).eX;have hz:(⟨g.toArray⟩:Str).cps.size=g.length:=by simp
  refine call_tuple_str (I.ok.hd f) ⟨g.toArray⟩ _ (λh' n y kp it=>?_) (by omega);obtain⟨i1,i2⟩:=it;refine I.tup (y:=y.toList) (d:=s.drawn) q ⟨by simp at i1 ⊢;omega,λi t v a b=>?_⟩ (λb o e=>R9 _ (kp b o e)) (.new rfl rfl rfl rfl (by simp;omega)) (Iw kp);obtain⟨c,u,e1,e2⟩:=i2 i v (by simpa using b);rw[Rv,show g[i]?=Zz c from by simpa using e1]at a;cases a;rw[e2];exact .str _ _
 |_=>cases k
theorem zR:CB X (.type "list") .list:=λenv cm m s I ws us r Q J q=>by
 obtain⟨w,v,t,rr,rfl,rfl,r,e,k,q⟩:=xo r (gw (by decide)) q;have fin:∀{l:List T}{x:Array R4}{h':Rq}{c':Nat},aI X X.tb cm m s (.ok (.t (.lst l)) m) J (WK X Q)->jx X.D cm m s.heap l x.toList->x.size<=Ri->(∀b o',s.heap.get? b=Zz o'->h'.get? b=Zz o')->h'.get? s.heap.objs.size=Zz { cls:=.type "list",data:=.seq x c' }->Q (.ref s.heap.objs.size) { s with heap:=h' }:=λq k z kp e =>
  I.lst (n:=s.toks) (d:=s.drawn) q k kp (gj _) ⟨⟨_,by simpa using e⟩,λhb=>by obtain⟨_,o,ho,_⟩:=I.cN _ hb;exact SI _ (Rj ho),by simpa using z⟩
 cases t with
 |tup l =>
  cases k;obtain⟨a,x,rfl,p,k⟩:=(aw r e).jQ;obtain⟨o,n,e1,c,d,_,z⟩:=p;exact W6 a (.inr rfl) e1 c d (λh' c' kp e=>fin q k z kp e) z
 |lst l =>
  cases k;obtain⟨a,x,rfl,p,k⟩:=aY I.mem r e;obtain⟨⟨n,e1⟩,_,z⟩:=p;exact W6 a (.inl rfl) e1 rfl rfl (λh' c' kp e=>fin q k z kp e) z
 |_=>cases k
theorem wE:∀{l:List T}{y:List R4}{b:List Bool},jx D cm m h l y->i0 l=Zz b->y=b.map Wz
 |[],y,_,r,e=>by cases e;exact RP.mp r.1.symm
 |t::l,_,b,r,e=>by
  obtain⟨v,y,rfl,r1,r2⟩:=r.inv;cases t with
  |bl c =>
   obtain⟨f,q,rfl⟩:=RY.mp (show(i0 l).map (c::·)=Zz b from e);rw[wE r2 q,r1.Ly];rfl
  |_=>cases e
theorem C6(hc:X.calm=true):CB X (.builtin "all") .all:=λenv cm m s I ws us r Q J q=>by
 obtain⟨w,v,t,rr,rfl,rfl,r,e,k,q⟩:=xo r (gw (by decide)) q;have fin:∀{l:List T}{y:Array R4}{a:RC},(i0 l).map (λd=>T.bl (d.all id))=Zz rr->jx X.D cm m s.heap l y.toList->(∃o,s.heap.get? a=Zz o)->∃b:List Bool,y=(b.map Wz).toArray/\a≠s.heap.objs.size /\
   TruthOf X.prog X.w X.A.in1 (λi v=>y[i]?=Zz v) (λi=>(b[i]?).getD true)/\∀(h':Rq) (tk:Nat),(∀b o,s.heap.get? b=Zz o->h'.get? b=Zz o)->Q (.bool ((Sc y.size).all λi=>(b[i]?).getD true)) { s with heap:=h',toks:=tk }:=λ{l y a} k r ⟨o,ho⟩=>by
  obtain⟨b,q2,rfl⟩:=RY.mp k;obtain⟨y⟩:=y;obtain rfl:=wE r q2;refine⟨b,rfl,SO (Rj ho),λi v s' Q' E' hP k=>?_,λh' tk kp=>?_⟩
  ·have hP:(b.map Wz)[i]?=Zz v:=by simpa using hP
   rw[Rv]at hP;obtain⟨c,qq,rfl⟩:=RY.mp hP;dsimp only at k;rw[qq]at k;exact Si k
  ·have e:((Sc (b.map Wz).toArray.size).all λi=>(b[i]?).getD true)=b.all id:=by
    rw[SS,R2];have:=congrArg (λl=>l.all id) (IZ (α:=Nat) (λ_=>true) b true);rw[<-this,U2];rfl
   rw[e];exact q.to (I.up (d:=s.drawn) kp).1 (I.up (ch:=[]) kp).2.mem _ (.bl _)
 cases t with
 |lst l =>
  obtain⟨a,y,rfl,p,r⟩:=aY I.mem r e;obtain⟨⟨n,ho⟩,_⟩:=id p;obtain⟨b,_,hn,tr,fin⟩:=fin (a:=a) k r ⟨_,ho⟩;have j:=p.pl.isList;exact call_all_walk (V1 j ⟨s.heap.objs.size,[s.heap.objs.size,a],[s.heap.objs.size],y.size,_,_,_,rfl,WN (A:=X.A.in1) (I.ok.hd hc) _ a hn y,⟨⟨_,RM _ rfl,rfl,rfl⟩,j.push _⟩,tr,λh' tk hk=>fin h' tk (Bp hk)⟩)
 |tup l =>
  obtain⟨a,y,rfl,p,r⟩:=(aw r e).jQ;have j:=p.tup;obtain⟨o,n,ho,_⟩:=id p;obtain⟨b,_,hn,tr,fin⟩:=fin (a:=a) k r ⟨_,ho⟩;exact call_all_walk (Vq j ⟨s.heap.objs.size,[s.heap.objs.size,a],[s.heap.objs.size],y.size,_,_,_,rfl,Wc (A:=X.A.in1) (I.ok.hd hc) _ a hn y,⟨⟨_,RM _ rfl,rfl,rfl⟩,(let⟨o,n,r⟩:=j;⟨o,R9 _ n,r⟩)⟩,tr,λh' tk hk=>fin h' tk (Bp hk)⟩)
 |_=>cases k
theorem Ch(hc:X.calm=true):CB X (.builtin "min") .min2:=λenv cm m s I ws us r Q J q=>by
 obtain⟨t,e0,ho⟩:=gf q;clear q;obtain⟨l,e1,e⟩:=RE.mp e0;clear e0;obtain⟨i,j,rfl,e⟩:=uc e;cases e;obtain⟨w1,ws,rfl,v1,e1⟩:=dq e1;obtain⟨w2,ws,rfl,v2,e1⟩:=dq e1;obtain rfl:=kZ e1;obtain⟨v,y,rfl,r1,r⟩:=r.inv;obtain⟨z,y,rfl,r2,r⟩:=r.inv;obtain rfl:=RP.mp r.1.symm;obtain⟨_,rfl⟩:=(aw r1 v1).dO;obtain⟨_,rfl⟩:=(aw r2 v2).dO;refine min_two_ints (I.ok.hd hc) λh' tk k=>ho.to (I.up (d:=s.drawn) k).1 (I.up (ch:=[]) k).2.mem _ ?_
 by_cases hj:j<i
 ·rw[Xy hj,Xy hj];exact .int _ _
 ·rw[Xz hj,Xz hj];exact .int _ _
theorem H1(c:Gl X "len")(b:X.mg "len" = Zy)(f:PA call gv X (e::es) L)(d:notStar e=true)(a:es.all notStar=true):PE call gv X (.Call (.Name "len" p) (e::es) [] pos) (.blt .len L):=qy CG (by decide +kernel) c b f (by decide) (by decide) d a
theorem Gb(c:Gl X "int")(b:X.mg "int" = Zy)(f:PA call gv X (e::es) L)(d:notStar e=true)(a:es.all notStar=true):PE call gv X (.Call (.Name "int" p) (e::es) [] pos) (.blt .int L):=qQ C9 (by decide +kernel) c b f (by decide) (by decide) d a
theorem Gg(c:Gl X "str")(b:X.mg "str" = Zy)(f:PA call gv X (e::es) L)(d:notStar e=true)(a:es.all notStar=true):PE call gv X (.Call (.Name "str" p) (e::es) [] pos) (.blt .str L):=qQ CV (by decide +kernel) c b f (by decide) (by decide) d a
theorem zd(c:Gl X "tuple")(b:X.mg "tuple" = Zy)(g:PA call gv X (e::es) L)(d:notStar e=true)(a:es.all notStar=true)(f:X.calm=true:=by rfl):PE call gv X (.Call (.Name "tuple" p) (e::es) [] pos) (.blt .tuple L):=qQ (xm f) (by decide +kernel) c b g (by decide) (by decide) d a
theorem B1(c:Gl X "list")(b:X.mg "list" = Zy)(f:PA call gv X (e::es) L)(d:notStar e=true)(a:es.all notStar=true):PE call gv X (.Call (.Name "list" p) (e::es) [] pos) (.blt .list L):=qQ zR (by decide +kernel) c b f (by decide) (by decide) d a
theorem FY(c:Gl X "all")(b:X.mg "all" = Zy)(g:PA call gv X (e::es) L)(d:notStar e=true)(a:es.all notStar=true)(f:X.calm=true:=by rfl):PE call gv X (.Call (.Name "all" p) (e::es) [] pos) (.blt .all L):=qy (C6 f) (by decide +kernel) c b g (by decide) (by decide) d a
theorem Fu(c:Gl X "min")(b:X.mg "min" = Zy)(g:PA call gv X (e::es) L)(d:notStar e=true)(a:es.all notStar=true)(f:X.calm=true:=by rfl):PE call gv X (.Call (.Name "min" p) (e::es) [] pos) (.blt .min2 L):=qy (Ch f) (by decide +kernel) c b g (by decide) (by decide) d a
end
section
variable{prog:Sf}{w:TB}{A:Sb}{E:R4->RA->Prop}{s:RA}
theorem wF(n d:Nat)(hd:d<=n)(o:Option Int):aT n d o<=n:=by
 cases o with
 |none=>exact hd
 |some v =>
  show(if v<0 then(v+(n:Int)).toNat else min v.toNat n)<=n;split<;>omega
theorem BB(v:Int)(n d:Nat):(if v<0 then max (v+(n:Int)) 0 else min v (n:Int))=((aT n d (Zz v):Nat):Int):=by
 show _=(((if v<0 then(v+(n:Int)).toNat else min v.toNat n):Nat):Int)
 split<;>omega
theorem Az(lo hi:Option Int)(n:Nat):UZ lo hi 1 (n:Int)=(((aT n 0 lo:Nat):Int),((aT n n hi:Nat):Int)):=by
 have h1:¬((1:Int)<0):=by omega
 unfold UZ;simp only[h1,if_false];refine Prod.ext ?_ ?_
 ·cases lo with
  |none=>rfl
  |some v=>exact BB v n 0
 ·cases hi with
  |none=>rfl
  |some v=>exact BB v n n
theorem Av(i j:Nat):TY (i:Int) (j:Int) 1=j-i:=by
 unfold TY;have h1:(1:Int)>0:=by omega
 simp only[h1,if_true,Int.ediv_one];split<;>omega
theorem rl{v:R4}{o:Option Int}{Q:Option Int->RA->Prop}(p:W7 v o)(h:Q o s):RF (Rp prog w) A (Builtin.Slice.slicePartIndex v) Q E s:=by
 cases p with
 |none=>exact slicePart_none h
 |int i t=>exact slicePart_int h
theorem oE{sl:RC}{vl vu:R4}{lo hi:Option Int}{n:Nat}{Q:Int×Int×Nat->RA->Prop}(hs:s.heap.IsSliceOf sl vl vu .none)(pl:W7 vl lo)(pu:W7 vu hi)(h:Q (((aT n 0 lo:Nat):Int),1,aT n n hi-aT n 0 lo) s):RF (Rp prog w) A (Builtin.Slice.sliceApplied (.ref sl) (pure (n:Int))) Q E s:=by
 obtain⟨os,hos,hcs,hds⟩:=id hs;unfold Builtin.Slice.sliceApplied Builtin.Slice.sliceFields;refine R0 (R0 (S9 hos hds (x:=vl) rfl (R0 (S9 hos hds (x:=vu) rfl (R0 (S9 hos hds (x:=.none) rfl (R3 ?_)))))));refine R0 (slicePart_none ?_);show RF _ _ (if((1:Int)==0)=true then _ else _) _ _ s;rw[Xz (by decide)];refine R0 (rl pl (R0 (rl pu (R0 (R3 ?_)))));show RF _ _ (match UZ lo hi 1 (n:Int)with|(lo,hi)=>pure (lo,(1:Int),TY lo hi 1)) _ _ s;rw[Az lo hi n];show RF _ _ (pure (((aT n 0 lo:Nat):Int),(1:Int),TY ((aT n 0 lo:Nat):Int) ((aT n n hi:Nat):Int) 1)) _ _ s;rw[Av];exact R3 h
theorem Ep(xs:Array R4)(i k:Nat):((Sc k).filterMap λ(m:Nat)=>xs[((i:Int)+(m:Int)*1).toNat]?).toArray=((xs.toList.drop i).take k).toArray:=by
 have e:(λ(m:Nat)=>xs[((i:Int)+(m:Int)*1).toNat]?)=λm=>xs[i+m]?:=by
  funext m
  have:((i:Int)+(m:Int)*1).toNat=i+m:=by omega
  rw[this]
 rw[e];have:=pick_run xs i k;rw[List.filterMap_map]at this;have e2:((λx=>xs[x]?) ∘ λx=>i+x)=λm=>xs[i+m]?:=rfl
 rw[e2]at this;rw[this]
theorem CX{t sl:RC}{x:Array R4}{vl vu:R4}{lo hi:Option Int}{Q:R4->RA->Prop}(ht:Xq s.heap t x)(hs:s.heap.IsSliceOf sl vl vu .none)(pl:W7 vl lo)(pu:W7 vu hi)(hsz:x.size<=Ri)(h1:cut x.toList lo hi=x.toList->Q (.ref t) s)(h2:Q (.ref s.heap.objs.size) { s with heap:=s.heap.push { cls:=.type "tuple",data:=.seq (cut x.toList lo hi).toArray } }):RF (Rp prog w) A (Vg (.ref t) (.ref sl)) Q E s:=by
 obtain⟨os,hos,hcs,hds⟩:=id hs;have hTs:s.TypeIs (.ref sl) "slice":=⟨os,hos,hcs⟩
 have e:cut x.toList lo hi=(x.toList.drop (aT x.size 0 lo)).take (aT x.size x.size hi-aT x.size 0 lo):=rfl;have hz:(cut x.toList lo hi).toArray.size<=Ri:=by rw[e,SS,SD,TR,RK];omega
 have hj:aT x.size x.size hi<=x.size:=wF _ _ (RU _) hi;unfold Vg
 try with_reducible refine SZ ?_
 first|refine R0 (R3 ?_)|skip
 refine R0 (wpAny_sequenceKey ht.typeIs (by decide) ?_);refine R0 (S8 (name:=Str.ofString "__getitem__") ht.typeIs VA
  (SQ VA ht.typeIs entry_tuple_getitem ?_ (args_tuple_getitem _ _)))
 show RF _ _ (Builtin.Tuple.tupleItemsOf (.ref t) >>= _) _ _ s;refine R0 (tupleItemsOf_ ht ?_);refine R0 (WP hTs ?_);rw[Xy (by decide)];refine R0 (oE hs pl pu ?_);show RF _ _ (if(((aT x.size 0 lo:Nat):Int)==0&&(1:Int)==1&&(aT x.size x.size hi-aT x.size 0 lo)==x.size)=true then _ else _) _ _ s;split
 ·rename_i q
  rw[R6,R6]at q;have q1:((aT x.size 0 lo:Nat):Int)=0:=eq_of_beq q.1.1;have q2:aT x.size x.size hi-aT x.size 0 lo=x.size:=eq_of_beq q.2;refine R0 ?_;unfold Builtin.Tuple.tupleIsExact;refine R0 (WP ht.typeIs (R3 ?_));rw[Xy (by decide)];refine R0 (UG (R3 ⟨_,rfl,R3 (h1 ?_)⟩));rw[e,q2,show aT x.size 0 lo=0 by omega,Wd,<-RK,WH]
 ·rw[Ep]
  rw[e]at h2 hz
  first
   |exact R0 (m:=Tr _) (SF (R3 ⟨_,rfl,R3 h2⟩) hz)
   |exact R0 (m:=Tr _) (SF (R0 (R3 (R3 ⟨_,rfl,R3 h2⟩))) hz)
   |exact R0 (R0 (m:=Tr _) (SF (R3 (R3 ⟨_,rfl,R3 h2⟩)) hz))
   |exact R0 (R0 (m:=Tr _) (SF (R3 ⟨_,rfl,R3 h2⟩) hz))
theorem ja{α:Type}(xs:List α)(lo hi:Option Int):cut xs lo hi=(xs.drop (aT xs.length 0 lo)).take (aT xs.length xs.length hi-aT xs.length 0 lo):=rfl
theorem Ew(x y:Nat):sliceRange (x:Int) (y:Int) 1=(Sc (y-x)).map λk=>x+k:=by
 unfold sliceRange;simp only[show((1:Int)>0)=True from by simp,if_true];by_cases h:(x:Int)<y
 ·have a:(((y:Int)-x+1-1) / 1).toNat=y-x:=by first|omega|(simp;done)|(simp;omega)
  rw[Xy h,a];refine List.map_congr_left λk _=>?_
  omega
 ·have a:y-x=0:=by omega
  rw[Xz h,a];rfl
theorem mr(n d:Nat)(v:Int):max 0 (min (if v<0 then v+n else v) (n:Int))=((aT n d (Zz v):Nat):Int):=by
 show max 0 (min (if v<0 then v+n else v) (n:Int))=(((if v<0 then(v+(n:Int)).toNat else min v.toNat n):Nat):Int)
 split<;>omega
theorem Ay(lo hi:Option Int)(n:Nat):(Builtin.Str.strSliceIndices lo hi 1 n)=(Sc (aT n n hi-aT n 0 lo)).map λk=>aT n 0 lo+k:=by
 rw[<-Ew];unfold Builtin.Str.strSliceIndices;cases lo with
 |none =>
  cases hi with
  |none=>rfl
  |some j =>
   rw[<-mr];rfl
 |some i =>
  cases hi with
  |none =>
   rw[<-mr];rfl
  |some j =>
   rw[<-mr,<-mr];rfl
theorem CD{prog:Sf}{w:TB}{E:R4->RA->Prop}{s:RA}{lo hi:Option Int}(hs:s.heap.IsSliceOf sl vl vu .none)(pl:W7 vl lo)(pu:W7 vu hi)(hz:cs.length<=lim)(h:∀t' k,Q (.str ⟨(cut cs lo hi).toArray⟩ t') { s with toks:=k }):RF (Rp prog w) A (Vg (.str ⟨cs.toArray⟩ t) (.ref sl)) Q E s:=by
 have hl:=rS;obtain⟨l,e1,e2⟩:∃l:Option (Int×Tok),vl=partValue l/\l.map (·.1)=lo:=by
  cases pl with
  |none=>exact⟨Zy,rfl,rfl⟩
  |int i t=>exact⟨Zz (i,t),rfl,rfl⟩
 obtain⟨u,f1,f2⟩:∃l:Option (Int×Tok),vu=partValue l/\l.map (·.1)=hi:=by
  cases pu with
  |none=>exact⟨Zy,rfl,rfl⟩
  |int i t=>exact⟨Zz (i,t),rfl,rfl⟩
 subst e1 f1;refine wpAny_getItem_str_slice (st:=Zy) hs (by rfl) ?_;have pk:We ⟨cs.toArray⟩ l u Zy=(Sc (aT cs.length cs.length hi-aT cs.length 0 lo)).map λk=>aT cs.length 0 lo+k:=by
  unfold We;rw[e2,f2,dg];exact Ay lo hi cs.length
 have hn:aT cs.length cs.length hi<=cs.length:=wF _ _ (RU _) hi;have fm:((We ⟨cs.toArray⟩ l u Zy).filterMap ((⟨cs.toArray⟩:Str).cps[·]?))=cut cs lo hi:=by
  rw[pk,ja];by_cases hle:aT cs.length 0 lo<=aT cs.length cs.length hi
  ·have:=StrLaws.picks cs (aT cs.length cs.length hi-aT cs.length 0 lo) (aT cs.length 0 lo) (by omega)
   rw[<-this];simp
  ·have:aT cs.length cs.length hi-aT cs.length 0 lo=0:=by omega
   rw[this];simp
 unfold sliceMade;split
 ·rename_i hw
  rw[R6]at hw;have q:(We ⟨cs.toArray⟩ l u Zy).length=cs.length:=by rw[eq_of_beq hw.2,dg]
  rw[pk,R2,UC]at q;have e:cut cs lo hi=cs:=by
   rw[ja];have:aT cs.length 0 lo=0∨cs.length=0:=by omega
   rcases this with c|c
   ·rw[c]at q ⊢
    rw[Wd,q];exact WH
   ·rw[RP]at c
    subst c;simp
  have:=h t s.toks;rw[e]at this;exact this
 ·rw[fm]
  have hc:(cut cs lo hi).length<=cs.length:=by
   rw[ja,SD,TR];omega
  exact⟨by show(cut cs lo hi).toArray.size<=_;rw[SS];omega,h _ _⟩
theorem vm(lo hi:Option Int)(n:Nat):(Ux lo hi Zy n).1=((aT n 0 lo:Nat):Int)/\(Ux lo hi Zy n).2.1=((aT n n hi:Nat):Int)/\(Ux lo hi Zy n).2.2=1:=by
 refine⟨?_,?_,rfl⟩
 ·cases lo with
  |none=>simp[Ux,aT]
  |some i =>
   simp only[Ux,aT,Option.getD_none,show(1:Int)>0 by decide,if_true];by_cases h:i<0
   ·simp only[h,if_true]<;>omega
   ·simp only[h,if_false]<;>omega
 ·cases hi with
  |none=>simp[Ux,aT]
  |some i =>
   simp only[Ux,aT,Option.getD_none,show(1:Int)>0 by decide,if_true];by_cases h:i<0
   ·simp only[h,if_true]<;>omega
   ·simp only[h,if_false]<;>omega
theorem tQ(its:List R4)(lo hi:Option Int):slicePick its.toArray lo hi Zy=((its.drop (aT its.length 0 lo)).take (aT its.length its.length hi-aT its.length 0 lo)).toArray:=by
 obtain⟨h1,h2,h3⟩:=vm lo hi its.toArray.size;unfold slicePick;rw[h1,h2,h3];simp only[sliceRange_one,pick_run,SS]<;>rfl
theorem mO{α:Type}{l:List α}{i:Int}{v:α}(h:atT l i=Zz v):∃j,seqIndex? i l.length=Zz j/\l[j]?=Zz v/\-(l.length:Int)<=i/\i<l.length/\(0<=i/\i.toNat=j∨i<0/\(i+(l.length:Int)).toNat=j):=by
 obtain⟨j,e,h⟩:=RE.mp h;unfold ie at e;by_cases h0:0<=i
 ·rw[Xy h0]at e
  obtain⟨h1,e⟩:=RB.mp e;have e:=T6 e;exact⟨j,by rw[seqIndex_of h0 h1,e],h,by omega,h1,.inl ⟨h0,e⟩⟩
 ·rw[Xz h0]at e
  obtain⟨h1,e⟩:=RB.mp e;have e:=T6 e;exact⟨j,by rw[seqIndex_neg (by omega) h1,e],h,h1,by omega,.inr ⟨by omega,e⟩⟩
theorem wV{a:RC}{x:Array R4}{i:Int}{t:Tok}{j:Nat}{z:R4}{value slice:SJ}{Q:R4->RA->Prop}(p:Xh s.heap a x)(hz:x.size<=Ri)(h1:-(x.size:Int)<=i)(h2:i<x.size)(h3:0<=i/\i.toNat=j∨i<0/\(i+(x.size:Int)).toNat=j)(e:x[j]?=Zz z)(q:Q z s)(hs:W1 slice false (.ref a) (.int i t)=Xi [.ref a,.int i t] (Vg (.ref a) (.int i t))):RF (Rp prog w) A (W8 value slice (.ref a) (.int i t)) Q E s:=by
 have hl:=line;rcases h3 with⟨h0,hj⟩|⟨h0,hj⟩
 ·exact item_listR p.isList h0 (by omega) (by rw[hj];exact e) q hs
 ·exact subscriptTail_builtinR (x:=z) p.isList.typeIs slot_list_getitem.lookup (wpAny_getItem_list_neg (Q:=λr s'=>r=z/\Q r s') p.isList (by omega) (by omega) (by omega) (by rw[hj];exact e) ⟨rfl,q⟩) hs
theorem Al.take{α β:Type}{R:α->β->Prop}{l:List α}{x:List β}(q:Al R l x)(n:Nat):Al R (l.take n) (x.take n):=⟨by rw[SD,SD,q.1],λi t v a b=>by
 rw[Vr]at a b;split at a
 ·rw[Xy ‹_›]at b;exact q.2 _ t v a b
 ·cases a⟩
theorem Al.drop{α β:Type}{R:α->β->Prop}{l:List α}{x:List β}(q:Al R l x)(n:Nat):Al R (l.drop n) (x.drop n):=⟨by rw[TR,TR,q.1],λi t v a b=>by
 rw[List.getElem?_drop]at a b;exact q.2 _ t v a b⟩
theorem Al.cut{α β:Type}{R:α->β->Prop}{l:List α}{x:List β}(q:Al R l x)(lo hi:Option Int):Al R (Mi.cut l lo hi) (Mi.cut x lo hi):=by
 rw[ja,ja,<-q.1];exact(q.drop _).take _
end
section
variable{X:Cx}{env:Mi.Env}{cm:List RC}{m:Mem}{s:RA}{w u:W}{v z:R4}{J Q:VK}{lo hi:Option Int}{α:Type}{k:α->List RC->Mem->RA->Prop}
variable{call:Nat->List W->Mem->Res W}{gv:List T}{e f:SJ}{E F G:Mi.E}{pos p2:Pos}
def Ia(b:SJ):Prop:=∀o i,W1 b false o i=Xi [o,i] (Vg o i)
theorem K3{value slice:SJ}(I:Fr X env cm m s)(r1:RW X.D cm m s.heap w v)(r2:RW X.D cm m s.heap u z)(h:aI X X.tb cm m s (bX ((view w m).bind λx=>(view u m).bind λy=>rn x y) m) J (WK X Q))(hs:W1 slice false v z=Xi [v,z] (Vg v z)):RF X.M X.A (W8 value slice v z) Q J s:=by
 obtain⟨x,y,t,e1,e2,e,h⟩:=m6 h;have hl:=line;unfold rn at e;split at e
 ·obtain⟨_,rfl⟩:=(aw r2 e2).dO
  obtain⟨a,x,rfl,p,q⟩:=(aw r1 e1).jQ;obtain⟨j,h1,h2,h3,h4,_⟩:=mO e;obtain⟨v,e3,r⟩:=q.get h2;have hz:x.size<=Ri:=by obtain⟨_,_,_,_,_,_,z⟩:=p;exact z
  have hq:=q.1;simp only[RK]at hq;exact subscriptTail_builtinR (x:=v) p.tup.typeIs slot_tuple_getitem.lookup (getItem_tuple (j:=j) (Q:=λr s'=>r=v/\Q r s') p.tup (by omega) (by omega) (by rw[<-hq];exact h1) (by simpa using e3) ⟨rfl,I.val' h r⟩) hs
 ·obtain⟨_,rfl⟩:=(aw r2 e2).dO
  obtain⟨a,x,rfl,p,q⟩:=aY I.mem r1 e1;obtain⟨j,h1,h2,h3,h4,h5⟩:=mO e;obtain⟨v,e3,r⟩:=q.get h2;have hq:=q.1;simp only[RK]at hq;rw[hq]at h3 h4 h5;exact wV p.pl p.2.2 h3 h4 h5 (by simpa using e3) (I.val' h r) hs
 ·obtain⟨_,rfl⟩:=(aw r2 e2).dO
  cases aw r1 e1 with
  |db l p n _ q =>
   obtain⟨c,e',rfl⟩:=RY.mp e;obtain⟨j,h1,h2,h3,h4,h5⟩:=mO e';obtain⟨v,e3,_,rfl⟩:=q.get h2;have hz:=p;obtain⟨_,_,_,_,_,_,hz⟩:=hz;have hq:=q.1;simp only[RK]at hq;rw[hq]at h3 h4 h5;exact wV p.pl hz h3 h4 h5 (by simpa using e3) (I.val' h (.int _ _)) hs
 ·obtain⟨hc,e⟩:=RB.mp e
  obtain⟨c,e',rfl⟩:=RY.mp e;obtain⟨_,rfl⟩:=(aw r1 e1).eX;obtain⟨_,rfl⟩:=(aw r2 e2).dO;obtain⟨j,h1,h2,h3,h4,_⟩:=mO e';exact tail_any (U3 s _ _) slot_str_getitem.lookup (getItem_str (c:=c) (by rw[Y0 (by omega),Y0 (by omega),Bool.or_false]) (by rw[dg,h1];simpa using h2) (I.val h (.str _ _))) hs
 ·cases e
theorem Jd(ha:PE call gv X e E)(hb:PE call gv X f F)(hs:Ia f):PE call gv X (.Subscript e f pos) (.ix E F):=λenv cm m s I Q J h=>by
 rw[ev]at h;exact XQ (ha.two hb I h λw u v z c1 m1 s1 I x r1 r2 h=>K3 I r1 r2 h (hs _ _))
theorem KV{sl:RC}{vl vu:R4}(I:Fr X env cm m s)(r:RW X.D cm m s.heap w v)(h:aI X X.tb cm m s (bX ((view w m).bind λx=>GM x lo hi) m) J (WK X Q))(hs:s.heap.IsSliceOf sl vl vu .none)(pl:W7 vl lo)(pu:W7 vu hi):
  ∃T id,WO (.type T) "__getitem__" = pure (Zz (.builtin id))/\s.TypeIs v T/\RF X.M X.A (Vg v (.ref sl)) Q J s:=by
 obtain⟨t,e,h⟩:=gf h;obtain⟨x,e1,e⟩:=RE.mp e;have hl:=line;have cl:∀{α:Type}(l:List α),(cut l lo hi).length<=l.length:=λl=>by rw[ja,SD,TR];omega
 have lst:∀{l:List T}{a:RC}{x:Array R4},Xh s.heap a x->x.size<=Ri->Al (RT X.D cm m s.heap) (cut l lo hi) (cut x.toList lo hi)->aI X X.tb cm m s (.ok (.t (.lst (cut l lo hi))) m) J (WK X Q)->∃T id,WO (.type T) "__getitem__" = pure (Zz (.builtin id))/\s.TypeIs (.ref a) T/\RF X.M X.A (Vg (.ref a) (.ref sl)) Q J s:=λ{l a x} p hz q h=>by
  obtain⟨x⟩:=x;refine⟨"list",_,slot_list_getitem.lookup,p.isList.typeIs,wpAny_getItem_list_slice p.isList hs pl pu .none (by simp) ?_ (by omega)⟩;rw[tQ,<-ja];exact I.lst (n:=s.toks) (d:=s.drawn) h q push (gj _) (.new I (by have:=cl x;simp at hz ⊢;omega))
 cases x with
 |tup l =>
  cases e;obtain⟨a,x,rfl,p,q⟩:=(aw r e1).jQ;have hz:x.size<=Ri:=by obtain⟨_,_,_,_,_,_,z⟩:=p;exact z
  refine⟨"tuple",_,PyProof.Rows.slot_tuple_getitem.lookup,p.tup.typeIs,CX p.tup hs pl pu hz (λec=>?_) (I.tup (n:=s.toks) (d:=s.drawn) h (q.cut lo hi) push (.new rfl rfl rfl rfl (by have:=cl x.toList;simp at this ⊢;omega)))⟩;have:=(q.cut lo hi)
  rw[ec]at this;exact I.val' h (.tup p (aw r e1).tf this.1 this.2)
 |lst l =>
  cases e;obtain⟨a,x,rfl,p,q⟩:=aY I.mem r e1;exact lst p.pl p.2.2 (q.cut lo hi) h
 |db l =>
  cases e;cases aw r e1 with
  |db l p n _ q =>
   have hz:=p;obtain⟨_,_,_,_,_,_,hz⟩:=hz;have ec:cut (l.map T.int) lo hi=(cut l lo hi).map T.int:=by rw[ja,ja,R2,Wr,Ws]
   rw[<-ec]at h;refine lst p.pl hz (Al.cut ⟨by rw[R2];exact q.1,λi t v a b=>?_⟩ lo hi) h;rw[Rv]at a;obtain⟨c,a',rfl⟩:=RY.mp a;obtain⟨_,rfl⟩:=q.2 i c v a' b;exact .int _ _
 |str cs =>
  obtain⟨hc,e⟩:=RB.mp (show(if cs.length<=lim then Zz (T.str (cut cs lo hi))else Zy)=Zz t from e);cases e;obtain⟨_,rfl⟩:=(aw r e1).eX;exact⟨"str",_,slot_str_getitem.lookup,U3 s _ _,CD hs pl pu hc λt' k=>I.val h (.str _ _)⟩
 |_=>cases e
noncomputable def Ki(call:Nat->List W->Mem->Res W)(gv:List T)(lo:Mi.E)(env:Env)(m:Mem):Res (Option Int):=if aF lo then Res.ok Zy m else(ev call gv lo env m).bind zX
variable(call gv) in
def PO(X:Cx)(e:Option SJ)(E:Mi.E):Prop:=∀env cm m s,Fr X env cm m s->∀Q J:VK,aI X X.tb cm m s (Ki call gv E env m) J (λo _ _ s=>∀u,W7 u o->Q u s)->RF X.M X.A (evalPart e X.env) Q J s
theorem En:PO call gv X Zy .hole:=λenv cm m s I Q J h=>by
 rw[evalPart_none];exact R3 (h.now I.mem _ .none)
theorem DR(h:PE call gv X e E)(hn:Ki call gv E=λenv m=>(ev call gv E env m).bind zX):PO call gv X (Zz e) E:=λenv cm m s I Q J q=>by
 rw[hn]at q;rw[evalPart_some];refine h.one I q λw v c1 m1 s1 I x r q=>?_
 unfold zX at q;split at q
 ·obtain⟨_,rfl⟩:=RT.dO r
  exact q.now I.mem _ (.int _ _)
 ·exact q.elim
theorem Ek{e:Option SJ}{f:Option Int->Mem->Res α}{Q:VK}(h:PO call gv X e E)(I:Fr X env cm m s)(hp:aI X X.tb cm m s ((Ki call gv E env m).bind f) J k)(q:∀o u cm1 m1 s1,Fr X env cm1 m1 s1->bz X.fs X.tb cm m s cm1 m1 s1->W7 u o->aI X X.tb cm1 m1 s1 (f o m1) J k->Q u s1):RF X.M X.A (evalPart e X.env) Q J s:=
 h env cm m s I Q J (hp.bind.mono λo c1 m1 s1 x M h u pu=>q o u c1 m1 s1 (I.go x M I.nc) x pu h)
theorem GL{lo hi:Option SJ}(C:PE call gv X e E)(B:PO call gv X lo F)(A:PO call gv X hi G):PE call gv X (.Subscript e (.Slice lo hi Zy p2) pos) (.qk E F G):=λenv cm m s I Q J h=>by
 rw[show ev call gv (.qk E F G) env m=(ev call gv E env m).bind λx m=>(Ki call gv F env m).bind λl m=>(Ki call gv G env m).bind λh m=>bX ((view x m).bind λx=>GM x l h) m by rw[ev];rfl]at h;refine XQ (C.one I h λw v c1 m1 s1 I1 x1 r1 h=>wpAny_Slice (Ek B I1 h λl vl c2 m2 s2 I2 x2 pl h=>Ek A I2 h λu vu c3 m3 s3 I3 x3 pu h=>?_));rw[evalPart_none];refine R3 ?_;obtain⟨x4,I4⟩:=I3.up (t:=s3.toks) (d:=s3.drawn) (ch:=X.tb) (g:=s3.heap.push { cls:=.type "slice",data:=.fields #[vl,vu,.none] }) push;obtain⟨T,id,hT,ht,hg⟩:=KV I4 (((r1.go x2 I1.mem I1.nc.q).go x3 I2.mem I2.nc.q).go x4 I3.mem I3.nc.q) (h.shift x4) (Heap.IsSliceOf.new ..) pl pu;show RF X.M X.A (W8 e (.Slice lo hi Zy p2) v (.ref s3.heap.objs.size)) Q J { s3 with heap:=s3.heap.push { cls:=.type "slice",data:=.fields #[vl,vu,.none] } };exact tail_any (ops:=[.ref s3.heap.objs.size,v]) ht hT hg (by with_unfolding_all rfl)
end
end Mi
namespace Mi
open PySem PySem.Spec PyProof.Rows PySem.Builtin.Str PySem.StrLaws
section
variable{prog:Sf}{w:TB}{A:Sb}{E:R4->RA->Prop}{s:RA}{ws:List W}{m:Mem}{t:T}{f:List T->Option T}{ts:List T}{x y:Str}{Q:R4->RA->Prop}
theorem qI(sep:List Nat):∀xs:List (List Nat),X7 ⟨sep.toArray⟩ (xs.map λc=>(⟨c.toArray⟩:Str))=⟨(aK sep xs).toArray⟩
 |[]=>rfl
 |[x]=>rfl
 |x::y::r=>by
  show(⟨x.toArray⟩:Str)++⟨sep.toArray⟩++X7 ⟨sep.toArray⟩ ((y::r).map λc=>(⟨c.toArray⟩:Str))=⟨(x++sep++aK sep (y::r)).toArray⟩
  rw[qI sep (y::r),AB,AB]
theorem dZ(h:views ws m=Zz [t]):∃w,ws=[w]/\view w m=Zz t:=by
 cases ws with
 |nil=>cases h
 |cons w ws =>
  unfold views at h;cases q1:view w m with
  |none=>rw[q1]at h;cases h
  |some t1 =>
   rw[q1]at h;have h:=h;cases q2:views ws m with
   |none=>rw[q2]at h;cases h
   |some ts =>
    rw[q2]at h;cases h;cases ws with
    |nil=>exact⟨w,rfl,by rw[q1]⟩
    |cons d ws =>
     unfold views at q2;cases q3:view d m with
     |none=>rw[q3]at q2;cases q2
     |some t3 =>
      rw[q3]at q2;cases q4:views ws m with
      |none=>rw[q4]at q2;cases q2
      |some t4=>rw[q4]at q2;cases q2
theorem wS{sep:List Nat}{a:List (List Nat)}(e:(a.map Rf).sum+a.length*sep.length<=lim):((a.map λc:List Nat=>(⟨c.toArray⟩:Str)).map (·.length)).sum+(a.map λc:List Nat=>(⟨c.toArray⟩:Str)).length*(⟨sep.toArray⟩:Str).length<=16777216:=by
 rw[Sh,dg,R2];have d:((λx:Str=>x.length) ∘ λc:List Nat=>(⟨c.toArray⟩:Str))=Rf:=by funext c;exact dg c
 have f:(lim:Nat)<=16777216:=by decide
 rw[d];omega
theorem Hi(sep:List Nat)(a:List (List Nat))(t:Tok):XU (Xs ⟨sep.toArray⟩ (a.map λc=>⟨c.toArray⟩)) t=.str ⟨(aK sep a).toArray⟩ t:=by
 unfold Xs;rw[StrLaws.glued_eq_join,qI]
theorem J1(h:gq (BG f) ts=Zz t):∃ys,f ys=Zz t/\(ts=[.lst ys]∨ts=[.tup ys]):=by
 rcases ts with _|⟨x,_|⟨y,r⟩⟩
 ·cases h
 ·cases x<;>first|exact⟨_,h,.inl rfl⟩|exact⟨_,h,.inr rfl⟩|cases h
 ·cases h
theorem iI(c:Nat):∀x:List Nat,az c x≠[]
 |[]=>by rw[az];simp
 |a::r=>by
  rw[az];split
  ·simp
  ·split<;>simp
theorem pT{c:Nat}:∀{ws:List (List Nat)},ws≠[]->(∀w∈ws,c∉w)->az c (aK [c] ws)=ws
 |[],h,_=>Y3 rfl h
 |[w],j,b=>by
  show az c w=[w]
  have d:=b w (RN.mpr rfl);clear b j
  induction w with
  |nil=>rfl
  |cons a r i =>
   rw[az,Xz (λz=>d (by rw[z];exact RD)),i λz=>d (R5 _ z)]
 |w::v::r,j,b=>by
  have i:=pT (by simp) λu k=>b u (R5 _ k)
  show az c (w++[c]++aK [c] (v::r))=_;have d:=b w RD;clear b j
  induction w with
  |nil =>
   show az c (c::aK [c] (v::r))=_;rw[az,Xy rfl,i]
  |cons a w g =>
   show az c (a::(w++[c]++aK [c] (v::r)))=_;rw[az,Xz (λz=>d (by rw[z];exact RD)),g λz=>d (R5 _ z)]
theorem xJ(c:Nat)(cs:List Nat):VG ⟨cs.toArray⟩ ⟨#[c]⟩=(az c cs).map λw=>(⟨w.toArray⟩:Str):=by
 have g:=StrLaws.join_split ⟨cs.toArray⟩ ⟨#[c]⟩;have f:=StrLaws.split_free ⟨cs.toArray⟩ c;have a:=split_pos (⟨cs.toArray⟩:Str) ⟨#[c]⟩;generalize d:VG ⟨cs.toArray⟩ ⟨#[c]⟩=ps at g f a;have e:ps=(ps.map λp=>p.cps.toList).map λw=>(⟨w.toArray⟩:Str):=by
  rw[Sh];exact(WU (l:=ps)).symm.trans (List.map_congr_left λx _=>by cases x;simp)
 have i:aK [c] (ps.map λp=>p.cps.toList)=cs:=by
  have:=qI [c] (ps.map λp=>p.cps.toList);rw[<-e]at this;have k:=g.symm.trans this;have j:=congrArg (λz:Str=>z.cps.toList) k;simpa using j.symm
 have b:=pT (ws:=ps.map λp=>p.cps.toList) (by
  intro z;have:ps=[]:=List.map_eq_nil_iff.mp z;rw[this]at a;simp at a) (λw h=>by
  obtain⟨q,d,rfl⟩:=Rg.mp h;exact f q d)
 rw[i]at b;rw[b];exact e
end
section
variable{prog:Sf}{w:TB}{A:Sb}{s:RA}{x y:Str}{t u:Tok}{Q:R4->RA->Prop}
theorem Dp{E:R4->RA->Prop}(b:(y.length==0)=false)(f:x.length+2<=Ri)(h:∀(l:List (Str×Tok)) (k:Nat),l.map (·.1)=VG x y->Q (.ref s.heap.objs.size) { s with heap:=s.heap.push { cls:=.type "list",data:=.seq (Wl l).toArray },toks:=k }):
  RF (Rp prog w) A (T7 (.builtin "str.split") [.str x t,.str y u]) Q E s:=by
 have a:(Uf x (Sj x y 0 x.length (x.length+1)) y.length).length<=Ri:=by
  have:=StrLaws.occ_length_le x y 0 x.length (x.length+1);rw[length_partsBetween];omega
 by_cases h1:(decide (x.length<y.length) || decide (Builtin.Str.strKind x<Builtin.Str.strKind y))=true
 ·refine Sk Tu (U3 _ _ _) Tn (Vs _ _) (meets_str_split_cannot_occur x y t u h1) ?_
  exact h [(x,t)] s.toks (Xy h1).symm
 ·have d:=SU.mpr h1
  by_cases h2:(Sj x y 0 x.length (x.length+1)).isEmpty=true
  ·refine Sk Tu (U3 _ _ _) Tn (Vs _ _) (meets_str_split_not_found x y t u d b h2) ?_
   exact h [(x,t)] s.toks ((Xz h1).trans (Xy h2)).symm
  ·have e:=SU.mpr h2
   refine Sk Tu (U3 _ _ _) Tn (Vs _ _) (meets_str_split_sep x y t u d b e (by omega) a) ?_;have q:=h (numbered s.toks (Uf x (Sj x y 0 x.length (x.length+1)) y.length)) (s.toks+(Uf x (Sj x y 0 x.length (x.length+1)) y.length).length) ((numbered_texts _ _).trans ((Xz h1).trans (Xz h2)).symm);rw[<-strsFrom_eq]at q;exact q
theorem lI(c:Nat):∀x:List Nat,(az c x).length<=x.length+1
 |[]=>by rw[az];simp
 |a::r=>by
  have b:=lI c r;rw[az];split
  ·simp only[RI];omega
  ·split
   ·rename_i e;rw[e]at b;simp only[RI]at b ⊢;omega
   ·simp only[RI,Rz];omega
theorem Di(cs p:List Nat):Txt.startswith ⟨cs.toArray⟩ ⟨p.toArray⟩=p.isPrefixOf cs:=by
 have e:subAt ⟨cs.toArray⟩ ⟨p.toArray⟩ 0=(cs.take p.length==p):=by
  rw[subAt_eq];simp[Se]
 unfold Txt.startswith
 rw[e,show(⟨cs.toArray⟩:Str).length=cs.length by show cs.toArray.size=_;simp,show(⟨p.toArray⟩:Str).length=p.length by show p.toArray.size=_;simp];rw[Uk];simp only[R6,decide_eq_true_eq,beq_iff_eq,UM];rw[List.prefix_iff_eq_take];constructor
 ·exact λz=>z.2.symm
 ·intro z
  refine⟨?_,z.symm⟩;have:=congrArg Rf z;rw[SD]at this;omega
end
section
variable{xs l h ts ys:List T}{r:T×List T}
theorem GU{t:T}(h:rO .insert xs ts=Zz (t,ys)):∃(i:Int) (u:T),ts=[.int i,u]/\(0<=i/\i<=xs.length/\xs.length<lim)/\t=.non/\ys=xs.take i.toNat++u::xs.drop i.toNat:=by
 cases ts with
 |nil=>cases h
 |cons a r =>
  cases r with
  |nil=>cases a<;>cases h
  |cons b r =>
   cases r with
   |nil =>
    cases a with
    |int i =>
     have h:(if 0<=i/\i<=xs.length/\xs.length<lim then Zz (T.non,xs.take i.toNat++b::xs.drop i.toNat)else Zy)=Zz (t,ys):=h;split at h<;>cases h;exact⟨i,b,rfl,‹_›,rfl,rfl⟩
    |_=>cases h
   |cons c r=>cases a<;>cases h
theorem G3{l h:List T}{r:T×List T}(d:rO .append l h=Zz r):∃P,h=[P]:=by
 cases h with
 |nil=>cases d
 |cons P h =>
  cases h with
  |nil=>exact⟨P,rfl⟩
  |cons _ _=>cases d
end
section
variable{X:Cx}{D:Dm}{env:Mi.Env}{cm cm':List RC}{m m':Mem}{s s':RA}{w u:W}{v z:R4}{ch:List RC}{J Q:VK}{h g:Rq}{t x:T}{l l':List T}{ws:List W}{us y:List R4}{a:RC}{n:Nat}{i:Nat}{α:Type}{b:Mi.Mt}{k:α->List RC->Mem->RA->Prop}
variable{call:Nat->List W->Mem->Res W}{gv:List T}{e e2 o:SJ}{es:List SJ}{E:Mi.E}{L:Es}{cpos apos:Pos}
theorem uS(a:notStar e=true):((backTo cpos (Tk [e] X.env)).all (λx=>!x.1)&&(Xt cpos (XE [] X.env)).all (λx=>x.1.isSome)
  && decide ([e].length+([]:List X8).length+(if([]:List X8).isEmpty then 0 else 1)<30))=true:=by
 rw[vA (by rw[TD,a];rfl)];rfl
theorem Lc(a:[e,e2].all notStar=true):((backTo cpos (Tk [e,e2] X.env)).all (λx=>!x.1)&&(Xt cpos (XE [] X.env)).all (λx=>x.1.isSome)
  && decide ([e,e2].length+([]:List X8).length+(if([]:List X8).isEmpty then 0 else 1)<30))=true:=by
 rw[vA a];rfl
def CM(X:Cx)(id:String)(G:W->List W->Mem->Res W):Prop:=∀env cm m s,Fr X env cm m s->∀w ws v us,RW X.D cm m s.heap w v->wz X.D cm m s.heap ws us->∀Q J:VK,aI X X.tb cm m s (G w ws m) J (WK X Q)->RF X.M X.A (T7 (.builtin id) (v::us)) Q J s
def GW(X:Cx)(b:Mt)(T:String):Prop:=∀env cm m s,Fr X env cm m s->∀w v,RW X.D cm m s.heap w v->oY b w m=true->s.TypeIs v T/\∀a,v=.ref a->∃o,s.heap.get? a=Zz o/\o.dict=Zy
theorem ty_str(hb:∀w m,oY b w m=oY .join w m):GW X b "str":=λenv cm m s I w v r h=>by
 rw[hb]at h;have h:(match view w m with|some (.str _)=>true|_=>false)=true:=h;split at h
 ·obtain⟨_,rfl⟩:=(aw r ‹_›).eX
  exact⟨U3 s _ _,λa z=>nomatch z⟩
 ·cases h
theorem zr(hb:∀w m,oY b w m=oY .append w m):GW X b "list":=λenv cm m s I w v r h=>by
 rw[hb]at h;cases w with
 |c i =>
  obtain⟨a,h1,rfl⟩:=r;have h:(match m[i]? with|some (Zz _)=>true|_=>false)=true:=h;split at h
  ·obtain⟨b,x,h2,⟨⟨n,e⟩,_⟩,_⟩:=I.mem.at' i _ ‹_›
   rw[h1]at h2;cases h2;exact⟨⟨_,e,rfl⟩,λb z=>by cases z;exact⟨_,e,rfl⟩⟩
  ·cases h
 |_=>cases h
theorem il{T id:String}{name:Str}{G:W->List W->Mem->Res W}{E':Mi.E}(pa:PlainAttrs T)(slot:Slot T name id)(hty:typeOf (.builtin id)=pure (.type "method_descriptor"))(hm:CM X id G)(he:∀env m,ev call gv E' env m=(ev call gv E env m).bind λw m=>if oY b w m then(evs call gv L env m).bind λws m=>G w ws m else .stuck)(ty:GW X b T)(ho:PE call gv X o E)(ha:PA call gv X (e::es) L)(hbase:Sa o name X.env (eval o X.env)=eval o X.env)(hfew:((backTo cpos (Tk (e::es) X.env)).all (λx=>!x.1)&&(Xt cpos (XE [] X.env)).all (λx=>x.1.isSome)
  && decide ((e::es).length+([]:List X8).length+(if([]:List X8).isEmpty then 0 else 1)<30))=true)(hline:(apos.endLine==cpos.line)=true)(hs:notStar e=true)(hp:es.all notStar=true):PE call gv X (.Call (.Attribute o name apos) (e::es) [] cpos) E':=λenv cm m s I Q J h=>by
 rw[he]at h;refine wpAny_Call_method_late hbase hfew hline rfl (ho.one I h λw v c1 m1 s1 I1 x1 r1 h=>?_);obtain⟨ht,h⟩:=lW h;obtain⟨h1,h2⟩:=ty _ _ _ _ I1 w v r1 ht;refine⟨T,id,pa,slot,hty,h1,h2,?_⟩;have hA:=ha.one (p:=cpos) I1 h λws us c2 m2 s2 I2 x2 r2 h=>hm _ _ _ _ I2 w ws v us (r1.go x2 I1.mem I1.nc.q) r2 Q J h
 rw[bZ hs]at hA ⊢;exact Calls.callWith_builtin (by show(false || (backTo cpos (Tk es X.env)).any (·.1))=false;rw[ik hp];rfl) (Calls.evalArgs_plain hA)
theorem oJ(h:aI X ch cm m s (bX ((view w m).bind λx=>(views ws m).bind λts=>dR b x ts) m) J k'):∃x ts t,view w m=Zz x/\views ws m=Zz ts/\dR b x ts=Zz t/\aI X ch cm m s (.ok (.t t) m) J k':=by
 obtain⟨t,e0,ho⟩:=gf h;obtain⟨x,e1,e⟩:=RE.mp e0;obtain⟨ts,e2,e⟩:=RE.mp e;exact⟨x,ts,t,e1,e2,e,ho⟩
theorem nv:∀{l:List T}{y:List R4}{a:List (List Nat)},jx D cm m h l y->strs? l=Zz a->Xf y (a.map λc=>(⟨c.toArray⟩:Str))
 |[],y,_,r,e=>by cases e;obtain rfl:=RP.mp r.1.symm;exact .nil
 |t::l,_,a,r,e=>by
  obtain⟨v,y,rfl,r1,r2⟩:=r.inv;cases t with
  |str c =>
   obtain⟨f,q,rfl⟩:=RY.mp (show(strs? l).map (c::·)=Zz a from e);obtain⟨t,rfl⟩:=r1.eX;exact .cons _ t (nv r2 q)
  |_=>cases e
theorem g9(r:wz D cm m h [w] us):∃v,us=[v]/\RW D cm m h w v:=by
 obtain⟨v,y,rfl,r1,r2⟩:=r.inv;obtain rfl:=RP.mp r2.1.symm;exact⟨v,rfl,r1⟩
theorem EG:CM X "str.join" (ri .join):=λenv cm m s I w ws v us r rs Q J h=>by
 obtain⟨x,ts,t,q1,q2,e,g⟩:=oJ h;clear h;have h:=g;clear g;cases x with
 |str b =>
  obtain⟨f,e,hs⟩:=J1 (show gq (BG λxs=>(strs? xs).bind λf=>if(f.map Rf).sum+f.length*b.length<=lim then Zz (T.str (aK b f))else Zy) ts=Zz t from e);obtain⟨c,q3,e⟩:=RE.mp e;obtain⟨hc,e⟩:=RB.mp e;cases e;obtain⟨_,rfl⟩:=(aw r q1).eX;have fin:∀g k,Q (.str (Xs ⟨b.toArray⟩ (c.map λc=>⟨c.toArray⟩)) g) { s with toks:=k }:=λg k=>by rw[Hi];exact I.val h (.str _ _)
  rcases hs with rfl|rfl<;>obtain⟨w1,rfl,q4⟩:=dZ q2<;>obtain⟨v,rfl,r1⟩:=g9 rs
  ·obtain⟨a,x,rfl,p,q⟩:=aY I.mem r1 q4
   exact join_list p.pl.isList (nv q q3) (wS hc) fin
  ·obtain⟨a,x,rfl,p,q⟩:=(aw r1 q4).jQ
   exact join_tuple p.tup (nv q q3) (wS hc) fin
 |_=>cases e
theorem v8:∀{l:List (Str×Tok)}{ws:List (List Nat)},l.map (·.1)=ws.map (λc=>(⟨c.toArray⟩:Str))->jx D cm m h (ws.map T.str) (Wl l)
 |[],[],_=>.nil
 |q::l,w::ws,e=>by
  obtain⟨e1,e2⟩:=List.cons.inj e;refine .cons ?_ (v8 e2);obtain⟨c,t⟩:=q;cases e1;exact .str _ _
 |[],_::_,e=>by cases e
 |_::_,[],e=>by cases e
theorem xP{r2:List T}(I:Fr X env cm m s)(r:RW X.D cm m s.heap w v)(rs:wz X.D cm m s.heap ws us)(q1:view w m=Zz x)(q2:views ws m=Zz r2)(e:dR .split x r2=Zz t)(k:∀l y n,t=.lst l->jx X.D cm m s.heap l y->y.length<=Ri->Q (.ref s.heap.objs.size) { s with heap:=s.heap.push { cls:=.type "list",data:=.seq y.toArray },toks:=n }):RF X.M X.A (T7 (.builtin "str.split") (v::us)) Q J s:=by
 unfold dR at e;dsimp only at e;split at e
 ·rename_i cs
  split at e
  ·rename_i c
   obtain⟨hl,e⟩:=RB.mp e;cases e;obtain⟨w1,rfl,e1⟩:=dZ q2;obtain⟨v1,rfl,r1⟩:=g9 rs;obtain⟨_,rfl⟩:=(aw r q1).eX;obtain⟨_,rfl⟩:=(aw r1 e1).eX;have hz:=line.1;unfold lim at hz;have hc:=lI c cs;refine Dp rfl (by rw[dg];omega) λl k' j=>?_
   rw[xJ c cs]at j;have hj:=congrArg Rf j;rw[R2,R2]at hj;exact k _ _ k' rfl (v8 j) (by have:(Wl l).length=l.length:=R2 _;omega)
  ·cases e
 ·cases e
theorem Ce:CM X "str.split" (ri .split):=λenv cm m s I w ws v us r rs Q J h=>by
 obtain⟨x,ts,t,q1,q2,e,h⟩:=oJ h;exact xP I r rs q1 q2 e λl y n e r z=>by subst e;exact I.lst h r push (gj _) (.new I (by simpa using z))
noncomputable def EU(x:W)(m:Mem):Res W:=match view x m with
 |some (.lst ts)=>.ok (.c m.length) (m++[Zz (false,ts)])
 |some (.tup ts)=>.ok (.c m.length) (m++[Zz (false,ts)])
 |_=>.stuck
theorem Cn:CM X "str.split" (λw ws m=>(ri .split w ws m).bind EU):=λenv cm m s I w ws v us r rs Q J h=>by
 have h:aI X X.tb cm m s ((bX ((view w m).bind λx=>(views ws m).bind λts=>dR .split x ts) m).bind EU) J (WK X Q):=h;cases q:(view w m).bind λx=>(views ws m).bind λts=>dR .split x ts with
 |none=>rw[q]at h;exact h.elim
 |some t =>
  rw[q]at h;obtain⟨x,q1,q3⟩:=RE.mp q;obtain⟨ts,q2,e⟩:=RE.mp q3;exact xP I r rs q1 q2 e λl y n e r z=>by subst e;exact I.sZ h r push (gj _) (.new I (by simpa using z))
theorem Aq:CM X "str.startswith" (ri .starts):=λenv cm m s I w ws v us r rs Q J h=>by
 obtain⟨x,ts,t,q1,q2,e,g⟩:=oJ h;clear h;have h:=g;clear g;unfold dR at e;dsimp only at e;split at e
 ·split at e
  ·cases e
   obtain⟨w1,rfl,e1⟩:=dZ q2;obtain⟨v1,rfl,r1⟩:=g9 rs;obtain⟨_,rfl⟩:=(aw r q1).eX;obtain⟨_,rfl⟩:=(aw r1 e1).eX;exact SC.startswith (by rw[Di];exact I.val' h (.bl _))
  ·cases e
 ·cases e
theorem Fz:CM X "str.partition" (ri .partition):=λenv cm m s I w ws v us r rs Q J h=>by
 obtain⟨x,ts,t,q1,q2,e,g⟩:=oJ h;clear h;have h:=g;clear g;unfold dR at e;dsimp only at e;split at e
 ·rename_i cs
  split at e
  ·rename_i c sep
   obtain⟨hl,e⟩:=RB.mp e;cases e;obtain⟨w1,rfl,e1⟩:=dZ q2;obtain⟨v1,rfl,r1⟩:=g9 rs;obtain⟨_,rfl⟩:=(aw r q1).eX;obtain⟨_,rfl⟩:=(aw r1 e1).eX;have A:=line.1;unfold lim at A;refine Sk F.slot_str_partition (U3 _ _ _) F.entry_str_partition (F.args_str_partition_2 _ _) (meets_str_partition _ _ _ _ rfl (by rw[dg];omega)) ?_;have d:∀(a b g:Str) (n l j:Tok) (k:Nat),(a,b,g)=Wo ⟨cs.toArray⟩ ⟨(c::sep).toArray⟩->Q (.ref s.heap.objs.size) { s with toks:=k,heap:=s.heap.push { cls:=.type "tuple",data:=.seq [.str a n,.str b l,.str g j].toArray } }:=λa b g n l j k e=>by
    unfold Iz at h;rw[<-e]at h;obtain⟨⟨a⟩⟩:=a;obtain⟨⟨b⟩⟩:=b;obtain⟨⟨g⟩⟩:=g;exact I.tup (d:=s.drawn) h (.cons (.str _ _) (.cons (.str _ _) (.cons (.str _ _) .nil))) push (.new rfl rfl rfl rfl (by simp;omega))
   unfold Wo at d;revert d;cases occurrences ⟨cs.toArray⟩ ⟨(c::sep).toArray⟩ 0 (Se ⟨cs.toArray⟩) 1 with
   |nil=>exact λd=>d _ _ _ _ _ _ _ rfl
   |cons i r=>exact λd=>d _ _ _ _ _ _ _ rfl
  ·cases e
 ·cases e
theorem mP{y y':Array R4}{f:Array R4->Array R4}(I:Fr X env cm m s)(e1:m[i]?=Zz (Zz (false,l)))(e2:cm[i]?=Zz a)(p:fN X.fs s.heap a y)(hf:f y=y')(hz:y'.size<=Ri)(r:jx X.D cm m s.heap l' y'.toList):
  bz X.fs X.tb cm m s cm (m.set i (Zz (false,l'))) { s with heap:=s.heap.update a (U0 f),toks:=n }/\Fr X env cm (m.set i (Zz (false,l'))) { s with heap:=s.heap.update a (U0 f),toks:=n }:=by
 obtain⟨⟨c,e⟩,nf,_⟩:=p;have q:=PySem.IsL.update e f;rw[hf]at q;have ho:∀b o,b≠a->s.heap.get? b=Zz o->(s.heap.update a (U0 f)).get? b=Zz o:=λb o hb hu=>(SH s.heap (U0 f) (Tj hb)).trans hu
 obtain⟨x,M⟩:=I.mem.upd (s':={ s with heap:=s.heap.update a (U0 f),toks:=n }) (ch:=X.tb) (q:=Zz (false,l')) e1 e2 ho rfl rfl (λb l z=>by cases z;exact⟨y',⟨⟨_,q⟩,nf,hz⟩,r⟩) (λz=>nomatch z) (I.ok.n9 _ _ I.mem.tab λb o hb hu=>ho b o (λz=>by
  obtain⟨v,d⟩:=((I.nc b hb).2 o hu).1;rw[z,e]at hu;cases hu;cases d) hu) λz=>by cases z
 exact⟨x,I.go x M I.nc⟩
theorem vC(hb:∀i ws m,ri b (.c i) ws m=(ii ws m).bind λts m=>match m[i]? with
   |some (Zz (false,xs))=>match rO b xs ts with
    |some (t,ys)=>.ok (.t t) (m.set i (Zz (false,ys)))
    |none=>.stuck
   |_=>.stuck)(h2:∀t ws m,ri b (.t t) ws m=.stuck)(h3:∀c k l ws m,ri b (.x c k l) ws m=.stuck)(I:Fr X env cm m s)(r:RW X.D cm m s.heap w v)(rs:wz X.D cm m s.heap ws us)(h:aI X X.tb cm m s (ri b w ws m) J (WK X Q)):
  ∃i a m1 xs ts t ys y,v=.ref a/\Fr X env cm m1 s/\m1[i]?=Zz (Zz (false,xs))/\cm[i]?=Zz a/\fN X.fs s.heap a y/\jx X.D cm m1 s.heap xs y.toList/\jx X.D cm m1 s.heap ts us/\rO b xs ts=Zz (t,ys)/\aI X X.tb cm m1 s (.ok (.t t) (m1.set i (Zz (false,ys)))) J (WK X Q):=by
 cases w with
 |t t=>rw[h2]at h;exact h.elim
 |x _ _ _=>rw[h3]at h;exact h.elim
 |c i =>
  rw[hb]at h;obtain⟨a,e2,rfl⟩:=r;obtain⟨ts,m1,I1,rs,h⟩:=nA I rs h;split at h
  ·rename_i xs e1
   split at h
   ·obtain⟨b,y,q1,p,_,q⟩:=I1.mem.at' i _ e1
    rw[e2]at q1;cases q1;exact⟨i,a,m1,xs,ts,_,_,y,rfl,I1,e1,e2,p,q,rs,‹_›,h⟩
   ·exact h.elim
  ·exact h.elim
theorem zl:CM X "list.append" (ri .append):=λenv cm m s I w ws v us r rs Q J h=>by
 obtain⟨i,a,m1,xs,ts,t,ys,y,rfl,I,e1,e2,p,q,rs,e,h⟩:=vC (λ_ _ _=>rfl) (λ_ _ _=>rfl) (λ_ _ _ _ _=>rfl) I r rs h;obtain⟨P,rfl⟩:=G3 e;obtain⟨hl,e⟩:=RB.mp (show(if xs.length<lim then Zz (T.non,xs++[P])else Zy)=Zz (t,ys)from e);cases e;obtain⟨u,us,rfl,r1,r0⟩:=rs.inv;obtain rfl:=RP.mp r0.1.symm;obtain⟨⟨n,e3⟩,_,hz⟩:=id p;have hq:=q.1;simp only[RK]at hq;have hn:=line.1;obtain⟨x,I2⟩:=mP (f:=λx=>x.push u) (y':=y.push u) (n:=s.toks) I e1 e2 p rfl (by rw[Array.size_push];omega) (by rw[V0];exact q.app (.cons r1 .nil));exact Sk F.slot_list_append ⟨_,e3,rfl⟩ F.entry_list_append (F.args_list_append_2 _ _) (PySem.list_append a y n u hz) ⟨e3,h.to x I2.mem _ .non⟩
theorem Al.erase{α β:Type}{R:α->β->Prop}:∀{l:List α}{x:List β}(k:Nat),Al R l x->Al R (l.eraseIdx k) (x.eraseIdx k)
 |[],x,k,q=>by obtain rfl:=RP.mp q.1.symm;exact q
 |t::l,_,k,q=>by
  obtain⟨v,y,rfl,r,q⟩:=q.inv;cases k with
  |zero=>exact q
  |succ k=>exact .cons r (q.erase k)
theorem Dv:CM X "list.pop" (ri .fZ):=λenv cm m s I w ws v us r rs Q J h=>by
 obtain⟨i,a,m1,xs,ts,t,ys,y,rfl,I,e1,e2,p,q,rs,e,h⟩:=vC (λ_ _ _=>rfl) (λ_ _ _=>rfl) (λ_ _ _ _ _=>rfl) I r rs h;have one:∃j,ts=[.int j]:=by
  rcases ts with _|⟨t,_|⟨t',ts⟩⟩
  ·cases e
  ·cases t<;>first|exact⟨_,rfl⟩|cases e
  ·cases t<;>cases e
 obtain⟨j,rfl⟩:=one;have e:(match ie xs.length j with|some k=>(xs[k]?).map λt=>(t,xs.eraseIdx k)|none=>Zy)=Zz (t,ys):=e;split at e
 rotate_left
 ·cases e
 rename_i k hk;obtain⟨t',e4,e⟩:=RY.mp e;cases e;obtain⟨u,us,rfl,r1,r0⟩:=rs.inv;obtain rfl:=RP.mp r0.1.symm;obtain⟨_,rfl⟩:=r1.dO;obtain⟨⟨n,e3⟩,_,hz⟩:=id p;have hq:=q.1;simp only[RK]at hq;have hn:=line;obtain⟨k',h1,_,h3,h4,h5⟩:=mO (show atT xs j=Zz t by unfold atT;rw[hk];exact e4);obtain rfl:k'=k:=by
  unfold ie at hk;by_cases h0:0<=j
  ·rw[Xy h0,Xy h4]at hk;have:=T6 hk;omega
  ·rw[Xz h0,Xy h3]at hk;have:=T6 hk;omega
 obtain⟨z,e5,rz⟩:=q.get e4;have hk':k'<y.size:=by have:=(RG.mp e4).1;omega
 have he:(y.eraseIdxIfInBounds k').toList=y.toList.eraseIdx k':=by obtain⟨y⟩:=y;simp
 obtain⟨x,I2⟩:=mP (f:=λx=>x.eraseIdxIfInBounds k') (y':=y.eraseIdxIfInBounds k') (n:=s.toks) I e1 e2 p rfl (by rw[<-RK,he];exact Rn (List.length_eraseIdx_le _ _) hz) (by rw[he];exact q.erase k');exact Sk F.slot_list_pop ⟨_,e3,rfl⟩ F.entry_list_pop (F.args_list_pop_2 _ _)
  (MeetsSeq.list_pop_at a y n j _ k' z (Wb (by omega) (by omega)) (by rw[<-hq];exact h1) (by rw[<-SN];exact e5) hz) ⟨e3,h.to x I2.mem _ (rz.go x I.mem I.nc.q)⟩
theorem zL:CM X "list.insert" (ri .insert):=λenv cm m s I w ws v us r rs Q J h=>by
 obtain⟨i,a,m1,xs,ts,t,ys,y,rfl,I,e1,e2,p,q,rs,e,h⟩:=vC (λ_ _ _=>rfl) (λ_ _ _=>rfl) (λ_ _ _ _ _=>rfl) I r rs h;obtain⟨j,P,rfl,⟨h0,h1,hl⟩,rfl,rfl⟩:=GU e;obtain⟨u,us,rfl,r1,rs⟩:=rs.inv;obtain⟨u2,us,rfl,r2,r0⟩:=rs.inv;obtain rfl:=RP.mp r0.1.symm;obtain⟨_,rfl⟩:=r1.dO;obtain⟨⟨n,e3⟩,_,hz⟩:=id p;have hq:=q.1;simp only[RK]at hq;have hn:=line;have hs:=Sv;have f:Builtin.List.listFitsIndex j=true:=Wb (by omega) (by omega);have hj:(j.toNat:Int)=j:=by omega
 have ex:∀x:Array R4,x=y->((x.extract 0 (if j<0 then(j+(x.size:Int)).toNat else min j.toNat x.size)).push u2++x.extract (if j<0 then(j+(x.size:Int)).toNat else min j.toNat x.size)).toList=y.toList.take j.toNat++u2::y.toList.drop j.toNat:=λx hx=>by
  subst hx;rw[Xz (by omega),Ul (by omega)];obtain⟨x⟩:=x;simp;exact Sy (by rw[TR];exact RU _)
 obtain⟨x,I2⟩:=mP (n:=s.toks) (f:=λx=>(x.extract 0 (if j<0 then(j+(x.size:Int)).toNat else min j.toNat x.size)).push u2++x.extract (if j<0 then(j+(x.size:Int)).toNat else min j.toNat x.size)) I e1 e2 p rfl (by rw[<-RK,ex y rfl,RV,SD,RI,TR,RK];omega) (by rw[ex y rfl];exact(q.take _).app (.cons r2 (q.drop _)));exact Sk F.slot_list_insert ⟨_,e3,rfl⟩ F.entry_list_insert (F.args_list_insert_3 _ _ _) (AutoListH.list_insert_list_int_val_1 a y n j _ u2 (by rw[f];decide) hz) ⟨e3,h.to x I2.mem _ .non⟩
theorem Fy(z:PE call gv X o E)(A:PA call gv X [e] L)(b:Sa o "join" X.env (eval o X.env)=eval o X.env:=by rfl)(a:(apos.endLine==cpos.line)=true:=by rfl)(k:notStar e=true:=by rfl):PE call gv X (.Call (.Attribute o "join" apos) [e] [] cpos) (.cS .join E L):=il (b:=.join) Sz PySem.F.slot_str_join PySem.F.type_str_join EG (λ_ _=>by rw[ev]) (ty_str λ_ _=>rfl) z A b (uS k) a k rfl
theorem CY(z:PE call gv X o E)(A:PA call gv X [e] L)(b:Sa o "split" X.env (eval o X.env)=eval o X.env:=by rfl)(a:(apos.endLine==cpos.line)=true:=by rfl)(k:notStar e=true:=by rfl):PE call gv X (.Call (.Attribute o "split" apos) [e] [] cpos) (.cS .split E L):=il (b:=.split) Sz V5 V6 Ce (λ_ _=>by rw[ev]) (ty_str λ_ _=>rfl) z A b (uS k) a k rfl
theorem zi(z:PE call gv X o E)(A:PA call gv X [e] L)(b:Sa o "split" X.env (eval o X.env)=eval o X.env:=by rfl)(a:(apos.endLine==cpos.line)=true:=by rfl)(k:notStar e=true:=by rfl):PE call gv X (.Call (.Attribute o "split" apos) [e] [] cpos) (.zk (.cS .split E L)):=il Sz V5 V6 Cn (b:=.split) (λenv m=>by
 rw[ev,ev];cases ev call gv E env m with
 |ok w m1 =>
  show(if oY .split w m1 then _ else _:Res W).bind EU=if oY .split w m1 then _ else _
  split
  ·exact bL
  ·rfl
 |_=>rfl) (ty_str λ_ _=>rfl) z A b (uS k) a k rfl
theorem zO(z:PE call gv X o E)(A:PA call gv X [e] L)(b:Sa o "startswith" X.env (eval o X.env)=eval o X.env:=by rfl)(a:(apos.endLine==cpos.line)=true:=by rfl)(k:notStar e=true:=by rfl):PE call gv X (.Call (.Attribute o "startswith" apos) [e] [] cpos) (.cS .starts E L):=il (b:=.starts) Sz PySem.F.slot_str_startswith PySem.F.type_str_startswith Aq (λ_ _=>by rw[ev]) (ty_str λ_ _=>rfl) z A b (uS k) a k rfl
theorem yd(z:PE call gv X o E)(A:PA call gv X [e] L)(b:Sa o "partition" X.env (eval o X.env)=eval o X.env:=by rfl)(a:(apos.endLine==cpos.line)=true:=by rfl)(k:notStar e=true:=by rfl):PE call gv X (.Call (.Attribute o "partition" apos) [e] [] cpos) (.cS .partition E L):=il (b:=.partition) Sz PySem.F.slot_str_partition PySem.F.type_str_partition Fz (λ_ _=>by rw[ev]) (ty_str λ_ _=>rfl) z A b (uS k) a k rfl
theorem zm(z:PE call gv X o E)(A:PA call gv X [e] L)(b:Sa o "append" X.env (eval o X.env)=eval o X.env:=by rfl)(a:(apos.endLine==cpos.line)=true:=by rfl)(k:notStar e=true:=by rfl):PE call gv X (.Call (.Attribute o "append" apos) [e] [] cpos) (.cS .append E L):=il (b:=.append) Tv PySem.F.slot_list_append PySem.F.type_list_append zl (λ_ _=>by rw[ev]) (zr λ_ _=>rfl) z A b (uS k) a k rfl
theorem BU(z:PE call gv X o E)(A:PA call gv X [e] L)(b:Sa o "pop" X.env (eval o X.env)=eval o X.env:=by rfl)(a:(apos.endLine==cpos.line)=true:=by rfl)(k:notStar e=true:=by rfl):PE call gv X (.Call (.Attribute o "pop" apos) [e] [] cpos) (.cS .fZ E L):=il (b:=.fZ) Tv PySem.F.slot_list_pop PySem.F.type_list_pop Dv (λ_ _=>by rw[ev]) (zr λ_ _=>rfl) z A b (uS k) a k rfl
theorem zJ(z:PE call gv X o E)(A:PA call gv X [e,e2] L)(b:Sa o "insert" X.env (eval o X.env)=eval o X.env:=by rfl)(a:(apos.endLine==cpos.line)=true:=by rfl)(y:[e,e2].all notStar=true:=by rfl)(C:notStar e=true:=by rfl)(B:[e2].all notStar=true:=by rfl):PE call gv X (.Call (.Attribute o "insert" apos) [e,e2] [] cpos) (.cS .insert E L):=il (b:=.insert) Tv PySem.F.slot_list_insert PySem.F.type_list_insert zL (λ_ _=>by rw[ev]) (zr λ_ _=>rfl) z A b (Lc y) a C B
end
end Mi
namespace Mi
open PySem PySem.Spec PyProof.Rows
section
variable{X:Cx}{D:Dm}{env env':Mi.Env}{cm cm':List RC}{m m':Mem}{s s':RA}{w u:W}{v z:R4}{ch ch':List RC}{J Q:VK}{h g:Rq}{t x:T}{l l':List T}{ws:List W}{us y:List R4}{a:RC}{n:Nat}{i:Nat}{α:Type}{k:α->List RC->Mem->RA->Prop}
variable{call:Nat->List W->Mem->Res W}{gv:List T}{e e2 c tg o ix:SJ}{es:List SJ}{E F G C:Mi.E}{L:Es}{pos p:Pos}{N:Str}{rest A B body:List S6}{K S S2:Mi.S}{is:List Nat}{R:X0->RA->Prop}{U:Unit->RA->Prop}
theorem bz.sub(x:bz X.fs ch' cm m s cm' m' s')(w:∀b∈ch',b∈ch):bz X.fs ch cm m s cm' m' s':=x.weak λb h n=>Y3 (w b h) n
theorem aI.sub{r:Res α}(h:aI X ch cm m s r J k)(w:∀b∈ch',b∈ch):aI X ch' cm m s r J k:=by
 cases r with
 |ok a m2=>exact λc t x M=>h c t (x.sub w) M
 |exc a m2=>exact λv c t x M=>h v c t (x.sub w) M
 |stuck=>exact h
theorem cy:∀b∈X.tb,b∈X.own:=λb h=>R5 _ (UN _ h)
theorem PE.jB{f:W->Mem->Res α}{Q:VK}(h:PE call gv X e E)(I:Fr X env cm m s)(hp:aI X X.own cm m s ((ev call gv E env m).bind f) J k)(q:∀w v cm1 m1 s1,Fr X env cm1 m1 s1->bz X.fs X.tb cm m s cm1 m1 s1->RW X.D cm1 m1 s1.heap w v->aI X X.own cm1 m1 s1 (f w m1) J k->Q v s1):RF X.M X.A (eval e X.env) Q J s:=
 h env cm m s I Q J ((hp.bind.mono λw c1 m1 s1 x M o=>o).sub cy |>.mono λw c1 m1 s1 x M o v r=>q w v c1 m1 s1 (I.go x M I.nc) x r o)
theorem PT.jB{f:Bool->Mem->Res α}{Q:Bool->RA->Prop}(h:PT call gv X e E)(I:Fr X env cm m s)(hp:aI X X.own cm m s (((ev call gv E env m).bind bT).bind f) J k)(q:∀b cm1 m1 s1,Fr X env cm1 m1 s1->bz X.fs X.tb cm m s cm1 m1 s1->aI X X.own cm1 m1 s1 (f b m1) J k->Q b s1):RF X.M X.A (isTrue e X.env (eval e X.env)) Q J s:=
 h env cm m s I Q J ((hp.bind.mono λw c1 m1 s1 x M o=>o).sub cy |>.mono λw c1 m1 s1 x M o=>q w c1 m1 s1 (I.go x M I.nc) x o)
def FQ(X:Cx)(R:X0->RA->Prop):Mi.Flow->List RC->Mem->RA->Prop
 |.next env,cm,m,s=>Fr X env cm m s->R .next s
 |.ret w,cm,m,s=>∀env,Fr X env cm m s->∀v,RW X.D cm m s.heap w v->R (.ret v) s
variable(call gv) in
def jD(X:Cx)(sts:List S6)(S:Mi.S):Prop:=∀env cm m s,Fr X env cm m s->∀(R:X0->RA->Prop) (J:VK),PassesOwn X.M X.A X.env J->aI X X.own cm m s (ex call gv S env m) J (FQ X R)->RF X.M X.A (execs sts X.env) R J s
theorem Fr.quiet(I:Fr X env cm m s):interactive X.env=false:=by simp[interactive,I.ok.kind]
theorem Ey:jD call gv X [] .done:=λenv cm m s I R J _ h=>by
 rw[ex]at h;exact Um (h.now I.mem I)
theorem Fh(h:PE call gv X e E):jD call gv X (.Return (Zz e) pos::rest) (.ret E K):=λenv cm m s I R J _ hp=>by
 rw[ex]at hp;exact Ry (wpAny_Return_some (h.jB I hp λw v c1 m1 s1 I1 x1 r o=>o.now I1.mem _ I1 v r))
theorem Du(h:PE call gv X e E)(hk:jD call gv X rest K)(l:XC e Zy pos.line X.env=pure false:=by rfl):jD call gv X (.Expr e pos::rest) (.expr E K):=λenv cm m s I R J j hp=>by
 rw[ex]at hp;exact Ry (wpAny_Expr_any (h.jB I hp λw v c1 m1 s1 I1 x1 r o=>hk _ _ _ _ I1 R J j o) I.quiet l)
theorem D0(hN:X.N.Nodup)(hi:X.N[i]?=Zz N)(hx:Loc X N)(h:PE call gv X e E)(hk:jD call gv X rest K)(hs:XC e (Zz (.Name N p)) pos.line X.env=pure false:=by rfl):jD call gv X (.Assign [.Name N p] e pos::rest) (.asg i E K):=λenv cm m s I R J j hp=>by
 rw[ex]at hp;exact Ry (wpAny_Assign_Name (h.jB I hp λw v c1 m1 s1 I1 x1 r o=>store I1 hN hi hx r λs2 x2 I2=>hk _ _ _ _ I2 R J j (o.shift x2)) hs)
theorem Ip(hc:PT call gv X c C)(ha:jD call gv X A S)(hb:jD call gv X B S2)(hk:jD call gv X rest K):jD call gv X (.If c A B pos::rest) (.bk C S S2 K):=λenv cm m s I R J j hp=>by
 rw[ex,<-bL]at hp;refine Ry (wpAny_If (hc.jB I hp λb c1 m1 s1 I1 x1 o=>?_));have go:∀{T:Mi.S}{B:List S6},jD call gv X B T->aI X X.own c1 m1 s1 (ex call gv T env m1) J (λfl c2 m2 s2=>aI X X.own c2 m2 s2 (match fl with|.next env=>ex call gv K env m2|fl=>.ok fl m2) J (FQ X R))->RF X.M X.A (execs B X.env) (λf s'=>match f with|.next=>RF X.M X.A (execs rest X.env) R J s'|f=>R f s') J s1:=λhB o=>hB _ _ _ _ I1 _ J j (o.mono λfl c2 m2 s2 x2 M2 o=>by
  cases fl with
  |next env'=>exact λI2=>hk _ _ _ _ I2 R J j o
  |ret w=>exact λe2 I2 v r=>o.now M2 e2 I2 v r)
 cases b with
 |true=>exact go ha o.bind
 |false=>exact go hb o.bind
theorem qE{o:Option T}{f:W->Mem->Res α}(h:aI X ch cm m s ((bX o m').bind f) J k):∃t,o=Zz t/\aI X ch cm m s (f (.t t) m') J k:=by
 cases o with
 |none=>exact h.elim
 |some t=>exact⟨t,rfl,h⟩
def PG(X:Cx)(tg:SJ)(G:Tg):Prop:=∀env cm m s,Fr X env cm m s->∀t u env',RT X.D cm m s.heap t u->bJ G t env=Zz env'->∀(U:Unit->RA->Prop) (J:VK),(∀s',bz X.fs X.own cm m s cm m s'->Fr X env' cm m s'->U () s')->RF X.M X.A (assign tg X.env u) U J s
def PL(X:Cx)(tg:SJ)(is:List Nat):Prop:=∀env cm m s,Fr X env cm m s->∀l u env',RT X.D cm m s.heap (.lst l) u->bJ (.tp is) (.tup l) env=Zz env'->∀(U:Unit->RA->Prop) (J:VK),(∀s',bz X.fs X.own cm m s cm m s'->Fr X env' cm m s'->U () s')->RF X.M X.A (assign tg X.env u) U J s
theorem aZ(i:Nat)(hN:X.N.Nodup)(hi:X.N[i]?=Zz N:=by rfl)(hx:Loc X N:=by first|exact Xj rfl|exact XR ⟨rfl,rfl⟩):PG X (.Name N p) (.nm i):=λenv cm m s I t u env' r e U J q=>by
 cases e;exact W2 (store I hN hi hx (w:=.t t) r q)
noncomputable def IC(X:Cx):List Nat->List SJ->Bool
 |[],[]=>true
 |i::is,.Name x _::es=>X.N[i]?==Zz x&&(X.env.scope.names.lookup x==Zz .local || X.env.scope.names.lookup x==Zz .cell&&X.fn x)&&IC X is es
 |_,_=>false
theorem BE(h:IC X (i::is) es=true):∃x p r,es=.Name x p::r/\X.N[i]?=Zz x/\Loc X x/\IC X is r=true:=by
 cases es with
 |nil=>cases h
 |cons e r =>
  cases e with
  |Name x p =>
   have h:(X.N[i]?==Zz x&&(X.env.scope.names.lookup x==Zz .local || X.env.scope.names.lookup x==Zz .cell&&X.fn x)&&IC X is r)=true:=h;rw[R6,R6,Sm]at h;exact⟨_,_,_,rfl,eq_of_beq h.1.1,h.1.2.imp (λh=>eq_of_beq h) (λh=>by rw[R6]at h;exact⟨eq_of_beq h.1,h.2⟩),h.2⟩
  |_=>cases h
theorem inOrder(hN:X.N.Nodup):∀{is:List Nat}{es:List SJ}{l:List T}{us:List R4}{env:Mi.Env}{s:RA},IC X is es=true->l.length=is.length->jx X.D cm m s.heap l us->Fr X env cm m s->(∀s',bz X.fs X.own cm m s cm m s'->Fr X ((is.zip l).foldl (λenv p=>env.set p.1 (Zz (.t p.2))) env) cm m s'->U () s')->RF X.M X.A (assignInOrder ((U4 es X.env).map (·.2)) us) U J s
 |[],es,l,us,env,s,h,e,r,I,q=>by
  cases es with
  |nil =>
   obtain rfl:=RP.mp e;obtain rfl:=RP.mp r.1.symm;exact assignInOrder_nil (q s .refl I)
  |cons _ _=>cases h
 |i::is,es,[],us,env,s,h,e,r,I,q=>by cases e
 |i::is,es,t::l,us,env,s,h,e,r,I,q=>by
  obtain⟨x,p,es,rfl,hi,hx,h⟩:=BE h;obtain⟨v,us,rfl,r1,r⟩:=r.inv;have ha:(U4 (.Name x p::es) X.env).map (·.2)=assign (.Name x p) X.env::(U4 es X.env).map (·.2):=rfl;rw[ha];exact assignInOrder_cons (W2 (store I hN hi hx (w:=.t t) r1 λs2 x2 I2=>inOrder hN h (X4 e) (r.mp λ_ _ r=>r.go x2 I.mem I.nq) I2 λs3 x3 I3=>q s3 (x2.trans x3) I3))
theorem jE:∀{is:List Nat}{es:List SJ},IC X is es=true->(U4 es X.env).length=is.length/\(U4 es X.env).findIdx? (·.1)=Zy
 |[],[],_=>⟨rfl,rfl⟩
 |[],_::_,h=>by cases h
 |i::is,es,h=>by
  obtain⟨x,p,es,rfl,_,_,h⟩:=BE h;obtain⟨h1,h2⟩:=jE h;exact⟨congrArg (·+1) h1,by rw[show U4 (.Name x p::es) X.env=(false,assign (.Name x p) X.env)::U4 es X.env from rfl,List.findIdx?_cons,h2];rfl⟩
theorem sI(e:bJ (.tp is) (.tup l) env=Zz env'):l.length=is.length/\env'=(is.zip l).foldl (λenv p=>env.set p.1 (Zz (.t p.2))) env:=by
 obtain⟨h,e⟩:=RB.mp (show(if l.length=is.length then Zz ((is.zip l).foldl (λenv p=>env.set p.1 (Zz (.t p.2))) env)else Zy)=Zz env' from e);cases e;exact⟨h,rfl⟩
theorem eE{kk:Nat}(is:List Nat)(hc:X.calm=true)(hN:X.N.Nodup)(ok:IC X is es=true:=by with_unfolding_all rfl):PG X (.Tuple es kk pos) (.tp is):=λenv cm m s I t u env' r e U J q=>by
 cases t with
 |tup l =>
  obtain⟨h1,rfl⟩:=sI e;obtain⟨a,x,rfl,p,k⟩:=r.jQ;have hk:=k.1;simp only[RK]at hk;refine assign_Tuple_tuple (I.ok.hd hc) p.tup (by rw[(jE ok).1];omega) (jE ok).2 λh' hx=>?_
  obtain⟨x1,I1⟩:=I.up (t:=s.toks) (d:=s.drawn) (ch:=X.own) λb o e=>hx b o (SO (Rj e)) e
  exact inOrder hN ok h1 (k.mp λ_ _ r=>r.go x1 I.mem I.nq) I1 λs2 x2 I2=>q s2 (x1.trans x2) I2
 |_=>cases e
theorem Gz{kk:Nat}(is:List Nat)(hc:X.calm=true)(hN:X.N.Nodup)(ok:IC X is es=true:=by with_unfolding_all rfl):PL X (.Tuple es kk pos) is:=λenv cm m s I l u env' r e U J q=>by
 obtain⟨h1,rfl⟩:=sI e;obtain⟨a,x,rfl,p,k⟩:=aY I.mem (w:=.t (.lst l)) r rfl;have hk:=k.1;simp only[RK]at hk;rw[assign_Tuple];refine R0 (TM ?_);unfold unpack;rw[(jE ok).1,(jE ok).2,show is.length=x.size by omega];refine R0 (SZ (PySem.W.kun_itemsOf (I.ok.hd hc) p.pl.isList λh' hx=>?_));obtain⟨x1,I1⟩:=I.up (t:=s.toks) (d:=s.drawn) (ch:=X.own) λb o e=>hx b o (SO (Rj e)) e
 exact inOrder hN ok h1 (k.mp λ_ _ r=>r.go x1 I.mem I.nq) I1 λs2 x2 I2=>q s2 (x1.trans x2) I2
theorem Fp(h:PE call gv X e E)(O:PG X tg (.tp is))(L:jD call gv X rest K)(J':Wt [tg] e pos.line X.env=pure false:=by rfl)(I':Wu [tg] e X.env=pure Zy:=by rfl)(R':(U4 [tg] X.env).map (·.2)=[assign tg X.env]:=by rfl):jD call gv X (.Assign [tg] e pos::rest) (.lK is E K):=λenv cm m s I R J j hp=>by
 rw[ex]at hp;refine Ry (Vb (h.jB I hp λw v c1 m1 s1 I1 x1 r o=>?_) J' I');rw[R'];cases w with
 |t t =>
  have o:aI X X.own c1 m1 s1 (match bJ (.tp is) t env with|some env=>ex call gv K env m1|none=>.stuck) J (FQ X R):=o;split at o
  ·exact O _ _ _ _ I1 t v _ r ‹_› _ J λs2 x2 I2=>L _ _ _ _ I2 R J j (o.shift x2)
  ·exact o.elim
 |_=>exact o.elim
theorem Dk(h:PE call gv X e E)(O:PL X tg is)(L:jD call gv X rest K)(J':Wt [tg] e pos.line X.env=pure false:=by rfl)(I':Wu [tg] e X.env=pure Zy:=by rfl)(R':(U4 [tg] X.env).map (·.2)=[assign tg X.env]:=by rfl):jD call gv X (.Assign [tg] e pos::rest) (.Gp is E K):=λenv cm m s I R J j hp=>by
 rw[ex]at hp;refine Ry (Vb (h.jB I hp λw v c1 m1 s1 I1 x1 r o=>?_) J' I');rw[R'];cases w with
 |t t =>
  cases t with
  |lst l =>
   have o:aI X X.own c1 m1 s1 (match bJ (.tp is) (.tup l) env with|some env=>ex call gv K env m1|none=>.stuck) J (FQ X R):=o;split at o
   ·exact O _ _ _ _ I1 l v _ r ‹_› _ J λs2 x2 I2=>L _ _ _ _ I2 R J j (o.shift x2)
   ·exact o.elim
  |_=>exact o.elim
 |_=>exact o.elim
theorem FA{V:Mi.E}(hv:PE call gv X e V)(ho:PE call gv X o E)(hi:PE call gv X ix F)(hk:jD call gv X rest K)(ha:∀v,assign (.Subscript o ix p) X.env v=(do
   let ov <-XN [v] (eval o X.env)
   let iv <-XN [v,ov] (eval ix X.env)
   W0 p
   XN [v,ov,iv] (setItem ov iv v)
   release [v,ov,iv] []):=by intro _;rfl)(hs:Wt [.Subscript o ix p] e pos.line X.env=pure false:=by rfl)(hw:Wu [.Subscript o ix p] e X.env=pure Zy:=by rfl)(h1:(U4 [.Subscript o ix p] X.env).map (·.2)=[assign (.Subscript o ix p) X.env]:=by rfl):jD call gv X (.Assign [.Subscript o ix p] e pos::rest) (.set E F V K):=λenv cm m s I R J j hp=>by
 rw[ex]at hp;refine Ry (Vb (hv.jB I hp λw v c1 m1 s1 I1 x1 r1 d=>?_) hs hw);rw[h1];show RF X.M X.A (assign (.Subscript o ix p) X.env v) _ J s1;rw[ha];refine R0 (SZ (ho.jB I1 d λu ov c2 m2 s2 I2 x2 r2 d=>?_));refine R0 (SZ (hi.jB I2 d λw' iv c3 m3 s3 I3 x3 r3 d=>?_));have r4:=(r1.go x2.toExtK I1.mem I1.nc.q).go x3.toExtK I2.mem I2.nc.q;have r5:=r2.go x3.toExtK I2.mem I2.nc.q;refine R0 (TM (R0 (SZ ?_)));unfold setM at d;split at d
 ·rename_i cc kk _
  rw[bL]at d;cases q:Ff w m3 with
  |stuck=>rw[q]at d;exact d.elim
  |exc e' m'=>exact Y3 q uB
  |ok t m4 =>
   rw[q]at d;obtain⟨x4,I4,r6⟩:=AO I3 r4 q;obtain⟨a,e2,rfl⟩:=r5;obtain⟨tk,rfl⟩:=RT.dO r3;have d:aI X X.own c3 m3 s3 ((match m4[cc]? with
     |some (Zz (false,xs))=>match ie xs.length kk with
      |some j=>Res.ok () (m4.set cc (Zz (false,xs.set j t)))
      |none=>.stuck
     |_=>.stuck).bind λ_ m=>ex call gv K env m) J (FQ X R):=d
   split at d
   ·rename_i xs e1
    split at d
    ·rename_i jj hj
     obtain⟨b,y,q1,pl,_,q4⟩:=I4.mem.at' cc _ e1;rw[e2]at q1;cases q1;have hq:=q4.1;simp only[RK]at hq;have hl:=line;obtain⟨⟨n,e3⟩,_,hz⟩:=id pl;have q5:jx X.D c3 m4 s3.heap (xs.set jj t) (y.setIfInBounds jj v).toList:=⟨by simp[hq],λi t' v' a b=>by
      rw[Array.toList_setIfInBounds]at b;rw[List.getElem?_set]at a b;by_cases hi:jj=i
      ·subst hi
       rw[Xy rfl]at a b;split at a<;>cases a;rw[Xy (by simp;omega)]at b;cases b;exact r6
      ·rw[Xz hi]at a b
       exact q4.2 i t' v' a b⟩
     obtain⟨x5,I5⟩:=mP (f:=λx=>x.setIfInBounds jj v) (n:=s3.toks) I4 e1 e2 pl rfl (by simpa using hz) q5;have fin:=wpAny_release (M:=X.M) (A:=X.A) (E:=J) (vs:=[v,.ref a,.int kk tk]) (keep:=[]) (Q:=λ_ s'=>RF X.M X.A (execs rest X.env) R J s') (hk _ _ _ _ I5 R J j ((d.shift (x4.sub cy)).shift (x5.sub cy)));unfold ie at hj;by_cases h0:0<=kk
     ·rw[Xy h0]at hj
      obtain⟨h4,hj⟩:=RB.mp hj;cases hj;exact PySem.W.ki_setAt e3 h0 (by omega) (by rw[<-hq];exact h4) fin
     ·rw[Xz h0]at hj
      obtain⟨h4,hj⟩:=RB.mp hj;cases hj;rw[hq]at fin;exact PySem.W.ki_setBack e3 (by omega) (by rw[<-hq];exact h4) (by omega) fin
    ·exact d.elim
   ·exact d.elim
 ·exact d.elim
theorem F5{op:WC}(i:Nat)(hN:X.N.Nodup)(h:PE call gv X e E)(hk:jD call gv X rest K)(hi:X.N[i]?=Zz N:=by rfl)(hx:Loc X N:=by first|exact Xj rfl|exact XR ⟨rfl,rfl⟩):jD call gv X (.AugAssign (.Name N p) op e pos::rest) (.aug i op E K):=λenv cm m s I R J j hp=>by
 rw[ex]at hp;split at hp
 rotate_left
 ·exact hp.elim
 rename_i w ew;obtain⟨f,hn,hl⟩:=I.loc;obtain⟨u,r,l⟩:=hl i N w hi ew (hx.imp id λz=>.inl z.1);refine Ry (wpAny_AugAssign_Name ?_);have go:RF X.M X.A (eval e X.env) (λz s₂=>RF X.M X.A (inplaceOp op u z) (λr s₃=>RF X.M X.A (XX X.env N r) (λ_ s'=>RF X.M X.A (execs rest X.env) R J s') J s₃) J s₂) J s:=h.jB I hp λw2 z c1 m1 s1 I1 x1 r2 d=>by
  obtain⟨t,e0,d⟩:=qE d;obtain⟨x,e1,e0⟩:=RE.mp e0;obtain⟨y,e2,e0⟩:=RE.mp e0;have r1:=r.go x1.toExtK I.mem I.nc.q;have fin:∀i,t=.int i->RF X.M X.A (XX X.env N (.int i s1.toks)) (λ_ s'=>RF X.M X.A (execs rest X.env) R J s') J { s1 with toks:=s1.toks+1 }:=λi e=>by
   subst e;obtain⟨x2,I2⟩:=I1.up (g:=s1.heap) (t:=s1.toks+1) (d:=s1.drawn) (ch:=X.own) λ_ _ e=>e
   exact store I2 hN hi hx (w:=.t (.int i)) (.int _ _) λs3 x3 I3=>hk _ _ _ _ I3 R J j ((d.shift x2).shift x3)
  unfold Jj at e0;split at e0<;>cases e0
  ·obtain⟨_,rfl⟩:=(aw r1 e1).dO
   obtain⟨_,rfl⟩:=(aw r2 e2).dO;exact iadd_int (fin _ rfl)
  ·obtain⟨_,rfl⟩:=(aw r1 e1).dO
   obtain⟨_,rfl⟩:=(aw r2 e2).dO;exact isub_int (fin _ rfl)
 rcases l with⟨hk,hm⟩|⟨hk|hk,c,hc,hcell⟩
 ·exact VN I.ok.kind hk hn hm go
 ·exact Va I.ok.kind hk hc hcell go
 ·rcases hx with k|⟨k,_⟩<;>(rw[show X.env.scope.names.lookup N=_ from hk]at k;cases k)
theorem vr(i:Nat)(d:X.N[i]?=Zz N:=by rfl)(b:Lq X.env.scope N:=by first|exact Xj rfl|exact XR (Xj rfl)|exact XR (XR rfl))(c:(N==("__debug__" : Str))=false:=by decide)(a:(N==("__classdict__" : Str))=false:=by decide):PE call gv X (.Name N pos) (.var i):=HY d b c a
theorem sg(i:Nat)(g:X.N.Nodup)(h:PE call gv X e E)(d:jD call gv X rest K)(hi:X.N[i]?=Zz N:=by rfl)(a:Loc X N:=by first|exact Xj rfl|exact XR ⟨rfl,rfl⟩)(b:XC e (Zz (.Name N p)) pos.line X.env=pure false:=by rfl):jD call gv X (.Assign [.Name N p] e pos::rest) (.asg i E K):=D0 g hi a h d b
end
inductive SrcL (X:Cx) (cm:List RC) (m:Mem) (h:Rq) (a:RC) (l:List T):Prop
 |own {x:Array R4}(_:aU cm m a) (_:fN X.fs h a x) (_:jx X.D cm m h l x.toList)
 |sZ {j:Nat}(_:m[j]?=Zz (Zz (true,l))) (_:cm[j]?=Zz a)
 |db {x:Array R4}(_:aU cm m a) (_:pN "list" h a x) (_:a∉X.fs) (_:jx X.D cm m h l x.toList)
section
variable{P:Sf}{w:TB}{A:Sb}{E:R4->RA->Prop}{s:RA}
theorem F7(hj:s.heap.IsTupleIter j a k)(ha:s.heap.IsTuple a vs)(hv:vs[k]?=Zz v)(q:∀g,g.IsTupleIter j a (k+1)->Te j s.heap g->Q v { s with heap:=g }):RF (Rp P w) A (TZ (.ref j)) Q E s:=by
 obtain⟨oj,ej,cj,dj⟩:=id hj;obtain⟨oa,ea,_,na,da⟩:=ha;unfold TZ;refine R0 (S8 hj.typeIs TU (SQ TU hj.typeIs F.entry_tuple_iterator_next ?_ (F.args_tuple_iterator_next_1 _)));show RF _ _ (field (.ref j) 0 >>= _) _ _ s;refine R0 (S9 ej dj rfl ?_);show RF _ _ (if(T4 a==UK)=true then _ else _) _ _ s;rw[Xz (show ¬(T4 a==UK)=true from S4)];refine R0 (S9 ej dj rfl ?_);refine R0 (TG ea da ?_);simp only[Sq,hv];refine R0 (SX ej dj (by simp) (R3 ⟨v,rfl,R3 (q _ ⟨_,S5 _ ej (Sr (S3 dj _)),(V2 ..).trans cj,?_⟩ (SA ..))⟩));rw[S3 dj];simp[rawInt]
theorem D2(hA:A.handled=Zy)(hj:s.heap.IsTupleIter j a k)(ha:s.heap.IsTuple a vs)(hv:vs[k]?=Zy)(q:∀g e,Uv j s.heap g->(∃o,g.get? e=Zz o/\o.cls=.type "StopIteration")->E (.ref e) { s with heap:=g }):RF (Rp P w) A (TZ (.ref j)) Q E s:=by
 obtain⟨oj,ej,cj,dj⟩:=id hj;obtain⟨oa,ea,_,na,da⟩:=ha;unfold TZ;refine R0 (S8 hj.typeIs TU (SQ TU hj.typeIs F.entry_tuple_iterator_next ?_ (F.args_tuple_iterator_next_1 _)));show RF _ _ (field (.ref j) 0 >>= _) _ _ s;refine R0 (S9 ej dj rfl ?_);show RF _ _ (if(T4 a==UK)=true then _ else _) _ _ s;rw[Xz (show ¬(T4 a==UK)=true from S4)];refine R0 (S9 ej dj rfl ?_);refine R0 (TG ea da ?_);simp only[Sq,hv];refine R0 (UG (R0 (SX ej dj (by simp) ?_)));refine R0 ?_;simp only[newExc,newTuple];refine R0 (SF ?_ (by size_fits));refine R0 (WY (by first|rfl|(simp only[firstArgMember];rfl)) (SF ?_ (by size_fits)));simp only[Xo];refine R0 (wpAny_handled ?_)
 first|rw[show A.in1.handled=Zy from hA]|rw[hA]
 exact R0 (R3 (wpAny_throw (q _ _ (((SA ..).extBut.push _).push _) ⟨_,RM _ rfl,rfl⟩)))
structure zg (z TI TO i j a b:RC) (k:Nat) (h:Rq):Prop where
 zip:XY h z TI TO .none
 its:Xk h TI (.ref i) (.ref j)
 out:∃p q,Xk h TO p q
 one:h.IsTupleIter i a k
 two:h.IsListIter j b k
theorem CQ{z TI TO i j a b:RC}{xs ys:Array R4}{Q:R4->RA->Prop}(D:Xu z TI TO i j a b)(S:zg z TI TO i j a b k s.heap)(ha:s.heap.IsTuple a xs)(hb:s.heap.IsList b ys)(hx:xs[k]?=Zz x)(hy:ys[k]?=Zz y)(q:∀(g g':Rq),g.objs.size=s.heap.objs.size->(∀c o,c≠z->c≠TO->c≠i->c≠j->s.heap.get? c=Zz o->g.get? c=Zz o) ->
   (∀c o,c≠z->(g.push { cls:=.type "tuple",data:=.seq #[x,y] }).get? c=Zz o->g'.get? c=Zz o)->XY g' z TI TO (rawInt s.heap.objs.size)->Xk g' TO x y->g'.IsTupleIter i a (k+1)->g'.IsListIter j b (k+1) ->
   Q (.ref s.heap.objs.size) { s with heap:=g' }):RF (Rp P w) A (Builtin.«zip.__next__» ⟨[.ref z],[]⟩) (λfin s'=>∃v,fin=.done (.ret v)/\Q v s') E s:=by
 obtain⟨hz,hI,⟨p,r,hO⟩,h1,h2⟩:=S;show RF _ _ (field (.ref z) 2 >>= _) _ _ _;refine R0 (S9 hz rfl rfl ?_);refine R0 (S9 hz rfl rfl (R0 (TG hI rfl ?_)));refine R0 ?_;unfold Builtin.SmallTypes.ownedTupleIsFree;refine R0 (S9 hz rfl rfl (R3 ?_));simp only[if_true];refine R0 (UG (R0 (S9 hz rfl rfl (R0 (U5 hz (by simp) λg1 z1 e1=>?_)))));replace z1:XY g1 z TI TO .ellipsis:=z1;refine R0 ?_;simp only[List.zipIdx_cons,List.zipIdx_nil,Ss,Wf];refine R0 (R0 (Wv ?_));refine R0 (F7 (h1.extBut e1.extBut D.i1z) (ha.extBut e1.extBut D.l1z) hx λg2 k2 e2=>R3 ?_);have o2:=e2.extBut _ _ D.TOi1 (e1.extBut _ _ D.TOz hO);refine R0 (TG o2 rfl (R0 (wpAny_updateSeq_pair o2 λg3 o3 e3=>?_)));replace o3:Xk g3 TO x r:=o3;refine R0 (wpAny_letGo (R3 (R0 (R0 (Wv ?_)))));refine R0 (wpAny_nextOf_list_item (((h2.extBut e1.extBut D.i2z).extBut e2.extBut D.i12.symm).extBut e3.extBut D.TOi2.symm) (((hb.extBut e1.extBut D.l2z).extBut e2.extBut D.l2i1).extBut e3.extBut D.l2TO) hy λg4 k4 e4=>R3 ?_);have o4:=e4.extBut _ _ D.TOi2 o3;refine R0 (TG o4 rfl (R0 (wpAny_updateSeq_pair o4 λg5 o5 e5=>?_)));replace o5:Xk g5 TO x y:=o5;refine R0 (wpAny_letGo (R3 (R3 (R0 (TG o5 rfl (R0 (wpAny_newTuple ?_)))))));have sz:g5.objs.size=s.heap.objs.size:=by rw[e5.1,e4.1,e3.1,e2.1,e1.1]
 have z5:=e5.extBut _ _ D.TOz.symm (e4.extBut _ _ D.i2z.symm (e3.extBut _ _ D.TOz.symm (e2.extBut _ _ D.i1z.symm z1)));have kp:∀c o,c≠z->c≠TO->c≠i->c≠j->s.heap.get? c=Zz o->g5.get? c=Zz o:=λc o n1 n2 n3 n4 e =>
  e5.extBut _ _ n2 (e4.extBut _ _ n4 (e3.extBut _ _ n2 (e2.extBut _ _ n3 (e1.extBut _ _ n1 e))))
 have k5:=((k2.extBut e3.extBut D.TOi1.symm).extBut e4.extBut D.i12).extBut e5.extBut D.TOi1.symm;have l5:=k4.extBut e5.extBut D.TOi2.symm;refine R0 ?_;unfold Builtin.SmallTypes.ownedTupleHandOut;have z6:XY (g5.push { cls:=.type "tuple",data:=.seq #[x,y] }) z TI TO .ellipsis:=R9 _ z5;refine R0 (U5 z6 (by simp) λg7 z7 e7=>?_);replace z7:XY g7 z TI TO (rawInt g5.objs.size):=z7;refine U5 z7 (by simp) λg8 z8 e8=>?_
 replace z8:XY g8 z TI TO (rawInt g5.objs.size):=z8;have up:∀c o,c≠z->(g5.push { cls:=.type "tuple",data:=.seq #[x,y] }).get? c=Zz o->g8.get? c=Zz o:=λc o n e=>e8.extBut _ _ n (e7.extBut _ _ n e)
 have up':=λc o n e=>up c o n (R9 _ e)
 refine R3 ⟨_,rfl,?_⟩;rw[sz]at z8 ⊢;exact q g5 g8 sz kp up z8 (up' _ _ D.TOz o5) (k5.at λo e=>up' _ o D.i1z e) (l5.at λo e=>up' _ o D.i2z e)
theorem DY{z TI TO i j a b:RC}(hA:A.handled=Zy)(D:Xu z TI TO i j a b)(S:zg z TI TO i j a b k s.heap)(ha:s.heap.IsTuple a xs)(hx:xs[k]?=Zy)(q:∀(g:Rq) (e:RC),(∀c o,c≠z->c≠i->s.heap.get? c=Zz o->g.get? c=Zz o)->(∃o,g.get? e=Zz o/\o.cls=.type "StopIteration")->E (.ref e) { s with heap:=g }):
  RF (Rp P w) A (Builtin.«zip.__next__» ⟨[.ref z],[]⟩) Q E s:=by
 obtain⟨hz,hI,_,h1,h2⟩:=S;show RF _ _ (field (.ref z) 2 >>= _) _ _ _;refine R0 (S9 hz rfl rfl ?_);refine R0 (S9 hz rfl rfl (R0 (TG hI rfl ?_)));refine R0 ?_;unfold Builtin.SmallTypes.ownedTupleIsFree;refine R0 (S9 hz rfl rfl (R3 ?_));simp only[if_true];refine R0 (UG (R0 (S9 hz rfl rfl (R0 (U5 hz (by simp) λg1 z1 e1=>?_)))));replace z1:XY g1 z TI TO .ellipsis:=z1;refine R0 ?_;simp only[List.zipIdx_cons,List.zipIdx_nil,Ss,Wf];refine R0 (R0 (Wv ?_));refine R0 (D2 hA (h1.extBut e1.extBut D.i1z) (ha.extBut e1.extBut D.l1z) hx λg2 e k2 he=>?_);obtain⟨oe,hoe,hce⟩:=he;have z2:=k2 _ _ D.i1z.symm z1;have ne:e≠z:=λx=>by subst x;rw[z2]at hoe;cases hoe;simp at hce
 exact U5 z2 (by simp) λg3 _ e3=>q g3 e (λc o n1 n2 x=>e3.extBut _ _ n1 (k2 _ _ n2 (e1.extBut _ _ n1 x))) ⟨oe,e3.extBut _ _ ne hoe,hce⟩
end
inductive Src (X:Cx) (cm:List RC) (m:Mem) (h:Rq) (it:RC) (i:Nat) (l:List T):List RC->Prop
 |lst {a:RC}(_:h.IsListIter it a i) (_:SrcL X cm m h a l):Src X cm m h it i l [it]
 |tup {a:RC}{x:Array R4}(_:h.IsTupleIter it a i) (_:pN "tuple" h a x) (_:a∉X.fs) (_:jx X.D cm m h l x.toList):Src X cm m h it i l [it]
 |str {c:List Nat}{t:Tok}(k:Bool) (_:h.IsStrIter it (if k then "str_ascii_iterator" else "str_iterator") ⟨c.toArray⟩ t i) (_:l=c.map λc=>.str [c]):Src X cm m h it i l [it]
 |Gj {lo:Int}{n:Nat}(_:IsRangeIter h it (lo+(i:Nat)*1) ((n:Int)-(i:Nat)) 1) (_:l=rangeT lo n):Src X cm m h it i l [it]
 |Gk {j a:RC}{old:R4}{ts:List T}(_:it≠j) (_:IsEnum h it j (i:Int) old) (_:h.IsListIter j a i) (_:SrcL X cm m h a ts) (_:l=pG ts):Src X cm m h it i l [it,j]
 |zip {TI TO j j' a b:RC}{x:Array R4}{ts us:List T}(_:Xu it TI TO j j' a b) (_:zg it TI TO j j' a b i h) (_:pN "tuple" h a x) (_:a∉X.fs) (_:jx X.D cm m h ts x.toList) (_:SrcL X cm m h b us) (_:ts.length=us.length) (_:l=wA ts us):Src X cm m h it i l [it,TI,TO,j,j']
noncomputable def isTup:List RC->RC->Bool
 |[_,TI,TO,_,_],b=>b==TI || b==TO
 |_,_=>false
structure On (X:Cx) (cm:List RC) (m:Mem) (h:Rq) (it:RC) (fp:List RC) (i:Nat) (l:List T):Prop where
 src:Src X cm m h it i l fp
 nb:∀b∈fp,X.base.get? b=Zy
 no:∀b∈fp,b∉X.own
 nf:∀b∈fp,if isTup fp b then b∈X.fs/\b∉frs X.stack else b∉X.fs
section
variable{X:Cx}{D:Dm}{env:Mi.Env}{cm cm' cm0:List RC}{m m' m0 m1 m2:Mem}{s s' s0 s1:RA}{w u:W}{v z:R4}{ch fp:List RC}{J Q:VK}{h g:Rq}{t:T}{l ts:List T}{a it:RC}{n:Nat}{i:Nat}{tk:Nat}{tg:SJ}{α:Type}
theorem SrcL.now(M:bh X cm m h)(q:SrcL X cm m h a l):∃x,h.IsList a x/\x.size<=Ri/\jx X.D cm m h l x.toList:=by
 cases q with
 |own n p r=>exact⟨_,p.pl.isList,p.2.2,r⟩
 |db n p _ r=>obtain⟨_,_,_,_,_,_,z⟩:=id p;exact⟨_,p.pl.isList,z,r⟩
 |sZ e1 e2 =>
  obtain⟨b,x,h1,p,_,r⟩:=M.at' _ _ e1;rw[e2]at h1;cases h1;exact⟨x,p.pl.isList,p.2.2,r⟩
theorem SrcL.go(x:ExtK X.fs ch cm m s cm' m' s')(lt:∀(i:Nat) l,m[i]?=Zz (Zz (true,l))->m'[i]?=Zz (Zz (true,l)))(M:bh X cm m s.heap)(N:Nq X.fs ch s.heap)(q:SrcL X cm m s.heap a l):SrcL X cm' m' s'.heap a l:=by
 cases q with
 |own n p r=>exact .own (p.go x N n).2 (p.go x N n).1 (r.mp λ_ _ r=>r.go x M N)
 |db n p f r=>exact .db (p.go x N n f).2 (p.go x N n f).1 f (r.mp λ_ _ r=>r.go x M N)
 |sZ e1 e2=>exact .sZ (lt _ _ e1) (x.pre _ _ e2)
theorem zg.keep{TI TO j j' a b:RC}(S:zg it TI TO j j' a b i h)(k:∀c∈[it,TI,TO,j,j'],∀o,h.get? c=Zz o->g.get? c=Zz o):zg it TI TO j j' a b i g:=by
 obtain⟨hz,hI,⟨p,q,hO⟩,⟨o1,e1,c1⟩,⟨o2,e2,c2⟩⟩:=S;exact⟨k _ (by simp) _ hz,k _ (by simp) _ hI,⟨p,q,k _ (by simp) _ hO⟩,⟨o1,k _ (by simp) _ e1,c1⟩,⟨o2,k _ (by simp) _ e2,c2⟩⟩
theorem Src.go(x:ExtK X.fs ch cm m s cm' m' s')(lt:∀(i:Nat) l,m[i]?=Zz (Zz (true,l))->m'[i]?=Zz (Zz (true,l)))(M:bh X cm m s.heap)(N:Nq X.fs ch s.heap)(k:∀b∈fp,∀o,s.heap.get? b=Zz o->s'.heap.get? b=Zz o)(q:Src X cm m s.heap it i l fp):Src X cm' m' s'.heap it i l fp:=by
 cases q with
 |lst q r=>obtain⟨o,e,c⟩:=q;exact .lst ⟨o,k _ RD o e,c⟩ (r.go x lt M N)
 |tup q p f r=>obtain⟨o,e,c⟩:=q;exact .tup ⟨o,k _ RD o e,c⟩ (p.go x N (p.nl M) f).1 f (r.mp λ_ _ r=>r.go x M N)
 |str b q e1=>obtain⟨o,e,c⟩:=q;exact .str b ⟨o,k _ RD o e,c⟩ e1
 |Gj q e1=>exact .Gj (k _ RD _ q) e1
 |Gk n q r c e1=>obtain⟨o,e,d⟩:=r;exact .Gk n (k _ RD _ q) ⟨o,k _ (by simp) o e,d⟩ (c.go x lt M N) e1
 |zip A S p f r c e1 e2=>exact .zip A (S.keep k) (p.go x N (p.nl M) f).1 f (r.mp λ_ _ r=>r.go x M N) (c.go x lt M N) e1 e2
theorem Src.obj(q:Src X cm m h it i l fp):∀b∈fp,∃o,h.get? b=Zz o/\((∃vs c,o.data=.fields vs/\o.cls=.type c/\c≠"traceback")/\isTup fp b=false∨(∃x n,o.data=.seq x n)/\isTup fp b=true):=by
 have one:∀{j:RC}{o:Obj}{c vs},h.get? j=Zz o->o.cls=.type c->o.data=.fields vs->c≠"traceback"->∀b∈[j],∃o,h.get? b=Zz o/\((∃vs c,o.data=.fields vs/\o.cls=.type c/\c≠"traceback")/\isTup [j] b=false∨(∃x n,o.data=.seq x n)/\isTup [j] b=true):=λe c d n b hb=>by
  rw[RN.mp hb];exact⟨_,e,.inl ⟨⟨_,_,d,c,n⟩,rfl⟩⟩
 cases q with
 |lst q _=>obtain⟨o,e,c,d⟩:=q;exact one e c d (by decide)
 |tup q _ _ _=>obtain⟨o,e,c,d⟩:=q;exact one e c d (by decide)
 |str k q _=>obtain⟨o,e,c,d⟩:=q;exact one e c d (by cases k<;>decide)
 |Gj q _=>exact one q rfl rfl (by decide)
 |Gk _ q r _ _ =>
  obtain⟨o,e,c,d⟩:=r;intro b hb;rcases R7.mp hb with rfl|hb
  ·exact⟨_,q,.inl ⟨⟨_,_,rfl,rfl,by decide⟩,rfl⟩⟩
  ·rw[RN.mp hb];exact⟨_,e,.inl ⟨⟨_,_,d,c,by decide⟩,rfl⟩⟩
 |zip A S _ _ _ _ _ _ =>
  obtain⟨hz,hI,⟨p,q,hO⟩,⟨o1,e1,c1,d1⟩,⟨o2,e2,c2,d2⟩⟩:=S;intro b hb;simp only[R7,R8,or_false]at hb;rcases hb with rfl|rfl|rfl|rfl|rfl
  ·exact⟨_,hz,.inl ⟨⟨_,_,rfl,rfl,by decide⟩,by simp[isTup,A.TIz.symm,A.TOz.symm]⟩⟩
  ·exact⟨_,hI,.inr ⟨⟨_,_,rfl⟩,by simp[isTup]⟩⟩
  ·exact⟨_,hO,.inr ⟨⟨_,_,rfl⟩,by simp[isTup]⟩⟩
  ·exact⟨_,e1,.inl ⟨⟨_,_,d1,c1,by decide⟩,by simp[isTup,A.TIi1.symm,A.TOi1.symm]⟩⟩
  ·exact⟨_,e2,.inl ⟨⟨_,_,d2,c2,by decide⟩,by simp[isTup,A.TIi2.symm,A.TOi2.symm]⟩⟩
theorem On.pt(q:On X cm m h it fp i l):∀b∈fp,∃o,h.get? b=Zz o/\((∃vs c,o.data=.fields vs/\o.cls=.type c/\c≠"traceback")/\b∉X.fs∨(∃x n,o.data=.seq x n)/\b∈X.fs/\b∉frs X.stack):=λb hb=>by
 obtain⟨o,e,p⟩:=q.src.obj b hb;have f:=q.nf b hb;rcases p with⟨p,k⟩|⟨p,k⟩
 ·rw[Xz (by rw[k];decide)]at f;exact⟨o,e,.inl ⟨p,f⟩⟩
 ·rw[Xy k]at f;exact⟨o,e,.inr ⟨p,f⟩⟩
theorem On.gp(x:ExtK X.fs ch cm m s cm' m' s')(M:bh X cm m s.heap)(c:∀b∈fp,b∉ch)(q:On X cm m s.heap it fp i l):∀b∈fp,∀o,s.heap.get? b=Zz o->s'.heap.get? b=Zz o:=λb hb o e=>by
 obtain⟨o',e',p⟩:=q.pt b hb;rw[e]at e';cases e';rcases p with⟨⟨vs,cc,d,_,_⟩,f⟩|⟨⟨y,n,d⟩,f,_⟩
 ·obtain⟨_,o',e',r⟩:=x.keep b o e (c b hb) (ro M e λx n z=>by rw[d]at z;cases z)
  rcases r with rfl|⟨r,_⟩
  ·exact e'
  ·exact Y3 r f
 ·obtain⟨_,o',e',r⟩:=x.keep b o e (c b hb) (K5 M f)
  rcases r with rfl|⟨_,r,_⟩
  ·exact e'
  ·exact Y3 d (r _ _)
theorem On.go(x:ExtK X.fs ch cm m s cm' m' s')(lt:∀(i:Nat) l,m[i]?=Zz (Zz (true,l))->m'[i]?=Zz (Zz (true,l)))(M:bh X cm m s.heap)(N:Nq X.fs ch s.heap)(c:∀b∈fp,b∉ch)(q:On X cm m s.heap it fp i l):On X cm' m' s'.heap it fp i l:=
 ⟨q.src.go x lt M N (q.gp x M c),q.nb,q.no,q.nf⟩
theorem On.nq(q:On X cm m h it fp i l):Nq X.fs fp h:=λb hb o e f=>by
 obtain⟨o',e',p⟩:=q.pt b hb;rw[e]at e';cases e';rcases p with⟨⟨vs,c,d,e1,e2⟩,_⟩|⟨⟨y,n,d⟩,g,_⟩
 ·cases f with
  |seq x n z=>rw[d]at z;cases z
  |dict x n z=>rw[d]at z;cases z
  |ref C v z=>rw[e1]at z;cases z
  |trace v z=>rw[e1]at z;exact e2 (Value.type.inj z)
 ·cases f with
  |seq x n z f=>exact f g
  |dict x n z=>rw[d]at z;cases z
  |ref C v _ z=>rw[d]at z;cases z
  |trace v _ z=>rw[d]at z;cases z
theorem On.stp(I:Fr X env cm m s)(q:On X cm m s.heap it fp i l)(kk:∀b o,b∉fp->s.heap.get? b=Zz o->h.get? b=Zz o)(pp:∀b∈fp,b∈X.fs->∃o x n,h.get? b=Zz o/\o.data=.seq x n):ExtK X.fs fp cm m s cm m { s with heap:=h,toks:=tk }/\Fr X env cm m { s with heap:=h,toks:=tk }:=by
 have x:ExtK X.fs fp cm m s cm m { s with heap:=h,toks:=tk }:=⟨rfl,id,λ_ _ h=>h,RU _,λb o e c n=>⟨n,o,kk b o c e,.inl rfl⟩⟩
 have M:=I.mem.go q.nq x kk (I.ok.n9 _ _ I.mem.tab λb o hb e=>kk b o (λz=>q.no b z (cy b hb)) e);have no:∀{b o},s.heap.get? b=Zz o->(∀v,o.data≠.fields v)->(∀x n,o.data≠.seq x n)->b∉fp:=λe n k z=>by
  obtain⟨o',e',p⟩:=q.pt _ z;rw[e]at e';cases e';rcases p with⟨⟨_,_,d,_⟩,_⟩|⟨⟨_,_,d⟩,_⟩
  ·exact n _ d
  ·exact k _ _ d
 have cell:∀{c v},s.heap.IsCell c v->h.IsCell c v:=λ⟨o,e,d⟩=>⟨o,kk _ _ (no e (λv z=>by rw[d]at z;cases z) λx n z=>by rw[d]at z;cases z) e,d⟩
 obtain⟨f,⟨oL,es,ep,eL,dL,r⟩,hl⟩:=I.loc;refine⟨x,⟨I.ok,M,I.bare,λb o e=>kk b o (λz=>by rw[q.nb b z]at e;cases e) (I.bs b o e),⟨f,⟨oL,es,ep,kk _ _ (no eL (λv z=>by rw[dL]at z;cases z) λx n z=>by rw[dL]at z;cases z) eL,dL,r⟩,λi y w h1 h2 h3=>?_⟩,λy c h=>(I.cell y c h).elim λv z=>⟨v,cell z⟩,λb hb=>?_,I.len⟩⟩
 ·obtain⟨u,h4,h5⟩:=hl i y w h1 h2 h3
  exact⟨u,h4.go x I.mem q.nq,h5.imp id λ⟨k,c,h6,h7⟩=>⟨k,c,h6,cell h7⟩⟩
 ·obtain⟨g1,o,e,n⟩:=I.cN b hb
  refine⟨g1,?_⟩;by_cases z:b∈fp
  ·obtain⟨o',y,c,e',d⟩:=pp b z hb
   refine⟨o',e',(λv z=>by rw[d]at z;cases z),λw=>?_⟩;obtain⟨_,_,⟨_,f⟩|⟨_,_,f⟩⟩:=q.pt b z
   ·exact Y3 hb f
   ·exact Y3 w f
  ·exact⟨o,kk b o z e,n⟩
theorem On.fin{j:Nat}(I:Fr X env cm m s)(q:On X cm m s.heap it fp i l)(kk:∀b o,b∉fp->s.heap.get? b=Zz o->h.get? b=Zz o)(S:ExtK X.fs fp cm m s cm m { s with heap:=h,toks:=tk }->Src X cm m h it j l fp):ExtK X.fs fp cm m s cm m { s with heap:=h,toks:=tk }/\Fr X env cm m { s with heap:=h,toks:=tk }/\On X cm m h it fp j l:=by
 have S:=S ⟨rfl,id,λ_ _ h=>h,RU _,λb o e c n=>⟨n,o,kk b o c e,.inl rfl⟩⟩;have on:On X cm m h it fp j l:=⟨S,q.nb,q.no,q.nf⟩
 obtain⟨x,I'⟩:=q.stp (tk:=tk) I kk λb hb f=>by
  obtain⟨o,e,⟨_,g⟩|⟨⟨x,n,d⟩,_⟩⟩:=on.pt b hb
  ·exact Y3 f g
  ·exact⟨o,x,n,e,d⟩
 exact⟨x,I',on⟩
theorem bz.ta{fs e:List RC}(x0:bz fs ch cm0 m0 s0 cm m s)(x:ExtK fs e cm m s cm m s1)(n:∀b∈e,s0.heap.get? b=Zy)(t:∀b o,b∉e->s.heap.get? b=Zz o->∃o',s1.heap.get? b=Zz o'/\Kd o o'):bz fs ch cm0 m0 s0 cm m s1:=by
 have ne:∀{b o},s0.heap.get? b=Zz o->b∉e:=λq z=>by rw[n _ z]at q;cases q
 refine .of (λb o e=>?_) x0.lent ⟨x.os.trans x0.os,λh=>x.bare (x0.bare h),x0.pre,x0.len,λb o e c nl=>?_⟩
 ·obtain⟨o1,e1,q⟩:=x0.thr b o e
  obtain⟨o2,e2,q2⟩:=t b o1 (ne e) e1;exact⟨o2,e2,q2.1 ∘ q.1,q2.2 ∘ q.2⟩
 ·obtain⟨n1,o1,e1,r⟩:=x0.keep b o e c nl
  obtain⟨n2,o2,e2,q⟩:=x.keep b o1 e1 (ne e) n1;refine⟨n2,o2,e2,?_⟩;rcases r with rfl|⟨hf,hn,sl,rfl⟩
  ·exact q
  ·rcases q with rfl|⟨_,_,sl',rfl⟩
   ·exact .inr ⟨hf,hn,sl,rfl⟩
   ·exact .inr ⟨hf,hn,sl',rfl⟩
theorem bz.past(x0:bz X.fs ch cm0 m0 s0 cm m s)(x:ExtK X.fs fp cm m s cm m s1)(n:∀b∈fp,s0.heap.get? b=Zy)(kk:∀b o,b∉fp->s.heap.get? b=Zz o->s1.heap.get? b=Zz o):bz X.fs ch cm0 m0 s0 cm m s1:=x0.ta x n λb o n e=>⟨o,kk b o n e,.r⟩
theorem Kh{M:XV}{A:Sb}{E:R4->RA->Prop}{s:RA}{u:R4}{o:Obj}{n:String}{vs:Array R4}{Q:Unit->RA->Prop}(ho:s.heap.get? it=Zz o)(hc:o.cls=.type n)(hd:o.data=.fields vs)(hn:["enumerate","zip","dict_itemiterator","dict_reverseitemiterator","odict_iterator","itertools.zip_longest","itertools.pairwise"].contains n=false)(hQ:Q () s):RF M A (Tb tg (.ref it) u) Q E s:=by
 unfold Tb;cases tg<;>first
  |exact R3 hQ
  |(cases u<;>first
   |exact R3 hQ
   |(
    refine R0 (wpAny_load ho ?_);rw[hc,hd];show RF M A (if(["enumerate","zip","dict_itemiterator","dict_reverseitemiterator","odict_iterator","itertools.zip_longest","itertools.pairwise"].contains n&&vs[0]?==Zz (rawInt _))=true then _ else _) Q E s;rw[Xz (by intro h;rw[hn,Bool.false_and]at h;cases h)];exact R3 hQ))
theorem HK{lo:Int}{k:Nat}(e:(rangeT lo n)[k]?=Zz t):k<n/\t=.int (lo+(k:Int)):=by
 unfold rangeT at e;rw[Rv]at e;obtain⟨j,e1,rfl⟩:=RY.mp e;obtain⟨h,e2⟩:=RG.mp e1;rw[UC]at h;rw[List.getElem_range]at e2;subst e2;exact⟨h,rfl⟩
theorem uf{l':RC}{o:Obj}{x:Array R4}{c:Nat}(q:h.IsListIter it l' i∨h.IsTupleIter it l' i)(e:h.get? a=Zz o)(d:o.data=.seq x c):a≠it:=λz=>by
 rcases q with⟨o',e',_,d'⟩|⟨o',e',_,d'⟩<;>(rw[z,e']at e;cases e;rw[d']at d;cases d)
def yR(fp:List RC)(tg:SJ):Prop:=fp.length=1∨∃es kk pos,tg=.Tuple es kk pos
theorem GV{i:Nat}(e:(pG l)[i]?=Zz t):∃t',l[i]?=Zz t'/\t=.tup [.int (i:Int),t']:=by
 unfold pG at e;rw[List.getElem?_zipWith]at e;split at e
 ·rename_i a b h1 h2
  cases e;obtain⟨_,h3⟩:=RG.mp h1;rw[List.getElem_range]at h3;subst h3;exact⟨b,h2,rfl⟩
 ·cases e
theorem Jo{us:List T}{i:Nat}(e:(wA l us)[i]?=Zz t):∃t' u',l[i]?=Zz t'/\us[i]?=Zz u'/\t=.tup [t',u']:=by
 unfold wA at e;rw[List.getElem?_zipWith]at e;split at e
 ·cases e;exact⟨_,_,‹_›,‹_›,rfl⟩
 ·cases e
theorem On.next(hc:X.A.handled=Zy)(I:Fr X env cm m s)(q:On X cm m s.heap it fp i l)(tk0:yR fp tg)(e:l[i]?=Zz t)(k:∀u h tk,(∀b o,b∉fp->s.heap.get? b=Zz o->h.get? b=Zz o)->ExtK X.fs fp cm m s cm m { s with heap:=h,toks:=tk }->Fr X env cm m { s with heap:=h,toks:=tk }->On X cm m h it fp (i+1) l->RT X.D cm m h t u->Q u { s with heap:=h,toks:=tk }):
  RF X.M X.A (pyNext (.ref it)) (λr s1=>∃u,r=Zz u/\RF X.M X.A (Tb tg (.ref it) u) (λ_ s2=>Q u s2) J s1) J s:=by
 have fin:∀v h' tk,RT X.D cm m s.heap t v->(∃o c vs,h'.get? it=Zz o/\o.cls=.type c/\o.data=.fields vs/\["enumerate","zip","dict_itemiterator","dict_reverseitemiterator","odict_iterator","itertools.zip_longest","itertools.pairwise"].contains c=false)->(∀b o,b∉fp->s.heap.get? b=Zz o->h'.get? b=Zz o)->(ExtK X.fs fp cm m s cm m { s with heap:=h',toks:=tk }->Src X cm m h' it (i+1) l fp)->∃u,Zz v=Zz u/\RF X.M X.A (Tb tg (.ref it) u) (λ_ s2=>Q u s2) J { s with heap:=h',toks:=tk }:=λv h' tk r ⟨o,c,vs,e1,e2,e3,e4⟩ kk S=>by
  obtain⟨x,I',on⟩:=q.fin (tk:=tk) I kk S;exact⟨v,rfl,Kh (s:={ s with heap:=h',toks:=tk }) e1 e2 e3 e4 (k v h' tk kk x I' on (r.go x I.mem q.nq))⟩
 have hl:=(RG.mp e).1;have S:=q.src;have S0:=q.src;cases S with
 |lst hi hs =>
  obtain⟨y,hy,_,r⟩:=hs.now I.mem;obtain⟨v,e1,rv⟩:=r.get e;have hr:=r.1;simp only[RK]at hr;obtain⟨o,ho,_,c,d⟩:=id hy;refine(WN (prog:=X.prog) (w:=X.w) hc it _ (uf (.inl hi) ho d) y).item i s _ _ (by omega) ⟨hi,hy⟩ λv' h' tk hv st kk=>?_
  have hv:y[i]?=Zz v':=hv;rw[<-SN,e1]at hv;cases hv;exact fin v h' tk rv (let⟨o,e,c,d⟩:=st.1;⟨o,_,_,e,c,d,by decide⟩) kk λx=>.lst st.1 (hs.go x (λ_ _ h=>h) I.mem q.nq)
 |tup hi hp hf r =>
  obtain⟨v,e1,rv⟩:=r.get e;have hr:=r.1;simp only[RK]at hr;obtain⟨o,c,ho,_,d,_⟩:=id hp;refine(Wc (prog:=X.prog) (w:=X.w) hc it _ (uf (.inr hi) ho d) _).item i s _ _ (by omega) ⟨hi,hp.tup⟩ λv' h' tk hv st kk=>?_
  have hv:(_:Array R4)[i]?=Zz v':=hv;rw[<-SN,e1]at hv;cases hv;exact fin v h' tk rv (let⟨o,e,c,d⟩:=st.1;⟨o,_,_,e,c,d,by decide⟩) kk λx=>.tup st.1 (hp.go x q.nq (hp.nl I.mem) hf).1 hf (r.mp λ_ _ r=>r.go x I.mem q.nq)
 |@str c t' b hi el =>
  subst el;rw[Rv]at e;obtain⟨d,e1,rfl⟩:=RY.mp e;rw[R2]at hl;have rv:∀v,SignAt ⟨c.toArray⟩ i v->RT X.D cm m s.heap (.str [d]) v:=λv ⟨d',u,e2,ev⟩=>by
   have e2:c[i]?=Zz d':=by simpa using e2
   rw[e1]at e2;cases e2;rw[ev];exact .str _ _
  cases b with
  |true=>exact(Wg (prog:=X.prog) (w:=X.w) hc it ⟨c.toArray⟩ t').item i s _ _ (by simpa using hl) hi λv h' tk hv st kk=>fin v h' tk (rv v hv) (let⟨o,e,c,d⟩:=st;⟨o,_,_,e,c,d,by decide⟩) kk λx=>.str true st rfl
  |false=>exact(Ww (prog:=X.prog) (w:=X.w) hc it ⟨c.toArray⟩ t').item i s _ _ (by simpa using hl) hi λv h' tk hv st kk=>fin v h' tk (rv v hv) (let⟨o,e,c,d⟩:=st;⟨o,_,_,e,c,d,by decide⟩) kk λx=>.str false st rfl
 |@Gj lo n hi el =>
  subst el;obtain⟨h1,rfl⟩:=HK e;refine(XG (prog:=X.prog) (w:=X.w) hc it lo 1 n).item i s _ _ h1 hi λv h' tk hv st kk=>?_
  obtain⟨t,rfl⟩:=hv;exact fin _ h' tk (by rw[Int.mul_one];exact .int _ _) ⟨_,_,_,st,rfl,rfl,by decide⟩ kk λx=>.Gj st rfl
 |@Gk j a old ts n0 q1 hi hs el =>
  subst el;obtain⟨t',e1,rfl⟩:=GV e;obtain⟨y,hy,_,r⟩:=hs.now I.mem;obtain⟨u,hu,ru⟩:=r.get e1;rcases tk0 with z|⟨es,kk0,pos,rfl⟩
  ·cases z
  refine wpAny_pyNext_enum_item q1 hi hy (by rw[<-SN];exact hu) n0 λh' heo hit' ht hz kp=>⟨_,rfl,wpAny_letOwnedTupleGo_enum heo λh2 he2 sb=>?_⟩
  have fresh:s.heap.get? s.heap.objs.size=Zy:=gj _;have ne:∀b∈[it,j],b≠s.heap.objs.size:=λb hb z=>by
   obtain⟨o,e,_⟩:=q.pt b hb;rw[z,fresh]at e;cases e
  have kk:∀b o,b∉[it,j]->s.heap.get? b=Zz o->h2.get? b=Zz o:=λb o n e=>sb.extBut b o (λz=>n (by simp[z])) (kp b o (λz=>n (by simp[z])) (λz=>n (by simp[z])) e)
  have hT:=sb.extBut _ _ (ne it (by simp)).symm ht;obtain⟨x,I',on⟩:=q.fin (tk:=s.toks+1) I kk λx=>.Gk n0 he2 (hit'.extBut sb.extBut n0.symm) (hs.go x (λ_ _ h=>h) I.mem q.nq) rfl
  refine k _ h2 _ kk x I' on (.tup ⟨_,_,hT,rfl,rfl,rfl,by unfold Ri;simp⟩ (λhb=>?_) rfl (Al.cons (.int _ _) (.cons (ru.go x I.mem q.nq) .nil)).2);obtain⟨_,o,e,_⟩:=I.cN _ hb;rw[fresh]at e;cases e
 |@zip TI TO j j' a b y ts us A Sd p f r c el1 el =>
  subst el;obtain⟨t1,t2,e1,e2,rfl⟩:=Jo e;obtain⟨y2,hy2,_,r2⟩:=c.now I.mem;obtain⟨u,hu,ru⟩:=r.get e1;obtain⟨v,hv,rv⟩:=r2.get e2;rcases tk0 with z|⟨es,kk0,pos,rfl⟩
  ·cases z
  have hT:s.TypeIs (.ref it) "zip":=⟨_,Sd.zip,rfl⟩
  unfold pyNext;refine R0 (Tp (S8 hT VV (SQ VV hT F.entry_zip_next
   (CQ A Sd p.tup hy2 (by rw[<-SN];exact hu) (by rw[<-SN];exact hv) λg g' sz kp up z8 o8 k8 l8=>R3 ?_) (F.args_zip_next_1 _))))
  refine⟨_,rfl,wpAny_letOwnedTupleGo_zip z8 λh2 z9 e9=>?_⟩;have fresh:s.heap.get? s.heap.objs.size=Zy:=gj _;have ne:∀b∈[it,TI,TO,j,j'],b≠s.heap.objs.size:=λb hb z=>by
   obtain⟨o,e,_⟩:=q.pt b hb;rw[z,fresh]at e;cases e
  have kk:∀b o,b∉[it,TI,TO,j,j']->s.heap.get? b=Zz o->h2.get? b=Zz o:=λb o n e=>e9.extBut _ _ (λz=>n (by simp[z])) (up b o (λz=>n (by simp[z])) (R9 _ (kp b o (λz=>n (by simp[z])) (λz=>n (by simp[z])) (λz=>n (by simp[z])) (λz=>n (by simp[z])) e)))
  have hI:=e9.extBut _ _ A.TIz (up _ _ A.TIz (R9 _ (kp _ _ A.TIz A.TITO A.TIi1 A.TIi2 Sd.its)));have hT2:h2.get? s.heap.objs.size=Zz _:=e9.extBut _ _ (ne it (by simp)).symm (up _ _ (ne it (by simp)).symm (by rw[<-sz];exact RM _ rfl));obtain⟨x,I',on⟩:=q.fin (tk:=s.toks) I kk λx=>.zip A ⟨z9,hI,⟨_,_,e9.extBut _ _ A.TOz o8⟩,k8.extBut e9.extBut A.i1z,l8.extBut e9.extBut A.i2z⟩ (p.go x q.nq (p.nl I.mem) f).1 f (r.mp λ_ _ r=>r.go x I.mem q.nq) (c.go x (λ_ _ h=>h) I.mem q.nq) el1 rfl
  refine k _ h2 _ kk x I' on (.tup ⟨_,_,hT2,rfl,rfl,rfl,by unfold Ri;simp⟩ (λhb=>?_) rfl (Al.cons (ru.go x I.mem q.nq) (.cons (rv.go x I.mem q.nq) .nil)).2);obtain⟨_,o,e,_⟩:=I.cN _ hb;rw[fresh]at e;cases e
theorem On.done(hc:X.A.handled=Zy){R:RA->Prop}(I:Fr X env cm m s)(q:On X cm m s.heap it fp i l)(e:i=l.length)(k:∀h tk,(∀b o,b∉fp->s.heap.get? b=Zz o->h.get? b=Zz o)->ExtK X.fs fp cm m s cm m { s with heap:=h,toks:=tk }->Fr X env cm m { s with heap:=h,toks:=tk }->R { s with heap:=h,toks:=tk }):
  RF X.M X.A (pyNext (.ref it)) (λr s1=>r=Zy/\R s1) J s:=by
 have S:=q.src;have fin:∀{j} h' tk,fp=[j]->(∀b o,b∉[j]->s.heap.get? b=Zz o->h'.get? b=Zz o)->(Zy:Option R4)=Zy/\R { s with heap:=h',toks:=tk }:=λ{j} h' tk ef kk=>by
  subst ef;have p:=q.stp (tk:=tk) I kk λb hb f=>Y3 f (by have:=q.nf b hb;rw[Xz (by simp[isTup])]at this;exact this)
  exact⟨rfl,k h' tk kk p.1 p.2⟩
 cases S with
 |lst hi hs =>
  obtain⟨y,hy,_,r⟩:=hs.now I.mem;have hr:=r.1;simp only[RK]at hr;obtain⟨o,ho,_,c,d⟩:=id hy;exact(WN (prog:=X.prog) (w:=X.w) hc it _ (uf (.inl hi) ho d) y).done s _ _ ⟨by rw[<-hr,<-e];exact hi,hy⟩ λh tk=>fin h tk rfl
 |tup hi hp hf r =>
  have hr:=r.1;simp only[RK]at hr;obtain⟨o,c,ho,_,d,_⟩:=id hp;exact(Wc (prog:=X.prog) (w:=X.w) hc it _ (uf (.inr hi) ho d) _).done s _ _ ⟨by rw[<-hr,<-e];exact hi,hp.tup⟩ λh tk=>fin h tk rfl
 |@str c t' b hi el =>
  subst el;rw[R2]at e;have e:i=(⟨c.toArray⟩:Str).cps.size:=by simpa using e
  rw[e]at hi;cases b with
  |true=>exact(Wg (prog:=X.prog) (w:=X.w) hc it ⟨c.toArray⟩ t').done s _ _ hi λh tk=>fin h tk rfl
  |false=>exact(Ww (prog:=X.prog) (w:=X.w) hc it ⟨c.toArray⟩ t').done s _ _ hi λh tk=>fin h tk rfl
 |@Gj lo n hi el =>
  subst el;have e:i=n:=by rw[e];simp[rangeT]
  subst e;exact(XG (prog:=X.prog) (w:=X.w) hc it lo 1 i).done s _ _ hi λh tk=>fin h tk rfl
 |@Gk j a old ts n0 q1 hi hs el =>
  subst el;obtain⟨y,hy,_,r⟩:=hs.now I.mem;have hr:=r.1;simp only[RK]at hr;have e:i=ts.length:=by rw[e];simp[pG]
  refine wpAny_pyNext_enum_end hc q1 hi hy (by rw[UL];omega) λh' kp=>?_
  have kk:∀b o,b∉[it,j]->s.heap.get? b=Zz o->h'.get? b=Zz o:=λb o n=>kp b o λz=>n (by simp[z])
  have p:=q.stp (tk:=s.toks) I kk λb hb f=>Y3 f (by have:=q.nf b hb;rw[Xz (by simp[isTup])]at this;exact this)
  exact⟨rfl,k h' _ kk p.1 p.2⟩
 |@zip TI TO j j' a b y ts us A Sd p f r c el1 el =>
  subst el;have hr:=r.1;simp only[RK]at hr;have e:i=ts.length:=by rw[e];simp[wA,el1]
  have hT:s.TypeIs (.ref it) "zip":=⟨_,Sd.zip,rfl⟩
  unfold pyNext;refine R0 (Tp (S8 hT VV (SQ VV hT F.entry_zip_next
   (DY hc A Sd p.tup (by rw[UL];omega) λg e kp he=>?_) (F.args_zip_next_1 _))))
  obtain⟨o,ho,hce⟩:=he;refine R0 (WB ⟨o,ho,hce⟩ isSubtype_stop (R3 ⟨rfl,?_⟩));have kk:∀b o,b∉[it,TI,TO,j,j']->s.heap.get? b=Zz o->g.get? b=Zz o:=λb o n=>kp b o (λz=>n (by simp[z])) λz=>n (by simp[z])
  obtain⟨_,hI,⟨p1,p2,hO⟩,_⟩:=Sd;have p:=q.stp (tk:=s.toks) I kk λb hb f=>by
   have nf:=q.nf b hb;by_cases ht:isTup [it,TI,TO,j,j'] b=true
   ·simp only[isTup,Sm,beq_iff_eq]at ht
    rcases ht with rfl|rfl
    ·exact⟨_,_,_,kp _ _ A.TIz A.TIi1 hI,rfl⟩
    ·exact⟨_,_,_,kp _ _ A.TOz A.TOi1 hO,rfl⟩
   ·rw[Xz ht]at nf;exact Y3 f nf
  exact k g _ kk p.1 p.2
end
section
variable{X:Cx}{D:Dm}{env:Mi.Env}{cm cm' cm1:List RC}{m m' m0 m1 m2:Mem}{s s' s0 s1 s2:RA}{w u:W}{v z:R4}{ch:List RC}{J Q:VK}{h g:Rq}{t:T}{l ts:List T}{a it:RC}{n:Nat}{i:Nat}{tk:Nat}{tg:SJ}{α:Type}{r:Res α}{β:Type}{k:β->List RC->Mem->RA->Prop}
variable{call:Nat->List W->Mem->Res W}{gv:List T}{e c iter tgt:SJ}{es:List SJ}{E C:Mi.E}{L:Es}{pos p:Pos}{rest body:List S6}{K S:Mi.S}{G:Tg}
theorem aI.IR{f:α->Mem->Res β}(h:aI X ch cm m s (r.bind f) J k):aI X ch cm m s r J λa _ m' _=>aI X ch cm m s (f a m') J k:=by
 cases r with
 |ok a m2=>exact λ_ _ _ _=>h
 |exc a m2=>exact h
 |stuck=>exact h
theorem d9(I:Fr X env cm m s)(e:ba w m=.ok ts m'):bz X.fs ch cm m s cm m' s/\Fr X env cm m' s:=by
 cases w with
 |t t =>
  unfold ba at e;dsimp only at e;split at e<;>cases e;exact⟨.refl,I⟩
 |x _ _ _=>cases e
 |c i =>
  unfold ba at e;dsimp only at e;split at e<;>cases e;obtain⟨a,y,h1,p,_,r⟩:=I.mem.at' i _ ‹_›;have u:=λch=>I.mem.upd (s':=s) (ch:=ch) (q:=Zz (true,ts)) ‹_› h1 (λ_ _ _ e=>e) rfl rfl (λb l z=>by cases z;exact⟨y,p,r⟩) (λz=>nomatch z) I.mem.tab λz=>⟨_,rfl,rfl⟩
  exact⟨(u _).1,I.go (u []).1.toExtK (u []).2 λ_ z=>nomatch z⟩
theorem kK(M:bh X cm' m' s'.heap)(x:bz X.fs ch cm m s cm' m' s')(lt:∀(i:Nat) l,m1[i]?=Zz (Zz (true,l))->m'[i]?=Zz (Zz (true,l)))(e:ba w m=.ok ts m1):
  bz X.fs ch cm m s cm' (giveBack w m m') s'/\bh X cm' (giveBack w m m') s'.heap/\∀ch,ExtK X.fs ch cm' m' s' cm' (giveBack w m m') s':=by
 cases w with
 |t t=>exact⟨x,M,λ_=>bz.refl.toExtK⟩
 |x _ _ _=>cases e
 |c i =>
  unfold ba at e;dsimp only at e;split at e
  ·rename_i b us h
   cases e;have h':=lt i ts (Rr (RG.mp h).1);have eg:giveBack (.c i) m m'=m'.set i (Zz (b,ts)):=by unfold giveBack;dsimp only;rw[h]
   rw[eg];obtain⟨a,y,h1,p,_,r⟩:=M.at' i _ h';have u:=λch=>M.Kc (s':=s') (ch:=ch) (q:=Zz (b,ts)) h' h1 (λ_ _ _ e=>e) rfl rfl (λb l z=>by cases z;exact⟨y,p,r⟩) M.tab
   refine⟨.of x.thr (λj l e=>?_) (x.toExtK.trans (u _).1),(u []).2,λch=>(u ch).1⟩;by_cases hj:j=i
   ·subst hj
    rw[h]at e;cases e;exact Rr (RG.mp h').1
   ·rw[Rx (Tj hj)];exact x.lent j l e
  ·cases e
theorem Fr.rT(I:Fr X env cm m s)(z:a∈frs X.stack):s.heap.get? a≠Zy:=λhb=>by
 obtain⟨e,h1,h2⟩:=U1.mp z;obtain⟨_,L,h3,h4⟩:=I.ok.GS e h1;rw[h2]at h4;cases h4;obtain⟨_,o,g,_⟩:=I.cN a h3;rw[hb]at g;cases g
theorem Fr.IH{F fp:List RC}(I:Fr X env cm m s)(n:∀b∈fp,s.heap.get? b=Zy)(S:Src { X with fs:=F } cm m h it 0 l fp)(nf:∀b∈fp,if isTup fp b then b∈F else b∉F):On { X with fs:=F } cm m h it fp 0 l:=by
 have no:∀{b o},b∈fp->s.heap.get? b≠Zz o:=λhb z=>by rw[n _ hb]at z;cases z
 refine⟨S,λb hf=>?_,λb hf hb=>?_,λb hf=>?_⟩
 ·cases q:X.base.get? b with
  |none=>rfl
  |some o=>exact Y3 (I.bs _ _ q) (no hf)
 ·rcases R7.mp hb with rfl|hb
  ·obtain⟨f,⟨o,_,_,e,_⟩,_⟩:=I.loc
   exact no hf e
  ·rcases SP.mp hb with hb|hb
   ·obtain⟨o,e⟩:=I.ok.zw _ I.mem.tab _ hb
    exact no hf e
   ·obtain⟨y,_,hm⟩:=oV.mp hb
    obtain⟨v,o,e,_⟩:=I.cell y b hm;exact no hf e
 ·have q:=nf b hf
  by_cases ht:isTup fp b=true
  ·rw[Xy ht]at q ⊢;exact⟨q,λz=>I.rT z (n b hf)⟩
  ·rw[Xz ht]at q ⊢;exact q
variable(call gv) in
def PI(z:Bool)(X:Cx)(tgt iter:SJ)(E:Mi.E):Prop:=∀env cm m s,Fr X env cm m s->∀(α:Type) (f:W->List T->Mem->Mem->Res α) (k:α->List RC->Mem->RA->Prop) (Q:VK) (J:VK),aI X X.own cm m s ((ev call gv E env m).bind λw m1=>(ba w m1).bind λts m2=>f w ts m1 m2) J k ->
 (∀F fp w ts cm1 m1 m2 s1 it s2,(z=false->F=X.fs)->(∀b∈X.fs,b∈F)->(∀b∈F,b∈X.fs∨s1.heap.get? b=Zy)->bz X.fs X.tb cm m s cm1 m1 s1->Fr X env cm1 m1 s1->ba w m1=.ok ts m2->aI X X.own cm1 m1 s1 (f w ts m1 m2) J k->(∀ch,bz F ch cm1 m2 s1 cm1 m2 s2)->Fr { X with fs:=F } env cm1 m2 s2->On { X with fs:=F } cm1 m2 s2.heap it fp 0 ts->yR fp tgt->(∀b∈fp,s1.heap.get? b=Zy)->Q (.ref it) s2) ->
 RF X.M X.A (eval iter X.env) (λv s1=>RF X.M X.A (pyIter v) Q J s1) J s
variable(call gv) in
def Mh(X:Cx)(fp1:RC->List RC)(iter:SJ)(E:Mi.E):Prop:=∀env cm m s,Fr X env cm m s->∀(α:Type) (f:W->List T->Mem->Mem->Res α) (k:α->List RC->Mem->RA->Prop) (Q:VK) (J:VK),aI X X.own cm m s ((ev call gv E env m).bind λw m1=>(ba w m1).bind λts m2=>f w ts m1 m2) J k ->
 (∀w ts cm1 m1 m2 s1 it s2,bz X.fs X.tb cm m s cm1 m1 s1->Fr X env cm1 m1 s1->ba w m1=.ok ts m2->aI X X.own cm1 m1 s1 (f w ts m1 m2) J k->(∀ch,bz X.fs ch cm1 m2 s1 cm1 m2 s2)->Fr X env cm1 m2 s2->Src X cm1 m2 s2.heap it 0 ts (fp1 it)->(∀b∈fp1 it,s1.heap.get? b=Zy)->Q (.ref it) s2) ->
 RF X.M X.A (eval iter X.env) (λv s1=>RF X.M X.A (pyIter v) Q J s1) J s
theorem H7{z:Bool}{fp1:RC->List RC}(ok:∀it,yR (fp1 it) tgt)(nt:∀it b,isTup (fp1 it) b=false)(h:Mh call gv X fp1 iter E):PI call gv z X tgt iter E:=λenv cm m s I α f k Q J hp q=>h env cm m s I α f k Q J hp λw ts c1 m1 m2 s1 it s2 x1 I1 eb o xb I2 S n =>
 q X.fs (fp1 it) w ts c1 m1 m2 s1 it s2 (λ_=>rfl) (λ_ h=>h) (λ_ h=>.inl h) x1 I1 eb o xb I2 ((d9 (ch:=[]) I1 eb).2.IH n S λb hb=>by
  rw[Xz (by rw[nt];decide)];intro hf;obtain⟨_,o,e,_⟩:=I1.cN b hf;rw[n b hb]at e;cases e) (ok it) n
theorem Kr{z:Bool}(h:PE call gv X iter E):PI call gv z X tgt iter E:=H7 (fp1:=λit=>[it]) (λ_=>.inl rfl) (λ_ _=>rfl) λenv cm m s I α f k Q J hp q=>h.jB I hp λw v c1 m1 s1 I1 x1 r o=>by
 cases eb:ba w m1 with
 |stuck=>rw[eb]at o;exact o.elim
 |exc x m' =>
  exfalso;unfold ba at eb;split at eb<;>first|(cases eb;done)|(split at eb<;>cases eb)
 |ok ts m2 =>
  rw[eb]at o;obtain⟨_,Ib⟩:=d9 (ch:=[]) I1 eb;have fin:∀ob:Obj,Src X c1 m2 (s1.heap.push ob) s1.heap.objs.size 0 ts [s1.heap.objs.size]->Q (.ref s1.heap.objs.size) { s1 with heap:=s1.heap.push ob }:=λob S=>by
   have u:=λch=>Ib.up (g:=s1.heap.push ob) (t:=s1.toks) (d:=s1.drawn) (ch:=ch) push
   exact q w ts c1 m1 m2 s1 _ _ x1 I1 eb o (λch=>(u ch).1) (u []).2 S λb hb=>by rw[RN.mp hb];exact gj _
  have lst:∀a,SrcL X c1 m2 s1.heap a ts->v=.ref a->RF X.M X.A (pyIter v) Q J s1:=λa S e=>by
   subst e;obtain⟨x,hx,_,_⟩:=S.now Ib.mem;exact V1 hx (fin _ (.lst ⟨_,RM _ rfl,rfl,rfl⟩ (S.go (s':={ s1 with heap:=s1.heap.push _ }) (bz.kept (ch:=[]) (t:=s1.toks) (d:=s1.drawn) push).toExtK (λ_ _ h=>h) Ib.mem Nq.nil)))
  cases w with
  |x _ _ _=>cases eb
  |c i =>
   obtain⟨a,h1,rfl⟩:=r;unfold ba at eb;dsimp only at eb;split at eb<;>cases eb;exact lst a (.sZ (Rr (RG.mp ‹_›).1) h1) rfl
  |t t =>
   unfold ba at eb;cases t with
   |tup l =>
    cases eb;have tf:=r;obtain⟨a,x,rfl,p,r⟩:=RT.jQ r;have g:=λob=>(bz.kept (s:=s1) (cm:=c1) (m:=m1) (fs:=X.fs) (ch:=[]) (t:=s1.toks) (d:=s1.drawn) (push (o:=ob))).toExtK
    exact Vq p.tup (fin _ (.tup ⟨_,RM _ rfl,rfl,rfl⟩ (p.go (g _) Nq.nil (p.nl Ib.mem) (RT.tf tf)).1 (RT.tf tf) (r.mp λ_ _ r=>r.go (g _) Ib.mem Nq.nil)))
   |lst l =>
    cases eb;cases r with
    |lst p n q1 q2=>exact lst _ (.own n p ⟨q1,q2⟩) rfl
   |db l =>
    cases eb;cases r with
    |db _ p n f r=>exact lst _ (.db n p f ⟨by rw[R2];exact r.1,λi t v a b=>by
      rw[Rv]at a;obtain⟨c,a',rfl⟩:=RY.mp a;obtain⟨_,rfl⟩:=r.2 i c v a' b;exact .int _ _⟩) rfl
   |str cs =>
    unfold mi at eb;dsimp only at eb;split at eb
    ·rename_i ts e
     split at e<;>cases e;cases eb;obtain⟨t,rfl⟩:=RT.eX r;cases ha:(⟨cs.toArray⟩:Str).cps.all (·<128)
     ·exact wpAny_pyIter_wide ha (fin _ (.str false ⟨_,RM _ rfl,rfl,rfl⟩ rfl))
     ·exact wpAny_pyIter_ascii ha (fin _ (.str true ⟨_,RM _ rfl,rfl,rfl⟩ rfl))
    ·cases eb
   |_=>cases eb
theorem Ga(hc:X.calm=true)(hi:PI call gv false X tgt iter E)(hg:PG X tgt G)(hb:jD call gv X body S)(hk:jD call gv X rest K)(hs:∀x,UE iter X.env x=pure x:=by intro _;rfl):jD call gv X (.For tgt iter body [] pos::rest) (.sF G E S K):=λenv cm m s I R J j hp=>by
 rw[ex]at hp;have hd:=I.ok.hd hc;refine Ry (wpAny_For (hi env cm m s I _ (λw ts m1 m2=>(bF (λenv m=>ex call gv S env m) G ts env m2).bind λfl m=>match fl with|.next env=>ex call gv K env (giveBack w m1 m)|.ret w'=>.ok (.ret w') (giveBack w m1 m)) _ _ J hp λF fp w ts c1 m1 m2 s1 it s2 hz _ _ x1 I1 eb o xb I2 on tk fr=>?_) hs);obtain rfl:=hz rfl;have I2:Fr X env c1 m2 s2:=I2;have on:On X c1 m2 s2.heap it fp 0 ts:=on;have o:=o.IR;have xb:=(d9 (ch:=X.own) I1 eb).1.trans (xb _);refine codeAny_forLoop_any (λn s'=>∃i env' cm m,n=ts.length-i/\i<=ts.length/\bz X.fs X.own c1 m1 s1 cm m s'/\(∀(j:Nat) l,m2[j]?=Zz (Zz (true,l))->m[j]?=Zz (Zz (true,l)))/\Fr X env' cm m s'/\On X cm m s'.heap it fp i ts /\
  aI X X.own c1 m1 s1 (bF (λenv m=>ex call gv S env m) G (ts.drop i) env' m) J λfl _ m _=>aI X X.own c1 m1 s1 (match fl with|.next env=>ex call gv K env (giveBack w m1 m)|.ret w'=>.ok (.ret w') (giveBack w m1 m)) J (FQ X R)) ?_ ts.length ⟨0,env,c1,m2,rfl,Ut _,xb,λ_ _ h=>h,I2,on,o⟩
 rintro n s3 ⟨i,e3,c3,m3,rfl,hi,x3,l3,I3,on3,o3⟩;cases e:ts[i]? with
 |none =>
  have hi:i=ts.length:=by have:=List.getElem?_eq_none_iff.mp e;omega
  rw[List.drop_eq_nil_iff.mpr (by omega),bF]at o3;refine Tc j (ta (on3.done hd I3 hi (R:=λs4=>RF X.M X.A (execs rest X.env) R J s4) λh tk kk x I4=>?_) λr s4 ⟨hr,q⟩=>?_)
  ·have x4:=x3.past x fr kk
   obtain⟨xg,Mg,xk⟩:=kK I4.mem x4 l3 eb;exact hk _ _ _ _ (I4.go (xk []) Mg λ_ z=>nomatch z) R J j ((o3 c3 s3 x3 I3.mem).shift xg)
  ·subst hr
   exact Um q
 |some t =>
  have hlt:=(RG.mp e).1;have ed:ts.drop i=t::ts.drop (i+1):=by rw[Ua hlt,(RG.mp e).2]
  rw[ed,bF]at o3;split at o3
  ·exact o3.elim
  rename_i env' eb';refine Tc j (ta (on3.next (tg:=tgt) (Q:=λu s5=>Fr X e3 c3 m3 s5/\On X c3 m3 s5.heap it fp (i+1) ts/\RT X.D c3 m3 s5.heap t u/\bz X.fs X.own c1 m1 s1 c3 m3 s5) hd I3 tk e λu h tk kk x I4 on4 r4=>⟨I4,on4,r4,x3.past x fr kk⟩) λr s4 ⟨u,hr,h4⟩=>?_);subst hr;refine Tc j (ta h4 λ_ s5 ⟨I5,on5,r5,x5⟩=>?_);refine Tc j (hg _ _ _ _ I5 t u env' r5 eb' _ J λs6 x6 I6=>?_);have on6:=on5.go x6.toExtK x6.lent I5.mem I5.nq on5.no;refine Tc j (hb _ _ _ _ I6 _ J j ((o3.IR.shift (x5.trans x6)).mono λfl c7 m7 s7 x7 M7 q7=>?_));cases fl with
  |next e7=>exact λI7=>⟨ts.length-(i+1),by omega,i+1,e7,c7,m7,rfl,by omega,(x5.trans x6).trans x7,λj l h=>x7.lent j l (l3 j l h),I7,on6.go x7.toExtK x7.lent I6.mem I6.nq on5.no,q7⟩
  |ret w7 =>
   have x57:=(x5.trans x6).trans x7;obtain⟨xg,Mg,xk⟩:=kK M7 x57 (λj l h=>x7.lent j l (l3 j l h)) eb;exact λe8 I8 v rv=>(q7 c7 s7 x57 M7).to xg Mg e8 (I8.go (xk []) Mg λ_ z=>nomatch z) v (rv.go (xk []) M7 Nq.nil)
theorem AR(hc:PT call gv X c C)(hb:jD call gv X body S)(hk:jD call gv X rest K):jD call gv X (.While c body [] pos::rest) (.JI C S K):=λenv cm m s I R J j hp=>by
 rw[ex]at hp;refine Ry (wpAny_While (codeAny_whileLoop (λn s'=>∃env cm m,Fr X env cm m s'/\aI X X.own cm m s' (fc (λenv m=>(ev call gv C env m).bind bT) (λenv m=>ex call gv S env m) n env m) J λfl cm m s=>aI X X.own cm m s (match fl with|.next env=>ex call gv K env m|fl=>.ok fl m) J (FQ X R)) ?_ turns ⟨env,cm,m,I,hp.bind⟩));rintro n s3 ⟨e3,c3,m3,I3,o3⟩;cases n with
 |zero=>exact o3.elim
 |succ n =>
  rw[fc]at o3;refine Tc j (hc.jB I3 o3 λb c4 m4 s4 I4 x4 o4=>?_);cases b with
  |false =>
   rw[Xz S4];exact Um (hk _ _ _ _ I4 R J j (o4.now I4.mem))
  |true =>
   rw[Xy rfl];refine Tc j (hb _ _ _ _ I4 _ J j (o4.bind.mono λfl c5 m5 s5 x5 M5 o5=>?_));cases fl with
   |next e5=>exact λI5=>⟨n,by omega,e5,c5,m5,I5,o5⟩
   |ret w=>exact λe6 I6 v rv=>(o5.now M5).now M5 e6 I6 v rv
end
noncomputable def Lo:Ty->String
 |.int=>"int"
 |.bool=>"bool"
 |.str=>"str"
 |.tuple=>"tuple"
 |.list=>"list"
 |.dict=>"dict"
noncomputable def L4:T->String
 |.non=>"NoneType"
 |.bl _=>"bool"
 |.int _=>"int"
 |.str _=>"str"
 |.tup _=>"tuple"
 |.lst _=>"list"
 |.dct _ _=>"dict"
 |.db _=>"list"
section
variable{K:V9}
theorem GH(t:T)(ty:Ty):kitOne K (.type (L4 t)) (.type (Lo ty))=Zz (cz t ty):=by cases t<;>cases ty<;>rfl
end
section
variable{X:Cx}{D:Dm}{env:Mi.Env}{cm:List RC}{m:Mem}{s:RA}{w u:W}{v z:R4}{J Q:VK}{t:T}{α:Type}{k:α->List RC->Mem->RA->Prop}
variable{call:Nat->List W->Mem->Res W}{gv:List T}{a e:SJ}{es:List SJ}{E:Mi.E}{L:Es}{pos p p2:Pos}{N:Str}{ty:Mi.Ty}
theorem PA.jB{f:List W->Mem->Res α}{Q:List R4->RA->Prop}(h:PA call gv X es L)(I:Fr X env cm m s)(hp:aI X X.own cm m s ((evs call gv L env m).bind f) J k)(q:∀w v cm1 m1 s1,Fr X env cm1 m1 s1->bz X.fs X.tb cm m s cm1 m1 s1->wz X.D cm1 m1 s1.heap w v->aI X X.own cm1 m1 s1 (f w m1) J k->Q v s1):RF X.M X.A (Xg (backTo p (Tk es X.env))) Q J s:=
 h p env cm m s I Q J ((hp.bind.mono λw c1 m1 s1 x M o=>o).sub cy |>.mono λw c1 m1 s1 x M o v r=>q w v c1 m1 s1 (I.go x M I.nc) x r o)
theorem FV{lo hi:Int}{t u x:Tok}{n:Nat}(I:Fr X env cm m s)(h1:-(2^62)<=lo)(h2:lo<2^62)(h3:-(2^62)<=hi)(h4:hi<2^62)(q:∀it s2,(∀ch,bz X.fs ch cm m s cm m s2)->Fr X env cm m s2->Src X cm m s2.heap it 0 (rangeT lo (hi-lo).toNat) [it]->(∀b∈[it],s.heap.get? b=Zy)->Q (.ref it) s2):RF X.M X.A (pyIter (.ref s.heap.objs.size)) Q J { s with heap:=s.heap.push { cls:=.type "range",data:=.fields #[.int lo t,.int hi u,.int 1 x] },toks:=n }:=by
 refine wpAny_pyIter_range (IsRange.new ..) (small_one h1 h2 h3 h4) ?_;have u:=λch=>I.up (g:=(s.heap.push { cls:=.type "range",data:=.fields #[.int lo t,.int hi u,.int 1 x] }).push { cls:=.type "range_iterator",data:=.fields #[rawInt lo,rawInt (Builtin.Range.rangeSize lo hi 1),rawInt 1] }) (t:=n) (d:=s.drawn) (ch:=ch) λb o e=>push _ _ (push _ _ e)
 refine q _ _ (λch=>(u ch).1) (u []).2 (.Gj (lo:=lo) (n:=(hi-lo).toNat) ?_ rfl) λb hb=>by rw[RN.mp hb];exact Rt (by simp[Heap.push])
 ·have e1:lo+((0:Nat):Int)*1=lo:=by simp
  have e2:(((hi-lo).toNat:Nat):Int)-((0:Nat):Int)=Builtin.Range.rangeSize lo hi 1:=by rw[rangeSize_one];split<;>omega
  rw[e1,e2];exact RM _ rfl
theorem AI{zz:Bool}{tg:SJ}(hg:Gl X "range")(hm:X.mg "range" = Zy)(ha:PA call gv X [a] L)(hs:notStar a=true:=by rfl):PI call gv zz X tg (.Call (.Name "range" p) [a] [] pos) (.blt .di L):=H7 (fp1:=λit=>[it]) (λ_=>.inl rfl) (λ_ _=>rfl) λenv cm m s I α f k Q J hp q=>by
 rw[ev,bL]at hp;refine Call_ (eh I hg hm boot_range (SM (ha.jB I hp λws us c1 m1 s1 I1 x1 r o=>?_) (bZ hs) rfl));obtain⟨t,e0,o2⟩:=qE o;obtain⟨l,e1,e2⟩:=RE.mp e0;obtain⟨b,rfl,e3⟩:=pn e2;obtain⟨w,rfl,e4⟩:=dZ e1;obtain⟨v,rfl,r1⟩:=g9 r;cases b with
 |int i =>
  obtain⟨hc,e5⟩:=RB.mp (show(if i<2^62/\-(2^62)<=i then Zz (T.lst (rangeT 0 i.toNat))else Zy)=Zz t from e3);cases e5;obtain⟨_,rfl⟩:=(aw r1 e4).dO;exact call_range_1 (FV I1 (by omega) (by omega) hc.2 hc.1 λit s2 x2 I2 on n=>q _ _ c1 m1 m1 s1 it s2 x1 I1 rfl o2 x2 I2 (by rw[Int.sub_zero]at on;exact on) n)
 |_=>cases e3
theorem Io{E:VK}(I:Fr X env cm m s)(r:RW X.D cm m s.heap w v)(ew:view w m=Zz t)(h:∀tk,Q (.bool (cz t ty)) { s with toks:=tk }):RF X.M X.A (T7 (.builtin "isinstance") [v,.type (Lo ty)]) Q E s:=by
 have k:=GH (K:=X.K) t ty;have lst:∀{a:RC}{x:Array R4},Xh s.heap a x->L4 t = "list"->RF X.M X.A (T7 (.builtin "isinstance") [.ref a,.type (Lo ty)]) Q E s:=λp et=>by
  obtain⟨o,n,e,c,_⟩:=p;rw[et]at k;exact W3 PySem.W.kitx_list I.jq ⟨o,e,c⟩ k (λz=>nomatch z) h
 cases t with
 |non=>cases aw r ew;exact W3 PySem.W.kitx_none I.jq Uq k (λz=>nomatch z) h
 |bl b=>cases aw r ew;exact W3 PySem.W.kitx_bool I.jq Uq k (λz=>nomatch z) h
 |int i=>cases aw r ew;exact W3 PySem.W.kitx_int I.jq Uq k (λz=>nomatch z) h
 |str c=>cases aw r ew;exact W3 PySem.W.kitx_str I.jq Uq k (λz=>nomatch z) h
 |tup l =>
  obtain⟨a,x,rfl,⟨o,n,e,c,_⟩,_⟩:=(aw r ew).jQ;exact W3 PySem.W.kitx_tuple I.jq ⟨o,e,c⟩ k (λz=>nomatch z) h
 |lst l =>
  obtain⟨a,x,rfl,p,_⟩:=aY I.mem r ew;exact lst p.pl rfl
 |db l=>cases aw r ew with|db l p n _ q=>exact lst p.pl rfl
 |dct ks l =>
  cases aw r ew with
  |dct p _ _ _ _ =>
   obtain⟨_,_,⟨o,es,ep,h1,h2,_⟩,_⟩:=p;exact W3 PySem.W.kitx_dict I.jq ⟨o,h1,h2.1⟩ k (λz=>nomatch z) h
theorem Ha(r:PE call gv X a E)(o:Gl X "isinstance")(n:X.mg "isinstance" = Zy)(c:Gl X N)(b:X.mg N=Zy)(k:Ti N=Zz (.type (Lo ty)))(l:N≠"__name__":=by decide)(q:(N==("__debug__" : Str))=false:=by decide)(f:notStar a=true:=by rfl):
  PE call gv X (.Call (.Name "isinstance" p) [a,.Name N p2] [] pos) (.uV E ty):=λenv cm m s I Q J h=>by
 rw[ev]at h;refine Sl (eh (u:=.builtin "isinstance") I o n (by decide +kernel) (TA ?_ (bZ f) (ik rfl)));rw[bZ f,bZ (e:=.Name N p2) rfl];refine T9 (r.one I h λw v c1 m1 s1 I1 x1 r1 h=>T9 (eh I1 c b k (UD ?_) l q));obtain⟨t,e,h⟩:=gf h;obtain⟨x,e1,rfl⟩:=RY.mp e;exact Io I1 r1 e1 λtk=>I1.val h (.bl _)
end
def KG(i:SJ):Prop:=∀ov iv,W1 i false ov iv=Xi [ov,iv] (Vg ov iv)
section
variable{f:List L2.Key->List T->Option T}{t:T}{o:Option T}
theorem HS{prog:Sf}{w:TB}{A:Sb}{E:R4->RA->Prop}{s:RA}{env:Sn}{value slice:SJ}{pos:Pos}{T id:String}{Q:R4->RA->Prop}(hl:WO (.type T) "__getitem__" = pure (Zz (.builtin id)))(hs:KG slice)(h:RF (Rp prog w) A (eval value env) (λo s₁=>RF (Rp prog w) A (eval slice env) (λi s₂=>s₂.TypeIs o T/\RF (Rp prog w) A (Vg o i) Q E s₂) E s₁) E s):
  RF (Rp prog w) A (eval (.Subscript value slice pos) env) Q E s:=by
 refine XQ (TT h (λo s₁ h₁=>TT h₁ (λi s₂ h₂=>?_) λ_ _ x=>x) λ_ _ x=>x);obtain⟨hT,h₂⟩:=h₂;unfold W8;refine R0 ?_;rw[getitemInPython_of_ne hT.not_modules];refine R0 (wpAny_specialOf hT hl ?_);have fin:RF (Rp prog w) A (W1 slice false o i) (λr s₃=>RF (Rp prog w) A (letTemporaryGo value o r >>= λ_=>pure r) Q E s₃) E s₂:=by
  rw[hs o i];exact wpAny_operating (TT h₂ (λr s₃ h₃=>R0 (wpAny_letTemporaryGo (R3 h₃))) λ_ _ x=>x)
 first
  |exact R3 (R0 fin)
  |exact R0 (R3 (R0 fin))
  |exact R0 fin
theorem tT(h:vo o f=Zz t):∃ks ts,o=Zz (.dct ks ts)/\f ks ts=Zz t:=by
 unfold vo at h;split at h
 ·exact⟨_,_,rfl,h⟩
 ·cases h
end
def fF(K:V9)(us:List R4)(ts:List T):Prop:=∀X:Cx,X.K=K->∀cm m h,bh X cm m h->K.In h->(∀b∈X.fs,K.lookup b=Zy)->jx X.D cm m h ts us
inductive uN (B:Bs) (x:Str) (ks:List L2.Key) (ts:List T):Prop where
 |mk (a:RC) (us:List R4) (_:B.mg x=Zz (.ref a)) (_:∀h:Rq,B.K.In h->h.DictOf (L2.c9 B.prog B.w) a (ks.zip us)) (_:(a==WQ)=false) (_:ks.length=us.length) (_:fF B.K us ts)
section
variable{X:Cx}{D:Dm}{env:Mi.Env}{cm:List RC}{m m':Mem}{s:RA}{h:Rq}{w:W}{v u:R4}{J Q:VK}{t:T}{α:Type}{ks:List L2.Key}{ts:List T}{kk:L2.Key}{f:List L2.Key->List T->L2.Key->Option T}
variable{call:Nat->List W->Mem->Res W}{gv:List T}{a b e:SJ}{es:List SJ}{E:Mi.E}{L:Es}{pos p p2 cpos apos:Pos}{N:Str}{k:Nat}{neg:Bool}
theorem qC{R:T->R4->Prop}:∀{ks:List L2.Key}{ts:List T}{us:List R4}(_:Al R ts us) (k:L2.Key),(∃t u,bR ks ts k=Zz t/\W4 (ks.zip us) k=Zz u/\R t u)∨(bR ks ts k=Zy/\W4 (ks.zip us) k=Zy)
 |[],_,_,_,k=>.inr ⟨by simp[bR],by simp[W4]⟩
 |_::_,[],us,q,k=>by obtain rfl:=RP.mp q.1.symm;exact .inr ⟨by simp[bR],by simp[W4]⟩
 |b::ks,t::ts,_,q,k=>by
  obtain⟨v,us,rfl,r,q⟩:=q.inv;by_cases h:b=k
  ·subst h
   exact .inl ⟨t,v,by simp[bR],by simp[W4],r⟩
  ·rw[show bR (b::ks) (t::ts) k=bR ks ts k by simp[bR,List.find?_cons,h],show W4 ((b::ks).zip (v::us)) k=W4 (ks.zip us) k by simp[W4,List.find?_cons,h]]
   exact qC q k
theorem key_is{P:Sf}{W:TB}(r:RW D cm m h w v)(e:view w m=Zz t)(a:pZ t=Zz kk):(L2.c9 P W).is kk v=true:=by
 unfold pZ at a;split at a<;>cases a
 ·obtain⟨_,rfl⟩:=(aw r e).dO;exact L2.yy P W _ _
 ·obtain⟨_,rfl⟩:=(aw r e).eX;exact L2.yw P W _ _
theorem AY{F:T->List L2.Key->List T->Option T}(hk:gv[k]?=Zz (.dct ks ts))(h:aI X X.tb cm m s (bX ((view w m).bind λx=>vo gv[k]? (F x)) m) J (WK X Q)):∃x t,view w m=Zz x/\F x ks ts=Zz t/\aI X X.tb cm m s (.ok (.t t) m) J (WK X Q):=by
 obtain⟨t,e,h⟩:=gf h;obtain⟨x,e1,e2⟩:=RE.mp e;obtain⟨ks',ts',e3,e4⟩:=tT e2;rw[hk]at e3;cases e3;exact⟨x,t,e1,e4,h⟩
theorem GA(hg:Gl X N)(hk:gv[k]?=Zz (.dct ks ts))(ok:uN X.toBs N ks ts)(hb:PE call gv X b E)(hs:KG b)(hd:(N==("__debug__" : Str))=false):PE call gv X (.Subscript (.Name N p) b pos) (.Kk k E):=λenv cm m s I Q J h=>by
 obtain⟨a,us,h1,h2,h3,h4,h5⟩:=ok;rw[ev]at h;refine HS PySem.F.slot_dict_getitem.lookup hs (gI I hg h1 (hb.one I h λw v c1 m1 s1 I1 x1 r h=>?_) hd);have dd:=h2 _ I1.jq;obtain⟨x,t,e1,e2,h⟩:=AY hk h;obtain⟨kk,e3,e4⟩:=RE.mp e2;rcases qC (ks:=ks) (h5 X rfl c1 m1 _ I1.mem I1.jq I1.Ln) kk with⟨t',u,f1,f2,f3⟩|⟨f1,_⟩
 ·rw[e4]at f1;cases f1
  exact⟨dd.typeIs,wpAny_getItem_of (key_is r e1 e3) dd.mapOf f2 (h.to (I1.up (g:=s1.heap) (d:=s1.drawn) λ_ _ e=>e).1 (I1.up (ch:=[]) (g:=s1.heap) (t:=s1.toks+1) (d:=s1.drawn) λ_ _ e=>e).2.mem _ f3)⟩
 ·rw[e4]at f1;cases f1
noncomputable def IS(neg:Bool):Xp:=if neg then .NotIn else .In
theorem HG(hg:Gl X N)(hk:gv[k]?=Zz (.dct ks ts))(ok:uN X.toBs N ks ts)(hb:PE call gv X b E)(hd:(N==("__debug__" : Str))=false)(hm:Wq (IS neg) (.Name N p)=false):PT call gv X (.Compare b [IS neg] [.Name N p] pos) (.Li k neg E):=λenv cm m s I B J h=>by
 obtain⟨a,us,h1,h2,h3,h4,h5⟩:=ok;have h:=h.Ls λw m' e=>by
  rw[ev]at e;obtain⟨x,c,_,e⟩:=aV e;unfold bX at e;split at e<;>cases e;rename_i e;obtain⟨y,_,e⟩:=RE.mp e;obtain⟨_,_,_,e⟩:=tT e;obtain⟨_,_,rfl⟩:=RY.mp e;exact⟨_,rfl⟩
 rw[ev]at h;refine wpAny_isTrue_Compare1 (hb.one I h λw v c1 m1 s1 I1 x1 r h=>gI I1 hg h1 ?_ hd) hm;have dd:=h2 _ I1.jq;obtain⟨x,t,e1,e2,h⟩:=AY hk h;obtain⟨kk,e3,rfl⟩:=RY.mp e2;have hv:(W4 (ks.zip us) kk).isSome=(bR ks ts kk).isSome:=by
  rcases qC (ks:=ks) (h5 X rfl c1 m1 _ I1.mem I1.jq I1.Ln) kk with⟨t',u,f1,f2,_⟩|⟨f1,f2⟩<;>rw[f1,f2]<;>rfl
 cases neg with
 |true=>exact wpAny_notIn_of (key_is r e1 e3) h3 dd.mapOf (by rw[hv];exact I1.val h (.bl _))
 |false=>exact wpAny_in_of (key_is r e1 e3) h3 dd.mapOf (by rw[hv];exact I1.val h (.bl _))
theorem Gw(hg:Gl X N)(hk:gv[k]?=Zz (.dct ks ts))(ok:uN X.toBs N ks ts)(ha:PE call gv X b E)(hd:(N==("__debug__" : Str))=false)(hbase:Sa (.Name N p) "get" X.env (eval (.Name N p) X.env)=eval (.Name N p) X.env:=by rfl)(hline:(apos.endLine==cpos.line)=true:=by rfl)(hs:notStar b=true:=by rfl):PE call gv X (.Call (.Attribute (.Name N p) "get" apos) [b] [] cpos) (.Lp k E):=λenv cm m s I Q J h=>by
 obtain⟨a,us,h1,h2,h3,h4,h5⟩:=ok;rw[ev]at h;have dd:=h2 _ I.jq;obtain⟨o,_,_,e,ex,_⟩:=id dd;refine wpAny_Call_method_late hbase (uS hs) hline rfl (gI I hg h1 ⟨"dict","dict.get",PySem.F.plainAttrs_dict,PySem.F.slot_dict_get,PySem.F.type_dict_get,dd.typeIs,λa' e2=>by cases e2;exact⟨o,e,ex.2.1⟩,?_⟩ hd);rw[bZ hs];refine Calls.callWith_builtin rfl (Calls.evalArgs_plain ?_);refine T9 (ha.one I h λw v c1 m1 s1 I1 x1 r h=>UD ?_);have dd:=h2 _ I1.jq;obtain⟨x,t,e1,e2,h⟩:=AY hk h;obtain⟨kk,e3,rfl⟩:=RY.mp e2;refine call_meetsIn PySem.F.slot_dict_get dd.typeIs PySem.F.entry_dict_get (PySem.F.args_dict_get_2 _ _) (meets_dict_get (L2.c9 X.prog X.w) a (key_is r e1 e3) h3) ⟨_,dd.mapOf,?_⟩;have fin:∀u,RT X.D c1 m1 s1.heap ((bR ks ts kk).getD .non) u->Q u { s1 with toks:=s1.toks+1 }:=λu r=>I1.val h r
 rcases qC (ks:=ks) (h5 X rfl c1 m1 _ I1.mem I1.jq I1.Ln) kk with⟨t',u,f1,f2,f3⟩|⟨f1,f2⟩
 ·rw[f1]at fin;rw[f2];exact fin _ f3
 ·rw[f1]at fin;rw[f2];exact fin _ .non
end
section
variable{X:Cx}{D:Dm}{env:Mi.Env}{cm:List RC}{m:Mem}{s:RA}{w u:W}{v z:R4}{J Q:VK}{t:T}{l:List T}{α:Type}{k:α->List RC->Mem->RA->Prop}
variable{call:Nat->List W->Mem->Res W}{gv:List T}{a b e:SJ}{es:List SJ}{E F:Mi.E}{L:Es}{pos p p2:Pos}{N:Str}
theorem H3(env:Mi.Env)(m:Mem):evs call gv (.cons E .nil) env m=(ev call gv E env m).bind λw m=>.ok [w] m:=by
 rw[evs];cases ev call gv E env m with
 |ok w f=>simp only[Res.bind,evs]
 |_=>rfl
theorem DX(hg:Gl X "list")(hm:X.mg "list" = Zy)(ha:PA call gv X [e] (.cons E .nil))(he:notStar e=true):PE call gv X (.Call (.Name "list" p) [e] [] pos) (.zk E):=λenv cm m s I Q J h=>by
 rw[ev]at h;have h:aI X X.tb cm m s ((evs call gv (.cons E .nil) env m).bind λws m=>match ws with|[w]=>EU w m|_=>.stuck) J (WK X Q):=by rw[H3,bL];exact h
 refine Sl (eh (u:=.type "list") I hg hm (by decide +kernel) (SM (ha.one I h λws us c1 m1 s1 I1 x1 r h=>?_) (bZ he) (ik rfl)));split at h
 rotate_left
 ·exact h.elim
 rename_i w;obtain⟨v,rfl,r1⟩:=g9 r;have fin:∀{l:List T}{x:Array R4}{h':Rq}{c':Nat},aI X X.tb c1 m1 s1 (.ok (.c m1.length) (m1++[Zz (false,l)])) J (WK X Q)->jx X.D c1 m1 s1.heap l x.toList->x.size<=Ri->(∀b o',s1.heap.get? b=Zz o'->h'.get? b=Zz o')->h'.get? s1.heap.objs.size=Zz { cls:=.type "list",data:=.seq x c' }->Q (.ref s1.heap.objs.size) { s1 with heap:=h' }:=λq k z kp e =>
  I1.sZ (n:=s1.toks) (d:=s1.drawn) q k kp (gj _) ⟨⟨_,by simpa using e⟩,λhb=>by obtain⟨_,o,ho,_⟩:=I1.cN _ hb;exact SI _ (Rj ho),by simpa using z⟩
 unfold EU at h;split at h
 ·obtain⟨a,x,rfl,p,k⟩:=aY I1.mem r1 ‹_›
  obtain⟨⟨n,e1⟩,_,z⟩:=p;exact W6 a (.inl rfl) e1 rfl rfl (λh' c' kp e=>fin h k z kp e) z
 ·obtain⟨a,x,rfl,p,k⟩:=(aw r1 ‹_›).jQ
  obtain⟨o,n,e1,c,d,_,z⟩:=p;exact W6 a (.inr rfl) e1 c d (λh' c' kp e=>fin h k z kp e) z
 ·exact h.elim
theorem E6(ha:PE call gv X a E)(hb:PE call gv X b F):PE call gv X (.BinOp a .Add b pos) (.JV E F):=λenv cm m s I Q J h=>by
 rw[ev]at h;refine wpAny_BinOp (ha.two hb I h λw u v z c1 m1 s1 I x r1 r2 h=>?_);unfold JB at h;split at h
 ·rename_i e
  obtain⟨x,e1,e⟩:=RE.mp e;obtain⟨y,e2,e⟩:=RE.mp e;unfold B7 at e;split at e
  ·cases e
  ·split at e<;>cases e
  ·split at e<;>cases e
  ·split at e<;>cases e
   obtain⟨a,x,rfl,p1,q1⟩:=aY I.mem r1 e1;obtain⟨b,y,rfl,p2,q2⟩:=aY I.mem r2 e2;have l1:=q1.1;have l2:=q2.1;obtain⟨⟨_,e1⟩,_⟩:=id p1;obtain⟨⟨_,e2⟩,_⟩:=id p2;have hz:=line;have z:x.size+y.size<=Ri:=by simp at l1 l2;omega
   exact PySem.P.add_list e1 e2 (I.sZ (y:=x.toList++y.toList) h (q1.app q2) push (gj _) (by rw[lH];exact .new I (by simpa using z))) z
  ·cases e
 ·exact h.elim
theorem AW{zz:Bool}{tg:SJ}(hg:Gl X "range")(hm:X.mg "range" = Zy)(ha:PA call gv X [a,b] L)(hs:notStar a=true:=by rfl)(hs2:notStar b=true:=by rfl):PI call gv zz X tg (.Call (.Name "range" p) [a,b] [] pos) (.blt .md L):=H7 (fp1:=λit=>[it]) (λ_=>.inl rfl) (λ_ _=>rfl) λenv cm m s I α f k Q J hp q=>by
 rw[ev,bL]at hp;refine Call_ (eh I hg hm boot_range (SM (ha.jB I hp λws us c1 m1 s1 I1 x1 r o=>?_) (bZ hs) (ik (by rw[TD,hs2];rfl))));obtain⟨t,e0,o2⟩:=qE o;obtain⟨l,e1,e2⟩:=RE.mp e0;obtain⟨i,j,rfl,e3⟩:=uc e2;obtain⟨hc,e5⟩:=RB.mp e3;cases e5;obtain⟨w1,ws,rfl,v1,e1⟩:=dq e1;obtain⟨w2,ws,rfl,v2,e1⟩:=dq e1;obtain rfl:=kZ e1;obtain⟨v,y,rfl,r1,r⟩:=r.inv;obtain⟨z,y,rfl,r2,r⟩:=r.inv;obtain rfl:=RP.mp r.1.symm;obtain⟨_,rfl⟩:=(aw r1 v1).dO;obtain⟨_,rfl⟩:=(aw r2 v2).dO;exact call_range_2 (FV I1 hc.1.2 hc.1.1 hc.2.2 hc.2.1 λit s2 x2 I2 on n=>q _ _ c1 m1 m1 s1 it s2 x1 I1 rfl o2 x2 I2 on n)
end
end Mi
namespace Mi
open PySem PySem.Spec PyProof.Rows PySem.Builtin PySem.Builtin.Str PySem.StrLaws
theorem wZ:∀(l:List Nat) (st:Array Nat×Nat),k<=st.fst.size->(forIn l st (occBody x y hi k)).run.fst=st.fst
 |[],_,_=>rfl
 |a::l,st,h=>by
  rw[Ss];unfold occBody;rw[Xz (λz=>WV.mpr h z.1.1.1)];exact wZ l _ h
theorem sD:∀(l:List Nat) (st:Array Nat×Nat),k<=st.fst.size->(forIn l st (occBody x y hi L)).run.fst.toList.take k=st.fst.toList.take k
 |[],_,_=>rfl
 |a::l,st,h=>by
  rw[Ss];unfold occBody;split
  ·refine(sD l _ (Rn h (by simp))).trans ?_
   rw[V0];exact List.take_append_of_le_length h
  ·exact sD l _ h
theorem vg(hk:k<=L):∀(l:List Nat) (st:Array Nat×Nat),st.fst.size<=k->(forIn l st (occBody x y hi k)).run.fst.toList=(forIn l st (occBody x y hi L)).run.fst.toList.take k
 |[],st,h=>(Sy h).symm
 |a::l,st,h=>by
  by_cases e:st.fst.size=k
  ·rw[wZ (a::l) st (X9 e.symm),sD (a::l) st (X9 e.symm)]
   exact(Sy h).symm
  ·have hl:st.fst.size<k:=Nat.lt_of_le_of_ne h e
   rw[Ss,Ss];by_cases c:((st.fst.size<k/\st.snd<=a)/\a+y.length<=hi)/\subAt x y a=true
   ·rw[show occBody x y hi k a st=_ from Xy c,show occBody x y hi L a st=_ from Xy ⟨⟨⟨T8 hl hk,c.1.1.2⟩,c.1.2⟩,c.2⟩]
    exact vg hk l _ (by rw[Array.size_push];exact hl)
   ·rw[show occBody x y hi k a st=_ from Xz c,show occBody x y hi L a st=_ from Xz λz=>c ⟨⟨⟨hl,z.1.1.2⟩,z.1.2⟩,z.2⟩]
    exact vg hk l _ h
theorem uy:∀(k:Nat) (cuts:List Nat) (a f:Nat),ChainTo x y x.length a cuts f ->
  partsFrom x y.length a (cuts.take k)=if(partsFrom x y.length a cuts).length<=k then partsFrom x y.length a cuts else(partsFrom x y.length a cuts).take k++[X7 y ((partsFrom x y.length a cuts).drop k)]
 |0,cuts,a,f,h=>by
  obtain⟨p,q,e⟩:=partsFrom_ne x y.length a cuts;rw[Xz (by rw[e];simp)];show[strSub x a x.length]=[X7 y _]
  rw[<-join_partsFrom x y cuts a f h];rfl
 |k+1,[],a,f,h=>by rw[List.take_nil,Xy (by show 1<=k+1;omega)]
 |k+1,c::r,a,f,h=>by
  have ih:=uy k r (c+y.length) f h.2.2;show strSub x a c::partsFrom x y.length (c+y.length) (r.take k)=_;rw[ih];show _=if(partsFrom x y.length (c+y.length) r).length+1<=k+1 then _ else _
  split
  ·rw[Xy (by omega)];rfl
  ·rw[Xz (by omega)];rfl
theorem yr(c:Nat)(cs:List Nat)(k:Nat)(h1:1<=k)(h2:k<=cs.length):Vh ⟨cs.toArray⟩ ⟨#[c]⟩ (k:Int)=(jb c k cs).map λw=>(⟨w.toArray⟩:Str):=by
 have hx:(⟨cs.toArray⟩:Str).length=cs.length:=by show cs.toArray.size=_;simp
 have e:=xJ c cs;have key:Vh ⟨cs.toArray⟩ ⟨#[c]⟩ (k:Int)=if(VG ⟨cs.toArray⟩ ⟨#[c]⟩).length<=k then VG ⟨cs.toArray⟩ ⟨#[c]⟩else(VG ⟨cs.toArray⟩ ⟨#[c]⟩).take k++[X7 ⟨#[c]⟩ ((VG ⟨cs.toArray⟩ ⟨#[c]⟩).drop k)]:=by
  have hlim:Wm ⟨cs.toArray⟩ (k:Int)=k:=by unfold Wm;rw[Xz (by omega)];rfl
  have ho:occurrences ⟨cs.toArray⟩ ⟨#[c]⟩ 0 (Se ⟨cs.toArray⟩) k=(occurrences ⟨cs.toArray⟩ ⟨#[c]⟩ 0 (Se ⟨cs.toArray⟩) (Se ⟨cs.toArray⟩+1)).take k:=by
   rw[occ_eq,occ_eq];exact vg (by omega) _ _ (Ut _)
  unfold Vh VG;rw[hlim,ho];split
  ·rw[Xy (by simpa using h1)]
  ·rename_i hn
   obtain⟨f,hc⟩:=occ_chain ⟨cs.toArray⟩ ⟨#[c]⟩ (Se ⟨cs.toArray⟩+1);generalize occurrences ⟨cs.toArray⟩ ⟨#[c]⟩ 0 (Se ⟨cs.toArray⟩) (Se ⟨cs.toArray⟩+1)=o at hc;cases o with
   |nil=>rw[List.take_nil];exact(Xy h1).symm
   |cons i r =>
    obtain⟨k,rfl⟩:∃j,k=j+1:=⟨k-1,by omega⟩
    have h:=uy (k+1) (i::r) 0 f hc;rw[<-partsBetween_eq,<-partsBetween_eq]at h;exact h
 rw[key,e,R2];unfold jb;split
 ·rfl
 ·rw[U7,Wr,<-Ws,show(⟨#[c]⟩:Str)=⟨[c].toArray⟩from rfl,qI]
  rfl
theorem zp(c k:Nat)(cs:List Nat):(jb c k cs).length<=cs.length+1:=by
 have:=lI c cs;unfold jb;split
 ·exact this
 ·rw[RV,SD];show _+1<=_;omega
noncomputable def J8:R4->Bool
 |.none=>true
 |_=>false
theorem Ai(t:T):eqT t .non=bj t:=by cases t<;>rfl
section
variable{X:Cx}{D:Dm}{env:Mi.Env}{cm:List RC}{m:Mem}{s:RA}{w u:W}{v z:R4}{J Q:VK}{h:Rq}{t x:T}{l:List T}{a:RC}
variable{call:Nat->List W->Mem->Res W}{gv:List T}{e e2 o:SJ}{es:List SJ}{E:Mi.E}{L:Es}{cpos apos:Pos}
theorem zt:CM X "str.split" (ri .ma):=λenv cm m s I w ws v us r rs Q J h=>by
 obtain⟨x,ts,t,q1,q2,e,g⟩:=oJ h;clear h;have h:=g;clear g;unfold dR at e;dsimp only at e;split at e
 ·rename_i cs
  split at e
  ·rename_i c k
   obtain⟨hl,e⟩:=RB.mp e;cases e;obtain⟨k,rfl⟩:=Uy (show 0<=k by omega);obtain⟨w1,ws,rfl,e1,q2⟩:=dq q2;obtain⟨w2,ws,rfl,e2,q2⟩:=dq q2;obtain rfl:=kZ q2;obtain⟨v1,y,rfl,r1,rs⟩:=rs.inv;obtain⟨v2,y,rfl,r2,rs⟩:=rs.inv;obtain rfl:=RP.mp rs.1.symm;obtain⟨tt,rfl⟩:=(aw r q1).eX;obtain⟨tu,rfl⟩:=(aw r1 e1).eX;obtain⟨tv,rfl⟩:=(aw r2 e2).dO;have hz:=line.1;unfold lim at hz;have hx:(⟨cs.toArray⟩:Str).length=cs.length:=dg cs;have hlen:=zp c k cs;have el:=yr c cs k (by omega) (by omega);have go:∀(l:List (Str×Tok)) (k':Nat),l.map (·.1)=Vh ⟨cs.toArray⟩ ⟨#[c]⟩ (k:Int)->Q (.ref s.heap.objs.size) { s with heap:=s.heap.push { cls:=.type "list",data:=.seq (Wl l).toArray },toks:=k' }:=λl k' e=>by
    rw[el]at e;have hj:=congrArg Rf e;rw[R2,R2]at hj;exact I.lst (d:=s.drawn) h (v8 e) push (gj _) (.new I (by have:(Wl l).length=l.length:=R2 _;simp only[SS];omega))
   have hk:(decide ((k:Int) < -(2^63:Int)) || decide ((k:Int) ≥ 2^63))=false:=by simp;omega
   have hn:(partsBetween ⟨cs.toArray⟩ (occurrences ⟨cs.toArray⟩ ⟨#[c]⟩ 0 (Se ⟨cs.toArray⟩) (Wm ⟨cs.toArray⟩ k)) (Se ⟨#[c]⟩)).length<=Ri:=by
    have e1:=StrLaws.occ_length_le_len ⟨cs.toArray⟩ ⟨#[c]⟩ 0 (Se ⟨cs.toArray⟩) (Wm ⟨cs.toArray⟩ k);rw[length_partsBetween];omega
   unfold Vh at go;cases h1:(decide (Se ⟨cs.toArray⟩<Se ⟨#[c]⟩) || decide (strKind ⟨cs.toArray⟩<strKind ⟨#[c]⟩))
   ·rw[h1]at go
    cases hf:(occurrences ⟨cs.toArray⟩ ⟨#[c]⟩ 0 (Se ⟨cs.toArray⟩) (Wm ⟨cs.toArray⟩ k)).isEmpty
    ·rw[hf]at go
     refine Sk Tu (U3 _ _ _) Tn (Vt _ _ _) (meets_str_split_sep_max _ _ k tt tu tv hk h1 rfl hf (by omega) hn) ?_;have q:=go (numbered s.toks (partsBetween ⟨cs.toArray⟩ (occurrences ⟨cs.toArray⟩ ⟨#[c]⟩ 0 (Se ⟨cs.toArray⟩) (Wm ⟨cs.toArray⟩ k)) (Se ⟨#[c]⟩))) (s.toks+(partsBetween ⟨cs.toArray⟩ (occurrences ⟨cs.toArray⟩ ⟨#[c]⟩ 0 (Se ⟨cs.toArray⟩) (Wm ⟨cs.toArray⟩ k)) (Se ⟨#[c]⟩)).length) (numbered_texts _ _);rw[<-strsFrom_eq]at q;exact q
    ·rw[hf]at go
     exact Sk Tu (U3 _ _ _) Tn (Vt _ _ _) (meets_str_split_max_not_found _ _ k tt tu tv hk h1 rfl hf) (go [(_,tt)] s.toks rfl)
   ·rw[h1]at go
    exact Sk Tu (U3 _ _ _) Tn (Vt _ _ _) (meets_str_split_max_cannot_occur _ _ k tt tu tv hk h1) (go [(_,tt)] s.toks rfl)
  ·cases e
 ·cases e
theorem zF(ho:PE call gv X o E)(ha:PA call gv X [e,e2] L)(b:Sa o "split" X.env (eval o X.env)=eval o X.env:=by rfl)(a:(apos.endLine==cpos.line)=true:=by rfl)(y:[e,e2].all notStar=true:=by rfl)(C:notStar e=true:=by rfl)(B:[e2].all notStar=true:=by rfl):PE call gv X (.Call (.Attribute o "split" apos) [e,e2] [] cpos) (.cS .ma E L):=il (b:=.ma) Sz V5 V6 zt (λ_ _=>by rw[ev]) (ty_str λ_ _=>rfl) ho ha b (Lc y) a C B
theorem Ax(hu:X.A.units+64<cLine):CM X "list.index" (ri .jO):=λenv cm m s I w ws v us r rs Q J h=>by
 obtain⟨x,ts,t,q1,q2,e,g⟩:=oJ h;clear h;have h:=g;clear g;unfold dR at e;dsimp only at e;split at e
 ·rename_i ys
  split at e
  ·obtain⟨hd,e⟩:=RB.mp e
   obtain⟨k,q5,rfl⟩:∃k,ys.findIdx? bj=Zz k/\t=.int (k:Int):=by
    cases q5:ys.findIdx? bj with
    |none=>rw[q5]at e;cases e
    |some k=>rw[q5]at e;cases e;exact⟨k,rfl,rfl⟩
   obtain⟨hk,f1,f2⟩:=List.findIdx?_eq_some_iff_getElem.mp q5;obtain⟨w1,rfl,q4⟩:=dZ q2;obtain⟨v1,rfl,r1⟩:=g9 rs;obtain⟨a,⟨y⟩,rfl,p,q⟩:=aY I.mem r q1;have hu1:X.A.in1.units<=X.A.units+1:=by simp[Around.in1]
   cases aw r1 q4;obtain⟨⟨n,e1⟩,_,hz⟩:=id p;have hl:ys.length=y.length:=q.1;have at_:∀(i:Nat) (t:T) (z:R4),ys[i]?=Zz t->y[i]?=Zz z->J8 z=bj t/\WS X.A.in1 s z .none (bj t):=λi t z e1 e2=>by
    have rr:=q.2 i t z e1 e2;have:=IT (A:=X.A.in1) (by omega) rr I.mem r1 q4 (.inr ⟨j7 hd.1 t (SG e1),rfl⟩);rw[Ai]at this;exact⟨by cases rr<;>rfl,this⟩
   have key:∀(i:Nat) (hi:i<y.length),J8 y[i]=bj (ys[i]'(by omega)):=λi hi=>(at_ i _ _ (RZ (by omega)) (RZ hi)).1
   have hlm:(lim:Nat)=1000000:=rfl;refine Sk F.slot_list_index ⟨_,e1,rfl⟩ F.entry_list_index (F.args_list_index_2 _ _) (SeqAt.list_indexAt a y.toArray n Zy #[] .none J8 k (by simp;omega) (by omega) ?_ ?_) ⟨e1,λz hz=>?_,I.val h (.int _ _)⟩
   ·simp only[List.getElem_toArray]
    rw[key];exact f1
   ·intro j hj hjk
    simp only[List.getElem_toArray];rw[key];exact SU.mpr (f2 j hjk)
   ·obtain⟨i,hi,e2⟩:=Ub (show z∈y by simpa using hz)
    have q:=at_ i _ z (RZ (show i<ys.length by omega)) (by rw[<-e2];exact RZ hi);rw[q.1];exact q.2
  ·cases e
 ·cases e
theorem Jz:GW X .jO "list":=λenv cm m s I w v r h=>by
 have h:(match view w m with|some (.lst _)=>true|_=>false)=true:=h;split at h
 ·obtain⟨a,x,rfl,⟨⟨n,e⟩,_⟩,_⟩:=aY I.mem r ‹_›
  exact⟨⟨_,e,rfl⟩,λb z=>by cases z;exact⟨_,e,rfl⟩⟩
 ·cases h
theorem zb(ho:PE call gv X o E)(ha:PA call gv X [e] L)(hu:X.A.units+64<cLine)(b:Sa o "index" X.env (eval o X.env)=eval o X.env:=by rfl)(a:(apos.endLine==cpos.line)=true:=by rfl)(k:notStar e=true:=by rfl):PE call gv X (.Call (.Attribute o "index" apos) [e] [] cpos) (.cS .jO E L):=il (b:=.jO) Tv PySem.F.slot_list_index PySem.F.type_list_index (Ax hu) (λ_ _=>by rw[ev]) Jz ho ha b (uS k) a k rfl
end
end Mi
namespace Mi
open PySem PySem.Spec PyProof.Rows
theorem ou:∀{a b:List Nat},cO a b=false->cO b a=false->a=b
 |[],[],_,_=>rfl
 |[],_::_,h,_=>by simp[cO]at h
 |_::_,[],_,h=>by simp[cO]at h
 |a::x,b::y,d,c=>by
  unfold cO at d c;by_cases h:a<b
  ·simp[h]at d
  ·by_cases h':b<a
   ·simp[h']at c
   ·have e:a=b:=by omega
    subst e;simp at d c;rw[ou d c]
theorem za:∀{a b c:List Nat},cO b a=false->cO c b=false->cO c a=false
 |a,b,[],d,f=>by
  cases b with
  |nil=>cases a with
   |nil=>rfl
   |cons _ _=>simp[cO]at d
  |cons _ _=>simp[cO]at f
 |[],_,_::_,_,_=>rfl
 |a::x,[],c::z,d,f=>by simp[cO]at d
 |a::x,b::y,c::z,d,f=>by
  unfold cO at d f ⊢;by_cases p1:b<a
  ·simp[p1]at d
  ·by_cases p2:c<b
   ·simp[p2]at f
   ·by_cases p3:a<b
    ·have:¬c<a:=by omega
     have q:a<c:=by omega
     simp[this,q]
    ·have e:a=b:=by omega
     subst e;by_cases p4:a<c
     ·simp[p4,p2]
     ·have e:c=a:=by omega
      subst e;simp at d f ⊢;exact za d f
theorem oK(x:List Nat):∀l,(vp x l).Perm (x::l)
 |[]=>.refl _
 |y::r=>by
  unfold vp;split
  ·exact((oK x r).cons y).trans (.swap x y r)
  ·exact .refl _
theorem ge:∀xs,(iP xs).Perm xs
 |[]=>.refl _
 |x::xs=>(oK x _).trans ((ge xs).cons x)
theorem BN(x:List Nat):∀{l:List (List Nat)},l.Pairwise (λa b=>cO b a=false)->(vp x l).Pairwise (λa b=>cO b a=false)
 |[],_=>Uz _ _
 |y::r,h=>by
  rw[SL]at h;unfold vp;split
  ·rename_i d
   refine SL.mpr ⟨λz f=>?_,BN x h.2⟩;rcases R7.mp ((oK x r).mem_iff.mp f)with rfl|f
   ·cases q:cO z y with
    |false=>rfl
    |true =>
     have:cO y z=false:=by
      rw[ry]at d q ⊢;exact Y0 λw=>Y3 (List.lt_trans (Y4 q) w) (List.lt_irrefl _)
     rw[this]at d;cases d
   ·exact h.1 z f
  ·rename_i d
   have d:cO y x=false:=by simpa using d
   refine SL.mpr ⟨λz f=>?_,SL.mpr h⟩;rcases R7.mp f with rfl|f
   ·exact d
   ·exact za d (h.1 z f)
theorem rj:∀xs:List (List Nat),(iP xs).Pairwise (λa b=>cO b a=false)
 |[]=>.nil
 |x::xs=>BN x (rj xs)
theorem E9:∀a b:List Nat,ltCps a b=cO a b
 |[],[]=>by simp[ltCps,cO]
 |[],_::_=>by simp[ltCps,cO]
 |_::_,[]=>by simp[ltCps,cO]
 |a::x,b::y=>by
  unfold ltCps cO;rw[E9 x y];by_cases h:a<b
  ·simp[h]
  ·by_cases h2:b<a
   ·have:¬a=b:=by omega
    simp[h,h2,this]
   ·have:a=b:=by omega
    subst this;simp
theorem kg:∀(l:List (List Nat)) (x:List Nat),risingS ⟨x.toArray⟩ (l.map λc=>(⟨c.toArray⟩:Str))=true->(x::l).Pairwise (λa b=>cO b a=false)
 |[],x,_=>Uz _ _
 |y::l,x,h=>by
  rw[RQ,risingS.eq_2,R6]at h;have g:cO y x=false:=by
   have:=h.1;rw[E9]at this;simpa using this
  have f:=kg l y h.2;refine SL.mpr ⟨λz e=>?_,f⟩;rcases R7.mp e with rfl|e
  ·exact g
  ·exact za g ((SL.mp f).1 z e)
theorem Dl(hp:(ys.map λc=>(⟨c.toArray⟩:Str)).Perm (xs.map λc=>(⟨c.toArray⟩:Str)))(hs:sortedS (ys.map λc=>(⟨c.toArray⟩:Str))=true):ys=iP xs:=by
 have hp':ys.Perm xs:=by
  have:=hp.map λs:Str=>s.cps.toList
  simpa[Sh,Function.comp_def]using this
 have hw:ys.Pairwise (λa b=>cO b a=false):=by
  cases ys with
  |nil=>exact .nil
  |cons y ys=>exact kg ys y hs
 exact List.Perm.eq_of_pairwise (λa b _ _ h1 h2=>ou h2 h1) hw (rj xs) (hp'.trans (ge xs).symm)
theorem Bq(a:List Nat):cO a a=false:=by rw[ry];simp
theorem FX(e:cO a b=true)(d:cO b c=true):cO a c=true:=by
 rw[ry]at *;have e:=Y4 e;have d:=Y4 d;exact Y1 (List.lt_trans e d)
theorem Il(h:cO a b=true):cO b a=false:=by
 cases q:cO b a with
 |false=>rfl
 |true =>
  have:=FX h q;rw[Bq]at this;cases this
theorem sE(x y:List Nat):∀l,y∈sw x l↔y=x∨y∈l
 |[]=>by simp[sw]
 |z::l=>by
  unfold sw;split
  ·simp
  ·split
   ·rw[R7,sE x y l,R7]
    constructor
    ·rintro (h|h|h)
     ·exact .inr (.inl h)
     ·exact .inl h
     ·exact .inr (.inr h)
    ·rintro (h|h|h)
     ·exact .inr (.inl h)
     ·exact .inl h
     ·exact .inr (.inr h)
   ·rename_i h1 h2
    have e:=ou (by simpa using h1) (by simpa using h2);subst e;simp
theorem Bi(x:List Nat):∀l,l.Pairwise (λa b=>cO a b=true)->(sw x l).Pairwise (λa b=>cO a b=true)
 |[],_=>Uz _ _
 |z::l,h=>by
  unfold sw;obtain⟨f,g⟩:=SL.mp h;split
  ·rename_i hx
   refine SL.mpr ⟨λy d=>?_,h⟩;rcases R7.mp d with rfl|d
   ·exact hx
   ·exact FX hx (f y d)
  ·split
   ·rename_i hz
    refine SL.mpr ⟨λy d=>?_,Bi x l g⟩;rcases(sE x y l).mp d with rfl|d
    ·exact hz
    ·exact f y d
   ·exact h
theorem hJ(y:List Nat):∀xs,y∈bS xs↔y∈xs
 |[]=>by simp[bS]
 |x::xs=>by
  show y∈sw x (bS xs)↔_;rw[sE,hJ y xs,R7]
theorem me:∀xs,(bS xs).Pairwise (λa b=>cO a b=true)
 |[]=>.nil
 |x::xs=>Bi x _ (me xs)
theorem sX(xs:List (List Nat)):(bS xs).Nodup:=(me xs).imp λ{a b} h e=>by
 subst e;rw[Bq]at h;cases h
theorem FJ(a:Nat->Str)(x:Str):∀n,x∈dd a n↔∃i,i<n/\a i=x
 |0=>by simp[dd]
 |n+1=>by
  have b:=FJ a x n;unfold dd;split
  ·rename_i h
   rw[b];constructor
   ·rintro ⟨i,c,e⟩
    exact⟨i,by omega,e⟩
   ·rintro ⟨i,c,e⟩
    by_cases hn:i=n
    ·subst hn
     rw[e]at h;exact b.mp h
    ·exact⟨i,by omega,e⟩
  ·rw[SP,b,RN]
   constructor
   ·rintro (⟨i,c,e⟩|e)
    ·exact⟨i,by omega,e⟩
    ·exact⟨n,by omega,e.symm⟩
   ·rintro ⟨i,c,e⟩
    by_cases hn:i=n
    ·subst hn;exact .inr e.symm
    ·exact .inl ⟨i,by omega,e⟩
theorem Bo{a b:List Nat}(h:(⟨a.toArray⟩:Str)=⟨b.toArray⟩):a=b:=by
 injection h with h;simpa using h
theorem Jv(hv:∀(i:Nat) c,xs[i]?=Zz c->val i=⟨c.toArray⟩)(hd:(dd val xs.length).Nodup)(hp:(ys.map λc=>(⟨c.toArray⟩:Str)).Perm (dd val xs.length))(hs:sortedS (ys.map λc=>(⟨c.toArray⟩:Str))=true):ys=bS xs:=by
 have hw:ys.Pairwise (λa b=>cO b a=false):=by
  cases ys with
  |nil=>exact .nil
  |cons y ys=>exact kg ys y hs
 have hn:ys.Nodup:=by
  have h1:=hp.nodup_iff.mpr hd;exact(List.pairwise_map.mp h1).imp λ{a b} h e=>h (by rw[e])
 have hm:∀c,c∈ys↔c∈bS xs:=λc=>by
  rw[hJ];have h1:c∈ys↔(⟨c.toArray⟩:Str)∈ys.map λc=>(⟨c.toArray⟩:Str):=by
   constructor
   ·exact λh=>Rg.mpr ⟨c,h,rfl⟩
   ·intro h
    obtain⟨d,hd,e⟩:=Rg.mp h;rw[<-Bo e];exact hd
  rw[h1,hp.mem_iff,FJ];constructor
  ·rintro ⟨i,hi,e⟩
   have:=hv i xs[i] (RZ hi);rw[this]at e;rw[<-Bo e];exact TN hi
  ·intro h
   obtain⟨i,hi,rfl⟩:=Ub h;exact⟨i,hi,hv i _ (RZ hi)⟩
 have hpm:=(List.perm_ext_iff_of_nodup hn (sX xs)).mpr hm;exact List.Perm.eq_of_pairwise (λa b _ _ h1 h2=>ou h2 h1) hw ((me xs).imp λ{a b} h=>Il h) hpm
theorem JH{xs:List (List Nat)}(h:Xf its (xs.map λc=>(⟨c.toArray⟩:Str))):∀(i:Nat) v,its[i]?=Zz v->∃t,v=.str ((xs.map λc=>(⟨c.toArray⟩:Str)).getD i ⟨#[]⟩) t:=by
 generalize xs.map (λc=>(⟨c.toArray⟩:Str))=ss at h
 induction h with
 |nil=>intro i v e;simp at e
 |cons y t _ ih =>
  intro i v e;cases i with
  |zero=>simp at e;exact⟨t,by rw[<-e];rfl⟩
  |succ i =>
   obtain⟨t',h'⟩:=ih i v (by simpa using e);exact⟨t',by rw[h'];rfl⟩
section
variable{X:Cx}{D:Dm}{env:Mi.Env}{cm:List RC}{m:Mem}{s:RA}{h:Rq}
variable{call:Nat->List W->Mem->Res W}{gv:List T}{e:SJ}{es:List SJ}{E:Mi.E}{L:Es}{pos p p2 pos2:Pos}
theorem ub{us:List R4}{ss:List Str}(q:Xf us ss):∃ys:List (List Nat),ss=ys.map (λc=>(⟨c.toArray⟩:Str))/\jx D cm m h (ys.map T.str) us:=by
 induction q with
 |nil=>exact⟨[],rfl,.nil⟩
 |cons y t _ ih =>
  obtain⟨ys,rfl,h2⟩:=ih;obtain⟨⟨y⟩⟩:=y;exact⟨y::ys,rfl,.cons (.str _ _) h2⟩
theorem vZ:CB X (.builtin "sorted") .sorted:=λenv cm m s I ws us r Q J q=>by
 obtain⟨w,v,t,rr,rfl,rfl,r,e,c,q⟩:=xo r (gw (by decide)) q;cases t with
 |lst l =>
  obtain⟨bs,q3,c⟩:=RE.mp (show((strs? l).bind λi=>if i.length<64 then Zz (T.lst ((iP i).map .str))else Zy)=Zz rr from c);obtain⟨hc,c⟩:=RB.mp c;cases c;obtain⟨a,⟨x⟩,rfl,p,k⟩:=aY I.mem r e;have n:=nv k q3;have hl:x.length=bs.length:=by have:=n.length;rw[R2]at this;exact this
  refine sorted_strs p.pl.isList n (by omega) λo ss' so f d=>?_
  obtain⟨ys,rfl,hv⟩:=ub (D:=X.D) (cm:=cm) (m:=m) (h:=s.heap) so;have ey:=Dl f d;subst ey;obtain⟨ep,z⟩:=sortedAll_at s.heap x o;have hpl:=(ge bs).length_eq;have ho:=hv.1;rw[R2]at ho;have hsl:=Sv;refine I.lst (n:=s.toks) (d:=s.drawn) q hv (λb ob q=>sortedAll_old q) (Rt (UH _)) ⟨⟨_,by simpa[seqObj]using z⟩,λhb=>?_,by simp at ho ⊢;omega⟩;obtain⟨_,o',ho',_⟩:=I.cN _ hb;exact Y3 (T8 (Rj ho') (UH _)) (SI _)
 |_=>cases c
theorem yn(c:Gl X "sorted")(b:X.mg "sorted" = Zy)(f:PA call gv X (e::es) L)(d:notStar e=true)(a:es.all notStar=true):PE call gv X (.Call (.Name "sorted" p) (e::es) [] pos) (.blt .sorted L):=qy vZ (by decide +kernel) c b f (by decide) (by decide) d a
theorem yq(hc:X.calm=true)(hg1:Gl X "sorted")(hm1:X.mg "sorted" = Zy)(hg2:Gl X "set")(hm2:X.mg "set" = Zy)(ha:PA call gv X [e] (.cons E .nil))(he:notStar e=true:=by rfl):
  PE call gv X (.Call (.Name "sorted" p) [.Call (.Name "set" p2) [e] [] pos2] [] pos) (.blt .qV (.cons E .nil)):=λenv cm m s I Q J h=>by
 rw[ev]at h;refine Sl (eh (u:=.builtin "sorted") I hg1 hm1 (by decide +kernel) (TA (T9 ?_) rfl rfl));refine Sl (eh (u:=.type "set") I hg2 hm2 (by decide +kernel) (SM (ha.one I h λws us c1 m1 s1 I1 x1 r h=>?_) (bZ he) (ik rfl)));obtain⟨w,v,t,rr,rfl,rfl,r,e,c,q⟩:=xo r (gw (by decide)) h;cases t with
 |lst l =>
  obtain⟨bs,q3,c⟩:=RE.mp (show((strs? l).bind λi=>if i.length<64 then Zz (T.lst ((bS i).map .str))else Zy)=Zz rr from c);obtain⟨h64,c⟩:=RB.mp c;cases c;obtain⟨a,⟨x⟩,rfl,p,k⟩:=aY I1.mem r e;have hsa:=nv k q3;have hl:x.length=bs.length:=by have:=hsa.length;rw[R2]at this;exact this
  have hA:=I1.ok.hd hc;refine ti hA p.pl.isList (λi v hv=>JH hsa i v (by simpa using hv)) (by unfold VE;simp;omega) λh' tk hS kp=>?_
  obtain⟨x2,I2⟩:=I1.up (g:=h') (t:=tk) (d:=s1.drawn) (ch:=X.tb) kp;refine UD ?_;rw[show(⟨x⟩:Array R4).size=bs.length by simp;omega]at hS;have hlen:=An (λi=>(bs.map λc=>(⟨c.toArray⟩:Str)).getD i ⟨#[]⟩) bs.length;have hnd:(dd (λi=>(bs.map λc=>(⟨c.toArray⟩:Str)).getD i ⟨#[]⟩) bs.length).Nodup:=by
   obtain⟨_,_,_,_,_,hE⟩:=hS;exact hE.nd
  refine AJ hA hS (by omega) λh2 tk2 d l out ss' ep hso g hsort hat hle kp2 ht=>?_
  obtain⟨ys,rfl,hv⟩:=ub (D:=X.D) (cm:=c1) (m:=m1) (h:=h') hso;have ey:=Jv (λi c hc=>by simp[List.getD,hc]) hnd g hsort;subst ey;have hvl:=hv.1;rw[R2]at hvl;have hsl:=Sv;have hpl:(bS bs).length<=bs.length:=by
   have:=g.length_eq;rw[R2]at this;omega
  refine I2.lst (a:=l) (g:=h2) (n:=tk2) (d:=d) (q.shift x2) hv kp2 (Rt hle) ⟨⟨_,by simpa[seqObj]using hat⟩,λhb=>?_,by simp at hvl ⊢;omega⟩;obtain⟨_,o',ho',_⟩:=I2.cN _ hb;have:=Rj ho';exact Y3 (T8 this hle) (SI _)
 |_=>cases c
end
end Mi
namespace Mi
open PySem PySem.Spec PyProof.Rows PySem.W
structure v7 (K:V9) (C:RC):Prop where
 ga:findIn K (.ref C) "__getattribute__" = Zz (Zz (.builtin "BaseException.__getattribute__"))
 gn:findIn K (.ref C) "__getattr__" = Zz Zy
 mb:mroIn K C (.type "BaseException")=Zz true
 hd:XZ K C=true
 ca:findIn K (.ref C) "__class__" = Zz (Zz (.builtin "object.__class__"))
 mo:mroIn K C (.type "object")=Zz true
structure DS (K:V9):Prop where
 hn:specialIn K (.builtin "object.__class__") "__get__" = Zz (Zz (.builtin "getset_descriptor.__get__"))
 htk:takesIn K (.builtin "object.__class__")=Zz true
theorem tz{K:V9}{C:RC}(b:(clsIn K C).isSome=true)(e:findIn K (.ref C) name=Zz (Zz a))(d:specialIn K a "__get__" = Zz (Zz g))(c:takesIn K a=Zz true):Xl K C od name=Zz (.bind g a):=by
 obtain⟨f,b⟩:=Ug.mp b;unfold Xl;rw[b,SE,e,SE];simp[d,c]
section
variable{prog:Sf}{w:TB}{A:Sb}{E:R4->RA->Prop}{s:RA}{K:V9}{x C:RC}{ox:Obj}{od:Option Obj}{name:Str}
theorem Cw{h:Rq}{dx:RC}{mA:Str->Option R4}(n:h.Ns1 dx mA):∃od,h.get? dx=Zz od/\∀name,PySem.W.lookIn name od=Zz (mA name):=by
 obtain⟨o,es,ep,ho,hd,hk,_,hm⟩:=n;refine⟨o,ho,λname=>?_⟩;have e:=hm name;unfold nsFind findBy at e;rw[<-Array.find?_toList]at e;unfold PySem.W.lookIn;rw[hd];dsimp only;split
 ·rename_i y q
  rw[q]at e;exact congrArg Zz e
 ·rename_i q
  rw[q]at e;have a:es.toList.any (·.refKey)=false:=by
   rw[V4];intro y hy;obtain⟨z,t,hkey⟩:=hk y (Array.mem_toList_iff.mp hy);simp[DictEntry.refKey,hkey]
  have a':¬es.toList.any (·.refKey)=true:=by rw[a];exact S4
  rw[Xz a'];exact congrArg Zz e
theorem HZ{prog:Sf}{w:TB}{env:Sn}{e:SJ}{f:Str}{pos:Pos}{s:RA}{Q:R4->RA->Prop}(hb:Sa e f env (eval e env)=eval e env)(h:RF (Rp prog w) A (eval e env) (λo s₁=>RF (Rp prog w) A (getAttr o f true) Q E s₁) E s):RF (Rp prog w) A (eval (.Attribute e f pos) env) Q E s:=
 Attribute_any_ h (by rw[arm_eval_Attribute,hb])
theorem Kb{a e:Bool}(X:K.In s.heap)(I:InstAt s.heap x ox C od)(c:v7 K C)(B:s.toks=t+1)(h:∀y:Sb,RF (Rp prog w) y (Builtin.«object.__getattribute__» ⟨[.ref x,.str name t],[]⟩) (λb k=>match b with|.done (.ret v)=>RF (Rp prog w) A (handedOut v) Q E k|_=>False) (λ_ _=>False) s):
  RF (Rp prog w) A (getAttrBy (.ref x) (.str name t) e a) Q E s:=by
 obtain⟨l,g,d,n,o⟩:=s;have m:=I.type (M:=Rp prog w);have u:=WW (M:=Rp prog w) X c.ga;have r:=WW (M:=Rp prog w) X c.gn;have q:Xa (Rp prog w) l (XS (.ref x) (.type "BaseException")) true:=m.andThen (looks_mroIn X c.mb);have p:=PySem.F.attrBase_ValueError.ga.bind (.ref x);have j:(a&&Xb (VL "BaseException.__getattribute__"))=false:=by cases a<;>rfl
 have f:(VL "BaseException.__getattribute__" == VL "object.__getattribute__")=false:=by decide +kernel
 have i:(Xb (T4 C)&&VL "BaseException.__getattribute__" == VL "object.__getattribute__")=false:=by rw[f];rfl
 unfold getAttrBy;refine SZ (R0 (m.at (R0 (u.at ?_))));dsimp only;rw[i,Xz S4];unfold getAttrByItsOwn hookBefore;rw[Xy (show Xb (T4 C)=true from rfl)];refine R0 (r.at ?_);refine R0 (Tp (SZ ?_));unfold callGetattribute;rw[j,Xz S4];unfold boundAndCalled;rw[p];refine R0 (R3 (Vl (VM PySem.F.attrBase_ValueError.ga.plain PySem.F.entry_bexc_ga (@check_slot (Rp prog w) _ _ ⟨l,g,d,n,o⟩ "BaseException.__getattribute__" "BaseException" "__getattribute__" (.ref x) [.str name t] [] _ (by decide +kernel) (by decide +kernel) q (PySem.F.args_bexc_ga (.ref x) (.str name t)) ?_))));refine TT (h _) (λb k z=>?_) λ_ _ z=>z.elim
 rcases b with(_|_|_|_)|_<;>first|exact z|exact z.elim
theorem G4{a:Bool}(X:K.In s.heap)(I:InstAt s.heap x ox C od)(c:v7 K C)(f:Xl K C od name=Zz (.value v))(e:handedIn v=true)(h:Q v { s with toks:=s.toks+1 }):
  RF (Rp prog w) A (getAttr (.ref x) name a) Q E s:=by
 unfold getAttr;refine R0 (wpAny_mkText ?_);refine Kb X I c rfl λm=>?_
 obtain⟨l,g,d,t,k⟩:=s;have j:=I.type (M:=Rp prog w);have i:=looks_find (M:=Rp prog w) X I f;unfold Builtin.«object.__getattribute__»;refine R0 (R3 ?_);refine R0 (R3 (R0 (j.at (R0 (i.at ?_)))));refine R3 ?_;show RF _ _ (handedOut v) _ _ _;rw[handedOut_of e];exact R3 h
theorem Hv{Q:Option R4->RA->Prop}(X:K.In s.heap)(I:InstAt s.heap x ox C od)(c:v7 K C)(z:DS K)(h:Q (Zz (.ref C)) { s with toks:=s.toks+1 }):
  RF (Rp prog w) A (getAttr? (.ref x) "__class__") Q E s:=by
 have b:Xl K C od "__class__" = Zz (.bind (.builtin "getset_descriptor.__get__") (.builtin "object.__class__")):=tz (by obtain⟨l,e,_⟩:=XA c.hd;rw[e];rfl) c.ca z.hn z.htk;unfold getAttr? getAttrBy?;refine R0 (wpAny_mkText ?_);refine R0 (Tp ?_);refine Kb X I c rfl λm=>?_
 obtain⟨k,g,d,t,j⟩:=s;have i:=I.type (M:=Rp prog w);have f:=looks_find (M:=Rp prog w) X I b;unfold Builtin.«object.__getattribute__»;refine R0 (R3 ?_);refine R0 (R3 (R0 (i.at (R0 (f.at ?_)))));refine R0 (SZ (Vl (class_get X I c.mo ?_)));refine R3 ?_;exact handed_on rfl (R3 h)
theorem Ea{K:V9}(c:v7 K D)(z:DS K):KitX K (.ref x) (.ref D) (λh=>InstAt h x ox D odo) where
 ty:=λ_ _ _ I=>I.type
 it:=λ_ _ X _=>by
  obtain⟨d,a,_⟩:=XA c.hd;unfold clsIn at a;split at a
  ·rename_i c' d' cd' sl' ho
   intro p m o j k q;unfold isType loadHead;exact R0 (wpAny_loadPart (k _ _ (X _ _ ho)) (R3 q))
  ·cases a
 ne:=λh g l f n i X b=>by
  obtain⟨d,a,_⟩:=XA c.hd;refine SU.mpr λq=>?_
  have e:=Value.ref.inj (beq_iff_eq.mp q);subst e;unfold clsIn at a;split at a
  ·rename_i c' d' cd' sl' ho
   have z:=(X _ _ ho).symm.trans b;cases z
  ·cases a
 ca:=λX I k=>Hv X I c z k
end
section
variable{X:Cx}{D:Dm}{env:Mi.Env}{cm:List RC}{m:Mem}{s:RA}{h:Rq}{w:W}{v u:R4}{nms:List Str}{ts:List T}{c:Nat}{cs yes no:List Nat}{i:Str}
variable{call:Nat->List W->Mem->Res W}{gv:List T}{e ce:SJ}{E:Mi.E}{pos p:Pos}{N:Str}
theorem x_at(r:RW D cm m h (.x c nms ts) v):∃a o odo,v=.ref a/\InstAt h a o c odo/\XF D cm m h nms ts o.dict:=by
 obtain⟨a,dx,rfl,⟨o,vs,u,e,hc,rfl,d,_⟩,xf⟩:=r;have n:notCls o=true:=by unfold notCls;rw[d]
 cases q:o.dict with
 |none=>exact⟨a,o,Zy,rfl,⟨e,hc,n,by rw[q];trivial⟩,xf⟩
 |some d =>
  have xf':=xf;rw[q]at xf';obtain⟨vs,f,_,⟨od,es,ep,h1,_⟩,_⟩:=xf';exact⟨a,o,Zz od,rfl,⟨e,hc,n,by rw[q];exact h1⟩,xf⟩
theorem xZ:∀{a:List Str}{ts:List T}{c:List R4}{b:Str}{t:T},jx D cm m h ts c->(a.zip ts).lookup b=Zz t->∃v,(a.zip c).lookup b=Zz v/\RT D cm m h t v
 |[],_,_,_,_,_,h=>by simp at h
 |n::a,[],_,b,t,_,h=>by simp at h
 |n::a,t'::ts,_,b,t,q,h=>by
  obtain⟨v,y,rfl,r,q⟩:=q.inv;rw[Ur]at h ⊢;simp only[Wh]at h ⊢;cases z:b==n with
  |true=>rw[z]at h;cases h;exact⟨_,rfl,r⟩
  |false=>rw[z]at h;exact xZ q h
theorem H2(ha:PE call gv X e E)(hk:∀c∈cs,v7 X.K c/\findIn X.K (.ref c) i=Zz Zy)(hb:Sa e i X.env (eval e X.env)=eval e X.env:=by rfl):PE call gv X (.Attribute e i pos) (.Lk E cs i):=λenv cm m s I Q J h=>by
 rw[ev]at h;refine HZ hb (ha.one I h λw v c1 m1 s1 I1 x1 r h=>?_);obtain⟨t,f,h2⟩:=gf h;cases w with
 |x c A ts =>
  obtain⟨hc,f⟩:=RB.mp (show(if c∈cs then(A.zip ts).lookup i else Zy)=Zz t from f);obtain⟨g,hn⟩:=hk c hc;obtain⟨a,o,odo,rfl,J,n⟩:=x_at r;cases q:o.dict with
  |none=>rw[q]at n;obtain⟨rfl,rfl⟩:=n;cases f
  |some d =>
   rw[q]at n;obtain⟨vs,f',_,C,h5,h6,h7⟩:=n;obtain⟨v,hv,rt⟩:=xZ h7 f;obtain⟨od,B,hl⟩:=Cw C;have J2:InstAt s1.heap a o c (Zz od):=⟨J.at_,J.cls,J.no,by rw[q];exact B⟩
   refine G4 I1.jq J2 g (findObj_own g.hd hn rfl (by rw[hl,<-h5,hv])) (by cases rt<;>rfl) (I1.val h2 rt)
 |_=>cases f
def PC(X:Cx)(e:SJ)(c:R4):Prop:=∀env cm m s,Fr X env cm m s->∀Q J:VK,Q c s->RF X.M X.A (eval e X.env) Q J s
theorem cZ(hg:Gl X N)(hm:X.mg N=Zz u)(hd:(N==("__debug__" : Str))=false:=by decide):PC X (.Name N pos) u:=λ_ _ _ _ I _ _ h=>gI I hg hm h hd
theorem Hz(hg:Gl X N)(hm:X.mg N=Zy)(hv:Ti N=Zz u)(hn:N≠"__name__":=by decide)(hd:(N==("__debug__" : Str))=false:=by decide):PC X (.Name N pos) u:=λ_ _ _ _ I _ _ h=>eh I hg hm hv h hn hd
theorem bW{c:R4}(r:PE call gv X e E)(q:Gl X "isinstance")(o:X.mg "isinstance" = Zy)(k:PC X ce c)(z:DS X.K)(l:∀C∈yes,v7 X.K C/\kitOne X.K (.ref C) c=Zz true)(n:∀C∈no,v7 X.K C/\kitOne X.K (.ref C) c=Zz false)(g:notStar e=true:=by rfl)(a:notStar ce=true:=by rfl):PE call gv X (.Call (.Name "isinstance" p) [e,ce] [] pos) (.qf E yes no):=λenv cm m s I Q J h=>by
 rw[ev]at h;refine Sl (eh (u:=.builtin "isinstance") I q o (by decide +kernel) (TA ?_ (bZ g) (ik (by simp[a]))));rw[bZ g,bZ a];refine T9 (r.one I h λw v c1 m1 s1 I1 x1 r1 h=>T9 (k _ _ _ _ I1 _ _ (UD ?_)));obtain⟨t,et,h⟩:=gf h;cases w with
 |x C nms ts =>
  obtain⟨a,o,odo,rfl,J,_⟩:=x_at r1;have et:(if C∈yes then Zz (T.bl true)else if C∈no then Zz (.bl false)else Zy)=Zz t:=et;split at et
  ·rename_i hc
   cases et;exact W3 (Ea (l C hc).1 z) I1.jq J (l C hc).2 (λz=>nomatch z) λtk=>I1.val h (.bl _)
  ·obtain⟨hc,et⟩:=RB.mp et
   cases et;exact W3 (Ea (n C hc).1 z) I1.jq J (n C hc).2 (λz=>nomatch z) λtk=>I1.val h (.bl _)
 |_=>cases et
end
end Mi
namespace Mi
open PySem PySem.Spec PyProof.Rows
theorem tG(hg:gens[d]?=Zz ⟨target,iter,ifs,0⟩)(hn:gens[d+1]?=Zy):
  Wi (.ListComp elt gens scope pos) d it acc env=(do
   W0 iter.pos
   match <-pyNext it with
   |none=>pure (.done .next)
   |some v =>
    Tb target it v
    assign target env v
    let mut ok:=true
    for c in ifs do
     if ok then ok <-isTrue c env (eval c env)
    if ok then
     (do let _ <-call (.builtin "list.append") [acc,<-eval elt env])
    again (.compLoop (.ListComp elt gens scope pos) d it acc env)):=by
 unfold Wi;simp only[hg,hn];rfl
theorem tO(hg:gens[d]?=Zz ⟨target,iter,ifs,0⟩)(hn:gens[d+1]?=Zz ⟨target',iter',ifs',0⟩):
  Wi (.ListComp elt gens scope pos) d it acc env=(do
   W0 iter.pos
   match <-pyNext it with
   |none=>pure (.done .next)
   |some v =>
    Tb target it v
    assign target env v
    let mut ok:=true
    for c in ifs do
     if ok then ok <-isTrue c env (eval c env)
    if ok then
     let x <-eval iter' env
     W0 iter'.pos
     let x <-UE iter' env x
     let _ <-runOwn (.compStart (.ListComp elt gens scope pos) (d+1) (<-XN [x] (pyIter x)) acc env) env
    again (.compLoop (.ListComp elt gens scope pos) d it acc env)):=by
 unfold Wi;simp only[hg,hn];rfl
theorem pW{E:R4->RA->Prop}(h:Q false s):∀ifs:List SJ,
  RF M A (forIn ifs false λc r=>if r=true then do let ok <-isTrue c env (eval c env);pure (Su ok)else pure (Su r)) Q E s
 |[]=>R3 h
 |_::r=>by
  simp only[Ss,Rk,if_false];exact R0 (R3 (pW h r))
noncomputable def yL:Tg->List Nat
 |.nm i=>[i]
 |.tp is=>is
noncomputable def mc:E->List Nat
 |.more _ tg _ inner=>yL tg++mc inner
 |_=>[]
theorem ue(h:mJ w m=.ok ts m'):w=.t (.lst ts)/\m'=m:=by
 unfold mJ at h;split at h<;>cases h;exact⟨rfl,rfl⟩
noncomputable abbrev turnF(call:Nat->List W->Mem->Res W)(gv:List T)(cs:Es)(inner:E):Env->Mem->Res (List T):=λenv m=>(tests call gv cs env m).bind λk m=>if k then(ev call gv inner env m).bind mJ else .ok [] m
noncomputable abbrev DI(target iter:SJ)(ifs:List SJ)(env:Sn)(it:R4)(c:Code)(br:Sem Xc):Sem Xc:=
 W0 iter.pos >>= λ_=>pyNext it >>= λr=>match r with
  |none=>pure (.done .next)
  |some v=>Tb target it v >>= λ_=>assign target env v >>= λ_ =>
   (forIn ifs true λc r=>if r=true then do let ok <-isTrue c env (eval c env);pure (Su ok)else pure (Su r)) >>= λok=>if ok=true then br else again c
theorem Ae(h:∀x,(x,SV)∈scope.names->∃c,env.cells.lookup x=Zz c):
  ∃cl,closureFor scope env=pure cl/\(∀x c,cl.lookup x=Zz c->env.cells.lookup x=Zz c)/\∀x,(x,SV)∈scope.names->∃c,cl.lookup x=Zz c:=by
 have go:∀(ns:List (Str×UO)) (acc:List (Str×RC)),(∀x,(x,SV)∈ns->∃c,env.cells.lookup x=Zz c)->(∀x c,acc.lookup x=Zz c->env.cells.lookup x=Zz c) ->
   ∃cl,(forIn ns acc λ(x:Str×UO) cs=>(match x with|(name,kind)=>if(kind==SV)=true then do let a <-cellOf env name;pure (Su ((name,a)::cs))else pure (Su cs):Sem (ForInStep (List (Str×RC)))))=pure cl /\
    (∀x c,cl.lookup x=Zz c->env.cells.lookup x=Zz c)/\(∀x,(x,SV)∈ns->∃c,cl.lookup x=Zz c)/\∀x c,acc.lookup x=Zz c->∃c,cl.lookup x=Zz c:=by
  intro ns
  induction ns with
  |nil=>intro acc _ h2;exact⟨acc,rfl,h2,λx hx=>Y3 hx (by simp),λx c e=>⟨c,e⟩⟩
  |cons p ns ih =>
   intro acc h1 h2;obtain⟨n,k⟩:=p;have h1':=λx hx=>h1 x (R5 _ hx)
   by_cases hk:k=.free
   ·subst hk
    obtain⟨c,hc⟩:=h1 n RD;have h2':∀x d,((n,c)::acc).lookup x=Zz d->env.cells.lookup x=Zz d:=λx d e=>by
     rw[Sw]at e;cases hx:x==n with
     |true=>rw[hx]at e;cases e;rw[eq_of_beq hx];exact hc
     |false=>rw[hx]at e;exact h2 x d e
    obtain⟨cl,e1,e2,e3,e4⟩:=ih ((n,c)::acc) h1' h2';refine⟨cl,?_,e2,λx hx=>?_,λx d e=>?_⟩
    ·rw[Ss]
     simp only[beq_self_eq_true,if_true,cellOf,hc,pure_bind];exact e1
    ·rcases R7.mp hx with z|z
     ·cases z
      exact e4 n c (by rw[Sw,beq_self_eq_true])
     ·exact e3 x z
    ·by_cases hx:x=n
     ·subst hx;exact e4 x c (by rw[Sw,beq_self_eq_true])
     ·exact e4 x d (by rw[Sw,Y2.mpr hx];exact e)
   ·obtain⟨cl,e1,e2,e3,e4⟩:=ih acc h1' h2
    have hb:=Y2.mpr hk;refine⟨cl,?_,e2,λx hx=>?_,e4⟩
    ·rw[Ss]
     simp only[hb,Rk,if_false,pure_bind];exact e1
    ·rcases R7.mp hx with z|z
     ·cases z;exact Y3 rfl hk
     ·exact e3 x z
 obtain⟨cl,e1,e2,e3,_⟩:=go scope.names [] h (λx c e=>by simp at e);refine⟨cl,?_,e2,e3⟩;unfold closureFor;have:(forIn scope.names ([]:List (Str×RC)) λ(x:Str×UO) cs=>(match x with|(name,kind)=>if(kind==SV)=true then do let a <-cellOf env name;pure (Su ((name,a)::cs))else pure (Su cs):Sem (ForInStep (List (Str×RC))))) >>= (λcs=>pure cs)=(pure cl:Sem (List (Str×RC))):=by rw[e1];rfl
 exact this
theorem yI{α:Type}{r:Res α}{x:α}(h:r.only=.ok x m):r=.ok x m:=by
 cases r with
 |ok _ _=>exact h
 |exc _ _=>cases h
 |stuck=>cases h
theorem jT(hg:(clausesOf node)[d]?=Zz ⟨target,iter,ifs,0⟩)(hd:(Rp prog w).den (.compStart node d it acc env)=(Xd node d it acc env).onRaise (λx=>do WI x env;W0 theWindowsPlace))(hA:A.under (.compStart node d it acc env)=A)(h0:UR (Rp prog w) A (.compLoop node d it acc env) R s)(h:RF (Rp prog w) A (pyIter it) (λit' s'=>UR (Rp prog w) A (.compLoop node d it' acc env) R s') (notedBy (Rp prog w) A env λx s'=>R (.error x) s') s):
  UR (Rp prog w) A (.compStart node d it acc env) R s:=by
 refine VP ?_;rw[hd,hA];refine wpAny_notedAt ?_;unfold Xd;rw[hg];refine R0 (UT (wpAny_ite ?_));split
 ·first
   |exact R0 (R3 (R3 (Rh rfl h0)))
   |exact R3 (Rh rfl h0)
 ·first
   |exact R0 (UG (R0 (TM (R0 (TT h (λit' s' h'=>R3 (Rh rfl h')) λ_ _ x=>x)))))
   |(refine R0 (UG ?_);show RF _ _ (W0 iter.pos >>= _) _ _ s;exact R0 (TM (R0 (TT h (λit' s' h'=>R3 (Rh rfl h')) λ_ _ x=>x))))
noncomputable def Fv(own:Nat)(keep:List Nat)(env:Env):Env:=RL own Zy++keep.map λi=>(env[i]?).join
section
variable{X Y:Cx}{env env':Mi.Env}{cm cm' cm0:List RC}{m m' m0 m1 m2:Mem}{s s' s0:RA}{w:W}{v u:R4}{ch:List RC}{J Q:VK}{h h':Rq}{t:T}{l ts out:List T}{vs:List R4}{a it D C:RC}{n d L:Nat}{i:Nat}{tk:Nat}{o o':Obj}{f:List RC}
variable{call:Nat->List W->Mem->Res W}{gv:List T}{e elt target iter:SJ}{ifs:List SJ}{gens gs:List Uh}{E inner:Mi.E}{cs:Es}{tg:Tg}{pos p:Pos}{Acc:Rq->List R4->Prop}
variable{own:Nat}{keep:List Nat}{it:Mi.E} in
theorem sQ{α β:Type}{r:Res α}{f:α->Mem->Res β}(b:∀x m e m',f x m≠.exc e m')(e:Exc)(m':Mem):r.only.bind f≠.exc e m':=by
 cases r with
 |ok x m=>exact b x m e m'
 |exc _ _=>intro h;cases h
 |stuck=>intro h;cases h
variable{own:Nat}{keep:List Nat}{it:Mi.E} in
theorem su(e:Exc)(m':Mem):ev call gv (.comp own keep it tg cs inner) env m≠.exc e m':=by
 unfold ev;refine sQ (λx c e m'=>?_) e m';cases h:ba x c with
 |ok ts m1 =>
  refine sQ (λb m2 e m'=>?_) e m';split<;>(intro h;cases h)
 |exc _ _ =>
  unfold ba at h;split at h<;>first
   |(cases h;done)
   |(split at h<;>cases h)
 |stuck=>intro h;cases h
variable{own:Nat}{keep:List Nat}{it:Mi.E} in
theorem uG(h:ev call gv (.comp own keep it tg cs inner) env m=.ok w m'):∃a,w=.t (.lst a):=by
 unfold ev at h;obtain⟨_,_,_,h⟩:=aV h;obtain⟨_,_,_,h⟩:=aV h;obtain⟨a,_,_,h⟩:=aV h;split at h<;>cases h;exact⟨_,rfl⟩
theorem PE.run(h:PE call gv X e E)(I:Fr X env cm m s)(ok:ev call gv E env m=.ok w m'):RF X.M X.A (eval e X.env) (λv s'=>∃cm',bz X.fs X.tb cm m s cm' m' s'/\Fr X env cm' m' s'/\RW X.D cm' m' s'.heap w v) J s:=
 h env cm m s I _ J (by rw[ok];exact λc t x M v r=>⟨c,x,I.go x M I.nc,r⟩)
theorem PI.run{z:Bool}{ts:List T}(h:PI call gv z X target e E)(I:Fr X env cm m s)(ok:ev call gv E env m=.ok w m1)(eb:ba w m1=.ok ts m2):RF X.M X.A (eval e X.env) (λv s'=>RF X.M X.A (pyIter v) (λv s2=>∃F fp it cm1 s1,v=.ref it/\(z=false->F=X.fs)/\(∀b∈X.fs,b∈F)/\(∀b∈F,b∈X.fs∨s1.heap.get? b=Zy)/\bz X.fs X.tb cm m s cm1 m1 s1/\Fr X env cm1 m1 s1/\(∀ch,bz F ch cm1 m2 s1 cm1 m2 s2)/\Fr { X with fs:=F } env cm1 m2 s2/\On { X with fs:=F } cm1 m2 s2.heap it fp 0 ts/\yR fp target/\∀b∈fp,s1.heap.get? b=Zy) J s') J s:=
 h env cm m s I (W×List T×Mem×Mem) (λw ts m1 m2=>.ok (w,ts,m1,m2) m2) (λp _ _ _=>p=(w,ts,m1,m2)) _ J (by rw[ok];show aI _ _ _ _ _ ((ba w m1).bind _) _ _;rw[eb];exact λ_ _ _ _=>rfl) λF fp w' ts' c1 n1 n2 s1 it s2 z1 z2 z3 x1 I1 e1 o x2 I2 on tk fr=>by
  have o:=o.to (d9 I1 e1).1 (d9 (ch:=[]) I1 e1).2.mem;cases o;exact⟨F,fp,it,c1,s1,rfl,z1,z2,z3,x1,I1,x2,I2,on,tk,fr⟩
theorem PT.run{b:Bool}(h:PT call gv X e E)(I:Fr X env cm m s)(ok:(ev call gv E env m).bind bT=.ok b m'):RF X.M X.A (isTrue e X.env (eval e X.env)) (λc s'=>c=b/\∃cm',bz X.fs X.tb cm m s cm' m' s'/\Fr X env cm' m' s') J s:=
 h env cm m s I _ J (by rw[ok];exact λc t x M=>⟨rfl,c,x,I.go x M I.nc⟩)
variable(call gv) in
def Ka(X:Cx):Es->List SJ->Prop
 |.nil,[]=>True
 |.cons a es,e::r=>PT call gv X e a/\Ka X es r
 |_,_=>False
theorem ux:∀{cs:Es}{ifs:List SJ}{cm:List RC}{m m':Mem}{s:RA}{k:Bool},Ka call gv X cs ifs->Fr X env cm m s->tests call gv cs env m=.ok k m' ->
  RF X.M X.A (forIn ifs true λc r=>if r=true then do let ok <-isTrue c X.env (eval c X.env);pure (Su ok)else pure (Su r))
   (λb s'=>b=k/\∃cm',bz X.fs X.tb cm m s cm' m' s'/\Fr X env cm' m' s') J s
 |.nil,[],cm,m,m',s,k,_,I,ok=>by
  unfold tests at ok;cases ok;exact R3 ⟨rfl,cm,.refl,I⟩
 |.cons a es,e::r,cm,m,m',s,k,hp,I,ok=>by
  unfold tests at ok;obtain⟨h1,h2⟩:=hp;simp only[Ss,if_true];rw[<-bL]at ok;obtain⟨b,m2,e2,ok⟩:=aV ok;refine R0 (R0 (ta (h1.run I e2) λc s1 ⟨hb,cm1,x1,I1⟩=>R3 ?_));subst hb;cases c with
  |true =>
   rw[Xy rfl]at ok;exact ta (ux h2 I1 ok) λb' s2 ⟨hb',cm2,x2,I2⟩=>⟨hb',cm2,x1.trans x2,I2⟩
  |false =>
   rw[Xz S4]at ok;cases ok;exact pW ⟨rfl,cm1,x1,I1⟩ r
 |.nil,_::_,_,_,_,_,_,hp,_,_=>hp.elim
 |.cons _ _,[],_,_,_,_,_,hp,_,_=>hp.elim
variable(call gv) in
inductive Ke (X:Cx) (elt:SJ) (gens:List Uh):Nat->Mi.E->Prop
 |emit {d:Nat}{a:Mi.E}:gens[d+1]?=Zy->PE call gv X elt a->Ke X elt gens d (.emit a)
 |more {d:Nat}{it inner:Mi.E}{tg:Tg}{cs:Es}{target iter:SJ}{ifs:List SJ}:gens[d+1]?=Zz ⟨target,iter,ifs,0⟩->PI call gv false X target iter it->(∀x,UE iter X.env x=pure x)->PG X target tg->Ka call gv X cs ifs ->
  (∀i∈yL tg,i∉mc inner)->(∀i∈yL tg++mc inner,i<X.N.length)->Ke X elt gens (d+1) inner->Ke X elt gens d (.more it tg cs inner)
theorem wB(e:bJ tg t env=Zz env'):env'.length=env.length/\∀i,i∉yL tg->env'[i]?=env[i]?:=by
 cases tg with
 |nm j =>
  cases e;refine⟨Ta,λi hi=>?_⟩;rw[Rx];intro z;exact hi (by simp[yL,z])
 |tp is =>
  cases t with
  |tup ts =>
   obtain⟨_,rfl⟩:=sI e;clear e
   suffices ∀(is:List Nat) (ts:List T) (env:Mi.Env),((is.zip ts).foldl (λenv p=>env.set p.1 (Zz (.t p.2))) env).length=env.length/\∀i,i∉is->((is.zip ts).foldl (λenv p=>env.set p.1 (Zz (.t p.2))) env)[i]?=env[i]? from this is ts env
   intro is
   induction is with
   |nil=>exact λts env=>⟨rfl,λ_ _=>rfl⟩
   |cons j is ih =>
    intro ts env;cases ts with
    |nil=>exact⟨rfl,λ_ _=>rfl⟩
    |cons t ts =>
     rw[Ur,VS];obtain⟨h1,h2⟩:=ih ts (env.set j (Zz (.t t)));refine⟨h1.trans Ta,λi h=>?_⟩;rw[R7]at h;rw[h2 i λz=>h (.inr z),Rx λz=>h (.inl z.symm)]
  |_=>cases e
theorem Fr.less(I:Fr X env' cm m s)(e:env'.length=env.length)(k:∀(i:Nat) w,env[i]?=Zz (Zz w)->env'[i]?=Zz (Zz w)):Fr X env cm m s:=by
 obtain⟨f,hn,hl⟩:=I.loc;exact⟨I.ok,I.mem,I.bare,I.bs,⟨f,hn,λi x w h1 h2=>hl i x w h1 (k i w h2)⟩,I.cell,I.cN,e.symm.trans I.len⟩
theorem SrcL.fr{Y:Cx}(T:Y.toBs=X.toBs)(n:∀b∈Y.fs,b∈X.fs∨h.get? b=Zy)(k:∀b o,h.get? b=Zz o->h'.get? b=Zz o)(q:SrcL X cm m h a l):SrcL Y cm m h' a l:=by
 obtain⟨B,A,N,env,stack,fs,fn,calm⟩:=Y;cases T;cases q with
 |own c p r=>exact .own c (p.fr n k) (r.mp λ_ _ r=>r.fr n k)
 |sZ e1 e2=>exact .sZ e1 e2
 |db c p f r=>exact .db c (p.fr k) (λb=>(n _ b).elim f λb=>(let⟨_,_,e,_⟩:=p;by rw[b]at e;cases e)) (r.mp λ_ _ r=>r.fr n k)
theorem Src.fr{Y:Cx}{fp:List RC}(T:Y.toBs=X.toBs)(n:∀b∈Y.fs,b∈X.fs∨h.get? b=Zy)(k:∀b o,h.get? b=Zz o->h'.get? b=Zz o)(q:Src X cm m h it i l fp):Src Y cm m h' it i l fp:=by
 obtain⟨B,A,N,env,stack,fs,fn,calm⟩:=Y;cases T;have nf:∀{a:RC}{x:Array R4},pN "tuple" h a x->a∉X.fs->a∉fs:=λp f b=>(n _ b).elim f λb=>(let⟨_,_,e,_⟩:=p;by rw[b]at e;cases e)
 cases q with
 |lst q r=>obtain⟨o,e,c⟩:=q;exact .lst ⟨o,k _ o e,c⟩ (SrcL.fr (X:=X) rfl n k r)
 |tup q p f r=>obtain⟨o,e,c⟩:=q;exact .tup ⟨o,k _ o e,c⟩ (p.fr k) (nf p f) (r.mp λ_ _ r=>r.fr n k)
 |str b q e1=>obtain⟨o,e,c⟩:=q;exact .str b ⟨o,k _ o e,c⟩ e1
 |Gj q e1=>exact .Gj (k _ _ q) e1
 |Gk n0 q r c e1=>obtain⟨o,e,d⟩:=r;exact .Gk n0 (k _ _ q) ⟨o,k _ o e,d⟩ (SrcL.fr (X:=X) rfl n k c) e1
 |zip A S p f r c e1 e2=>exact .zip A (S.keep λc _ o=>k c o) (p.fr k) (nf p f) (r.mp λ_ _ r=>r.fr n k) (SrcL.fr (X:=X) rfl n k c) e1 e2
theorem On.self{fp:List RC}(hc:X.A.handled=Zy)(I:Fr X env cm m s)(q:On X cm m s.heap it fp i l)(h:Q (.ref it) s):RF X.M X.A (pyIter (.ref it)) Q J s:=by
 have S:=q.src;cases S with
 |lst hi hs =>
  obtain⟨y,hy,_,r⟩:=hs.now I.mem;obtain⟨o,ho,_,c,d⟩:=id hy;exact(WN (prog:=X.prog) (w:=X.w) hc it _ (uf (.inl hi) ho d) y).self i s _ _ ⟨hi,hy⟩ h
 |tup hi hp _ r =>
  obtain⟨o,c,ho,_,d,_⟩:=id hp;exact(Wc (prog:=X.prog) (w:=X.w) hc it _ (uf (.inr hi) ho d) _).self i s _ _ ⟨hi,hp.tup⟩ h
 |@str c t' b hi el =>
  cases b with
  |true=>exact(Wg (prog:=X.prog) (w:=X.w) hc it ⟨c.toArray⟩ t').self i s _ _ hi h
  |false=>exact(Ww (prog:=X.prog) (w:=X.w) hc it ⟨c.toArray⟩ t').self i s _ _ hi h
 |@Gj lo n hi el=>exact(XG (prog:=X.prog) (w:=X.w) hc it lo 1 n).self i s _ _ hi h
 |Gk _ q1 _ _ _=>exact wpAny_pyIter_enum q1 h
 |zip _ S1 _ _ _ _ _ _=>exact wpAny_pyIter_zip S1.zip h
def Lm(fs:List RC)(D:RC)(h:Rq):Prop:=∃o,h.get? D=Zz o/\¬KY fs D o/\(∀v,o.data≠.fields v)/\∀v,o.data≠.cell v
theorem Cx.Ok.fs(K:X.Ok)(g:∀b∈X.fs,b∈f):Cx.Ok { X with fs:=f }:={ K with GS:=λe h=>(K.GS e h).imp id λ⟨L,h1,h2⟩=>⟨L,g L h1,h2⟩,fr:=g _ K.fr }
theorem Fr.K8(I:Fr X env cm m s)(K:Cx.Ok { X with fs:=f })(sub:∀b∈f,b∈X.fs)(hD:D∈X.fs)(ne:D≠X.env.locals)(e:Lm X.fs D s.heap)(kk:∀b o,b≠D->s.heap.get? b=Zz o->h.get? b=Zz o)(e':D∈f->∃o',h.get? D=Zz o'/\NF X D o'):
  ExtK X.fs [D] cm m s cm m { s with heap:=h,toks:=tk }/\Nq X.fs [D] s.heap/\Fr { X with fs:=f } env cm m { s with heap:=h,toks:=tk }:=by
 obtain⟨o,e,nx,nf,nc⟩:=e;have kk':∀b o,b∉[D]->s.heap.get? b=Zz o->h.get? b=Zz o:=λb o n=>kk b o λz=>n (RN.mpr z)
 have x:ExtK X.fs [D] cm m s cm m { s with heap:=h,toks:=tk }:=⟨rfl,id,λ_ _ h=>h,RU _,λb o e c n=>⟨n,o,kk' b o c e,.inl rfl⟩⟩
 have nq:Nq X.fs [D] s.heap:=λb z q g k=>by
  obtain rfl:=RN.mp z;rw[e]at g;cases g;exact nx k
 have M:=I.mem.go nq x kk' (I.ok.n9 _ _ I.mem.tab λb o hb g=>kk b o (λz=>by
  obtain⟨v,q⟩:=((I.nc b hb).2 o g).1;rw[z,e]at g;cases g;exact nf v q) g)
 have sub':∀b∈f,b∈X.fs∨h.get? b=Zy:=λb h=>.inl (sub b h)
 obtain⟨g,⟨oL,es,ep,eL,r⟩,hl⟩:=I.loc;have cell:∀{c v},s.heap.IsCell c v->h.IsCell c v:=λ⟨q,g,k⟩=>⟨q,kk _ _ (λz=>by rw[z,e]at g;cases g;exact nc _ k) g,k⟩
 refine⟨x,nq,K,M.fr (X:=X) rfl sub' (λ_ _ e=>e) id,I.bare,λb o g=>kk b o (λz=>by rw[z,(I.cN D hD).1]at g;cases g) (I.bs b o g),⟨g,⟨oL,es,ep,kk _ _ (Tj ne) eL,r⟩,λi y w h1 h2 h3=>?_⟩,λy c h=>(I.cell y c h).elim λv z=>⟨v,cell z⟩,λb hb=>?_,I.len⟩
 ·obtain⟨u,h4,h5⟩:=hl i y w h1 h2 h3
  exact⟨u,(h4.go x I.mem nq).fr sub' λ_ _ e=>e,h5.imp id λ⟨k,c,h6,h7⟩=>⟨k,c,h6,cell h7⟩⟩
 ·obtain⟨hq,q,g,n⟩:=I.cN b (sub b hb)
  refine⟨hq,?_⟩;by_cases z:b=D
  ·subst z;exact e' hb
  ·exact⟨q,kk b q z g,n⟩
theorem Fr.acc(I:Fr X env cm m s)(hD:D∈X.fs)(ne:D≠X.env.locals)(e:Lm X.fs D s.heap)(kk:∀b o,b≠D->s.heap.get? b=Zz o->h.get? b=Zz o)(e':∃o',h.get? D=Zz o'/\NF X D o'/\∀o,s.heap.get? D=Zz o->(∀x n,o.data≠.seq x n)->∀x n,o'.data≠.seq x n):
  bz X.fs (D::ch) cm m s cm m { s with heap:=h,toks:=tk }/\Fr X env cm m { s with heap:=h,toks:=tk }:=
 ⟨.heap (λb o n e=>kk b o (λz=>n (z▸RD)) e) λb _ q g=>by
  by_cases z:b=D
  ·subst z;exact e'.imp λ_ h=>⟨h.1,λ_=>h.2.1.1,h.2.2 _ g⟩
  ·exact⟨q,kk b q z g,.r⟩,(I.K8 (f:=X.fs) I.ok (λ_ h=>h) hD ne e kk λ_=>e'.imp λ_ h=>⟨h.1,h.2.1⟩).2.2⟩
structure Fe (fs:List RC) (D:RC) (Acc:Rq->List R4->Prop):Prop where
 obj:∀{h vs},Acc h vs->Lm fs D h
 keep:∀{h h' vs},Acc h vs->(∀o,h.get? D=Zz o->∃o',h'.get? D=Zz o'/\(o'=o∨D∈fs/\(∀x n,o.data≠.seq x n)/\∃sl,o'={ o with slots:=sl }))->Acc h' vs
def AccAt(D:RC)(h:Rq)(vs:List R4):Prop:=vs.length<=Ri/\∃n,h.get? D=Zz { cls:=.type "list",data:=.seq vs.toArray n }
theorem eT(hD:D∈f):Fe f D (AccAt D):=⟨λ⟨_,n,e⟩=>⟨_,e,λk=>(by
 cases k with
 |seq _ _ _ z=>exact z hD
 |dict _ _ z=>cases z
 |ref _ _ z=>cases z
 |trace _ z=>exact Y3 (Value.type.inj z) (by decide)),(λv z=>by cases z),λv z=>by cases z⟩,λ⟨z,n,e⟩ k=>by
 obtain⟨o',e',q⟩:=k _ e;rcases q with rfl|⟨_,q,_⟩
 ·exact⟨z,n,e'⟩
 ·exact Y3 rfl (q _ _)⟩
theorem Fe.go(A:Fe X.fs D Acc)(I:Fr X env cm m s)(hD:D∈X.fs)(x:ExtK X.fs ch cm m s cm' m' s')(n:D∉ch)(a:Acc s.heap vs):Acc s'.heap vs:=A.keep a λo e=>(x.keep D o e n (K5 I.mem hD)).2
theorem yV(A:Fe X.fs D Acc)(I:Fr X env cm m s)(a:Acc s.heap vs):Nq X.fs (D::X.own) s.heap:=λb hb o e k=>by
 rcases R7.mp hb with rfl|hb
 ·obtain⟨o',e',n,_⟩:=A.obj a
  rw[e]at e';cases e';exact n k
 ·exact I.nq b hb o e k
inductive Fb (Y:Cx) (Acc:Rq->List R4->Prop) (D:RC) (env:Mi.Env) (vs:List R4) (cm:List RC) (m:Mem) (s:RA) (out:List T) (m':Mem) (s':RA):Prop
 |mk (cm' vs') (_:bz Y.fs (D::Y.own) cm m s cm' m' s') (_:Fr Y env cm' m' s') (_:jx Y.D cm' m' s'.heap out vs') (_:Acc s'.heap (vs++vs'))
variable(call gv) in
inductive LA (Y:Cx) (Acc:Rq->List R4->Prop) (D it:RC) (fp:List RC) (tg:Tg) (cs:Es) (inner:Mi.E) (ts:List T) (env:Mi.Env) (vs:List R4) (cm0:List RC) (m0:Mem) (s0:RA) (out:List T) (m':Mem) (n:Nat) (s:RA):Prop
 |mk (i cm m vs1 done rest) (_:bz Y.fs (D::Y.own) cm0 m0 s0 cm m s) (_:Fr Y env cm m s) (_:On Y cm m s.heap it fp i ts) (_:jx Y.D cm m s.heap done vs1) (_:Acc s.heap (vs++vs1)) (_:bU (turnF call gv cs inner) tg (ts.drop i) env m=.ok rest m') (_:out=done++rest) (_:n=ts.length+1-i) (_:i<=ts.length)
theorem yC(hc:Y.calm=true){ce:SJ}(hA:Fe Y.fs D Acc)(hD:D∈Y.fs)(hDo:D∉Y.own){Pt:T->Prop}{br:Sem Xc}(hu:Y.A.under (.compLoop ce d (.ref it) (.ref D) Y.env)=Y.A)(hd:(Rp Y.prog Y.w).den (.compLoop ce d (.ref it) (.ref D) Y.env)=(Wi ce d (.ref it) (.ref D) Y.env).onRaise (λx=>do WI x Y.env;theTreesLotGoes x))(code:Wi ce d (.ref it) (.ref D) Y.env=DI target iter ifs Y.env (.ref it) (.compLoop ce d (.ref it) (.ref D) Y.env) br)(hg:PG Y target tg)(ht:Ka call gv Y cs ifs)(hdis:∀i∈yL tg,i∉mc inner)(hbr:∀{s:RA}{cm:List RC}{m m':Mem}{env:Mi.Env}{out:List T}{vs:List R4}{J:VK},Fr Y env cm m s->Acc s.heap vs->(∀i∈mc inner,∀w,env[i]?≠Zz (Zz w)) ->
   (ev call gv inner env m).bind mJ=.ok out m'->vs.length+out.length<=L->(∀t∈out,Pt t) ->
   RF Y.M Y.A br (λfin s'=>fin=.again (.compLoop ce d (.ref it) (.ref D) Y.env)/\Fb Y Acc D env vs cm m s out m' s') J s)(x0:bz Y.fs (D::Y.own) cm0 m0 s0 cm m s){fp:List RC}(tk:yR fp target)(hDf:D∉fp)(fr:∀b∈fp,s0.heap.get? b=Zy)(I:Fr Y env cm m s)(on:On Y cm m s.heap it fp 0 ts)(ha:Acc s.heap vs)(hn:∀i∈yL tg++mc inner,∀w,env[i]?≠Zz (Zz w))(ok:bU (turnF call gv cs inner) tg ts env m=.ok out m')(hl:vs.length+out.length<=L)(hpt:∀t∈out,Pt t):
  UR Y.M Y.A (.compLoop ce d (.ref it) (.ref D) Y.env) (λr s'=>r=.ok .next/\Fb Y Acc D env vs cm0 m0 s0 out m' s') s:=by
 refine codeAny_loop rfl (LA call gv Y Acc D it fp tg cs inner ts env vs cm0 m0 s0 out m') ?_ (ts.length+1) ⟨0,cm,m,[],[],out,x0,I,on,.nil,by rw[Rm];exact ha,by rw[Wd];exact ok,rfl,rfl,Ut _⟩;rintro n s1 ⟨i,cm1,m1,vs1,done,rest,x1,I1,on1,r1,a1,ok1,eo,rfl,hi⟩;have hh:=I1.ok.hd hc;rw[hu,hd];refine wpAny_noted ?_;rw[code];refine R0 (TM (R0 ?_));have toD:∀{h1:Rq}{tk:Nat},(∀b o,b∉fp->s1.heap.get? b=Zz o->h1.get? b=Zz o)->Acc h1 (vs++vs1):=λkk=>hA.keep a1 λo e=>⟨o,kk D o hDf e,.inl rfl⟩
 cases et:ts[i]? with
 |none =>
  have hi:i=ts.length:=by have:=List.getElem?_eq_none_iff.mp et;omega
  refine ta (on1.done hh I1 hi (R:=Fb Y Acc D env vs cm0 m0 s0 out m') λh tk kk x I2=>?_) λr s2 ⟨hr,q⟩=>?_
  ·rw[hi,List.drop_length,bU]at ok1
   cases ok1;rw[Rm]at eo;subst eo;exact⟨cm1,vs1,x1.past x fr kk,I2,r1.mp λ_ _ r=>r.go x I1.mem on1.nq,toD (tk:=tk) kk⟩
  ·subst hr
   exact R3 ⟨rfl,q⟩
 |some t =>
  have hit:=(RG.mp et).1;rw[Ua hit,(RG.mp et).2,bU]at ok1;split at ok1
  ·cases ok1
  rename_i env' eb;obtain⟨xs,m2,ok2,ok3⟩:=aV ok1;obtain⟨ys,m3,ok4,ok5⟩:=aV ok3;cases ok5;obtain⟨k,m4,okt,okb⟩:=aV ok2;obtain⟨el,eg⟩:=wB eb;refine ta (on1.next (tg:=target) (Q:=λu s2=>Fr Y env cm1 m1 s2/\On Y cm1 m1 s2.heap it fp (i+1) ts/\RT Y.D cm1 m1 s2.heap t u/\bz Y.fs (D::Y.own) cm0 m0 s0 cm1 m1 s2/\jx Y.D cm1 m1 s2.heap done vs1/\Acc s2.heap (vs++vs1)) hh I1 tk et λu h tk kk x I2 on2 r2=>⟨I2,on2,r2,x1.past x fr kk,r1.mp λ_ _ r=>r.go x I1.mem on1.nq,toD (tk:=tk) kk⟩) λr s2 ⟨u,hr,h2⟩=>?_
  subst hr;refine R0 (ta h2 λ_ s3 ⟨I3,on3,r3,x3,rd3,a3⟩=>?_);refine R0 (hg _ _ _ _ I3 t u env' r3 eb _ _ λs4 x4 I4=>?_);have own:∀b∈Y.own,b∈D::Y.own:=λb hb=>R5 _ hb
  have tbo:∀b∈Y.tb,b∈D::Y.own:=λb hb=>own b (cy b hb)
  refine R0 (ta (ux ht I4 okt) λb s5 ⟨hb,cm5,x5,I5⟩=>?_);have x35:=(x4.sub own).trans (x5.sub tbo);have n3:=yV hA I3 a3;have itD:∀b∈fp,b∉D::Y.own:=λb hb z=>(R7.mp z).elim (λz=>hDf (z▸hb)) (on3.no b hb)
  have a4:=hA.go I3 hD x4.toExtK hDo a3;have a5:=hA.go I4 hD x5.toExtK (λz=>hDo (cy _ z)) a4;have on5:=on3.go x35.toExtK x35.lent I3.mem n3 itD;have r5:=rd3.mp λ_ _ r=>r.go x35.toExtK I3.mem n3
  have le:∀(j:Nat) w,env[j]?=Zz (Zz w)->env'[j]?=Zz (Zz w):=λj w e=>by rw[eg j λz=>hn j (UN _ z) w e];exact e
  subst hb;cases b with
  |false =>
   rw[Xz S4]at okb ⊢;cases okb;rw[TJ]at eo;exact R3 ⟨rfl,_,by omega,i+1,cm5,m2,vs1,done,ys,x3.trans x35,I5.less el le,on5,r5,a5,ok4,eo,rfl,hit⟩
  |true =>
   rw[Xy rfl]at okb ⊢;have hv:=r5.1;refine ta (hbr I5 a5 (λj hj w=>by rw[eg j λz=>hdis j z hj];exact hn j (VC _ hj) w) okb (by
    rw[eo,RV,RV]at hl;rw[RV,<-hv];omega) λt ht'=>hpt t (by rw[eo];exact VC _ (UN _ ht'))) λfin s6 ⟨hfin,cm6,vs6,x6,I6,r6,a6⟩=>?_
   subst hfin;have n5:=yV hA I5 a5;exact⟨rfl,_,by omega,i+1,cm6,m2,vs1++vs6,done++xs,ys,(x3.trans x35).trans x6,I6.less el le,on5.go x6.toExtK x6.lent I5.mem n5 itD,(r5.mp λ_ _ r=>r.go x6.toExtK I5.mem n5).app r6,by rw[<-Sg];exact a6,ok4,by rw[eo,Sg],rfl,hit⟩
end
noncomputable def KB(scope osc:Vn):Bool:=scope.kind==.function&&scope.names.all λp=>scope.names.lookup p.1==Zz p.2&&(p.2 != .free || osc.names.lookup p.1==Zz .cell || osc.names.lookup p.1==Zz .free)
noncomputable def Fw(N' N:List Str)(own:Nat)(keep:List Nat)(scope:Vn):Bool:=N'.length==own+keep.length&&(Sc keep.length).all λi=>match N'[own+i]?,keep[i]? with
 |some x,Zz j=>N[j]?==Zz x&&scope.names.any λp=>p.1==x&&p.2==.free
 |_,_=>false
structure Fm (X:Cx) (N':List Str) (scope:Vn):Prop where
 kind:scope.kind=.function
 look:∀p∈scope.names,scope.names.lookup p.1=Zz p.2
 free:∀x,(x,SV)∈scope.names->X.env.kindOf x=Zz .cell∨X.env.kindOf x=Zz .free
theorem n7(look:∀p∈scope.names,scope.names.lookup p.1=Zz p.2)(h:(relabel scope env).names.lookup x=Zz k):
  ∃k',scope.names.lookup x=Zz k'/\(k=k'∨(k'=.free/\k=.cell)):=by
 have go:∀(ns:List (Str×UO)),(ns.map λ(n,k)=>if(k==SV&&env.scope.kind==.function&&env.kindOf n==Zz .cell)then(n,W9)else(n,k)).lookup x=Zz k->∃k',ns.lookup x=Zz k'/\(k=k'∨(k'=.free/\k=.cell)):=by
  intro ns
  induction ns with
  |nil=>intro h;simp at h
  |cons p r ih =>
   obtain⟨n,q⟩:=p;intro h;rw[RQ]at h;by_cases hc:(q==SV&&env.scope.kind==.function&&env.kindOf n==Zz .cell)=true
   ·simp only[hc,if_true]at h
    rw[Sw]at h ⊢;cases hx:x==n with
    |true =>
     rw[hx]at h;cases h;rw[R6,R6]at hc;exact⟨q,rfl,.inr ⟨eq_of_beq hc.1.1,rfl⟩⟩
    |false=>rw[hx]at h;exact ih h
   ·simp only[hc,Rk,if_false]at h
    rw[Sw]at h ⊢;cases hx:x==n with
    |true=>rw[hx]at h;cases h;exact⟨_,rfl,.inl rfl⟩
    |false=>rw[hx]at h;exact ih h
 exact go scope.names h
theorem pP{ns:List (Str×UO)}(h:ns.lookup x=Zz k):(x,k)∈ns:=T5 h
structure CA (h:Rq) (lo:Nat) (cs:List (Str×RC)):Prop where
 lt:∀x c,cs.lookup x=Zz c->c<h.objs.size
 inj:∀x y c,cs.lookup x=Zz c->cs.lookup y=Zz c->x=y
 new:∀x c,cs.lookup x=Zz c->lo<=c->h.IsCell c Zy
theorem iJ{α:Type}{a c:α}{l:List (Str×α)}(h:Wh x ((y,a)::l)=Zz c):(x=y/\c=a)∨l.lookup x=Zz c:=by
 rw[Sw]at h;cases e:x==y with
 |true=>rw[e]at h;cases h;exact .inl ⟨eq_of_beq e,rfl⟩
 |false=>rw[e]at h;exact .inr h
theorem uY:∀(names:List (Str×UO)) (h:Rq) (lo:Nat) (acc:List (Str×RC)),CA h lo acc->lo<=h.objs.size->CA (pushCells h names) lo (UV h.objs.size names acc)
 |[],_,_,_,x,_=>x
 |(name,kind)::r,h,lo,acc,x,hlo=>by
  unfold pushCells UV;split
  ·have:=uY r (h.push { cls:=.type "cell",data:=.cell Zy }) lo ((name,h.objs.size)::acc)
    ⟨λn c hm=>by
      rw[Rw];rcases iJ hm with⟨_,rfl⟩|hm
      ·exact Ts _
      ·exact Sx (x.lt n c hm),
     λn n' c h1 h2=>by
      rcases iJ h1 with⟨e1,z1⟩|h1<;>rcases iJ h2 with⟨e2,z2⟩|h2
      ·rw[e1,e2]
      ·exact Y3 (x.lt _ _ h2) (by rw[z1];exact SI _)
      ·exact Y3 (x.lt _ _ h1) (by rw[z2];exact SI _)
      ·exact x.inj n n' c h1 h2,
     λn c hm hc=>by
      rcases iJ hm with⟨_,rfl⟩|hm
      ·exact⟨_,RM _ rfl,rfl⟩
      ·exact(x.new n c hm hc).keeps λb o e=>R9 _ e⟩ (by rw[Rw];omega)
   rwa [Rw]at this
  ·exact uY r h lo acc x hlo
theorem m8{c:RC}:∀(names:List (Str×UO)) (n:Nat) (acc:List (Str×RC)),(UV n names acc).lookup x=Zz c->(n<=c/\(x,W9)∈names)∨acc.lookup x=Zz c
 |[],_,_,h=>.inr h
 |(y,k)::r,n,acc,h=>by
  unfold UV at h;split at h
  ·rename_i hk
   have hk:=eq_of_beq hk;rcases m8 r (n+1) _ h with⟨h1,h2⟩|h1
   ·exact .inl ⟨by omega,R5 _ h2⟩
   ·rcases iJ h1 with⟨rfl,rfl⟩|h1
    ·exact .inl ⟨RU _,by rw[hk];exact RD⟩
    ·exact .inr h1
  ·rcases m8 r n _ h with⟨h1,h2⟩|h1
   ·exact .inl ⟨h1,R5 _ h2⟩
   ·exact .inr h1
theorem pz:∀(names:List (Str×UO)) (n:Nat) (acc:List (Str×RC)),names.lookup x=Zz .cell->(UV n names acc).lookup x=Zz c->n<=c
 |[],_,_,h,_=>by cases h
 |(y,k)::r,n,acc,h,e=>by
  unfold UV at e;rw[Sw]at h;cases q:x==y with
  |true =>
   rw[q]at h;cases h;have e:=e;rcases m8 r (n+1) _ e with⟨h1,_⟩|h1
   ·omega
   ·rw[Sw,q]at h1
    cases h1;exact RU _
  |false =>
   rw[q]at h;split at e
   ·have:=pz r (n+1) _ h e
    omega
   ·exact pz r n _ h e
structure L5 (X:Cx) (scope:Vn) (cl:List (Str×RC)) (C:RC) (h:Rq):Prop where
 one:∀x c,cl.lookup x=Zz c->(C<c/\(x,W9)∈scope.names/\h.IsCell c Zy)∨X.env.cells.lookup x=Zz c
 own:∀x c,scope.names.lookup x=Zz .cell->cl.lookup x=Zz c->C<c
 inj:∀x y c,cl.lookup x=Zz c->cl.lookup y=Zz c->x=y
 has:∀x,(x,SV)∈scope.names∨scope.names.lookup x=Zz .cell->∃c,cl.lookup x=Zz c
section
variable{X:Cx}
theorem AF{E:R4->RA->Prop}(hcl1:∀x c,cl0.lookup x=Zz c->X.env.cells.lookup x=Zz c)(hcl2:∀x,(x,SV)∈scope.names->∃c,cl0.lookup x=Zz c)(hlt:∀x c,X.env.cells.lookup x=Zz c->c<s.heap.objs.size)(hinj:∀x y c,X.env.cells.lookup x=Zz c->X.env.cells.lookup y=Zz c->x=y)(h:∀h1 cl,(∃m,h1.Ns s.heap.objs.size m)->(∀b o,s.heap.get? b=Zz o->h1.get? b=Zz o)->L5 X scope cl s.heap.objs.size h1->Q (newEnv scope s.heap.objs.size X.env.globals cl X.env.qual Zy .none (Zz X.env) Up) { s with heap:=h1 }):
  RF M A (newFunctionEnv scope X.env.globals cl0 [] X.env.qual Zy .none (Zz X.env)) Q E s:=by
 simp only[newFunctionEnv,Option.isSome_some,if_true];refine R0 (wpAny_alloc ?_);refine R0 (wpAny_layCells _ (λname kind cells=>by cases hkc:kind==W9<;>simp[hkc]) _ _ _ _ ?_);have hz:(s.heap.push { cls:=.type "dict",data:=.dict #[] }).objs.size=s.heap.objs.size+1:=Rw ..;have ok:=uY scope.names (s.heap.push { cls:=.type "dict",data:=.dict #[] }) (s.heap.objs.size+1) cl0
  ⟨λx c e=>by rw[hz];exact Sx (hlt x c (hcl1 x c e)),λx y c e1 e2=>hinj x y c (hcl1 x c e1) (hcl1 y c e2),λx c e z=>Y3 (hlt x c (hcl1 x c e)) (WV.mpr (Nat.le_of_succ_le z))⟩ (by rw[hz];exact RU _)
 rw[Wf];refine R0 (R3 (R3 ?_));refine h _ _ ⟨_,(Heap.Ns.new s.heap (.type "dict")).keeps (pushCells_keeps _ _)⟩ (λb o e=>pushCells_keeps _ _ b o (R9 _ e)) ⟨λx c e=>?_,λx c hx e=>?_,ok.inj,λx hx=>?_⟩
 ·rcases m8 _ _ _ e with⟨h1,h2⟩|h1
  ·rw[show({ s with heap:=s.heap.push { cls:=.type "dict",data:=.dict #[] } }:RA).heap.objs.size=s.heap.objs.size+1 from hz]at h1
   exact .inl ⟨h1,h2,ok.new x c e h1⟩
  ·exact .inr (hcl1 x c h1)
 ·have:=pz _ _ _ hx e
  rw[show({ s with heap:=s.heap.push { cls:=.type "dict",data:=.dict #[] } }:RA).heap.objs.size=s.heap.objs.size+1 from hz]at this;exact this
 ·refine Ug.mp (Vu _ _ _ ?_)
  rcases hx with hx|hx
  ·obtain⟨c,e⟩:=hcl2 x hx
   exact .inr (by rw[e];rfl)
  ·exact .inl hx
end
section
variable{X Y:Cx}{env env':Mi.Env}{cm cm' cm0:List RC}{m m' m0 m1 m2:Mem}{s s' s0:RA}{w:W}{v u:R4}{ch:List RC}{J Q:VK}{h h':Rq}{t:T}{l ts out:List T}{vs:List R4}{a it D C:RC}{n d L:Nat}{i:Nat}{tk:Nat}{o o':Obj}{f:List RC}
variable{call:Nat->List W->Mem->Res W}{gv:List T}{e elt target iter:SJ}{ifs:List SJ}{gens gs:List Uh}{E inner:Mi.E}{cs:Es}{tg:Tg}{pos p:Pos}{Acc:Rq->List R4->Prop}{scope:Vn}{N':List Str}{cl:List (Str×RC)}
theorem zZ(I:Fr X env cm m s)(hD:D∈X.fs)(ne:D≠X.env.locals)(hs:D∉frs X.stack)(a:AccAt D s.heap vs)(hz:vs.length<Ri)(q:∀s',bz X.fs (D::X.own) cm m s cm m s'->Fr X env cm m s'->AccAt D s'.heap (vs++[u])->Q .none s'):RF X.M X.A (T7 (.builtin "list.append") [.ref D,u]) Q J s:=by
 have fl:=(eT hD).obj a;obtain⟨z,n,e⟩:=a;refine Sk F.slot_list_append ⟨_,e,rfl⟩ F.entry_list_append (F.args_list_append_2 _ _) (PySem.list_append D vs.toArray n u (by simpa using Th hz)) ⟨e,?_⟩;have e2:=PySem.IsL.update e (·.push u);rw[show vs.toArray.push u=(vs++[u]).toArray by simp]at e2;obtain⟨x,I'⟩:=I.acc (ch:=X.own) (tk:=s.toks) hD ne fl (λb o hb eb=>(SH s.heap (U0 (·.push u)) (Tj hb)).trans eb) ⟨_,e2,⟨(λv z=>by cases z),λz=>Y3 z hs⟩,λo e' n=>by rw[e]at e';cases e';exact Y3 rfl (n _ _)⟩;exact q _ x I' ⟨by rw[RV,VB];omega,_,e2⟩
theorem G9(hc:Y.calm=true)(hD:D∈Y.fs)(hDo:D∉Y.own)(hs:D∉frs Y.stack)(hin:Ke call gv Y elt gens d inner):∀{target iter:SJ}{ifs:List SJ}{tg:Tg}{cs:Es},gens[d]?=Zz ⟨target,iter,ifs,0⟩ ->
  PG Y target tg->Ka call gv Y cs ifs->(∀i∈yL tg,i∉mc inner) ->
  ∀{s0 s:RA}{cm0 cm:List RC}{m0 m m':Mem}{env:Mi.Env}{ts out:List T}{it:RC}{fp:List RC}{vs:List R4},bz Y.fs (D::Y.own) cm0 m0 s0 cm m s->yR fp target->D∉fp->(∀b∈fp,s0.heap.get? b=Zy)->Fr Y env cm m s->On Y cm m s.heap it fp 0 ts->AccAt D s.heap vs ->
   (∀i∈yL tg++mc inner,∀w,env[i]?≠Zz (Zz w))->bU (turnF call gv cs inner) tg ts env m=.ok out m'->vs.length+out.length<=lim ->
   UR Y.M Y.A (.compLoop (.ListComp elt gens scope pos) d (.ref it) (.ref D) Y.env) (λr s'=>r=.ok .next/\Fb Y (AccAt D) D env vs cm0 m0 s0 out m' s') s:=by
 have hz:=rS;have tbo:∀b∈Y.tb,b∈D::Y.own:=λb hb=>R5 _ (cy b hb)
 have neL:D≠Y.env.locals:=λz=>hDo (z▸RD)
 induction hin with
 |@emit d a l pe =>
  intro target iter ifs tg cs hg pg pt q s0 s cm0 cm m0 m m' env ts out it fp vs x0 tk hDf fr I on ha hn ok hl;refine yC hc (eT hD) hD hDo (Pt:=λ_=>True) rfl rfl (tG hg l) pg pt q ?_ x0 tk hDf fr I on ha hn ok hl (λ_ _=>trivial);intro s cm m m' env out vs J I ha hn ok hl _;obtain⟨w,m1,j,ok2⟩:=aV ok;obtain⟨rfl,rfl⟩:=ue ok2;unfold ev at j;obtain⟨w1,m2,ok3,ok4⟩:=aV j;obtain⟨t,m3,h,ok6⟩:=aV ok4;cases ok6;refine R0 (R0 (ta (pe.run I ok3) λu s1 ⟨cm1,x1,I1,r1⟩=>?_));obtain⟨x2,I2,r2⟩:=AO I1 r1 h;have a2:=(eT hD).go I1 hD x2.toExtK (λz=>hDo (cy _ z)) ((eT hD).go I hD x1.toExtK (λz=>hDo (cy _ z)) ha);have n2:=yV (eT hD) I2 a2;refine R0 (zZ I2 hD neL hs a2 (by simp at hl;omega) λs3 x3 I3 a3=>R3 (R3 ⟨rfl,cm1,[u],((x1.trans x2).sub tbo).trans x3,I3,.cons (r2.go x3.toExtK I2.mem n2) .nil,a3⟩))
 |@more d it' inner' tg' cs' target' iter' ifs' l pi hfs pg' pt' hdis' hlt' hin' ih =>
  intro target iter ifs tg cs hg pg pt q s0 s cm0 cm m0 m m' env ts out it fp vs x0 tk hDf fr I on ha hn ok hl;refine yC hc (eT hD) hD hDo (Pt:=λ_=>True) rfl rfl (tO hg l) pg pt q ?_ x0 tk hDf fr I on ha hn ok hl (λ_ _=>trivial);intro s cm m m' env out vs J I ha hn ok hl _;obtain⟨w,m1,j,ok2⟩:=aV ok;obtain⟨rfl,rfl⟩:=ue ok2;unfold ev at j;obtain⟨w1,m2,ok3,ok4⟩:=aV j;obtain⟨ts',m3,h,ok6⟩:=aV ok4;obtain⟨out',m4,ok7,ok8⟩:=aV ok6;cases ok8;refine R0 (ta (pi.run I ok3 h) λxv s1 h1=>?_);refine R0 (TM (R0 (WY (hfs xv) (R0 (SZ (ta h1 λitv s2 h2=>?_))))));obtain⟨F,fp2,it2,cm1,s1',rfl,z1,_,_,x1,I1,x2,I2,on2,tk2,fr2⟩:=h2;obtain rfl:=z1 rfl;have I2:Fr Y env cm1 m3 s2:=I2;have on2:On Y cm1 m3 s2.heap it2 fp2 0 ts':=on2;have hb:=d9 (ch:=D::Y.own) I1 h;have a1:=(eT hD).go I hD x1.toExtK (λz=>hDo (cy _ z)) ha;have a2:=(eT hD).go hb.2 hD (x2 []).toExtK (λz=>nomatch z) a1;have hDf2:D∉fp2:=λz=>by
   obtain⟨_,_,e⟩:=a1;rw[fr2 D z]at e;cases e
  have go:=ih l pg' pt' hdis' (x2 _) tk2 hDf2 fr2 I2 on2 a2 hn ok7 hl;refine R0 (wpAny_runOwn (Td (jT l rfl rfl go (on2.self (I2.ok.hd hc) I2 go)) λr s3 ⟨hr,cm3,vs3,x3,I3,r3,a3⟩=>?_));subst hr;obtain⟨x4,M4,sm⟩:=kK I3.mem (hb.1.trans x3) (λj l h=>x3.lent j l h) h;exact R3 ⟨rfl,cm3,vs3,(x1.sub tbo).trans x4,I3.go (sm []) M4 (λ_ z=>nomatch z),r3.mp λ_ _ r=>r.go (sm []) I3.mem Nq.nil,a3⟩
noncomputable abbrev bP(X:Cx)(N':List Str)(scope:Vn)(cl:List (Str×RC))(C:RC)(F:List RC):Cx:=
 { X with N:=N',env:=compEnvC scope cl C X.env,fs:=F,fn:=λx=>scope.names.lookup x==Zz .cell }
theorem Ab(I:Fr X env cm m s)(S:Fm X N' scope)(hD:s.heap.get? D=Zy)(eD:∃o,h.get? D=Zz o/\∀v,o.data≠.fields v)(hC:s.heap.objs.size<=C)(hns:∃f,h.Ns C f)(k:∀b o,s.heap.get? b=Zz o->h.get? b=Zz o)(kc:L5 X scope cl C h)(hl:env'.length=N'.length)(hσ:∀(i:Nat) (x:Str) (w:W),N'[i]?=Zz x->env'[i]?=Zz (Zz w)->∃j:Nat,X.N[j]?=Zz x/\env[j]?=Zz (Zz w)/\(x,SV)∈scope.names):
  Fr (bP X N' scope cl C (D::C::X.fs)) env' cm m { s with heap:=h,toks:=tk }:=by
 have gone:∀b,s.heap.objs.size<=b->s.heap.get? b=Zy:=λb hb=>Rt hb
 have nb:∀b,s.heap.get? b=Zy->X.base.get? b=Zy:=λb hb=>by
  cases q:X.base.get? b with
  |none=>rfl
  |some o=>rw[I.bs _ _ q]at hb;cases hb
 have nst:∀b,s.heap.get? b=Zy->b∉frs X.stack:=λb hb z=>I.rT z hb
 have hfree:∀x k,(relabel scope X.env).names.lookup x=Zz k->(k=.cell∨k=.free)->(x,SV)∈scope.names∨scope.names.lookup x=Zz .cell:=λx k h hk'=>by
  obtain⟨k',h1,h2⟩:=n7 S.look h;rcases h2 with rfl|⟨rfl,_⟩
  ·rcases hk' with rfl|rfl
   ·exact .inr h1
   ·exact .inl (pP h1)
  ·exact .inl (pP h1)
 have nn:∀b∈D::C::X.fs,b∈X.fs∨s.heap.get? b=Zy:=λb hb=>by
  rcases R7.mp hb with rfl|hb
  ·exact .inr hD
  ·rcases R7.mp hb with rfl|hb
   ·exact .inr (gone _ hC)
   ·exact .inl hb
 obtain⟨mm,hns⟩:=hns;refine⟨⟨I.ok.mod,S.kind,I.ok.glob,I.ok.blt,kc.inj,λx hx=>?_,I.ok.hd,I.ok.frames,λe he=>(I.ok.GS e he).imp id λ⟨L,h1,h2⟩=>⟨L,R5 _ (R5 _ h1),h2⟩,R5 _ RD,λx c e=>?_,I.ok.tab,I.ok.n9,I.ok.zw⟩,
  I.mem.fr (X:=X) rfl nn k λT=>I.ok.n9 _ _ T λb o _=>k b o,I.bare,λb o e=>k b o (I.bs b o e),⟨mm,hns,λi x w e1 e2 e3=>?_⟩,λx c e=>?_,λb hb=>?_,hl⟩
 ·rcases hx with hx|hx
  ·exact kc.has x (hfree x _ hx (.inl rfl))
  ·exact kc.has x (hfree x _ hx (.inr rfl))
 ·rcases kc.one x c e with⟨q,_⟩|q
  ·exact nb _ (gone _ (Rn hC (Th q)))
  ·exact I.ok.cb x c q
 ·obtain⟨j,h1',h2',h3'⟩:=hσ i x w e1 e2
  obtain⟨m0,hn0,hl0⟩:=I.loc;have kx:=S.free x h3';obtain⟨u,ru,lu⟩:=hl0 j x w h1' h2' (kx.elim (λz=>.inr (.inl z)) λz=>.inr (.inr z));refine⟨u,ru.fr nn k,.inr ?_⟩;obtain⟨c,ec,ic⟩:∃c,X.env.cells.lookup x=Zz c/\s.heap.IsCell c (Zz u):=by
   rcases lu with⟨q,_⟩|⟨_,c,q1,q2⟩
   ·rcases kx with z|z
    ·rw[z]at q;cases q
    ·rw[z]at q;cases q
   ·exact⟨c,q1,q2⟩
  obtain⟨c',ec'⟩:=kc.has x (.inl h3');have:c'=c:=by
   rcases kc.one x c' ec' with⟨_,q,_⟩|this
   ·have q1:=S.look _ q
    rw[S.look _ h3']at q1;cases q1
   ·rw[ec]at this;exact(T6 this).symm
  subst this;obtain⟨o,ho,hd⟩:=ic;refine⟨?_,c',ec',o,k _ _ ho,hd⟩;rcases e3 with e3|e3|e3
  ·obtain⟨k',q1,q2⟩:=n7 S.look e3
   rw[S.look _ h3']at q1;cases q1;rcases q2 with q2|⟨_,q2⟩<;>cases q2
  ·exact .inl e3
  ·exact .inr e3
 ·rcases kc.one x c e with⟨_,_,q⟩|q
  ·exact⟨_,q⟩
  ·obtain⟨v,o,ho,hd⟩:=I.cell x c q
   exact⟨v,o,k _ _ ho,hd⟩
 ·rcases R7.mp hb with rfl|hb
  ·obtain⟨o,e,n⟩:=eD
   exact⟨nb _ hD,o,e,n,λz=>Y3 z (nst _ hD)⟩
  ·rcases R7.mp hb with rfl|hb
   ·obtain⟨o,es,ep,e,d,_⟩:=hns
    exact⟨nb _ (gone _ hC),o,e,λv z=>(by rw[d]at z;cases z),λz=>Y3 z (nst _ (gone _ hC))⟩
   ·obtain⟨h1,o,e,d⟩:=I.cN b hb
    exact⟨h1,o,k _ _ e,d⟩
end
section
variable{X Y:Cx}{env env':Mi.Env}{cm cm' cm0:List RC}{m m' m0 m1 m2:Mem}{s s' s0:RA}{w:W}{v u:R4}{ch:List RC}{J Q:VK}{h h':Rq}{t:T}{l ts out:List T}{vs:List R4}{a D C:RC}{n d L own:Nat}{i:Nat}{tk:Nat}{o o':Obj}{f:List RC}
variable{call:Nat->List W->Mem->Res W}{gv:List T}{e elt target iter node:SJ}{ifs:List SJ}{gens gs:List Uh}{E inner it:Mi.E}{cs:Es}{tg:Tg}{pos p px spos pos':Pos}{Acc:RC->Rq->List R4->Prop}{scope:Vn}{N':List Str}{cl:List (Str×RC)}{keep:List Nat}{oN:Obj}{nw:Sem R4}{use:Option (R4->Sem Unit)}{x:Str}{rest:List S6}{K:Mi.S}
variable(call gv) in
def EB(X:Cx)(N':List Str)(scope:Vn)(elt target:SJ)(ifs:List SJ)(gens:List Uh)(tg:Tg)(cs:Es)(inner:Mi.E):Prop:=
 ∀(cl:List (Str×RC)) (C:RC) (F:List RC),PG (bP X N' scope cl C F) target tg/\Ka call gv (bP X N' scope cl C F) cs ifs/\Ke call gv (bP X N' scope cl C F) elt gens 0 inner
variable(call gv) in
structure x8 (X:Cx) (N':List Str) (scope:Vn) (own:Nat) (keep:List Nat) (elt target iter:SJ) (ifs:List SJ) (gs:List Uh) (it:Mi.E) (tg:Tg) (cs:Es) (inner:Mi.E):Prop where
 sc:Fm X N' scope
 hown:N'.length=own+keep.length
 hkeep:∀(i:Nat) x,N'[own+i]?=Zz x->∃j,keep[i]?=Zz j/\X.N[j]?=Zz x/\(x,SV)∈scope.names
 pi:PI call gv true X target iter it
 fs:∀x,UE iter X.env x=pure x
 ins:EB call gv X N' scope elt target ifs (⟨target,iter,ifs,0⟩::gs) tg cs inner
 dis:∀i∈yL tg,i∉mc inner
 LJ:∀i∈yL tg++mc inner,i<own
theorem E3(h1:KB scope X.env.scope=true)(h2:Fw N' X.N own keep scope=true)(pi:PI call gv true X target iter it)(fs:∀x,UE iter X.env x=pure x)(ins:EB call gv X N' scope elt target ifs (⟨target,iter,ifs,0⟩::gs) tg cs inner)(dis:∀i∈yL tg,i∉mc inner)(LJ:∀i∈yL tg++mc inner,i<own):
  x8 call gv X N' scope own keep elt target iter ifs gs it tg cs inner:=by
 unfold KB at h1;rw[R6]at h1;obtain⟨hk,h1⟩:=h1;have h1:=RX.mp h1;unfold Fw at h2;rw[R6]at h2;obtain⟨hl,h2⟩:=h2;have h2:=RX.mp h2;refine⟨⟨eq_of_beq hk,λp hp=>?_,λx hx=>?_⟩,eq_of_beq hl,λi x e=>?_,pi,fs,ins,dis,LJ⟩
 ·have:=h1 p hp
  simp only[R6]at this;exact eq_of_beq this.1
 ·have:=h1 _ hx
  simp only[R6,Sm]at this;rcases this.2 with(h|h)|h
  ·cases h
  ·exact .inl (eq_of_beq h)
  ·exact .inr (eq_of_beq h)
 ·have hlen:=eq_of_beq hl
  have hi:i<keep.length:=by
   have:=(RG.mp e).1;omega
  have h:=h2 i (Wa.mpr hi);rw[e]at h;cases q:keep[i]? with
  |none=>rw[q]at h;cases h
  |some j =>
   rw[q]at h;have h:=h;rw[R6]at h;refine⟨j,rfl,eq_of_beq h.1,?_⟩;obtain⟨p,hp,hq⟩:=TQ.mp h.2;rw[R6]at hq;rw[<-eq_of_beq hq.1];have:p.2=SV:=eq_of_beq hq.2;rw[<-this];exact hp
structure xu (X:Cx) (Acc:RC->Rq->List R4->Prop) (env:Mi.Env) (cm:List RC) (m:Mem) (s:RA) (out:List T) (m':Mem) (D C:RC) (s3:RA) (cm3:List RC) (vs:List R4):Prop where
 ext:bz (C::X.fs) X.tb cm m s cm3 m' s3
 fr:Fr { X with fs:=C::X.fs } env cm3 m' s3
 rel:jx (Cx.D { X with fs:=C::X.fs }) cm3 m' s3.heap out vs
 acc:Acc D s3.heap vs
 nf:D∉C::X.fs
 nl:aU cm3 m' D
 ns:∃f,s3.heap.Ns C f
 nC:s.heap.get? C=Zy
 nD:s.heap.get? D=Zy
 nb:X.base.get? D=Zy
theorem Ck(hc:X.calm=true)(k:x8 call gv X N' scope own keep elt target iter ifs gs it tg cs inner)(hcl:clausesOf node=⟨target,iter,ifs,0⟩::gs)(hal:oN.isFreed=false)(hof:∀v,oN.data≠.fields v)(hd:∀it acc env,(Rp X.prog X.w).den (.compStart node 0 it acc env)=(Xd node 0 it acc env).onRaise (λx=>do WI x env;W0 theWindowsPlace))(hA:∀it acc env,X.A.under (.compStart node 0 it acc env)=X.A)(hnw:∀{A:Sb}{E:R4->RA->Prop}{s:RA}{Q:R4->RA->Prop},Q (.ref s.heap.objs.size) { s with heap:=s.heap.push oN }->RF (Rp X.prog X.w) A nw Q E s)(h0:∀{h:Rq}{D:RC},h.get? D=Zz oN->Acc D h [])(loop:∀(cl:List (Str×RC)) (C D:RC) (F:List RC) {s0 s:RA}{cm0 cm:List RC}{m0 m m':Mem}{env:Mi.Env}{ts:List T}{it:RC}{fp:List RC},D∈F->D∉(bP X N' scope cl C F).own->D∉frs X.stack->bz F (D::(bP X N' scope cl C F).own) cm0 m0 s0 cm m s->yR fp target->D∉fp->(∀b∈fp,s0.heap.get? b=Zy)->Fr (bP X N' scope cl C F) env cm m s->On (bP X N' scope cl C F) cm m s.heap it fp 0 ts->Acc D s.heap [] ->
   (∀i∈yL tg++mc inner,∀w,env[i]?≠Zz (Zz w))->bU (turnF call gv cs inner) tg ts env m=.ok out m'->out.length<=lim ->
   UR X.M X.A (.compLoop node 0 (.ref it) (.ref D) (compEnvC scope cl C X.env)) (λr s'=>r=.ok .next/\Fb (bP X N' scope cl C F) (Acc D) D env [] cm0 m0 s0 out m' s') s)(I:Fr X env cm m s)(ok:ev call gv (.comp own keep it tg cs inner) env m=.ok (.t (.lst out)) m')(fin:∀D C s3 cm3 vs,xu X Acc env cm m s out m' D C s3 cm3 vs->compPost X.M X.A J use Q (.ref D) C (.ok .next) s3):
  RF X.M X.A (comprehension node scope X.env pos' nw false (eval iter X.env) use) Q J s:=by
 obtain⟨cl0,hclos,hcl1,hcl2⟩:=Ae λx hx=>I.ok.has x (k.sc.free x hx)
 unfold ev at ok;obtain⟨w1,m1,ok0,ok2⟩:=aV ok;have ok1:=yI ok0;obtain⟨ts,m2,ok3,ok4⟩:=aV ok2;obtain⟨out',m3,ok5,ok6⟩:=aV ok4;split at ok6<;>cases ok6;rename_i hlen;have ok5':=yI ok5;refine wpAny_comprehension_free hcl k.fs hclos k.sc.kind (λx hx e=>by rw[k.sc.look x hx,e]) (ta (k.pi.run I ok1 ok3) λxv s1' h1=>ta h1 λitv s2 h2=>?_);obtain⟨F,fp,itA,c1,s1,rfl,_,z2,z3,x1,I1,x2,I2,on2,tk2,fr2⟩:=h2;refine hnw (AF hcl1 hcl2 (λx c e=>?_) I2.ok.inj λh₁ cl hns₁ hsb₁ kc=>?_)
 ·obtain⟨v,o,e,_⟩:=I2.cell x c e
  exact T8 (Rj e) (by show _<=(Heap.push _ _).objs.size;rw[Rw];exact UH _)
 dsimp only at hns₁ hsb₁ kc ⊢;generalize hP:s2.heap.push oN=P2 at hns₁ hsb₁ kc ⊢;have hCs:P2.objs.size=s2.heap.objs.size+1:=by rw[<-hP,Rw]
 generalize hC:P2.objs.size=C at hns₁ kc hCs ⊢;generalize hD:s2.heap.objs.size=D at hCs ⊢;have gone2:∀b,D<=b->s2.heap.get? b=Zy:=λb hb=>Rt (hD▸hb)
 have gone:∀b,D<=b->s.heap.get? b=Zy:=λb hb=>by
  cases e:s.heap.get? b with
  |none=>rfl
  |some o =>
   obtain⟨o,e,_⟩:=x1.thr b o e;obtain⟨o,e,_⟩:=(x2 []).thr b o e;rw[gone2 b hb]at e;cases e
 have old:=λb o e=>hsb₁ b o (hP▸R9 oN e)
 have hacc:h₁.get? D=Zz oN:=hsb₁ _ _ (by rw[<-hP,<-hD];exact RM _ hal);have gone1:∀b,D<=b->s1.heap.get? b=Zy:=λb hb=>by
  cases e:s1.heap.get? b with
  |none=>rfl
  |some o =>
   obtain⟨o,e,_⟩:=(x2 []).thr b o e;rw[gone2 b hb]at e;cases e
 have J0:Fr (bP X N' scope cl C (D::C::F)) (Fv own keep env) c1 m2 { s2 with heap:=h₁ }:=Ab (X:={ X with fs:=F }) I2 ⟨k.sc.kind,k.sc.look,k.sc.free⟩ (gone2 D (RU _)) ⟨_,hacc,hof⟩ (by omega) hns₁ old ⟨kc.one,kc.own,kc.inj,kc.has⟩ (by unfold Fv;simp[k.hown]) λi x w e1 e2=>by
  unfold Fv at e2;by_cases hi:i<own
  ·rw[Ro (by simpa using hi),Tw]at e2
   split at e2<;>cases e2
  ·rw[Ru (by simpa using hi),VD,Rv]at e2
   obtain⟨j,q1,q2,q3⟩:=k.hkeep (i-own) x (by rw[show own+(i-own)=i by omega];exact e1);rw[q1]at e2;have e3:(env[j]?).join=Zz w:=T6 e2;refine⟨j,q2,?_,q3⟩;cases r:env[j]? with
   |none=>rw[r]at e3;cases e3
   |some o=>rw[r]at e3;exact congrArg Zz e3
 have up0:∀b∈F,b∈D::C::F:=λb h=>R5 _ (R5 _ h)
 have up:∀b∈X.fs,b∈D::C::F:=λb h=>up0 b (z2 b h)
 have nn:∀b∈D::C::F,b∈F∨s2.heap.get? b=Zy:=λb hb=>by
  rcases R7.mp hb with rfl|hb
  ·exact .inr (gone2 _ (RU _))
  ·rcases R7.mp hb with rfl|hb
   ·exact .inr (gone2 _ (by omega))
   ·exact .inl hb
 have nF:∀b∈F,b∈X.fs∨s.heap.get? b=Zy:=λb hb=>(z3 b hb).imp id λz=>by
  cases e:s.heap.get? b with
  |none=>rfl
  |some o =>
   obtain⟨o,e,_⟩:=x1.thr b o e;rw[z]at e;cases e
 have DC:D<C:=by omega
 have ownY:∀b∈(bP X N' scope cl C (D::C::F)).own,b∈X.tb∨D<b:=λb hb=>by
  rcases R7.mp hb with z|hb
  ·exact .inr (Nat.lt_of_lt_of_eq DC z.symm)
  ·rcases SP.mp hb with hb|hb
   ·exact .inl hb
   ·obtain⟨x,h1,h2⟩:=oV.mp hb
    have:=kc.own x b (eq_of_beq h1) h2;exact .inr (Nat.lt_trans DC this)
 have tbD:D∉X.tb:=λz=>by
  obtain⟨o,e⟩:=I2.ok.zw _ I2.mem.tab D z;rw[gone2 D (RU _)]at e;cases e
 have hDo:D∉(bP X N' scope cl C (D::C::F)).own:=λz=>(ownY D z).elim tbD λz=>SI _ z
 have fpD:∀b∈fp,b<D:=λb hb=>by
  obtain⟨o,e,_⟩:=on2.pt b hb;exact hD▸Rj e
 have on3:On (bP X N' scope cl C (D::C::F)) c1 m2 h₁ itA fp 0 ts:=⟨on2.src.fr (X:={ X with fs:=F }) rfl nn old,on2.nb,λb hb z=>(ownY _ z).elim (λz=>on2.no b hb (cy (X:={ X with fs:=F }) _ z)) (λz=>Nat.lt_asymm z (fpD b hb)),λb hb=>by
  have q:=on2.nf b hb;by_cases ht:isTup fp b=true
  ·rw[Xy ht]at q ⊢;exact⟨up0 b q.1,q.2⟩
  ·rw[Xz ht]at q ⊢
   intro z;rcases R7.mp z with z|z
   ·exact Y3 (fpD b hb) (by rw[z];exact SI _)
   ·rcases R7.mp z with z|z
    ·exact Y3 (fpD b hb) (by rw[z];exact WV.mpr (Th DC))
    ·exact q z⟩
 have x3:bz (D::C::F) (D::(bP X N' scope cl C (D::C::F)).own) c1 m2 s1 c1 m2 { s2 with heap:=h₁ }:=((x2 _).fr λb h=>.inl (up0 b h)).trans (.kept old);have hnone:∀i∈yL tg++mc inner,∀w,(Fv own keep env)[i]?≠Zz (Zz w):=λi hi w e=>by
  unfold Fv at e;rw[Ro (by simpa using k.LJ i hi),Tw]at e;split at e<;>cases e
 have go:=loop cl C D (D::C::F) RD hDo (λz=>I2.rT (X:={ X with fs:=F }) z (gone2 D (RU _))) x3 tk2 (λz=>Y3 (fpD D z) (SI _)) fr2 J0 on3 (h0 hacc) hnone ok5' hlen;refine Td (jT (by rw[hcl];rfl) (hd _ _ _) (hA _ _ _) go (On.self (X:=bP X N' scope cl C (D::C::F)) (s:={ s2 with heap:=h₁ }) (I2.ok.hd hc) J0 on3 go)) λr s3 ⟨hr,cm3,vs3,x4,I4,r4,a4⟩=>?_
 subst hr;obtain⟨x5,M5,sm⟩:=kK I4.mem (((d9 (ch:=D::(bP X N' scope cl C (D::C::F)).own) I1 ok3).1.fr λb h=>.inl (up b h)).trans x4) (λj l h=>x4.lent j l h) ok3;have xt:=((((x1.fr λb h=>.inl (up b h)).sub (ch:=D::(bP X N' scope cl C (D::C::F)).own) λb hb=>R5 _ (cy (X:=bP X N' scope cl C (D::C::F)) b hb)).trans x5).fr (fs:=C::X.fs) (λb hb=>by
  rcases R7.mp hb with z|hb
  ·exact .inr (by rw[z];exact gone D (RU _))
  ·rcases R7.mp hb with z|hb
   ·exact .inl (by rw[z];exact RD)
   ·exact(nF b hb).imp (λz=>R5 _ z) id)).weak (ch':=X.tb) λb hb n=>by
  rcases R7.mp hb with rfl|hb
  ·exact gone _ (RU _)
  ·exact(ownY b hb).elim (λz=>Y3 z n) λz=>gone _ (Th z)
 have upC:∀b∈X.fs,b∈C::X.fs:=λb h=>R5 _ h
 have dn:∀b∈C::X.fs,b∈D::C::F:=λb h=>(R7.mp h).elim (λz=>by rw[z];simp) (up b)
 have MX:bh { X with fs:=C::X.fs } cm3 (giveBack w1 m1 m3) s3.heap:=M5.fr (X:=bP X N' scope cl C (D::C::F)) rfl (λb h=>.inl (dn b h)) (λ_ _ e=>e) id;refine fin D C s3 cm3 vs3 ⟨xt,I.LC (f:=C::X.fs) (I.ok.fs upC) (λb h=>(R7.mp h).elim (λz=>.inr (by rw[z];exact gone C (Th DC))) .inl) (λb h _=>I4.cN b (dn b h)) xt.toExtK MX I.nc,r4.mp λ_ _ r=>(RT.go (sm []) I4.mem Nq.nil r).fr (f:=D::C::F) (λb h=>.inl (dn b h)) λ_ _ e=>e,?_,λz=>?_,K5 (X:=bP X N' scope cl C (D::C::F)) M5 RD,?_,gone _ (by omega),gone _ (RU _),(I4.cN D RD).1⟩
 ·rw[TJ]at a4;exact a4
 ·rcases R7.mp z with z|z
  ·exact Y3 z (SO DC)
  ·obtain⟨_,o,e,_⟩:=I2.cN D (z2 D z)
   rw[gone2 D (RU _)]at e;cases e
 ·obtain⟨f,h,_⟩:=I4.loc
  exact⟨f,h⟩
section
variable{D C:RC}{s3:RA}{cm3:List RC}
theorem xu.ne(F:xu X Acc env cm m s out m' D C s3 cm3 vs)(I:Fr X env cm m s):C≠X.env.locals/\C∉X.own/\C∉X.fs:=by
 have no:∀{o},s.heap.get? C≠Zz o:=λz=>by rw[F.nC]at z;cases z
 have nl:C≠X.env.locals:=λz=>by
  obtain⟨f,⟨o,_,_,e,_⟩,_⟩:=I.loc;exact no (z▸e)
 refine⟨nl,λhb=>?_,λhb=>?_⟩
 ·rcases R7.mp hb with z|hb
  ·exact nl z
  ·rcases SP.mp hb with hb|hb
   ·obtain⟨o,e⟩:=I.ok.zw _ I.mem.tab _ hb
    exact no e
   ·obtain⟨y,_,hm⟩:=oV.mp hb
    obtain⟨v,o,e,_⟩:=I.cell y C hm;exact no e
 ·obtain⟨_,o,e,_⟩:=I.cN _ hb
  exact no e
theorem Jn(h:∃f,h'.Ns C f)(n:C∈f):Lm f C h':=by
 obtain⟨g,o,es,ep,e,d,_⟩:=h;refine⟨o,e,λk=>?_,λv z=>(by rw[d]at z;cases z),λv z=>(by rw[d]at z;cases z)⟩;cases k with
 |seq _ _ z=>rw[d]at z;cases z
 |dict _ _ _ z=>exact z n
 |ref _ _ _ z=>rw[d]at z;cases z
 |trace _ _ z=>rw[d]at z;cases z
theorem xu.go(F:xu X Acc env cm m s out m' D C s3 cm3 vs)(I:Fr X env cm m s){s4:RA}{ch:List RC}(I4:Fr { X with fs:=C::X.fs } env' cm3 m' s4)(x4:bz (C::X.fs) ch cm m s cm3 m' s4)(ns:∃f,s4.heap.Ns C f)(hs:Te C s4.heap h'):
  ExtK (C::X.fs) [C] cm3 m' s4 cm3 m' { s4 with heap:=h' }/\Nq (C::X.fs) [C] s4.heap/\bz X.fs ch cm m s cm3 m' { s4 with heap:=h' }/\Fr X env' cm3 m' { s4 with heap:=h' }:=by
 obtain⟨n1,_,n3⟩:=F.ne I;have kk:∀b o,b≠C->s4.heap.get? b=Zz o->h'.get? b=Zz o:=λb o n e=>(hs.2 b n).trans e
 obtain⟨x,nq,I5⟩:=I4.K8 (f:=X.fs) (tk:=s4.toks) I.ok (λb h=>R5 _ h) RD n1 (Jn ns RD) kk λz=>Y3 z n3
 exact⟨x,nq,(bz.past (X:={ X with fs:=C::X.fs }) x4 x (λb hb=>by rw[RN.mp hb];exact F.nC) λb o n e=>kk b o (λz=>n (RN.mpr z)) e).fr λb h=>(R7.mp h).elim (λz=>.inr (by rw[z];exact F.nC)) .inl,I5⟩
theorem xu.val(F:xu X AccAt env cm m s out m' D C s3 cm3 vs):RT (Cx.D { X with fs:=C::X.fs }) cm3 m' s3.heap (.lst out) (.ref D):=by
 obtain⟨z,n,e⟩:=F.acc;exact .lst (x:=vs.toArray) ⟨⟨n,e⟩,F.nf,by simpa using z⟩ F.nl (by simpa using F.rel.1) (by simpa using F.rel.2)
end
theorem xa(hc:X.calm=true)(k:x8 call gv X N' scope own keep elt target iter ifs gs it tg cs inner)(I:Fr X env cm m s)(ok:ev call gv (.comp own keep it tg cs inner) env m=.ok (.t (.lst out)) m')(fin:∀D C s3 cm3 vs,xu X AccAt env cm m s out m' D C s3 cm3 vs->compPost X.M X.A J use Q (.ref D) C (.ok .next) s3):
  RF X.M X.A (comprehension (.ListComp elt (⟨target,iter,ifs,0⟩::gs) scope pos) scope X.env pos' (newList []) false (eval iter X.env) use) Q J s:=
 Ck hc k rfl rfl (λv z=>(by cases z)) (λ_ _ _=>rfl) (λ_ _ _=>rfl) (λh=>SF h) (λh=>⟨Ut _,0,h⟩) (λcl C D F s0 s cm0 cm m0 m m' env ts it fp hDF hDo hDs x0 tk hDf fr I on ha hn ok hl =>
  G9 (Y:=bP X N' scope cl C F) hc hDF hDo hDs (k.ins cl C F).2.2 rfl (k.ins cl C F).1 (k.ins cl C F).2.1 k.dis x0 tk hDf fr I on ha hn ok (by rw[Rz,V7];exact hl)) I ok fin
theorem ck(hc:X.calm=true)(k:x8 call gv X N' scope own keep elt target iter ifs gs it tg cs inner):
  PE call gv X (.ListComp elt (⟨target,iter,ifs,0⟩::gs) scope pos) (.comp own keep it tg cs inner):=λenv cm m s I Q J hp=>by
 cases h:ev call gv (.comp own keep it tg cs inner) env m with
 |stuck=>rw[h]at hp;exact hp.elim
 |exc e m'=>exact Y3 h (su e m')
 |ok w m' =>
  obtain⟨out,rfl⟩:=uG h;rw[h]at hp;rw[eval_ListComp];refine xa hc k I h λD C s3 cm3 vs F=>⟨_,F.ns.choose_spec,λh' hs=>?_⟩
  obtain⟨x,nq,x5,I5⟩:=F.go I F.fr F.ext F.ns hs;exact hp.to x5 I5.mem _ ((RT.go x F.fr.mem nq F.val).fr (f:=C::X.fs) (λb h=>.inl (R5 _ h)) λ_ _ e=>e)
theorem jJ(hc:X.calm=true)(kk:x8 call gv X N' scope own keep elt target iter ifs gs it tg cs inner)(hN:X.N.Nodup)(hi:X.N[i]?=Zz x)(hx:Loc X x)(hk:jD call gv X rest K)(hsw:XC (.ListComp elt (⟨target,iter,ifs,0⟩::gs) scope pos) (Zz (.Name x px)) spos.line X.env=pure true:=by rfl):
  jD call gv X (.Assign [.Name x px] (.ListComp elt (⟨target,iter,ifs,0⟩::gs) scope pos) spos::rest) (.asg i (.comp own keep it tg cs inner) K):=λenv cm m s I R J j hp=>by
 rw[ex]at hp;cases h:ev call gv (.comp own keep it tg cs inner) env m with
 |stuck=>rw[h]at hp;exact hp.elim
 |exc e m'=>exact Y3 h (su e m')
 |ok w m' =>
  obtain⟨out,rfl⟩:=uG h;rw[h]at hp;refine Ry ?_;rw[exec_Assign_Name_used _ _ _ _ hsw];refine R0 (TM (R0 ?_));refine R0 (ta (Q:=λ_ s'=>RF X.M X.A (execs rest X.env) R J s') (xa (use:=Zz (assign (.Name x px) X.env)) hc kk I h λD C s3 cm3 vs F=>?_) λ_ s' h=>R3 (R3 h));refine W2 (store (X:={ X with fs:=C::X.fs }) F.fr hN hi hx (w:=.t (.lst out)) F.val λs4 x4 I4=>?_);have ns:∃f,s4.heap.Ns C f:=by
   obtain⟨f,o,es,ep,e,d,r⟩:=F.ns;obtain⟨_,o',e',q⟩:=x4.keep C o e (F.ne I).2.1 (K5 F.fr.mem RD);refine⟨f,o',es,ep,e',?_,r⟩;rcases q with rfl|⟨_,_,sl,rfl⟩<;>exact d
  refine⟨_,ns.choose_spec,λh' hs=>?_⟩;obtain⟨_,_,x5,I5⟩:=F.go I I4 ((F.ext.sub cy).trans x4) ns hs;exact hk _ _ _ _ I5 R J j ((show aI X X.own cm m s (ex call gv K (env.set i (Zz (.t (.lst out)))) m') J (FQ X R)from hp).shift x5)
end
noncomputable def fE(s:S6):Arguments:=match s with
 |.FunctionDef _ a _ _ _ _ _ _ _ _=>a
 |_=>{ posonlyargs:=[],args:=[],vararg:=Zy,kwonlyargs:=[],kw_defaults:=[],kwarg:=Zy,defaults:=[] }
noncomputable def cC(s:S6):List S6:=match s with
 |.FunctionDef _ _ b _ _ _ _ _ _ _=>b
 |_=>[]
noncomputable def ai(s:S6):Vn:=match s with
 |.FunctionDef _ _ _ _ _ _ sc _ _ _=>sc
 |_=>{ kind:=.function,names:=[],isGenerator:=false,isCoroutine:=false }
structure lR (k:Nat) (A:Sb):Prop where
 hd:A.handled=Zy
 dp:A.depth+3*k+5<Vv
 un:A.units+16*k+200<cLine
theorem lR.depth{k:Nat}{A:Sb}(r:lR k A):A.depth<Vv:=by have:=r.dp;omega
theorem lR.units{k:Nat}{A:Sb}(r:lR k A):A.units+64<cLine:=by have:=r.un;omega
def Binds(K:V9)(fd:TV)(ps:List Str)(ds:List R4):Prop:=
 ∀(s:RA) (us:List R4),K.In s.heap->(us++ds).length=ps.length->XB s fd ⟨us,[]⟩ (ps.zip (us++ds))
theorem Binds.all{K:V9}{fd:TV}{ps:List Str}(h:∀us:List R4,us.length=ps.length->TW fd ⟨us,[]⟩=pure (ps.zip us)):Binds K fd ps []:=λs us _ hl=>by
 rw[Rm]at hl ⊢;exact .of_eq (h us hl)
structure ax (N P:List Str) (sc:Vn):Prop where
 kind:sc.kind=.function
 co:sc.isCoroutine=false
 gen:sc.isGenerator=false
 nd:N.Nodup
 pre:N.take P.length=P
 Lj:∀x∈P,sc.names.lookup x=Zz .local∨sc.names.lookup x=Zz .cell
 JK:∀y∈sc.names,y.2≠.free
theorem uJ{kindOf:Str->Option UO}{x:Str}:∀{binds:List (Str×R4)}{m:Str->Option R4},(∀v,(x,v)∉binds)->bindL kindOf binds m x=m x
 |[],_,_=>rfl
 |(n,v)::r,m,h=>by
  unfold bindL;rw[uJ λw hw=>h w (R5 _ hw)];split
  ·have:x≠n:=by rintro rfl;exact h v RD
   simp[this]
  ·rfl
theorem tW{kindOf:Str->Option UO}{x:Str}:∀{binds:List (Str×R4)}{m:Str->Option R4},(∀v,(x,v)∉binds)->bindC kindOf binds m x=m x
 |[],_,_=>rfl
 |(n,v)::r,m,h=>by
  unfold bindC;rw[tW λw hw=>h w (R5 _ hw)];split
  ·rfl
  ·have:x≠n:=by rintro rfl;exact h v RD
   simp[this]
theorem pb{kindOf:Str->Option UO}{x:Str}{v:R4}:∀{P:List Str}{vs:List R4}{i:Nat}{m:Str->Option R4},P.Nodup->P[i]?=Zz x->vs[i]?=Zz v->kindOf x=Zz .local ->
  bindL kindOf (P.zip vs) m x=Zz v
 |[],_,_,_,_,h,_,_=>by simp at h
 |_::_,[],_,_,_,_,h,_=>by simp at h
 |p::P,w::vs,0,m,nd,h1,h2,hk=>by
  simp at h1 h2;subst h1;subst h2;show bindL kindOf ((p,w)::P.zip vs) m p=_;unfold bindL;rw[uJ λv hv=>(Un.mp nd).1 (Uo hv).1,Xy hk];simp
 |p::P,w::vs,i+1,m,nd,h1,h2,hk=>by
  show bindL kindOf ((p,w)::P.zip vs) m x=_;unfold bindL;exact pb (i:=i) (Un.mp nd).2 (by simpa using h1) (by simpa using h2) hk
theorem oG{kindOf:Str->Option UO}{x:Str}{v:R4}:∀{P:List Str}{vs:List R4}{i:Nat}{m:Str->Option R4},P.Nodup->P[i]?=Zz x->vs[i]?=Zz v->kindOf x≠Zz .local ->
  bindC kindOf (P.zip vs) m x=Zz v
 |[],_,_,_,_,h,_,_=>by simp at h
 |_::_,[],_,_,_,_,h,_=>by simp at h
 |p::P,w::vs,0,m,nd,h1,h2,hk=>by
  simp at h1 h2;subst h1;subst h2;show bindC kindOf ((p,w)::P.zip vs) m p=_;unfold bindC;rw[tW λv hv=>(Un.mp nd).1 (Uo hv).1,Xz hk];simp
 |p::P,w::vs,i+1,m,nd,h1,h2,hk=>by
  show bindC kindOf ((p,w)::P.zip vs) m x=_;unfold bindC;exact oG (i:=i) (Un.mp nd).2 (by simpa using h1) (by simpa using h2) hk
theorem rm{sc:Vn}{n:Nat}{x:Str}(h:sc.names.lookup x=Zz .cell):∃c,(UV n sc.names []).lookup x=Zz c:=by
 have q:=Vu sc.names n [] (.inl h);exact Ug.mp q
structure HQ (K:V9) (x qual:Str) (st:S6) (f:RC) (fd:TV):Prop where
 ex:∃(oc:R4) (od:Option RC) (kV doc pm:R4) (an:Option RC) (cdv ct:R4) (osl:Array (Option R4)),
  fd=fnOf x qual (fE st) (cC st) (ai st) .none kV doc pm an cdv ct/\K.lookup f=Zz ⟨oc,od,.func fd,osl⟩/\codeIn K cdv qual=true
 kp:keepIn K (.ref f)=true
theorem lR.deeper{k:Nat}{A:Sb}(r:lR (k+1) A)(env:Sn):lR k (A.deeper env):=
 ⟨r.hd,by have:=r.dp;show A.depth+1+3*k+5<_;omega,by have:=r.un;show A.units+3+16*k+200<_;omega⟩
section
variable{K:V9}
theorem HQ.binds{x qual:Str}{st:S6}{f:RC}{fd:TV}{ps:List Str}(F:HQ K x qual st f fd)(h:∀(kV doc pm:R4) (an:Option RC) (cdv ct:R4) (us:List R4),us.length=ps.length->TW (fnOf x qual (fE st) (cC st) (ai st) .none kV doc pm an cdv ct) ⟨us,[]⟩=pure (ps.zip us)):Binds K fd ps []:=by
 obtain⟨oc,od,kV,doc,pm,an,cdv,ct,osl,rfl,lk,hcd⟩:=F.ex;exact .all (h kV doc pm an cdv ct)
theorem zH{x qual:Str}{st:S6}{f:RC}{oc:R4}{od an:Option RC}{osl:Array (Option R4)}{kV doc pm cdv ct:R4}(l:K.lookup f=Zz ⟨oc,od,.func (fnOf x qual (fE st) (cC st) (ai st) .none kV doc pm an cdv ct),osl⟩)(c:codeIn K cdv qual=true)(k:keepIn K (.ref f)=true):HQ K x qual st f (fnOf x qual (fE st) (cC st) (ai st) .none kV doc pm an cdv ct):=⟨⟨oc,od,kV,doc,pm,an,cdv,ct,osl,rfl,l,c⟩,k⟩
end
def Ko(h:Rq)(e:RC)(mk hd:R4):Prop:=hd=.none∨∃T oT ts,hd=.ref T/\T≠e/\h.get? T=Zz oT/\oT.data=.fields ts/\ts[3]?=Zz mk
theorem oh{o:Obj}(h:o.data=.fields vs)(f:Array R4->Array R4):o.mapFields f={ o with data:=.fields (f vs) }:=by
 obtain⟨c,d,e,b⟩:=o;cases h;rfl
structure IG (fr:List RC) (h:Rq) (e:RC) (oe:Obj) (mk:R4) (h':Rq):Prop where
 keep:∀b o,b∉fr->b≠e->h.get? b=Zz o->h'.get? b=Zz o
 slot:∀b o,b∈fr->h.get? b=Zz o->∃sl,h'.get? b=Zz { o with slots:=sl }
 new:∃T oT ts vs,h.get? T=Zy/\T≠e/\h'.get? T=Zz oT/\oT.cls=.type "traceback"/\oT.data=.fields ts/\ts[3]?=Zz mk/\h'.get? e=Zz { oe with data:=.fields vs }/\vs[1]?=Zz (.ref T)
section
variable{M:XV}{A:Sb}{E:R4->RA->Prop}{s:RA}{base:Rq}{env:Sn}{outer:List Sn}{L e:RC}{oe:Obj}{vs:Array R4}{hd:R4}{Q:Unit->RA->Prop}
theorem Bc{before:Bool}(hfr:A.frames=Zz (env::outer))(hl:s.heap.FunFrames base (env::outer))(hf:env.frame=Zz L)(he:s.heap.get? e=Zz oe)(hv:oe.data=.fields vs)(h1:1<vs.size)(k:∀h':Rq,IG (frs (env::outer)) s.heap e oe (rawInt L) h'->Q () { s with heap:=h' }):
  RF M A (do
   let a <-frameOf env
   let pl <-entryPlaceOf L before
   let b <-EntryCells.newEntry hd a .none (rawInt L) .none pl
   Xn (.ref e) 1 b) Q E s:=by
 have ne:e∉frs (env::outer):=λhm=>by
  obtain⟨_,o,q,nf⟩:=hl.mem hm;rw[he]at q;cases q;exact nf vs hv
 refine R0 (wpAny_frameOf_fun hfr hl hf λf so=>?_);refine R0 (wpAny_entryPlaceOf λpl hp=>?_);unfold EntryCells.newEntry newFields;refine R0 (SF ?_ (hp.sizeOk5 _ _ _ _ _));have e1:=(so.2.1 e ne).trans he;generalize hob:({ cls:=.type "traceback",dict:=Zy,data:=.fields ([hd,.ref L,.none,rawInt L,.none]++(if pl.isEmpty then RL 6 UK else pl)).toArray }:Obj)=ob;have e2:=R9 ob e1;have obf:ob.isFreed=false:=by rw[<-hob];rfl
 refine SX e2 hv h1 (k _ ?_);have nT:=WM (Rj e1);have kp:∀b o,b≠e->f.get? b=Zz o->((f.push ob).update e (Tq (·.setIfInBounds 1 (T4 f.objs.size)))).get? b=Zz o:=λb o hb q=>by
  rw[SH _ _ (Tj hb)];exact R9 _ q
 refine⟨λb o hb hbe q=>kp b o hbe ((so.2.1 b hb).trans q),λb o hb q=>?_,?_⟩
 ·obtain⟨sl,z⟩:=so.2.2 b o q
  exact⟨sl,kp b _ (λy=>ne (y▸hb)) z⟩
 ·refine⟨f.objs.size,ob,_,vs.setIfInBounds 1 (T4 f.objs.size),Rt (by rw[so.1];exact RU _),nT,?_,?_,by rw[<-hob],?_,?_,?_⟩
  ·rw[SH _ _ (Tj nT)]
   exact RM _ obf
  ·rw[<-hob]
  ·simp
  ·rw[S5 _ e2 (Sr (S3 hv _)),oh hv]
  ·simp[h1]
theorem JF(a:A.frames=Zz (env::outer))(hl:s.heap.FunFrames base (env::outer))(d:env.frame=Zz L)(f:s.heap.get? e=Zz oe)(c:oe.data=.fields vs)(h1:vs[1]?=Zz hd)(ah:Ko s.heap e .none hd)(k:∀h':Rq,IG (frs (env::outer)) s.heap e oe (rawInt L) h'->Q () { s with heap:=h' }):RF M A (WI (.ref e) env) Q E s:=by
 have hz:=(T2.mp h1).1;unfold WI;simp only[d];refine R0 (S9 f c h1 ?_);rcases ah with rfl|⟨T,oT,ts,rfl,ne,hT,dT,b⟩
 ·rw[Xz (by decide)]
  exact Bc a hl d f c hz k
 ·rw[Xy (by simp)]
  refine R0 (S9 hT dT b ?_);rw[Xz (by simp[rawInt])];refine R0 (SX hT dT (T2.mp b).1 ?_);rw[Heap.update_setField_same s.heap T oT ts 3 .none hT dT b];exact Bc a hl d f c hz k
theorem DG{T:RC}{oT:Obj}{ts:Array R4}{mk:R4}(he:s.heap.get? e=Zz oe)(hv:oe.data=.fields vs)(h1:vs[1]?=Zz (.ref T))(hT:s.heap.get? T=Zz oT)(dT:oT.data=.fields ts)(mT:ts[3]?=Zz mk)(k:∀h':Rq,(∀b,b≠T->h'.get? b=s.heap.get? b)->h'.get? T=Zz { oT with data:=.fields (ts.setIfInBounds 3 .none) }->Q () { s with heap:=h' }):RF M A (Vi (.ref e) Zy) Q E s:=by
 unfold Vi;refine R0 (S9 he hv h1 ?_);rw[Xy (by simp)];refine SX hT dT (T2.mp mT).1 (k _ (λb hb=>SH _ _ (Tj hb)) ?_);rw[S5 _ hT (Sr (S3 dT _)),oh dT];rfl
end
section
variable{X Y:Cx}{env env':Mi.Env}{cm cm' cm0 c:List RC}{m m' m0 m1 m2:Mem}{s s' s0 s1 t:RA}{w:W}{v u:R4}{ch:List RC}{J Q:VK}{h h':Rq}{l ts out:List T}{vs us:List R4}{ws:List W}{a e C:RC}{n k fi:Nat}{i:Nat}{tk:Nat}{o o':Obj}{fs:List RC}
theorem bh.sel(M:bh X cm m h)(g:Nat->Nat)(len:cm'.length=m'.length)(sl:∀(j:Nat) p,m'[j]?=Zz (Zz p)->m[g j]?=Zz (Zz p)/\cm'[j]?=cm[g j]?)(inj:∀(i j:Nat) p q,m'[i]?=Zz (Zz p)->m'[j]?=Zz (Zz q)->g i=g j->i=j):bh X cm' m' h/\∀a,aU cm m a->aU cm' m' a:=by
 have nl:∀a,aU cm m a->aU cm' m' a:=λa n j p e z=>n (g j) p (sl j p e).1 ((sl j p e).2▸z)
 refine⟨⟨len,λi j a p q e1 e2 c1 c2=>?_,λi p e=>?_,M.tab⟩,nl⟩
 ·obtain⟨h1,h2⟩:=sl i p e1
  obtain⟨h3,h4⟩:=sl j q e2;exact inj i j p q e1 e2 (M.inj _ _ a p q h1 h3 (h2▸c1) (h4▸c2))
 ·obtain⟨h1,h2⟩:=sl i p e
  obtain⟨a,x,h3,h4,h5,h6⟩:=M.at' _ p h1;exact⟨a,x,h2.trans h3,h4,h5,h6.mp λ_ _ r=>r.gen nl (λ_ h=>.inl h) λ_ _ e=>e⟩
theorem bz.sel(x:bz fs ch cm m s c m2 t)(pre:∀(i:Nat) a,cm[i]?=Zz a->cm'[i]?=Zz a)(len:m.length<=m'.length)(lent:∀(i:Nat) l,m[i]?=Zz (Zz (true,l))->m'[i]?=Zz (Zz (true,l)))(nl:∀a,aU c m2 a->aU cm' m' a):bz fs ch cm m s cm' m' t:=
 .of x.thr lent ⟨x.os,x.bare,pre,len,λb o e c n=>let⟨n',r⟩:=x.keep b o e c n;⟨nl _ n',r⟩⟩
theorem Jr{cell:Bool}{fl:Mi.Flow}(hl:cm.length=m.length)(x:bz X.fs X.tb cm m s c m2 t)(M:bh X c m2 t.heap)(hp:aI X X.tb cm m s (fin m.length cell fl m2) J (WK X Q)):match fl with|.next _=>Q .none t|.ret w=>∀v,RW X.D c m2 t.heap w v->Q v t:=by
 have ml:=x.len;have cl:=M.len;have lt1:∀{α:Type}{l:List α}{j:Nat}{p:α},(l.take m.length)[j]?=Zz p->j<m.length/\l[j]?=Zz p:=λe=>by
  rw[Vr]at e;split at e
  ·exact⟨‹_›,e⟩
  ·cases e
 have lt2:∀{α:Type}{l:List α}{j:Nat},j<m.length->(l.take m.length)[j]?=l[j]?:=λh=>by rw[Vr,Xy h]
 have at1:∀{α:Type}{l:List α}{j:Nat}{p:α},l[j]?=Zz p->j<l.length:=λe=>(RG.mp e).1
 have tc:(c.take m.length).length=m.length:=by rw[SD];omega
 have tm:(m2.take m.length).length=m.length:=by rw[SD];omega
 obtain⟨Mt,nl⟩:=M.sel (cm':=c.take m.length) (m':=m2.take m.length) id (by rw[tc,tm]) (λj p e=>⟨(lt1 e).2,lt2 (lt1 e).1⟩) λ_ _ _ _ _ _ h=>h
 have pre:∀(i:Nat) a,cm[i]?=Zz a->i<m.length/\(c.take m.length)[i]?=Zz a:=λi a e=>⟨hl▸at1 e,by rw[lt2 (hl▸at1 e)];exact x.pre i a e⟩
 have len:∀(i:Nat) l,m[i]?=Zz (Zz (true,l))->i<m.length/\(m2.take m.length)[i]?=Zz (Zz (true,l)):=λi l e=>⟨at1 e,by rw[lt2 (at1 e)];exact x.lent i l e⟩
 have xt:bz X.fs X.tb cm m s (c.take m.length) (m2.take m.length) t:=x.sel (λi a e=>(pre i a e).2) (by omega) (λi l e=>(len i l e).2) nl;cases fl with
 |next _=>exact hp.to xt Mt _ .non
 |ret w =>
  intro v r;cases w with
  |t t'=>exact hp.to xt Mt v (RT.gen nl (λ_ h=>.inl h) (λ_ _ e=>e) r)
  |x _ _ _=>exact hp.elim
  |c i =>
   obtain⟨a,h1,h2⟩:=r;unfold fin at hp;dsimp only at hp;split at hp
   ·exact hp.to xt Mt v ⟨a,by rw[lt2 ‹_›];exact h1,h2⟩
   rename_i hi;split at hp
   rotate_left
   ·exact hp.elim
   rename_i ts e;split at hp
   ·have lt3:∀{α:Type}{l:List α}{b:α}{j:Nat}{p:α},l.length=m.length->(l++[b])[j]?=Zz p->(j<m.length/\l[j]?=Zz p)∨(j=m.length/\p=b):=λ{α l b j p} hl e=>by
     rcases Nat.lt_trichotomy j m.length with h|h|h
     ·rw[Ro (by omega)]at e;exact .inl ⟨h,e⟩
     ·subst h;rw[<-hl]at e;simp at e;exact .inr ⟨rfl,e.symm⟩
     ·rw[TX (by simp;omega)]at e;cases e
    have lt4:∀{α:Type}{l:List α}{b:α}{j:Nat},l.length=m.length->j<m.length->(l++[b])[j]?=l[j]?:=λhl h=>Ro (by omega)
    have top:∀{α:Type}{l:List α}{b:α},l.length=m.length->(l++[b])[m.length]?=Zz b:=λ{α l b} hl=>by rw[<-hl];simp
    obtain⟨Mn,nn⟩:=M.sel (cm':=c.take m.length++[a]) (m':=m2.take m.length++[Zz (false,ts)]) (λj=>if j<m.length then j else i) (by simp[tc,tm]) (λj p ej=>by
     rcases lt3 tm ej with⟨hj,eq⟩|⟨hj,eq⟩
     ·rw[Xy hj,lt4 tc hj,lt2 hj];exact⟨(lt1 eq).2,rfl⟩
     ·rw[hj,Xz (SI _),top tc,h1,e];cases eq;exact⟨rfl,rfl⟩) λj1 j2 p q e1 e2 ej=>by
     rcases lt3 tm e1 with⟨k1,_⟩|⟨k1,_⟩<;>rcases lt3 tm e2 with⟨k2,_⟩|⟨k2,_⟩
     ·rw[Xy k1,Xy k2]at ej;exact ej
     ·rw[Xy k1,Xz (by omega)]at ej;omega
     ·rw[Xz (by omega),Xy k2]at ej;omega
     ·omega
    exact hp.to (x.sel (λi a e=>by rw[lt4 tc (pre i a e).1];exact(pre i a e).2) (by simp[tm]) (λi l e=>by rw[lt4 tm (len i l e).1];exact(len i l e).2) nn) Mn v ⟨a,top tc,h2⟩
   ·subst h2
    obtain⟨b,y,q1,q2,q3,q4⟩:=M.at' i _ e;rw[h1]at q1;cases q1;have na:aU (c.take m.length) (m2.take m.length) a:=λj q ej z=>by
     have:=M.inj j i a _ _ (lt1 ej).2 e (lt1 z).2 h1;have:=(lt1 ej).1;omega
    have q5:=q4.mp λ_ _ r=>r.gen nl (λ_ h=>.inl h) λ_ _ e=>e
    exact hp.to xt Mt _ (RT.lst q2 na q5.1 q5.2)
structure L8 (X:Cx) (cm:List RC) (m:Mem) (s:RA) (e C:RC) (dx:Option RC) (k:List Str) (l:List T) (h':Rq):Prop where
 ext:ExtK X.fs [e] cm m s cm m { s with heap:=h' }
 thr:∀b o,s.heap.get? b=Zz o->∃o',h'.get? b=Zz o'/\Kd o o'
 mem:bh X cm m h'
 xp:XP h' e C dx
 xf:XF X.D cm m h' k l dx
structure L9 (X:Cx) (h:Rq):Prop where
 ff:h.FunFrames X.base X.stack
 sub:∀b∈frs X.stack,b∈X.fs/\∀o,h.get? b=Zz o->∀x n,o.data≠.seq x n
theorem Fr.L6{env:Mi.Env}(I:Fr X env cm m s)(x:∀b o,s.heap.get? b=Zz o->∃o',h.get? b=Zz o'/\Kd o o'):L9 X h:=by
 have one:∀{b},b∈X.fs->∃o,h.get? b=Zz o/\(∀v,o.data≠.fields v)/\(b∈frs X.stack->∀x n,o.data≠.seq x n):=λhb=>by
  obtain⟨_,o,e,n⟩:=I.cN _ hb;obtain⟨o',e',k⟩:=x _ o e;exact⟨o',e',k.1 n.1,λz=>k.2 (n.2 z)⟩
 have ff:∀l:List Sn,(∀e∈l,e.scope.kind≠.module/\∃L∈X.fs,e.frame=Zz L)->h.FunFrames X.base l:=λl=>by
  induction l with
  |nil=>exact λ_=>trivial
  |cons e r ih =>
   intro q;obtain⟨h1,L,h2,h3⟩:=q e RD;obtain⟨o,e',n,_⟩:=one h2;exact⟨h1,⟨L,o,h3,(I.cN _ h2).1,e',n⟩,ih λe z=>q e (R5 _ z)⟩
 refine⟨ff _ I.ok.GS,λb hb=>?_⟩;obtain⟨e,h1,h2⟩:=U1.mp hb;obtain⟨_,L,h3,h4⟩:=I.ok.GS e h1;rw[h2]at h4;cases h4;obtain⟨o,e',_,n⟩:=one h3;exact⟨h3,λo' e2=>by rw[e']at e2;cases e2;exact n hb⟩
theorem land{env:Sn}{outer:List Sn}{dx:Option RC}{k:List Str}{l:List T}{L:RC}{A:Sb}{E:VK}{Q:Unit->RA->Prop}(M:bh X cm m s.heap)(hx:XP s.heap e C dx)(hf:XF X.D cm m s.heap k l dx)(ok:X.Ok)(g:A.frames=Zz (env::outer))(st:X.stack=env::outer)(hl:L9 X s.heap)(d:env.frame=Zz L)(q:∀h',L8 X cm m s e C dx k l h'->Q () { s with heap:=h' }):
  RF X.M A (WI (.ref e) env) (λ_ s1=>RF X.M A (Vi (.ref e) Zy) Q E s1) E s:=by
 obtain⟨o,vs,u,e1,e2,e3,e4,e5,e6⟩:=hx;have fl:=hl.ff;rw[st]at fl;refine JF g fl d e1 e4 e5 ?_ λh1 N=>?_
 ·rcases e6 with rfl|⟨T,p,ts,rfl,ne,a,b,c,d⟩
  ·exact .inl rfl
  ·exact .inr ⟨T,p,ts,rfl,ne,a,c,d⟩
 obtain⟨T,oT,ts,vs',a1,a2,a3,a0,a4,a5,a6,a7⟩:=N.new;refine DG a6 rfl a7 a3 a4 a5 λh2 k2 hT=>q h2 ?_
 rw[<-st]at N;have neT:∀b o,s.heap.get? b=Zz o->b≠T:=λb o q z=>by rw[z,a1]at q;cases q
 have kp:=λb o d hbe q=>(k2 b (neT b o q)).trans (N.keep b o d hbe q)
 have sl:∀b o,b∈frs X.stack->s.heap.get? b=Zz o->∃sl,h2.get? b=Zz { o with slots:=sl }:=λb o d q=>by
  obtain⟨sl,z⟩:=N.slot b o d q;exact⟨sl,(k2 b (neT b o q)).trans z⟩
 have nf:∀b o,b∈frs X.stack->s.heap.get? b=Zz o->∀v,o.data≠.fields v:=λb o hb q v z=>by
  obtain⟨_,o',e',n⟩:=hl.ff.mem hb;rw[q]at e';cases e';exact n v z
 have x:ExtK X.fs [e] cm m s cm m { s with heap:=h2 }:=⟨rfl,id,λ_ _ h=>h,RU _,λb ob eb hb nl=>⟨nl,by
  by_cases hm:b∈frs X.stack
  ·obtain⟨sl,z⟩:=sl b ob hm eb
   exact⟨_,z,.inr ⟨(hl.sub b hm).1,(hl.sub b hm).2 ob eb,sl,rfl⟩⟩
  ·exact⟨ob,kp b ob hm (λz=>hb (RN.mpr z)) eb,.inl rfl⟩⟩⟩
 have nr:Nr X.fs [e] s.heap:=λb hb o' eb _=>by
  obtain rfl:=RN.mp hb;rw[e1]at eb;cases eb;exact⟨_,e4⟩
 have nc:=ok.tab _ M.tab;refine⟨x,λb ob eb=>?_,⟨M.len,M.inj,λi p ei=>?_,ok.n9 _ _ M.tab λb ob hb eb=>?_⟩,⟨_,vs',.ref T,(k2 e (Tj a2)).trans a6,e2,e3,rfl,a7,.inr ⟨T,_,_,rfl,a2,hT,a0,rfl,by simp[(T2.mp a5).1]⟩⟩,?_⟩
 ·by_cases hm:b∈frs X.stack
  ·obtain⟨sl,z⟩:=sl b ob hm eb
   exact⟨_,z,id,id⟩
  ·by_cases hbe:b=e
   ·subst hbe;rw[e1]at eb;cases eb
    exact⟨_,(k2 b (Tj a2)).trans a6,λn=>Y3 e4 (n _),λ_ _ _ z=>nomatch z⟩
   ·exact⟨ob,kp b ob hm hbe eb,.r⟩
 ·obtain⟨a,y,h1,⟨⟨n,h2⟩,h3,h3'⟩,h5,h6⟩:=M.at' i p ei
  exact⟨a,y,h1,⟨⟨n,kp a _ (λz=>h3 (hl.sub a z).1) (λz=>by rw[z,e1]at h2;cases h2;cases e4) h2⟩,h3,h3'⟩,h5,h6.mp λ_ _ r=>r.Dy x M nr⟩
 ·obtain⟨⟨v,q⟩,q2,_⟩:=(nc b hb).2 ob eb
  exact kp b ob (λz=>nf b ob z eb v q) (λz=>by rw[z,e1]at eb;cases eb;exact q2 _ e2) eb
 ·cases dx with
  |none=>exact hf
  |some d =>
   obtain⟨vs,f,h1,⟨od,es,ep,ed,cd,r⟩,h3,h4,h5⟩:=hf;exact⟨vs,f,h1,⟨od,es,ep,kp d od (λz=>h1 (hl.sub d z).1) (λz=>by rw[z,e1]at ed;cases ed;rw[e4]at cd;cases cd) ed,cd,r⟩,h3,h4,h5.mp λ_ _ r=>r.Dy x M nr⟩
end
noncomputable abbrev IW(B:Bs)(N:List Str)(qual:Str)(scope:Vn)(f:RC)(cd:R4)(A:Sb)(st:List Sn)(fs:List RC)(n:Nat):Cx:=
 { B with A:=A.deeper (envOfC qual scope n f cd),N:=N,env:=envOfC qual scope n f cd,stack:=envOfC qual scope n f cd::st,fs:=n::fs,fn:=λ_=>true,calm:=true }
def CR(Q J:VK)(r:Result)(s:RA):Prop:=match r with
 |.ok (.ret u)=>Q u s
 |.ok _=>False
 |.error e=>J e s
structure Ca (X:Cx) (cm:List RC) (m:Mem) (s:RA):Prop where
 mod:Mod X.K X.mg X.base
 frames:X.A.frames=Zz X.stack
 GS:∀e∈X.stack,e.scope.kind≠.module/\∃L∈X.fs,e.frame=Zz L
 tab:∀h,X.Tab h->Nc X.base X.tb h
 n9:∀h h',X.Tab h->(∀b o,b∈X.tb->h.get? b=Zz o->h'.get? b=Zz o)->X.Tab h'
 zw:∀h,X.Tab h->∀b∈X.tb,∃o,h.get? b=Zz o
 mem:bh X cm m s.heap
 bare:Wk s.gens
 bs:∀b o,X.base.get? b=Zz o->s.heap.get? b=Zz o
 cN:∀b∈X.fs,X.base.get? b=Zy/\∃o,s.heap.get? b=Zz o/\NF X b o
theorem Fr.ca{X:Cx}{env:Mi.Env}{cm:List RC}{m:Mem}{s:RA}(I:Fr X env cm m s):Ca X cm m s:=⟨I.ok.mod,I.ok.frames,I.ok.GS,I.ok.tab,I.ok.n9,I.ok.zw,I.mem,I.bare,I.bs,I.cN⟩
def B6(B:Bs)(call:List W->Mem->Res W)(k:Nat)(f:RC)(fd:TV)(ps:List Str):Prop:=
 ∀X:Cx,X.toBs=B->lR k X.A->∀cm m s,Ca X cm m s->∀args us ws,(∃env,Fr X env cm m s)∨(∃w m',call ws m=.ok w m')->XB s fd args (ps.zip us)->us.length=ps.length->wz X.D cm m s.heap ws us->∀Q J,aI X X.tb cm m s (call ws m) J (WK X Q)->UR X.M X.A (.call (.ref f) args) (CR Q J) s
inductive cK (B:Bs) (fns:List Fn) (gv:List T) (k:Nat) (x:Str) (fi:Nat):Prop where
 |mk (f fd ps) (_:B.mg x=Zz (.ref f)) (_:keepIn B.K (.ref f)=true) (_:Binds B.K fd ps []) (_:∀ws m,dS fns gv k fi ws m=.stuck∨ws.length=ps.length) (_:B6 B (dS fns gv k fi) k f fd ps)
section
variable{X Y:Cx}{B:Bs}{env env':Mi.Env}{cm cm' cm0 c:List RC}{m m' m0 m1 m2:Mem}{s s' s0 s1 t:RA}{w:W}{v u:R4}{ch:List RC}{J Q:VK}{h h':Rq}{l ts out:List T}{vs us:List R4}{ws:List W}{a C f:RC}{n k fi np:Nat}{i:Nat}{tk:Nat}{o o':Obj}{fs:List RC}
variable{fns:List Fn}{gv:List T}{e:SJ}{es:List SJ}{L:Es}{x qual:Str}{p pos:Pos}{scope:Vn}{N ps:List Str}{cd:R4}{st:S6}{fd:TV}{body:Mi.S}{cell:Bool}
theorem D5(F:cK X.toBs fns gv k x fi)(q:lR k X.A)(t:Gl X x)(y:PA (dS fns gv k) gv X (e::es) L)(c:(x==("__debug__" : Str))=false:=by decide)(u:notStar e=true:=by rfl)(b:es.all notStar=true:=by rfl):PE (dS fns gv k) gv X (.Call (.Name x p) (e::es) [] pos) (.call fi L):=λenv cm m s I Q J h=>by
 obtain⟨f,fd,ps,hm,hk,hb,len,F⟩:=F;rw[ev]at h;refine Sl (gI I t hm ?_ c);refine PySem.W.callWith_K (h₀:=X.base) I.ok.mod.jq hk (y.one I h λws us c1 m1 s1 I1 x1 r o=>⟨I1.jq,?_⟩) (bZ u) (ik b);have hl:us.length=ps.length:=by
  rcases len ws m1 with z|z
  ·rw[z]at o;exact o.elim
  ·rw[<-r.1];exact z
 have hb:=hb s1 us I1.jq (by simpa using hl);rw[Rm]at hb;refine Vl (Td (F X rfl q c1 m1 s1 I1.ca ⟨us,[]⟩ us ws (.inl ⟨_,I1⟩) hb hl r Q J o) λr s' hq=>?_);cases r with
 |error e=>exact hq
 |ok fl =>
  cases fl with
  |ret u=>exact hq
  |next=>exact Vw hq
  |brk=>exact Vw hq
  |cont=>exact Vw hq
theorem Fq(S:ax N ps scope)(hd:X.A.handled=Zy)(I:Ca X cm m s)(hl:us.length=ps.length)(r:wz X.D cm m s.heap ws us)(x:InCallC s s.heap.objs.size (bindL (envOfC qual scope s.heap.objs.size f cd).kindOf (ps.zip us) λ_=>Zy) (UV (s.heap.objs.size+1) scope.names []) (bindC (envOfC qual scope s.heap.objs.size f cd).kindOf (ps.zip us) λ_=>Zy) s1):
  Fr (IW X.toBs N qual scope f cd X.A X.stack X.fs s.heap.objs.size) (ws.map Zz++RL (N.length-ps.length) Zy) cm m s1:=by
 have hpl:ps.length<=N.length:=by have:=congrArg Rf S.pre;rw[SD]at this;omega
 obtain⟨h1,tk,rfl,hk⟩:=x.done;have gone:∀b,s.heap.objs.size<=b->s.heap.get? b=Zy:=λb hb=>Rt hb
 have nb:∀b,s.heap.get? b=Zy->X.base.get? b=Zy:=λb hb=>by
  cases q:X.base.get? b with
  |none=>rfl
  |some o=>rw[I.bs _ _ q]at hb;cases hb
 have nn:∀b∈s.heap.objs.size::X.fs,b∈X.fs∨s.heap.get? b=Zy:=λb hb=>(R7.mp hb).elim (λz=>.inr (gone b (by rw[z];exact RU _))) .inl
 obtain⟨oN,_,_,eN,dN,_⟩:=id x.toInCall.ns;refine⟨⟨I.mod,S.kind,rfl,rfl,λy z c h1 h2=>?_,λy hy=>?_,λ_=>hd,Around.frames_deeper I.frames,λe he=>?_,RD,λy c h=>nb c (gone c (Th (x.above y c (T5 h)))),I.tab,I.n9,I.zw⟩,
  I.mem.fr (X:=X) rfl nn hk λT=>I.n9 _ _ T λb o _=>hk b o,I.bare,λb o e=>hk b o (I.bs b o e),⟨_,x.toInCall.ns,λi y w h1 h2 h3=>?_⟩,λy c h=>⟨_,x.cell y c h⟩,λb hb=>?_,?_⟩
 ·exact name_of_addr x.apart (T5 h1) (T5 h2)
 ·have hy:scope.names.lookup y=Zz .cell∨scope.names.lookup y=Zz .free:=hy
  rcases hy with hy|hy
  ·exact rm hy
  ·exact Y3 rfl (S.JK _ (T5 hy))
 ·rcases R7.mp he with rfl|he
  ·exact⟨by rw[show(envOfC qual scope s.heap.objs.size f cd).scope.kind=scope.kind from rfl,S.kind];decide,_,RD,rfl⟩
  ·exact(I.GS e he).imp id λ⟨L,h1,h2⟩=>⟨L,R5 _ h1,h2⟩
 ·have hw:=r.1
  have hi:i<ws.length:=by
   by_cases hi:i<ws.length
   ·exact hi
   ·rw[Ru (by simpa using hi),Tw]at h2
    split at h2<;>cases h2
  rw[Ro (by simpa using hi),Rv]at h2;obtain⟨w',ew,e⟩:=RY.mp h2;cases e;obtain⟨u,hu,rv⟩:=r.get ew;have hp:ps[i]?=Zz y:=by
   rw[<-S.pre,List.getElem?_take_of_lt (by omega)];exact h1
  have ndP:ps.Nodup:=by rw[<-S.pre];exact S.nd.sublist (List.take_sublist _ _)
  refine⟨u,rv.fr nn hk,?_⟩;rcases S.Lj y (SG hp)with k|k
  ·exact .inl ⟨k,pb ndP hp hu k⟩
  ·obtain⟨c,e⟩:=rm (n:=s.heap.objs.size+1) k
   refine .inr ⟨.inl k,c,e,?_⟩;have q:=x.cell y c e;rw[oG ndP hp hu (by show scope.names.lookup y≠_;rw[k];decide)]at q;exact q
 ·rcases R7.mp hb with rfl|hb
  ·exact⟨nb _ (gone _ (RU _)),oN,eN,(λv z=>by rw[dN]at z;cases z),λ_ x n z=>by rw[dN]at z;cases z⟩
  ·obtain⟨g,o,e,n⟩:=I.cN b hb
   refine⟨g,o,hk _ _ e,n.1,λz=>n.2 ?_⟩;obtain⟨en,z1,z2⟩:=U1.mp z;rcases R7.mp z1 with rfl|z1
   ·cases z2
    exact Y3 (Rj e) (SI _)
   ·exact U1.mpr ⟨en,z1,z2⟩
 ·show _=N.length
  rw[RV,R2,VD,r.1];omega
theorem FC(F:HQ B.K x qual st f fd)(S:ax N ps (ai st))(r:fns[fi]?=Zz ⟨np,n,body,cell⟩)(hnp:np=ps.length)(hn:N.length=n)(hb:∀(cd:R4) (A:Sb) (sk:List Sn) (fs:List RC) (z:Nat),lR k (A.deeper (envOfC qual (ai st) z f cd))->jD (dS fns gv k) gv (IW B N qual (ai st) f cd A sk fs z) (cC st) body):
  (∀ws m,dS fns gv (k+1) fi ws m=.stuck∨ws.length=ps.length)/\B6 B (dS fns gv (k+1) fi) (k+1) f fd ps:=by
 subst hn hnp;refine⟨λws m=>?_,?_⟩
 ·rw[dS,r]
  dsimp only;by_cases h:ws.length=ps.length
  ·exact .inr h
  ·exact .inl (Xz h)
 rintro X rfl hr cm m s I args us ws he hbd hl rv Q J hp;obtain⟨oc,od,kV,doc,pm,an,cdv,ct,osl,rfl,lk,hcd⟩:=F.ex;rw[dS,r]at hp he;dsimp only at hp;dsimp only at he;obtain⟨hq,hp⟩:=lW hp;rw[Xy hq]at he;have lim:s.heap.NoLimit:=I.mod.nolimit.keeps I.bs;have jq:X.K.In s.heap:=I.mod.jq.keeps I.bs;have hkind:∀y∈ps.zip us,(ai st).names.lookup y.1=Zz .local∨((ai st).names.lookup y.1=Zz .cell/\((UV (s.heap.objs.size+1) (ai st).names []).lookup y.1).isSome=true):=λ⟨n,v⟩ hy=>by
  rcases S.Lj n (Uo hy).1 with q|q
  ·exact .inl q
  ·exact .inr ⟨q,Vu _ _ _ (.inl q)⟩
 refine codeAny_call_function hr.depth (jq _ _ lk) rfl S.co S.gen rfl (PySem.W.codeRec_of jq hcd) (hbd _ _ _ _ ?_)
 refine wpAny_newFunctionEnv_cells S.kind hkind λenv1 he s1 x=>?_
 subst he;refine⟨lim.keeps x.toInCall.keep,codeAny_func ?_⟩;have I1:=Fq S hr.hd I hl rv x;obtain⟨h1,tk,rfl,hk⟩:=x.done;have gone:∀b,s.heap.objs.size<=b->s.heap.get? b=Zy:=λb hb=>Rt hb
 have up:∀{c m2 t},bz (s.heap.objs.size::X.fs) (IW X.toBs N qual (ai st) f cdv X.A X.stack X.fs s.heap.objs.size).own cm m { s with heap:=h1,toks:=tk } c m2 t->bz (s.heap.objs.size::X.fs) X.tb cm m s c m2 t:=λx=>((bz.kept (d:=s.drawn) hk).trans x).weak λb hb n=>by
  have hb:b=s.heap.objs.size∨b∈X.tb∨s.heap.objs.size<b:=by
   rcases R7.mp hb with z|hb
   ·exact .inl z
   ·rcases SP.mp hb with hb|hb
    ·exact .inr (.inl hb)
    ·obtain⟨y,_,h2⟩:=oV.mp hb
     exact .inr (.inr ((‹InCallC _ _ _ _ _ _›).above y b (T5 h2)))
  rcases hb with z|z|z
  ·exact gone b (by rw[z];exact RU _)
  ·exact Y3 z n
  ·exact gone b (Th z)
 have nn:∀b∈s.heap.objs.size::X.fs,b∈X.fs∨s.heap.get? b=Zy:=λb hb=>(R7.mp hb).elim (λz=>.inr (gone b (by rw[z];exact RU _))) .inl
 have dn:∀{c m2 t},bh (IW X.toBs N qual (ai st) f cdv X.A X.stack X.fs s.heap.objs.size) c m2 t->bh X c m2 t:=λM=>M.fr (X:=IW X.toBs N qual (ai st) f cdv X.A X.stack X.fs s.heap.objs.size) rfl (λb h=>.inl (R5 _ h)) (λ_ _ e=>e) id
 refine hb cdv X.A X.stack X.fs s.heap.objs.size (hr.deeper _) _ _ _ _ I1 _ _ PassesOwn.leaving ?_;cases eb:ex (dS fns gv k) gv body (ws.map Zz++RL (N.length-ps.length) Zy) m with
 |stuck=>rw[eb]at hp;exact hp.elim
 |ok fl m2 =>
  rw[eb]at hp;intro c t xY MY;have fin:=Jr I.mem.len ((up xY).fr nn) (dn MY) hp;cases fl with
  |next env'=>exact λ_=>fin
  |ret w=>exact λ_ _ v r=>fin v (RW.fr (f':=X.fs) (λb h=>.inl (R5 _ h)) (λ_ _ e=>e) r)
 |exc y m2 =>
  rw[eb]at hp;rintro v c t xY MY ⟨_,e,dx,rfl,h1,h2,h3⟩;unfold leaving;refine R0 (land (X:=IW X.toBs N qual (ai st) f cdv X.A X.stack X.fs s.heap.objs.size) MY h2 h3 I1.ok (Around.frames_deeper I.frames) rfl (I1.L6 xY.thr) rfl λh' Ld=>?_);have ne:s.heap.get? e=Zy:=by
   cases q:s.heap.get? e with
   |none=>rfl
   |some o=>rw[hk _ _ q]at h1;cases h1
  have xt:=((up xY).ta Ld.ext (λb hb=>by rw[RN.mp hb];exact ne) λb o _ q=>Ld.thr b o q).fr nn;rcases he with⟨env,If⟩|⟨_,_,he⟩
  rotate_left
  ·rw[eb]at he;cases he
  exact hp (.ref e) c _ xt (dn Ld.mem) ⟨⟨_,If.go xt.toExtK (dn Ld.mem) If.nc⟩,e,dx,rfl,ne,Ld.xp,Ld.xf.fr (f':=X.fs) (λb h=>.inl (R5 _ h)) λ_ _ e=>e⟩
end
end Mi
namespace Mi
open PySem PySem.Spec PyProof.Rows PySem.W PySem.Builtin.ObjectAttr
theorem zN{A:Sb}{C:RC}{us:List R4}{kw:List (Str×R4)}:(A.under (.builtin "type.__call__" ⟨.ref C::us,kw⟩)).depth=A.depth+1:=by
 first|rfl|simp[Around.under,Code.weight,Code.isCreation,Code.isGuard,Code.isCaller,Code.frames,Code.isFrame,guardIds]
section
variable{prog:Sf}{w:TB}{A:Sb}{R:Result->RA->Prop}{h:Rq}{g:Array GenState}{d:Drawn}{t:Nat}{os:OsState}
variable{nm q:Str}{C N f:RC}{bs bm bmB:List R4}{hdct:Bool}{sn:List Str}{sub:List R4}{ab:Bool}{col:Option Bool}{dd:Option RC}{k0 k1 k2 k3 k5:Option R4}{B newId initId:String}
noncomputable abbrev newX(C t:RC):Obj:={ cls:=.ref C,data:=.fields #[.ref t,.none,.none,.none,.bool false,.none] }
noncomputable abbrev wR(us:List R4):Obj:={ cls:=.type "tuple",data:=.seq us.toArray }
theorem Ji(F:ExcBaseFacts B newId initId bmB)(T:OwnTail h bmB bm)(hC:h.get? C=Zz (excClassObj nm q C N bs bm hdct sn sub ab col dd k0 k1 k2 k3 k5 newId))(hi:Xa (Rp prog w) h (WO (.ref C) "__init__") (Zz (.ref f)))(hb:∀self,Xa (Rp prog w) h (bindSpecial (.ref f) self) (.ref f,[self]))(hq:UR (Rp prog w) (A.under (.builtin "type.__call__" ⟨.ref C::us,[]⟩)) (.call (.ref f) ⟨.ref (h.objs.size+1)::us,[]⟩) (InitBack (h.objs.size+1) R) ⟨(h.push (wR us)).push (newX C h.objs.size),g,d,t,os⟩)(hz:us.length<=Ri):UR (Rp prog w) A (.call (.ref C) ⟨us,[]⟩) R ⟨h,g,d,t,os⟩:=by
 have f1:=tc_lookup;have f2:=tc_bind (.ref C);have hT:(⟨h,g,d,t,os⟩:RA).TypeIs (.ref C) "type":=⟨_,hC,rfl⟩
 refine VP ?_;show RF _ _ (callAny (.ref C) _) _ _ _
 repeat (any_goals (first|assumption|with_reducible refine V8 hC ?_|wp_step))
 refine Rh rfl (codeAny_call_builtin_at (Vm _ (by decide +kernel)) entry_typeCall (wpAny_check_type_call_sub hC ?_))
 repeat (first|with_reducible refine wpAny_madeBy_exc hC ?_|with_reducible refine V8 hC ?_|wp_step)
 refine codeAny_call_builtin_code (Vm _ F.quiet) (wpAny_check_new_subT F T hC (codeAny_exc_new_subT F T hC ?_ hz));show RF (Rp prog w) (A.under (.builtin "type.__call__" ⟨.ref C::us,[]⟩)) _ _ _ ⟨(h.push (wR us)).push (newX C h.objs.size),g,d,t,os⟩;have k:∀b o,h.get? b=Zz o->((h.push (wR us)).push (newX C h.objs.size)).get? b=Zz o:=λb o e=>R9 _ (R9 _ e)
 have hC1:=k _ _ hC;have hx:((h.push (wR us)).push (newX C h.objs.size)).get? (h.objs.size+1)=Zz (newX C h.objs.size):=by heap_get
 have hcC:(T4 C::bm).contains (.ref C)=true:=by simp
 have i1:=hi.keeps k;have b1:=(hb (.ref (h.objs.size+1))).keeps k;have t1:Xa (Rp prog w) ((h.push (wR us)).push (newX C h.objs.size)) (typeOf (.ref (h.objs.size+1))) (.ref C):=(Looks.ld hx).andThen .now;have s1:Xa (Rp prog w) ((h.push (wR us)).push (newX C h.objs.size)) (isSubtype (.ref C) (.ref C)) true:=λA Q E s kk q0=>wpAny_isSubtype_exc (kk _ _ hC1) (by rw[hcC];exact q0)
 clear hT hC hC1 hi hb T;unfold XS callSpecial? specialOf;repeat (first|with_reducible refine Vl ?_|lk)
 refine Td hq λr s' z=>?_
 rcases r with e|(v|_|_|_)
 ·exact z
 ·exact z.elim
 ·exact z.elim
 ·exact z.elim
 ·obtain⟨rfl,z⟩:=z;exact R3 (R3 z)
end
noncomputable def ud:List R4->Bool
 |.ref _::r=>ud r
 |l=>l==[.type "ValueError",.type "Exception",.type "BaseException",.type "object"]
noncomputable def FH(K:V9)(C:RC):Bool:=(clsIn K C).any λcd=>ud cd.mro
theorem xH(a:R4):∀{l:List R4},ud l=true->refuseLoop a "__setattr__" l=pure ()
 |l,e=>by
  unfold ud at e;split at e
  ·rw[refuseLoop_ref];exact xH a e
  ·rw[eq_of_beq e];exact PySem.F.store_ValueError.passes a
theorem II:∀{l:List R4},ud l=true->l.contains (.type "object")=true
 |l,e=>by
  unfold ud at e;split at e
  ·rw[List.contains_cons,II e,UW]
  ·rw[eq_of_beq e];decide
theorem K1{E:R4->RA->Prop}{K:V9}(X:K.In s.heap)(u:s.heap.get? x=Zz ox)(M:ox.cls=.ref C)(g:ox.dict=Zy)(B:ox.data=.fields vs)(hs:findIn K (.ref C) "__setattr__" = Zz (Zz (.builtin "object.__setattr__")))(ho:FH K C=true)(hn:findIn K (.ref C) name=Zz Zy)(hh:XZ K C=true)(k:∀(h':Rq) (tk:Nat),h'.Ns1 s.heap.objs.size (λy=>if y=name then Zz v else Zy)->h'.get? x=Zz { ox with dict:=Zz s.heap.objs.size }->(∀b o,b≠x->s.heap.get? b=Zz o->h'.get? b=Zz o)->Q () { s with heap:=h',toks:=tk }):
  RF (Rp prog w) A (setAttr (.ref x) name v) Q E s:=by
 have nc:notCls ox=true:=by unfold notCls;rw[B]
 have I:InstAt s.heap x ox C Zy:=⟨u,M,nc,by rw[g];trivial⟩
 refine set_plain X I hs ?_;have t:=PySem.F.store_object;obtain⟨cd,p,f⟩:=XA ho;have z:Xa (Rp prog w) s.heap (XS (.ref x) (.type "object")) true:=I.type.andThen (looks_mroIn X (by
  unfold mroIn;rw[p,SE,Xz ?_,II f];cases q:cd.mro with
  |nil=>rw[q]at f;exact Y3 f (by decide)
  |cons a r=>simp))
 refine VM t.slot.plain t.entry (@check_slot (Rp prog w) _ _ { s with toks:=s.toks+1 } "object.__setattr__" "object" "__setattr__" (.ref x) [.str name s.toks,v] [] _ t.kind t.split z (t.args (.ref x) (.str name s.toks) v) ?_);rw[osa_eq,refuse_eq];refine R0 (R0 (I.type.here (s:={ s with toks:=s.toks+1 }) (R0 (XT ((looks_clsIn X p).andThen .now) ?_))));rw[xH _ f];refine R3 (R0 (I.type.here (s:={ s with toks:=s.toks+1 }) (R0 (XT (WW X hn) (R0 (R3 ?_))))));obtain⟨oc,od,odt,h⟩:=ox;dsimp only at M g B;subst M g B;obtain⟨cd2,n,H⟩:=XA hh;refine R0 (R3 (R0 (R0 (wpAny_loadPart u (R0 (XT (looks_clsIn X n) ?_))))));rw[H];have j:(s.heap.push { cls:=.type "dict",data:=.dict #[] }).get? x=Zz ⟨.ref C,Zy,.fields vs,h⟩:=R9 _ u;have i:=SO (Rj u);refine R0 (wpAny_alloc' ?_);refine R0 (wpAny_update' j ?_);refine R3 ?_;generalize hG:((s.heap.push { cls:=.type "dict",data:=.dict #[] }).update x λo=>{ cls:=o.cls,dict:=Zz s.heap.objs.size,data:=o.data,slots:=o.slots })=G;have gd:G.get? s.heap.objs.size=Zz { cls:=.type "dict",data:=.dict #[] }:=by
  rw[<-hG];exact(Heap.get?_update_ne _ _ _ _ i.symm).trans (Heap.get?_push_at rfl rfl)
 have gx:G.get? x=Zz ⟨.ref C,Zz s.heap.objs.size,.fields vs,h⟩:=by
  rw[<-hG];exact S5 _ j rfl
 have gb:∀b o,b≠x->s.heap.get? b=Zz o->G.get? b=Zz o:=λb o N q=>by
  rw[<-hG];exact(Heap.get?_update_ne _ _ _ _ N).trans (R9 _ q)
 have gn:G.Ns s.heap.objs.size (λ_=>Zy):=⟨_,#[],_,gd,rfl,λe he=>Y3 he (by simp),λ_=>rfl⟩
 unfold storeInDict newKeyGuard;refine R0 (R3 (R0 (wpAny_nsSet1 (Heap.Ns1.of_empty gn) λh' m l=>?_)));obtain⟨oD,esD,epD,D,J,L⟩:=m.count (Within.cons name v Within.nil);refine R0 (wpAny_lookBehind D (by rw[J];exact pastItsLine_dict (Rn L (by rw[RI,Rz,Sv];omega))) ?_);refine R3 (k h' _ m ((l.2 x i).trans gx) λb o N q=>(l.2 b (SO (Rj q))).trans (gb b o N q))
structure K0 (K:V9) (C:RC) (f:Str):Prop where
 sa:findIn K (.ref C) "__setattr__" = Zz (Zz (.builtin "object.__setattr__"))
 ov:FH K C=true
 na:findIn K (.ref C) f=Zz Zy
 hd:XZ K C=true
noncomputable def Lr:List R4:=[.type "ValueError",.type "Exception",.type "BaseException",.type "object"]
noncomputable def E4(K:V9)(C:RC):Bool:=match K.lookup C with
 |some ⟨.type "type",_,.cls cd,sl⟩=>(match cd.mro,sl.toList with
  |.ref C'::bm,[_,_,_,_,Zz (.builtin n),_]=>C'==C&&n == "ValueError.__new__" && !cd.hasDel&&tailIn K Lr bm
  |_,_=>false)
 |_=>false
theorem IN{K:V9}(X:K.In h)(q:E4 K C=true):∃f e N i bm hdct d b j c dd k0 k1 k2 k3 k5,h.get? C=Zz (excClassObj f e C N i bm hdct d b j c dd k0 k1 k2 k3 k5 "ValueError.__new__")/\OwnTail h Lr bm:=by
 unfold E4 at q;split at q
 ·rename_i dd cd sl ho
  split at q
  ·rename_i C' bm k0 k1 k2 k3 n k5 hm hs
   simp only[R6,beq_iff_eq,Bool.not_eq_true']at q;obtain⟨⟨⟨rfl,rfl⟩,a⟩,o⟩:=q;obtain⟨f,i,m,k,e,p,d,b,j,c,r⟩:=cd;dsimp only at hm a;subst hm a;have g:sl=#[k0,k1,k2,k3,Zz (.builtin "ValueError.__new__"),k5]:=by
    obtain⟨l⟩:=sl;simp only at hs;rw[hs]
   subst g;exact⟨f,e,k,i,bm,p,d,b,j,c,dd,k0,k1,k2,k3,k5,X _ _ ho,tail_of_in X o⟩
  ·cases q
 ·cases q
theorem GK{E:R4->RA->Prop}{K:V9}(m:E4 K C=true)(o:A.handled=Zy)(h:RF M A x (λv a=>∃e c f,v=.ref e/\K.In a.heap/\a.heap.get? e=Zz c/\c.cls=.ref C/\c.data=.fields f/\f[1]?=Zz .none/\E (.ref e) a) E s):RF M A (raiseStmt env (Zz x) Zy) Q E s:=by
 unfold raiseStmt;refine R0 (TT h (λv a i=>?_) λ_ _ z=>z);obtain⟨e,c,f,rfl,X,j,b,p,i,r⟩:=i;obtain⟨F,B,N,R,u,k,y,n,S,t,P,L,J,I,H,G,l,T⟩:=IN X m;have q:(T4 C::u).contains (.type "BaseException")=true:=by rw[List.contains_cons,T.hasType (show Lr.contains (.type "BaseException")=true by decide),UW]
 obtain⟨O,g,d,w,D⟩:=a
 repeat (first|(with_reducible refine V8 j ?_;rw[b])|with_reducible refine V8 l ?_|(with_reducible refine wpAny_isSubtype_exc l ?_;rw[q])|with_reducible refine S9 j p i ?_|wp_step)
 exact wpAny_raiseNew_none o r
structure yD (K:V9) (C:RC) (nm:Str):Prop where
 xc:E4 K C=true
 kp:keepIn K (.ref C)=true
 xs:K0 K C nm
 fn:∃f fd x qual st a b p1 p2 p3 p4,findIn K (.ref C) "__init__" = Zz (Zz (.ref f))/\typeIn K (.ref f)=Zz (.type "function")/\HQ K x qual st f fd/\ax [a,b] [a,b] (ai st)/\cC st=[.Assign [.Attribute (.Name a p1) nm p2] (.Name b p3) p4] /\
  Binds K fd [a,b] []/\(a==("__debug__" : Str))=false/\(b==("__debug__" : Str))=false/\(a==("__classdict__" : Str))=false/\(b==("__classdict__" : Str))=false
theorem Em{E:R4->RA->Prop}{e T:RC}(g:s.heap.get? e=Zz oe)(f:oe.data=.fields vs)(h:vs[1]?=Zz (.ref T))(c:s.heap.get? T=Zz oT)(d:oT.data=.fields ts)(a:ts[3]?=Zz .none)(k:Q () s):RF M A (Vi (.ref e) Zy) Q E s:=by
 unfold Vi;refine R0 (S9 g f h ?_);rw[Xy (by simp)];refine SX c d (T2.mp a).1 ?_;show Q () { s with heap:=s.heap.update T (Tq (·.setIfInBounds 3 .none)) };rw[Heap.update_setField_same s.heap T oT ts 3 .none c d a];exact k
section
variable{X Y:Cx}{B:Bs}{env env':Mi.Env}{cm cm' cm0 c:List RC}{m m' m0 m1 m2:Mem}{s s' s0 s1 t:RA}{w:W}{v u:R4}{ch:List RC}{J Q:VK}{h h':Rq}{l ts out:List T}{vs us:List R4}{ws:List W}{C D f e:RC}{n k fi np:Nat}{i:Option Nat}{tk:Nat}{o o':Obj}{fs:List RC}{tt:T}
variable{fns:List Fn}{gv:List T}{call':Nat->List W->Mem->Res W}{ee:SJ}{es:List SJ}{L:Es}{x y qual nm a b:Str}{p pos p1 p2 p3 p4 yp hpos cpos:Pos}{scope:Vn}{N ps:List Str}{cd:R4}{st:S6}{fd:TV}{body rest hb:List S6}{sb sh kk:Mi.S}{ea:Mi.E}{cell:Bool}{A:Sb}{b0:S6}{nmo:Option Str}{yes:List Nat}
theorem Eu{P:Sf}{w:TB}{K:V9}(KX:K.In s.heap)(lim:s.heap.NoLimit)(F:HQ K x qual st f fd)(S:ax [a,b] [a,b] (ai st))(hb:cC st=[.Assign [.Attribute (.Name a p1) nm p2] (.Name b p3) p4])(bd:Binds K fd [a,b] [])(xs:K0 K C nm)(k:A.depth<Vv)(he:s.heap.get? e=Zz o)(hc:o.cls=.ref C)(hd:o.dict=Zy)(hf:o.data=.fields vs.toArray)(ha:(a==("__debug__" : Str))=false)(hb':(b==("__debug__" : Str))=false)(ha2:(a==("__classdict__" : Str))=false)(hb2:(b==("__classdict__" : Str))=false):
  UR (Rp P w) A (.call (.ref f) ⟨[.ref e,u],[]⟩) (λr t=>r=.ok (.ret .none)/\∃d hh tk,t={ s with heap:=hh,toks:=tk }/\s.heap.get? d=Zy/\hh.Ns1 d (λy=>if y=nm then Zz u else Zy)/\hh.get? e=Zz { o with dict:=Zz d }/\∀b o,b≠e->s.heap.get? b=Zz o->hh.get? b=Zz o) s:=by
 obtain⟨oc,od,kV,doc,pm,an,m,ct,osl,rfl,lk,hcd⟩:=F.ex;have g:∀y∈[a,b].zip [T4 e,u],(ai st).names.lookup y.1=Zz .local∨((ai st).names.lookup y.1=Zz .cell/\((UV (s.heap.objs.size+1) (ai st).names []).lookup y.1).isSome=true):=λ⟨n,v⟩ B=>by
  rcases S.Lj n (Uo B).1 with q|q
  ·exact .inl q
  ·exact .inr ⟨q,Vu _ _ _ (.inl q)⟩
 refine codeAny_call_function k (KX _ _ lk) rfl S.co S.gen rfl (PySem.W.codeRec_of KX hcd) (bd s [.ref e,u] KX rfl _ _ _ _ ?_)
 refine wpAny_newFunctionEnv_cells S.kind g λenv D s1 x=>?_
 subst D;refine⟨lim.keeps x.toInCall.keep,codeAny_func ?_⟩;obtain⟨h',tk,rfl,hk⟩:=x.done;have ld:∀{i:Nat}{z:Str}{p:Pos}{v:R4}{Q:VK}{E:VK},([a,b]:List Str)[i]?=Zz z->[T4 e,u][i]?=Zz v->(z==("__debug__" : Str))=false->Q v { s with heap:=h',toks:=tk }->RF (Rp P w) (A.deeper (envOfC qual (ai st) s.heap.objs.size f m)) (eval (.Name z p) (envOfC qual (ai st) s.heap.objs.size f m)) Q E { s with heap:=h',toks:=tk }:=λ{i z p v Q E} h1 h2 h3 q=>by
  rcases S.Lj z (SG h1)with j|j
  ·exact WR (VN S.kind j x.toInCall.ns (pb S.nd h1 h2 j) q) h3
  ·obtain⟨c,ec⟩:=rm (n:=s.heap.objs.size+1) j
   have q2:h'.IsCell c (bindC (envOfC qual (ai st) s.heap.objs.size f m).kindOf ([a,b].zip [T4 e,u]) (λ_=>Zy) z):=x.cell z c ec;rw[oG S.nd h1 h2 (by show(ai st).names.lookup z≠_;rw[j];decide)]at q2;exact WR (Va S.kind j ec q2 q) h3
 rw[hb];have ne:s.heap.get? h'.objs.size=Zy:=by
  cases q:s.heap.get? h'.objs.size with
  |none=>rfl
  |some o=>exact Y3 (Rj (hk _ _ q)) (SI _)
 refine Ry (plainObj_wpAny_Assign_Attribute (ld (i:=1) rfl rfl hb' (ld (i:=0) rfl rfl ha (K1 (KX.keeps hk) (hk _ _ he) hc hd hf xs.sa xs.ov xs.na xs.hd λhh tk2 G B q=>?_))));exact Um ⟨rfl,_,hh,tk2,rfl,ne,G,B,λb o n e=>q b o n (hk b o e)⟩
theorem G1(I:Fr X env cm m s)(x:yD X.K C nm)(hdep:X.A.depth+1<Vv)(rv:RT X.D cm m s.heap tt u)(k:∀s' e d,bz X.fs X.tb cm m s cm m s'->Fr X env cm m s'->s.heap.get? e=Zy->XP s'.heap e C (Zz d)->XF X.D cm m s'.heap [nm] [tt] (Zz d)->(∃oe vv,s'.heap.get? e=Zz oe/\oe.cls=.ref C/\oe.data=.fields vv/\vv[1]?=Zz .none)->Q (.ref e) s'):RF X.M X.A (T7 (.ref C) [u]) Q J s:=by
 obtain⟨f,fd,xn,qual,st,a,b,p1,p2,p3,p4,hi,hf,F,S,i,bd,n1,n2,n3,n4⟩:=x.fn;obtain⟨cn,qn,N,bs,bm,hdct,sn,sub,ab,col,dd,k0,k1,k2,k3,k5,hC,T⟩:=IN I.jq x.xc;have kp:∀b o,s.heap.get? b=Zz o->((s.heap.push (wR [u])).push (newX C s.heap.objs.size)).get? b=Zz o:=λb o e=>R9 _ (R9 _ e)
 have hx:((s.heap.push (wR [u])).push (newX C s.heap.objs.size)).get? (s.heap.objs.size+1)=Zz (newX C s.heap.objs.size):=by heap_get
 have nE:s.heap.get? (s.heap.objs.size+1)=Zy:=Rt (UH _);have lim:s.heap.NoLimit:=I.ok.mod.nolimit.keeps I.bs;have jq:=I.jq;obtain⟨hp,g,d,tk,os⟩:=s;refine Vl (Ji PySem.F.excBase_ValueError T hC (WW jq hi) (λself=>bind_fn jq self hf) ?_ (show 1<=Ri by decide));refine Td (Eu (s:=⟨_,g,d,tk,os⟩) (jq.keeps kp) (lim.keeps kp) F S i bd x.xs (by rw[zN];exact hdep) hx rfl rfl (vs:=[.ref hp.objs.size,.none,.none,.none,.bool false,.none]) rfl n1 n2 n3 n4) λr s' z=>?_
 obtain⟨rfl,j,hh,tk',rfl,q1,q2,q3,q4⟩:=z;have old:∀b o,hp.get? b=Zz o->hh.get? b=Zz o:=λb o q=>q4 b o (λz=>by rw[z]at q;exact Y3 (Rj q) (WV.mpr (UH _))) (kp b o q)
 obtain⟨x',I'⟩:=I.up (ch:=X.tb) (g:=hh) (t:=tk') (d:=d) old;have nj:hp.get? j=Zy:=by
  cases q:hp.get? j with
  |none=>rfl
  |some o=>rw[kp _ _ q]at q1;cases q1
 refine⟨rfl,k _ _ j x' I' nE ⟨_,_,.none,q3,rfl,rfl,rfl,rfl,.inl rfl⟩ ⟨[u],_,λhb=>?_,q2,λy=>?_,rfl,.cons (rv.go x'.toExtK I.mem I.nc.q) .nil⟩ ⟨_,_,q3,rfl,rfl,rfl⟩⟩
 ·obtain⟨_,o,e,_⟩:=I.cN _ hb
  rw[nj]at e;cases e
 ·by_cases h:y=nm
  ·subst h
   simp[Wh]
  ·have E:=Y2.mpr h
   simp[Wh,E,h]
theorem Cm(xi:yD X.K C nm)(hm:X.mg x=Zz (.ref C))(hg:Gl X x)(hc:X.calm=true)(hr:lR k X.A)(ha:PE call' gv X ee ea)(he:notStar ee=true:=by rfl)(hdb:(x==("__debug__" : Str))=false:=by decide):
  jD call' gv X (.Raise (Zz (.Call (.Name x p) [ee] [] cpos)) Zy pos::rest) (.zj C [nm] (.cons ea .nil) kk):=λenv cm m s I R J j hp=>by
 have hh:=I.ok.hd hc;rw[ex]at hp;refine Ry ?_;rw[arm_exec_Raise];refine R0 (TM ?_);refine GK xi.xc hh (R0 ?_);refine Sl (gI I hg hm ?_ hdb);refine PySem.W.callWith_K (h₀:=X.base) I.ok.mod.jq xi.kp ((yg ha Bl (bZ he)).jB I hp λws us c1 m1 s1 I1 x1 r o=>⟨I1.jq,?_⟩) (bZ he) rfl;cases q:ii ws m1 with
 |stuck=>rw[q]at o;exact o.elim
 |exc y m2=>exact Y3 q l9
 |ok ts m2 =>
  rw[q]at o;obtain⟨x2,I2,r2⟩:=ww I1 r q;have o:aI X X.own c1 m1 s1 (if([nm]:List Str)=[]then(if ts.length<=1000 then Res.exc (a:=Mi.Flow) ⟨C,[],[]⟩ m2 else .stuck)else if ts.length=([nm]:List Str).length then .exc ⟨C,[nm],ts⟩ m2 else .stuck) J _:=o;rw[Xz (by simp)]at o;obtain⟨hl,o⟩:=lW o;obtain⟨t,rfl⟩:=List.length_eq_one_iff.mp hl;obtain⟨u,_,rfl,ru,r3⟩:=r2.inv;obtain rfl:=RP.mp r3.1.symm;refine G1 I2 xi (by have:=hr.dp;omega) ru λs' e d x3 I3 ne xp xf ⟨oe,vv,y1,y2,y3,y4⟩=>?_
  refine R0 (TM (R3 ?_));exact⟨e,oe,vv,rfl,I3.jq,y1,y2,y3,y4,o (.ref e) c1 s' ((x2.trans x3).sub cy) I3.mem ⟨⟨_,I3⟩,e,Zz d,rfl,ne,xp,xf⟩⟩
noncomputable abbrev Je(X:Cx)(A:Sb):Cx:={ X with A:=A,calm:=false }
def IA(X:Cx)(i:Option Nat)(nmo:Option Str):Prop:=match i,nmo with
 |none,Zy=>True
 |some j,Zz x=>X.N[j]?=Zz x/\X.env.scope.names.lookup x=Zz .local
 |_,_=>False
theorem Fr.hnd(I:Fr X env cm m s)(h:A.frames=X.A.frames):Fr (Je X A) env cm m s:=
 ⟨{ I.ok with hd:=(λz=>nomatch z),frames:=h.trans I.ok.frames },⟨I.mem.len,I.mem.inj,I.mem.at',I.mem.tab⟩,I.bare,I.bs,I.loc,I.cell,I.cN,I.len⟩
theorem Fr.L7(ok:X.Ok)(I:Fr (Je X A) env cm m s):Fr X env cm m s:=⟨ok,⟨I.mem.len,I.mem.inj,I.mem.at',I.mem.tab⟩,I.bare,I.bs,I.loc,I.cell,I.cN,I.len⟩
theorem Fr.Mf{k:List Str}{dx:Option RC}(I:Fr X env cm m s)(L:L8 X cm m s e C dx k l h)(hx:XP s.heap e C dx)(nb:X.base.get? e=Zy):Fr X (RL env.length Zy) cm m { s with heap:=h }:=
 I.Ma (f:=X.fs) I.ok (λ_ h=>.inl h) (λ_ h n=>Y3 h n) L.ext L.mem (λb hb=>by
  obtain⟨oe,vs,_,e1,e2,_,e4,_⟩:=hx;obtain rfl:=RN.mp hb;exact⟨nb,λo e=>by rw[e1]at e;cases e;exact⟨_,e4⟩⟩) (λi w e=>by
  rw[Tw]at e;split at e<;>cases e) (VD)
theorem wU(hN:X.N.Nodup)(hi:IA X i nmo)(hg:Gl X y)(hm:X.mg y=Zz (.ref D))(hy:∀c∈yes,exmOne X.K (.ref c) (.ref D)=Zz true)(hb':jD call' gv X body sb)(hh:∀A,A.units=X.A.units->jD call' gv (Je X A) (b0::hb) sh)(hk:jD call' gv X rest kk)(hdb:(y==("__debug__" : Str))=false:=by decide)(hst:X.stack=X.env::X.stack.tail:=by rfl)(hfr:X.env.frame=Zz X.env.locals:=by rfl):
  jD call' gv X (.Try body [.ExceptHandler (Zz (.Name y yp)) nmo (b0::hb) hpos] [] [] pos::rest) (.tri sb yes i sh kk):=λenv cm m s I R J j hp=>by
 refine Ry (wpAny_Try_except ?_);rw[ex]at hp;have keep:∀{fl:Mi.Flow}{c m1 t},aI X X.own c m1 t (match fl with|.next env=>ex call' gv kk env m1|fl=>.ok fl m1) J (FQ X R)->bh X c m1 t.heap->FQ X (λf s1=>match f with
   |.next=>RF X.M X.A (execs [] X.env) (λf s'=>match f with|.next=>RF X.M X.A (execs rest X.env) R J s'|f=>R f s') J s1
   |f=>match f with|.next=>RF X.M X.A (execs rest X.env) R J s1|f=>R f s1) fl c m1 t:=λ{fl c m1 t} o M=>by
  cases fl with
  |next env'=>exact λI'=>Um (hk _ _ _ _ I' R J j o)
  |ret w=>exact λe I v r=>o.now M e I v r
 refine hb' _ _ _ _ I _ _ PassesOwn.looking ?_;cases r:ex call' gv sb env m with
 |stuck=>rw[r]at hp;exact hp.elim
 |ok fl m1=>rw[r]at hp;exact λc t x M=>keep (hp.shift x) M
 |exc x m1 =>
  rw[r]at hp;dsimp only at hp;by_cases hx:x.cls∈yes
  rotate_left
  ·rw[Xz hx]at hp;exact hp.elim
  rw[Xy hx]at hp;rintro v c t xt M ⟨⟨env',I'⟩,e,dx,rfl,ne,xp,xf⟩;have nbe:X.base.get? e=Zy:=by
   cases q:X.base.get? e with
   |none=>rfl
   |some o=>rw[I.bs _ _ q]at ne;cases ne
  refine land M xp xf I'.ok (by rw[<-hst];exact I'.ok.frames) hst (I.L6 xt.thr) hfr λh2 Ld=>?_
  have J0:=I'.Mf Ld xp nbe;have x2:bz X.fs X.own cm m s c m1 { t with heap:=h2 }:=xt.ta Ld.ext (λb hb=>by rw[RN.mp hb];exact ne) λb o _ q=>Ld.thr b o q
  obtain⟨oe,vs,uu,y1,y2,y3,y4,y5,y6⟩:=id Ld.xp;have hl:env'.length=env.length:=I'.len.trans I.len.symm;refine wpAny_handleBy_cons (codeAny_handlers_test (gI (J0.hnd (A:=X.A.mark (Zz (.ref e))) rfl) hg hm ?_ hdb)) (by intro q;cases q);have LT:Xa (Rp X.prog X.w) h2 (typeOf (.ref e)) oe.cls:=(Looks.ld y1).andThen .now;rw[y2]at LT;refine(exm_one J0.jq LT (hy _ hx)).here ?_;rw[Xy rfl];have go:∀s2,Fr X (B5 env.length i x) c m1 s2->bz X.fs X.own cm m s c m1 s2->∀Q2:X0->RA->Prop,
    (∀fl c3 m3 s3,bz X.fs X.own cm m s c3 m3 s3->bh X c3 m3 s3.heap->aI X X.own cm m s (match fl with|.next env=>ex call' gv kk (LM i env) m3|.ret w=>.ok (.ret w) m3) J (FQ X R)->FQ X Q2 fl c3 m3 s3) ->
    RF X.M (X.A.mark (Zz (.ref e))) (execs (b0::hb) X.env) Q2 (λ_ _=>False) s2:=λs2 I4 x4 Q2 q=>by
   refine hh (X.A.mark (Zz (.ref e))) rfl _ _ _ _ (I4.hnd rfl) _ _ PassesOwn.never ?_;cases r2:ex call' gv sh (B5 env.length i x) m1 with
   |stuck=>rw[r2]at hp;exact hp.elim
   |exc x3 m3=>rw[r2]at hp;exact hp.elim
   |ok fl m3 =>
    rw[r2]at hp;intro c3 s3 x3 M3;have M3:bh X c3 m3 s3.heap:=⟨M3.len,M3.inj,M3.at',M3.tab⟩
    have q:=q fl c3 m3 s3 (x4.trans x3) M3 hp;cases fl with
    |next env3=>exact λI5=>q (I5.L7 I4.ok)
    |ret w=>exact λe I5=>q e (I5.L7 I4.ok)
  have flt:∀{A:Sb}{Q:Unit->RA->Prop}{E:VK},Q () { t with heap:=h2 }->RF X.M A (Vi (.ref e) Zy) Q E { t with heap:=h2 }:=λq=>by
   rcases y6 with rfl|⟨T,p,ts,rfl,z1,z2,z3,z4,z5⟩
   ·unfold Vi
    refine R0 (S9 y1 y4 y5 ?_);rw[Xz (by decide)];exact R3 q
   ·exact Em y1 y4 y5 z2 z4 z5 q
  unfold IA at hi;split at hi
  ·refine codeAny_handlers_suite (flt (TT (go _ (by rw[hl]at J0;exact J0) x2 _ λfl c3 m3 s3 x3 M3 o=>?_) (λ_ _ z=>z) λ_ _ z=>z.elim))
   cases fl with
   |next env3=>exact λI5=>hk _ _ _ _ I5 R J j (o.shift x3)
   |ret w=>exact λe I v r=>o.to x3 M3 e I v r
  ·rename_i jj xn
   obtain⟨hj,hloc⟩:=hi;refine codeAny_handlers_suite_as (flt (store (X:=X) J0 hN hj (.inl hloc) (w:=.x x.cls x.nms x.JW) (v:=.ref e) ⟨e,dx,rfl,Ld.xp,Ld.xf⟩ λs4 x4 I4=>TT (go s4 (by rw[hl]at I4;exact I4) (x2.trans x4) _ λfl c3 m3 s3 x3 M3 o=>?_) (λ_ _ z=>z) λ_ _ z=>z.elim));cases fl with
   |next env3=>exact λI5=>uD I5 hN hj hloc λs5 x5 I6=>hk _ _ _ _ I6 R J j (o.shift (x3.trans x5))
   |ret w=>exact λe5 I5 v r=>uD I5 hN hj hloc λs5 x5 I6=>o.to (x3.trans x5) I6.mem _ I6 v (r.go x5.toExtK I5.mem I5.nq)
  ·exact hi.elim
end
end Mi
namespace Mi
open PySem PySem.Spec PyProof.Rows
section
variable{P:Sf}{w:TB}{A:Sb}{prog:Sf}{s:RA}{Q:R4->RA->Prop}
noncomputable abbrev zA(h:Rq)(a:RC):Rq:=h.push { cls:=.type "tuple_iterator",data:=.fields #[.ref a,.int 0 0] }
noncomputable abbrev zB(h:Rq)(a b:RC):Rq:=(zA h a).push { cls:=.type "list_iterator",data:=.fields #[.ref b,.int 0 0] }
noncomputable abbrev zC(h:Rq)(a b:RC):Rq:=(zB h a b).push { cls:=.type "tuple",data:=.seq #[.ref h.objs.size,.ref (zA h a).objs.size] }
noncomputable abbrev zD(h:Rq)(a b:RC):Rq:=(zC h a b).push { cls:=.type "tuple",data:=.seq #[.none,.none] }
noncomputable abbrev zE(h:Rq)(a b:RC):Rq:=(zD h a b).push { cls:=.type "zip",data:=.fields #[.none,.bool false,.bool false,.ref (zB h a b).objs.size,.ref (zC h a b).objs.size] }
theorem xw(a b:RC)(xs ys:Array R4):Xw (Builtin.«zip.__new__» ⟨[.type "zip",.ref a,.ref b],[]⟩)
  (λ_ R s=>s.heap.IsTuple a xs/\s.heap.IsList b ys/\R (.ok (.ret (.ref (zD s.heap a b).objs.size))) { s with heap:=zE s.heap a b }):=
 .of_wp λprog w A R s h=>by
  obtain⟨hp,g,d,tk,os⟩:=s;obtain⟨ha,hb,h⟩:=h;have hsub:=sub_zip;have h1:=ha;have h2:Heap.IsList (Shared.heap ⟨hp.push { cls:=.type "tuple_iterator",data:=.fields #[.ref a,.int 0 0] },g,d,tk,os⟩) b ys:=by
   obtain⟨o,e,r⟩:=hb;exact⟨o,R9 _ e,r⟩
  wp_walk using Vq h1,V1 h2
  exact⟨_,rfl,h⟩
theorem zW{E:R4->RA->Prop}{a b:RC}(ha:s.heap.IsTuple a xs)(hb:s.heap.IsList b ys)(h:∀g:Rq,zg (s.heap.objs.size+4) (s.heap.objs.size+2) (s.heap.objs.size+3) s.heap.objs.size (s.heap.objs.size+1) a b 0 g->(∀c o,s.heap.get? c=Zz o->g.get? c=Zz o)->Q (.ref (s.heap.objs.size+4)) { s with heap:=g }):
  RF (Rp prog w) A (T7 (.type "zip") [.ref a,.ref b]) Q E s:=by
 refine callType_new F.called_zip (by decide) (F.typeCall_zip_2 _ _) (F.newCall_zip_2 _ _) (λobj=>F.args_object_init_3 obj _ _) F.entry_zip_new (xw a b xs ys) ⟨ha,hb,?_⟩;have e1:(zA s.heap a).objs.size=s.heap.objs.size+1:=Rw ..;have e2:(zB s.heap a b).objs.size=s.heap.objs.size+2:=by rw[Rw,e1]
 have e3:(zC s.heap a b).objs.size=s.heap.objs.size+3:=by rw[Rw,e2]
 have e4:(zD s.heap a b).objs.size=s.heap.objs.size+4:=by rw[Rw,e3]
 have up:∀{h:Rq}{o o':Obj}{c:RC},h.get? c=Zz o'->(h.push o).get? c=Zz o':=λe=>R9 _ e
 have g5:(zE s.heap a b).get? (zD s.heap a b).objs.size=Zz _:=RM _ rfl;have g4:(zE s.heap a b).get? (zC s.heap a b).objs.size=Zz _:=up (RM _ rfl);have g3:(zE s.heap a b).get? (zB s.heap a b).objs.size=Zz _:=up (up (RM _ rfl));have g2:(zE s.heap a b).get? (zA s.heap a).objs.size=Zz _:=up (up (up (RM _ rfl)));have g1:(zE s.heap a b).get? s.heap.objs.size=Zz _:=up (up (up (up (RM _ rfl))));rw[e2,e3,e4]at g5;rw[e1,e2]at g3;rw[e3]at g4;rw[e1]at g2;rw[e4];exact⟨⟨_,g5,rfl⟩,h _ ⟨g5,g3,⟨_,_,g4⟩,⟨_,g1,rfl,rfl⟩,⟨_,g2,rfl,rfl⟩⟩ λc o x=>up (up (up (up (up x))))⟩
end
section
variable{X:Cx}{env:Mi.Env}{cm:List RC}{m:Mem}{s:RA}{J Q:VK}{α:Type}{k:α->List RC->Mem->RA->Prop}{z:Bool}
variable{call:Nat->List W->Mem->Res W}{gv:List T}{a b e:SJ}{es ts:List SJ}{E:Mi.E}{L:Es}{pos p tp:Pos}
theorem PA.LW{f:List W->Mem->Res α}{Q:List R4->RA->Prop}(h:PA call gv X es L)(I:Fr X env cm m s)(hp:aI X X.own cm m s ((evs call gv L env m).bind f) J k)(q:∀w v cm1 m1 s1,evs call gv L env m=.ok w m1->Fr X env cm1 m1 s1->bz X.fs X.tb cm m s cm1 m1 s1->wz X.D cm1 m1 s1.heap w v->aI X X.own cm1 m1 s1 (f w m1) J k->Q v s1):RF X.M X.A (Xg (backTo p (Tk es X.env))) Q J s:=by
 refine h p env cm m s I Q J ?_;cases e:evs call gv L env m with
 |stuck=>rw[e]at hp;exact hp
 |exc x m' =>
  rw[e]at hp;exact λv c t x M=>hp v c t (x.sub cy) M
 |ok w m' =>
  rw[e]at hp;exact λc t x M v r=>q w v c m' t e (I.go x M I.nc) x r (aI.shift (r:=f w m') hp (x.sub cy))
theorem PE.tree(h:PE call gv X e E):PE call gv X e (.tr E):=λenv cm m s I Q J hp=>by
 rw[ev]at hp;exact h.one I hp λw v c1 m1 s1 I1 x1 r o=>by
  cases w with
  |t x=>exact o.now I1.mem v r
  |c i=>exact o.elim
  |x _ _ _=>exact o.elim
theorem Eh{kk}(hg:Gl X "enumerate")(hm:X.mg "enumerate" = Zy)(ha:PA call gv X [a] (.cons (.tr E) .nil))(hs:notStar a=true:=by rfl):PI call gv z X (.Tuple ts kk tp) (.Call (.Name "enumerate" p) [a] [] pos) (.blt .enum (.cons (.tr E) .nil)):=H7 (fp1:=λit=>[it,it-1]) (λ_=>.inr ⟨_,_,_,rfl⟩) (λ_ _=>rfl) λenv cm m s I α f k Q J hp q=>by
 rw[ev,bL]at hp;refine Call_ (eh I hg hm (show Ti "enumerate" = Zz (.type "enumerate")from by decide +kernel) (SM (ha.LW I hp λws us c1 m1 s1 ee I1 x1 r o=>?_) (bZ hs) rfl));obtain⟨t,e0,o2⟩:=qE o;obtain⟨l,e1,e2⟩:=RE.mp e0;obtain⟨b,rfl,e3⟩:=pn e2;obtain⟨w,rfl,e4⟩:=dZ e1;obtain⟨v,rfl,r1⟩:=g9 r;have hw:∃t,w=.t t:=by
  rw[evs]at ee;obtain⟨w0,n1,h1,h2⟩:=aV ee;obtain⟨ws',n2,h3,h4⟩:=aV h2;cases h4;rw[ev]at h1;obtain⟨w1,n3,h5,h6⟩:=aV h1;cases w1 with
  |t t=>cases h6;exact⟨t,rfl⟩
  |c i=>cases h6
  |x _ _ _=>cases h6
 obtain⟨t0,rfl⟩:=hw;cases e4;cases b with
 |lst l =>
  obtain⟨hc,e5⟩:=RB.mp (show(if l.length<=lim then Zz (T.lst (pG l))else Zy)=Zz t from e3);cases e5;cases r1 with
  |lst p1 n1 q1 q2 =>
   refine call_enumerate_list p1.pl.isList λg hE hI hsz hk=>wpAny_pyIter_enum hE ?_
   have u:=λch=>I1.up (g:=g) (t:=s1.toks) (d:=s1.drawn) (ch:=ch) hk
   refine q _ _ c1 m1 m1 s1 _ _ x1 I1 rfl o2 (λch=>(u ch).1) (u []).2 (.Gk (Nat.succ_ne_self _) hE hI ((SrcL.own n1 p1 ⟨q1,q2⟩).go (u []).1.toExtK (λ_ _ h=>h) I1.mem Nq.nil) rfl) λb hb=>?_
   refine Rt ?_;rcases R7.mp hb with rfl|hb
   ·exact UH _
   ·rw[RN.mp hb];exact RU _
 |_=>cases e3
theorem HJ{kk}(hg:Gl X "zip")(hm:X.mg "zip" = Zy)(ha:PA call gv X [a,b] L)(hs:notStar a=true:=by rfl)(hs2:notStar b=true:=by rfl):PI call gv true X (.Tuple ts kk tp) (.Call (.Name "zip" p) [a,b] [] pos) (.Lz L):=λenv cm m s I α f k Q J hp q=>by
 rw[ev,bL]at hp;refine Call_ (eh I hg hm (show Ti "zip" = Zz (.type "zip")from by decide +kernel) (SM (ha.jB I hp λws us c1 m1 s1 I1 x1 r o=>?_) (bZ hs) (ik (by rw[TD,hs2];rfl))));cases ez:H8 ws m1 with
 |stuck=>rw[ez]at o;exact o.elim
 |exc x m' =>
  exfalso;unfold H8 at ez;split at ez<;>first|(cases ez;done)|(split at ez<;>cases ez)
 |ok w m2 =>
  rw[ez]at o;unfold H8 at ez;split at ez
  ·rename_i xs ys
   split at ez
   ·rename_i hl
    cases ez;obtain⟨v,y,rfl,r1,r⟩:=r.inv;obtain⟨v2,y,rfl,r2,r⟩:=r.inv;obtain rfl:=RP.mp r.1.symm;have tf:=r1;obtain⟨c,x,rfl,p1,q1⟩:=RT.jQ r1;have hf:=RT.tf tf;cases r2 with
    |@lst d y _ p2 n2 h1 h2 =>
     obtain⟨o1,_,f1,_⟩:=id p1;obtain⟨⟨_,f2⟩,_⟩:=id p2;refine zW p1.tup p2.pl.isList λg S kp=>wpAny_pyIter_zip S.zip ?_
     have old:∀b,s1.heap.objs.size<=b->s1.heap.get? b=Zy:=λb h=>Rt h
     have nn:∀b∈(s1.heap.objs.size+2)::(s1.heap.objs.size+3)::X.fs,b∈X.fs∨s1.heap.get? b=Zy:=λb hb=>by
      rcases R7.mp hb with rfl|hb
      ·exact .inr (old _ (Tz _ _))
      ·rcases R7.mp hb with rfl|hb
       ·exact .inr (old _ (Tz _ _))
       ·exact .inl hb
     have sub:∀b∈X.fs,b∈(s1.heap.objs.size+2)::(s1.heap.objs.size+3)::X.fs:=λb h=>R5 _ (R5 _ h)
     have ext:∀F ch,bz F ch c1 m1 s1 c1 m1 { s1 with heap:=g }:=λF ch=>.kept kp
     have M:bh { X with fs:=(s1.heap.objs.size+2)::(s1.heap.objs.size+3)::X.fs } c1 m1 g:=I1.mem.fr (X:=X) rfl nn kp λT=>I1.ok.n9 _ _ T λb o _=>kp b o
     have nb:∀b,s1.heap.objs.size<=b->X.base.get? b=Zy:=λb h=>by
      cases q:X.base.get? b with
      |none=>rfl
      |some o=>have:=I1.bs _ _ q;rw[old b h]at this;cases this
     obtain⟨p,q0,hO⟩:=S.out;have I2:=I1.LC (f:=(s1.heap.objs.size+2)::(s1.heap.objs.size+3)::X.fs) (s':={ s1 with heap:=g }) (I1.ok.fs sub) nn (λb hb hn=>by
      rcases R7.mp hb with rfl|hb
      ·exact⟨nb _ (Tz _ _),_,S.its,(λv z=>nomatch z),λz=>Y3 (old _ (Tz _ _)) (I1.rT z)⟩
      ·rcases R7.mp hb with rfl|hb
       ·exact⟨nb _ (Tz _ _),_,hO,(λv z=>nomatch z),λz=>Y3 (old _ (Tz _ _)) (I1.rT z)⟩
       ·exact Y3 hb hn) (ext _ []).toExtK M λ_ z=>nomatch z
     have nf:∀b,s1.heap.objs.size<=b->b∉X.fs:=λb h hb=>by
      obtain⟨_,o,e,_⟩:=I1.cN _ hb;rw[old b h]at e;cases e
     have fn:∀b∈[s1.heap.objs.size+4,s1.heap.objs.size+2,s1.heap.objs.size+3,s1.heap.objs.size,s1.heap.objs.size+1],s1.heap.objs.size<=b:=λb hb=>by
      simp only[R7,R8,or_false]at hb;rcases hb with rfl|rfl|rfl|rfl|rfl<;>omega
     refine q _ _ _ _ c1 m1 m1 s1 _ _ (λz=>nomatch z) sub nn x1 I1 rfl o (λch=>ext _ ch) I2 (I1.IH (λb hb=>old b (fn b hb)) (.zip (zipApart_new (Rj f1) (Rj f2)) S (p1.fr kp) (λz=>(nn _ z).elim hf λz=>by rw[z]at f1;cases f1) (q1.mp λ_ _ r=>r.fr nn kp) (.own n2 (p2.fr nn kp) ((show jx X.D c1 m1 s1.heap _ _ from⟨h1,h2⟩).mp λ_ _ r=>r.fr nn kp)) hl.1 rfl) λb hb=>?_) (.inr ⟨_,_,_,rfl⟩) λb hb=>old b (fn b hb)
     have fb:=nf b (fn b hb);by_cases ht:isTup [s1.heap.objs.size+4,s1.heap.objs.size+2,s1.heap.objs.size+3,s1.heap.objs.size,s1.heap.objs.size+1] b=true
     ·rw[Xy ht]
      simp only[isTup,Sm,beq_iff_eq]at ht;rcases ht with rfl|rfl<;>simp
     ·rw[Xz ht]
      simp only[isTup,Sm,beq_iff_eq,not_or]at ht;simp only[R7,not_or];exact⟨ht.1,ht.2,fb⟩
   ·cases ez
  ·cases ez
end
noncomputable def inBody(s:S6)(i:Nat):S6:=match s with
 |.ClassDef _ _ _ b _ _ _ _ _ _ _=>b.getD i (.Pass ⟨0,0,0,0⟩)
 |s=>s
structure Bd (call:Nat->List W->Mem->Res W) (gv:List T) (X:Cx) (st:List S6) (S:Mi.S):Prop where
 h:jD call gv X st S
section
variable{K:V9}{B:Bs}{fns:List Fn}{gv:List T}{x qual:Str}{st:S6}{f a:RC}{fd:TV}{N ps:List Str}{fi np n k:Nat}{body:Mi.S}{cell:Bool}{y:Str}{t:Tok}{cs:List Nat}{i:Int}{its:Array R4}{nn:Nat}{sl:Array (Option R4)}{us:List R4}{ts:List T}{u:R4}{tt:T}{css:List (List Nat)}
theorem J7(F:HQ B.K x qual st f fd)(m:B.mg x=Zz (.ref f))(b:Binds B.K fd ps [])(S:ax N ps (ai st))(r:fns[fi]?=Zz ⟨np,n,body,cell⟩)(hnp:np=ps.length)(hn:N.length=n)(hb:∀(cd:R4) (A:Sb) (sk:List Sn) (fs:List RC) (z:Nat),lR k (A.deeper (envOfC qual (ai st) z f cd))->Bd (dS fns gv k) gv (IW B N qual (ai st) f cd A sk fs z) (cC st) body):cK B fns gv (k+1) x fi:=
 let q:=FC F S r hnp hn λcd A sk fs z h=>(hb cd A sk fs z h).h
 ⟨f,fd,ps,m,F.kp,b,q.1,q.2⟩
theorem HV(F:HQ B.K x qual st f fd)(m:B.mg x=Zz (.ref f))(b:Binds B.K fd ps []):cK B fns gv 0 x fi:=⟨f,fd,ps,m,F.kp,b,λ_ _=>.inl rfl,λX _ _ cm m s _ _ _ _ _ _ _ _ Q J h=>by rw[dS]at h;exact h.elim⟩
theorem BP{oc:R4}{od:Option RC}(l:K.lookup f=Zz ⟨oc,od,.func fd,sl⟩):keepIn K (.ref f)=true:=by
 unfold keepIn;dsimp only;rw[l]
theorem bC(h:y.cps.toList=cs):VT K (.str y t) (.str cs):=λX _ cm m hh _ _ _=>by
 obtain⟨⟨v⟩⟩:=y;dsimp at h;subst h;exact .str _ _
theorem J6:VT K (.int i t) (.int i):=λ_ _ _ _ _ _ _ _=>.int _ _
theorem fF.nil:fF K [] []:=λ_ _ _ _ _ _ _ _=>.nil
theorem fF.cons(a:VT K u tt)(b:fF K us ts):fF K (u::us) (tt::ts):=λX e cm m h M k n=>.cons (a X e cm m h M k n) (b X e cm m h M k n)
theorem jV(l:K.lookup a=Zz ⟨.type "tuple",Zy,.seq its nn,sl⟩)(hz:its.size<=Ri)(hs:fF K its.toList ts):VT K (.ref a) (.tup ts):=λX e cm m h M k n =>
 let q:=hs X e cm m h M k n
 .tup ⟨_,nn,k _ _ l,rfl,rfl,rfl,hz⟩ (λhb=>by rw[n a hb]at l;cases l) q.1 q.2
theorem rd(h:B.mg x=Zz (.str y t))(e:y.cps.toList=cs):bI B x (.str cs):=⟨_,h,bC e⟩
theorem cw(h:B.mg x=Zz (.int i t)):bI B x (.int i):=⟨_,h,J6⟩
inductive mU:List (List Nat)->List R4->Prop where
 |nil:mU [] []
 |cons {y:Str}{t:Tok}{cs:List Nat}{r:List (List Nat)}{us:List R4}:y.cps.toList=cs->mU r us->mU (cs::r) (.str y t::us)
theorem mU.L0:∀{l:List (List Nat)}{us:List R4},mU l us->fF K us (l.map .str)
 |_,_,.nil=>.nil
 |_,_,.cons h r=>.cons (bC h) r.L0
theorem pr{b:List (List Nat)}(h:B.mg x=Zz (.ref a))(l:B.K.lookup a=Zz ⟨.type "tuple",Zy,.seq its nn,sl⟩)(hz:its.size<=Ri)(g:mU b its.toList):bI B x (.tup (b.map .str)):=⟨_,h,jV l hz g.L0⟩
end
open L2 in
section
theorem Ar{ks:List (List Nat)}(h:ks.Nodup):(ks.map λk=>(Uj ⟨k.toArray⟩:Key)).Nodup:=by
 refine List.Pairwise.map _ (λa b c z=>c ?_) h;have:=congrArg (λq:Key=>match q with|.inr x=>x.cps.toList|.inl _=>[]) z;simpa using this
theorem Ba{α β:Type}:∀{xs:List α}{ys:List β},xs.length=ys.length->(xs.zip ys).map (·.1)=xs
 |[],_,_=>rfl
 |_::_,[],h=>by simp at h
 |x::xs,y::ys,h=>by simp[Ba (xs:=xs) (ys:=ys) (by simpa using h)]
end
inductive gt (w:TB):List (List Nat)->List R4->List WJ->Prop where
 |nil:gt w [] [] []
 |cons {y:Str}{t:Tok}{cs:List Nat}{h:Int}{u:R4}{css:List (List Nat)}{us:List R4}{es:List WJ}:y.cps.toList=cs->h=hashStr w y->gt w css us es->gt w (cs::css) (u::us) (⟨h,.str y t,u⟩::es)
section
open L2
theorem gt.pairs:∀{c:List (List Nat)}{us:List R4}{es:List WJ},gt w c us es->(∀e∈es,∃k,(c9 P w).is k e.key=true/\e.hash=(c9 P w).hash k)/\Pairs (c9 P w) es ((c.map λk=>(Uj ⟨k.toArray⟩:Key)).zip us)/\c.length=us.length
 |_,_,_,.nil=>Rh (λe he=>nomatch he) (Rh Pairs.nil rfl)
 |_,_,_,@gt.cons _ y t cs h u c us es e1 e2 r=>by
  obtain⟨h1,h2,h3⟩:=gt.pairs (P:=P) r;refine⟨λe he=>?_,.cons (kv:=(.inr ⟨cs.toArray⟩,u)) ?_ rfl h2,by simp[h3]⟩
  ·rcases R7.mp he with rfl|he
   ·exact⟨.inr y,oP y t,e2⟩
   ·exact h1 e he
  ·show rN (.inr ⟨cs.toArray⟩) (.str y t)=true
   rw[<-Fi e1];exact oP y t
theorem uP{B:Bs}{x:Str}{nn:Nat}{css:List (List Nat)}{us:List R4}{ts:List T}{a:RC}{es:Array WJ}(h:B.mg x=Zz (.ref a))(l:B.K.lookup a=Zz ⟨.type "dict",Zy,.dict es nn,#[]⟩)(hz:(a==WQ)=false)(he:gt B.w css us es.toList)(nd:css.Nodup)(hv:fF B.K us ts):uN B x (css.map λk=>.inr ⟨k.toArray⟩) ts:=by
 obtain⟨p1,p2,p3⟩:(∀e∈es.toList,∃k,(c9 B.prog B.w).is k e.key=true/\e.hash=(c9 B.prog B.w).hash k)/\Pairs (c9 B.prog B.w) es.toList ((css.map λk=>(Uj ⟨k.toArray⟩:Key)).zip us)/\css.length=us.length:=gt.pairs he;refine⟨a,us,h,λhh hK=>⟨_,es,nn,hK a _ l,⟨rfl,rfl,rfl⟩,rfl,λe hm=>p1 e (Array.mem_toList_iff.mpr hm),p2,?_⟩,hz,by rw[R2];exact p3,hv⟩;rw[Ba (by rw[R2];exact p3)];exact Ar nd
end
theorem BM{vs:List R4}{ns:List Int}(h:XK vs ns):Al (λn v=>∃t,v=.int n t) ns vs:=by
 induction h with
 |nil=>exact .nil
 |cons n t _ ih=>exact .cons ⟨t,rfl⟩ ih
theorem law_callN{P:Sf}{w:TB}{K:V9}{mg mb:Str->Option R4}{s₁:RA}{a fa:RC}{vs:List R4}{ns:List Int}{k:Nat}{fd:TV}{x:Str}{call:List W->Mem->Res W}(KX:K.In s₁.heap)(hns:s₁.heap.Ns RH mg)(hb:s₁.heap.Ns Up mb)(hbb:∀x:Str,x≠"__name__"->mb x=Ti x)(hlim:s₁.heap.NoLimit)(hbm:∃bm ob,mg "__builtins__" = Zz (.ref bm)/\bm≠Up/\s₁.heap.get? bm=Zz ob/\ob.cls=.type "module"/\ob.dict=Zz Up/\ob.data=.plain)(hg:s₁.gens=#[])(ha:s₁.heap.get? a=Zz { cls:=.type "list",data:=.seq vs.toArray })(hi:XK vs ns)(hl:ns.length<=Ri)(hr:lR k XM)(F:∀base:Rq,B6 ⟨P,w,K,mg,base,[],λ_=>True⟩ call k fa fd [x])(hbind:∀(s:RA) (u:R4),XB s fd ⟨[u],[]⟩ [(x,u)])(hc:∃m,call [.t (.db ns)] []=.ok (.t (.bl true)) m):
  UR (Rp P w) XM (.call (.ref fa) ⟨[.ref a],[]⟩) (λr s'=>r=.ok (.ret (.bool true))/\OldK s₁.heap s'.heap/\s'.os=s₁.os/\Wk s'.gens) s₁:=by
 obtain⟨m',hc⟩:=hc;have sz:vs.length=ns.length:=(BM hi).1.symm
 let X:Cx:={ prog:=P,w:=w,K:=K,mg:=mg,base:=s₁.heap,tb:=[],Tab:=λ_=>True,A:=XM,N:=[],env:=envOfC "" (ai (.Pass ⟨0,0,0,0⟩)) 0 0 .none,stack:=[],fs:=[],fn:=λ_=>false,calm:=true }
 have M:bh X [] [] s₁.heap:=⟨rfl,λi j a p q e=>(by simp at e),λi p e=>(by simp at e),trivial⟩
 have ca:Ca X [] [] s₁:=⟨⟨KX,hns,⟨mb,hb,hbb⟩,hlim,hbm⟩,rfl,(λe h=>nomatch h),(λ_ _ _ h=>nomatch h),(λ_ _ _ _=>trivial),(λ_ _ _ h=>nomatch h),M,.of_eq hg,λ_ _ e=>e,λ_ h=>nomatch h⟩
 refine Td (F s₁.heap X rfl hr [] [] s₁ ca ⟨[.ref a],[]⟩ [.ref a] [.t (.db ns)] (.inr ⟨_,_,hc⟩) (hbind s₁ (.ref a)) rfl (.cons ?_ .nil) (λv s'=>v=.bool true/\OldK s₁.heap s'.heap/\s'.os=s₁.os/\Wk s'.gens) (λ_ _=>False) ?_) λr s' h=>?_
 ·exact RT.db (x:=vs.toArray) ns ⟨_,_,ha,rfl,rfl,rfl,by simpa[sz]using hl⟩ (λi p e=>by simp at e) (λh=>nomatch h) (by simpa using BM hi)
 ·rw[hc]
  intro cm' t x' M' v r;refine⟨r.Ly,⟨λb o e=>?_,λb o e=>(x'.thr b o e).imp λ_ h=>h.1⟩,x'.os,x'.bare ca.bare⟩;obtain⟨_,o',e',q⟩:=x'.keep b o e (λh=>nomatch h) (λi p e=>by simp at e);rcases q with rfl|⟨h,_⟩
  ·exact .inl e'
  ·cases h
 ·cases r with
  |error e=>exact h.elim
  |ok fl =>
   cases fl with
   |ret u=>obtain⟨rfl,h⟩:=h;exact⟨rfl,h⟩
   |next=>exact Vw h
   |brk=>exact Vw h
   |cont=>exact Vw h
theorem DU{q:Sf}{loose:List Str}{XP:(Str->Option R4)->Rq->Prop}{YP:TB->Rq->Prop}{d:DefRec}{l:X1}{K:Xv->V9}{n k:Nat}{x:Str}{call:List W->Mem->Res W}(S:l.most=Zz n)(E:n<=Ri)(J:d.params.defaults=[])(R:lR k XM)(Z:∀(w:TB) (h:Rq),YP w h->(K w.params).In h)(F:∀(w:TB) (p:Str->Option R4) (z:RC) (h:Rq),(K w.params).In h->h.Ns RH p->p d.name=Zz (.ref z) ->
   ∃M:TV,(∀(s:RA) (u:R4),XB s M ⟨[u],[]⟩ [(x,u)])/\∀i:Rq,B6 ⟨l.prog,w,K w.params,p,i,[],λ_=>True⟩ call k z M [x])(D:∀y:List Int,y.length<=n->∃m,call [.t (.db y)] []=.ok (.t (.bl true)) m):
  PySem.W.WalkO q loose XP YP l.row.toRowW d [] (λf N=>T7 f N):=by
 refine Att.ym S J λw O r p mb z o pm cd doc a N y G Y ho hd V I t m j U=>?_
 have Q:=Z w _ Y;obtain⟨M,X,hF⟩:=F w p z _ Q G.T.g I;exact law_callN Q G.T.g G.T.b G.T.builtins G.T.nolimit G.T.bmain U t m (Rn j E) R hF X (D y j)
end Mi
namespace Mi
theorem bQ:∀(ts:List T),(∀t∈ts,∃env',bJ tg t env=Zz env'/\f env' m=.ok (g t) m)->bU f tg ts env m=.ok (ts.flatMap g) m
 |[],_=>rfl
 |t::ts,h=>by
  obtain⟨env',e1,e2⟩:=h t RD;rw[bU,e1];show(f env' m).bind _=_;rw[e2];show(bU f tg ts env m).bind _=_;rw[bQ ts λt ht=>h t (R5 _ ht)];rfl
inductive uA {α β:Type}(R:α->β->Prop):List α->List β->Prop where
 |nil:uA R [] []
 |cons {a:α}{b:β}{as:List α}{bs:List β}:R a b->uA R as bs->uA R (a::as) (b::bs)
theorem sH{P:Mem->Prop}:∀(ts:List T) (m:Mem),P m->(∀t∈ts,∀m,P m->∃env' xs m',bJ tg t env=Zz env'/\f env' m=.ok xs m'/\P m'/\R t xs) ->
  ∃xss m',bU f tg ts env m=.ok xss.flatten m'/\P m'/\uA R ts xss
 |[],m,hm,_=>⟨[],m,rfl,hm,.nil⟩
 |t::ts,m,hm,h=>by
  obtain⟨env',xs,m1,e1,e2,p1,r1⟩:=h t RD m hm;obtain⟨xss,m2,e3,p2,r2⟩:=sH ts m1 p1 λt ht=>h t (R5 _ ht)
  refine⟨xs::xss,m2,?_,p2,.cons r1 r2⟩;rw[bU,e1];show(f env' m).bind _=_;rw[e2];show(bU f tg ts env m1).bind _=_;rw[e3];rfl
theorem r8{P:Env->Mem->Prop}:∀(ts:List T) (env:Env) (m:Mem),P env m->(∀t∈ts,∀env m,P env m->∃env1 env2 m2,bJ tg t env=Zz env1/\f env1 m=.ok (.next env2) m2/\P env2 m2) ->
  ∃env' m',bF f tg ts env m=.ok (.next env') m'/\P env' m'
 |[],env,m,hm,_=>⟨env,m,rfl,hm⟩
 |t::ts,env,m,hm,h=>by
  obtain⟨env1,env2,m2,e1,e2,p2⟩:=h t RD env m hm;obtain⟨env3,m3,e3,p3⟩:=r8 ts env2 m2 p2 λt ht=>h t (R5 _ ht)
  refine⟨env3,m3,?_,p3⟩;rw[bF,e1];show(f env1 m).bind _=_;rw[e2];exact e3
theorem gu{α:Type}{xs:List α}{i:Int}(c:0<=i)(b:i<xs.length):∃x,atT xs i=Zz x/\x∈xs:=by
 have a:i.toNat<xs.length:=by omega
 refine⟨xs[i.toNat],?_,TN a⟩;unfold atT ie;rw[Xy c,Xy b];exact RZ a
theorem dY{α:Type}(f:α->Bool):∀xs:List α,i0 (xs.map λx=>.bl (f x))=Zz (xs.map f)
 |[]=>rfl
 |x::xs=>by
  rw[RQ,i0,dY f xs];rfl
theorem strs_map{α:Type}(f:α->List Nat):∀xs:List α,strs? (xs.map λx=>.str (f x))=Zz (xs.map f)
 |[]=>rfl
 |x::xs=>by
  rw[RQ,strs?,strs_map f xs];rfl
theorem uF:∀xs:List (List Nat),aK [] xs=xs.flatten
 |[]=>rfl
 |[x]=>by simp[aK]
 |x::y::r=>by
  show x++[]++aK [] (y::r)=_;rw[uF (y::r)];simp
section
variable{call:Nat->List W->Mem->Res W}{gv:List T}
noncomputable def bp(call:Nat->List W->Mem->Res W)(gv:List T)(cs:Es)(inner:E)(env:Env)(m:Mem):Res (List T):=(tests call gv cs env m).bind λk m=>if k then(ev call gv inner env m).bind mJ else .ok [] m
theorem aX(h1:ev call gv it env m=.ok x m0)(h2:ba x m0=.ok ts m1)(h3:bU (bp call gv cs inner) tg ts (RL own Zy++keep.map λi=>(env[i]?).join) m1=.ok out m2)(hz:out.length<=lim):ev call gv (.comp own keep it tg cs inner) env m=.ok (.t (.lst out)) (giveBack x m0 m2):=by
 have e:ev call gv (.comp own keep it tg cs inner) env m=(ev call gv it env m).only.bind λx m0=>(ba x m0).bind λts m =>
  (bU (bp call gv cs inner) tg ts (RL own Zy++keep.map λi=>(env[i]?).join) m).only.bind λout m =>
   if out.length<=lim then .ok (.t (.lst out)) (giveBack x m0 m)else .stuck:=by rw[ev];rfl
 rw[e,h1];show(ba x m0).bind _=_;rw[h2];show(bU (bp call gv cs inner) tg ts (RL own Zy++keep.map λi=>(env[i]?).join) m1).only.bind _=_;rw[h3];exact Xy hz
theorem iz(c:ev call gv it env m=.ok x m0)(b:ba x m0=.ok ts m1)(a:bF (ex call gv body) tg ts env m1=.ok (.next env') m2):
  ex call gv (.sF tg it body k) env m=ex call gv k env' (giveBack x m0 m2):=by
 rw[ex,c];show(ba x m0).bind _=_;rw[b];show(bF (ex call gv body) tg ts env m1).bind _=_;rw[a];rfl
end
section
variable{call:Nat->List W->Mem->Res W}{gv:List T}{env:Env}{m m1 m2:Mem}{k a b:S}{e:E}{w:W}
theorem ag{α β:Type}(x:α)(m:Mem)(f:α->Mem->Res β):(Res.ok x m).bind f=f x m:=rfl
theorem JL{α:Type}(x:α)(m:Mem):(Res.ok x m).only=.ok x m:=rfl
theorem JY(x:T)(m:Mem):view (.t x) m=Zz x:=rfl
theorem KM(x:T)(m:Mem):bX (Zz x) m=.ok (.t x) m:=rfl
theorem Gr(x:Bool)(m:Mem):jt (.t (.bl x)) m=.ok x m:=rfl
theorem rD(x:Bool)(m:Mem):bT (.t (.bl x)) m=.ok x m:=rfl
theorem Kq(x:T)(m:Mem):Ff (.t x) m=.ok x m:=rfl
theorem Be(x:List T)(m:Mem):mJ (.t (.lst x)) m=.ok x m:=rfl
theorem JO(x:Int)(m:Mem):zX (.t (.int x)) m=.ok (Zz x) m:=rfl
theorem k9(i j:Int):bD .Lt (.int i) (.int j)=Zz (decide (i<j)):=rfl
theorem B8(i j:Int):bD .LtE (.int i) (.int j)=Zz (decide (i<=j)):=rfl
theorem Hn(i j:Int):bD .Gt (.int i) (.int j)=Zz (decide (j<i)):=rfl
theorem K9(i j:Int):bD .GtE (.int i) (.int j)=Zz (decide (j<=i)):=rfl
theorem dy(i j:Int):bD .Eq (.int i) (.int j)=Zz (i==j):=rfl
theorem Bm(i j:Int):bD .NotEq (.int i) (.int j)=Zz (!(i==j)):=rfl
theorem Kg(i j:Bool):bD .Eq (.bl i) (.bl j)=Zz (i==j):=rfl
theorem Kj(i j:Bool):bD .NotEq (.bl i) (.bl j)=Zz (!(i==j)):=rfl
theorem cu(i j:List Nat):bD .Eq (.str i) (.str j)=Zz (i==j):=rfl
theorem BI(i j:List Nat):bD .NotEq (.str i) (.str j)=Zz (!(i==j)):=rfl
theorem IF(i:Nat)(j:List Nat):bD .In (.str [i]) (.str j)=Zz (decide (i∈j)):=rfl
theorem Kx(b x:Bool):bD .Is (.bl x) (.bl b)=Zz (x==b):=rfl
theorem cR(i j:Int):oO .Add (.int i) (.int j)=Zz (.int (i+j)):=rfl
theorem xK(i j:Int):oO .Sub (.int i) (.int j)=Zz (.int (i-j)):=rfl
theorem ig{a b:List Nat}(h:a.length+b.length<=lim):oO .Add (.str a) (.str b)=Zz (.str (a++b)):=Xy h
theorem uq(h:hH i j=true):oO .Mult (.int i) (.int j)=Zz (.int (i*j)):=Xy h
theorem wH(h:0<j/\j<1073741824):oO .FloorDiv (.int i) (.int j)=Zz (.int (i / j)):=Xy h
theorem lE(h:0<j):oO .Mod (.int i) (.int j)=Zz (.int (i%j)):=Xy h
theorem KA(h:0<=j/\j<=1000/\i.natAbs<2^64):oO .Pow (.int i) (.int j)=Zz (.int (i^j.toNat)):=Xy h
theorem IP(ts:List T)(i:Int):rn (.tup ts) (.int i)=atT ts i:=rfl
theorem IB(ts:List T)(i:Int):rn (.lst ts) (.int i)=atT ts i:=rfl
theorem IK(ts:List Int)(i:Int):rn (.db ts) (.int i)=(atT ts i).map .int:=rfl
theorem A8(h:cs.length<=lim)(i:Int):rn (.str cs) (.int i)=(atT cs i).map λc=>.str [c]:=Xy h
theorem KU(ts:List T)(lo hi:Option Int):GM (.lst ts) lo hi=Zz (.lst (cut ts lo hi)):=rfl
theorem Lg(ts:List Int)(lo hi:Option Int):GM (.db ts) lo hi=Zz (.lst ((cut ts lo hi).map .int)):=rfl
theorem mw(h:cs.length<=lim):cv .len [.str cs]=Zz (.int cs.length):=Xy h
theorem pM(ts:List T):cv .len [.lst ts]=Zz (.int ts.length):=rfl
theorem A9(ts:List T):cv .len [.tup ts]=Zz (.int ts.length):=rfl
theorem IL(ts:List Int):cv .len [.db ts]=Zz (.int ts.length):=rfl
theorem tY(b:Bool):cv .int [.bl b]=Zz (.int (b2i b)):=rfl
theorem jF(h:i.natAbs<2^250):cv .str [.int i]=Zz (.str (cA i)):=Xy h
theorem ij(ts:List T):cv .tuple [.lst ts]=Zz (.tup ts):=rfl
theorem ut(h:i0 ts=Zz bs):cv .all [.lst ts]=Zz (.bl (bs.all id)):=by
 show(i0 ts).map _=_;rw[h];rfl
theorem nK(h:i<2^62/\-(2^62)<=i):cv .di [.int i]=Zz (.lst (rangeT 0 i.toNat)):=Xy h
theorem A3:views [] m=Zz []:=rfl
theorem Br(x:T)(ws:List W):views (.t x::ws) m=(views ws m).map (x::·):=rfl
theorem cF:ii [] m=.ok [] m:=rfl
theorem df(x:T)(ws:List W):ii (.t x::ws) m=(ii ws m).bind λts m=>.ok (x::ts) m:=rfl
theorem aq(h:ev call gv e env m=.ok w m1):ex call gv (.asg i e k) env m=ex call gv k (env.set i (Zz w)) m1:=by rw[ex,h];rfl
theorem aj(h:ev call gv e env m=.ok w m1):ex call gv (.ret e k) env m=.ok (.ret w) m1:=by rw[ex,h];rfl
theorem aE(h:ev call gv e env m=.ok (.t (.bl true)) m1)(c:ex call gv a env m1=.ok (.ret w) m2):ex call gv (.bk e a b k) env m=.ok (.ret w) m2:=by
 rw[ex,h];show(ex call gv a env m1).bind _=_;rw[c];rfl
theorem aB(h:ev call gv e env m=.ok (.t (.bl false)) m1):ex call gv (.bk e a .done k) env m=ex call gv k env m1:=by rw[ex,h];rfl
theorem ve(f:ev call gv v env m=.ok (.t x) m1)(e:ev call gv o env m1=.ok (.c c) m1)(d:ev call gv i env m1=.ok (.t (.int j)) m1)(b:m1[c]?=Zz (Zz (false,xs)))(a:ie xs.length j=Zz q):
  ex call gv (.set o i v k) env m=ex call gv k env (m1.set c (Zz (false,xs.set q x))):=by
 rw[ex,f];show((ev call gv o env m1).bind _)=_;rw[e];show((ev call gv i env m1).bind _)=_;rw[d];show(setM (.c c) (.t (.int j)) (.t x) m1).bind _=_;have:setM (.c c) (.t (.int j)) (.t x) m1=.ok () (m1.set c (Zz (false,xs.set q x))):=by
  unfold setM;dsimp only[Ff,Res.bind];rw[b];dsimp only;rw[a]
 rw[this];rfl
theorem av(h:m1.length=n):fin n cell (.ret (.t t)) m1=.ok (.t t) m1:=by
 show Res.ok (W.t t) (m1.take n)=_;rw[<-h,WH]
theorem aC[Decidable c]{k:Nat}(hX:X=if c then(ex call gv b env m).bind λfl m'=>fin k cell fl m' else .stuck)(hc:c)(key:ex call gv b env m=.ok (.ret w) m1)(hf:fin k cell (.ret w) m1=.ok w' m2):X=.ok w' m2:=by
 rw[hX,Xy hc,key];exact hf
theorem D9(h:strs? xs=Zz ys)(b:(ys.map Rf).sum+ys.length*sep.length<=lim):ri .join (.t (.str sep)) [.t (.lst xs)] m=.ok (.t (.str (aK sep ys))) m:=by
 show bX ((strs? xs).bind λys=>if(ys.map Rf).sum+ys.length*sep.length<=lim then Zz (.str (aK sep ys))else Zy) m=_;rw[h];show bX (if(ys.map Rf).sum+ys.length*sep.length<=lim then Zz (.str (aK sep ys))else Zy) m=_;rw[Xy b];rfl
theorem DM:oY .join (.t (.str x)) m=true:=rfl
end
noncomputable def dB:=Rh @ag (Rh @JL (Rh @JY (Rh @KM (Rh @Gr (Rh @rD (Rh @Kq (Rh @Be (Rh @JO (Rh @k9 (Rh @B8 (Rh @Hn (Rh @K9 (Rh @dy (Rh @Bm (Rh @Kg (Rh @Kj (Rh @cu (Rh @BI (Rh @IF (Rh @Kx (Rh @cR (Rh @xK (Rh @IP (Rh @IB (Rh @IK (Rh @KU (Rh @Lg (Rh @pM (Rh @A9 (Rh @IL (Rh @tY (Rh @ij (Rh @A3 (Rh @Br (Rh @cF (@df))))))))))))))))))))))))))))))))))))
end Mi
namespace My
open Mi
noncomputable abbrev aJ(a:E):Es:=.cons a .nil
noncomputable abbrev bg(a b:E):Es:=.cons a (aJ b)
noncomputable abbrev lG(a b c:E):Es:=.cons a (bg b c)
noncomputable abbrev jC(a b c d:E):Es:=.cons a (lG b c d)
noncomputable abbrev ak(i:Int):E:=.con (.int i)
noncomputable abbrev ar(s:List Nat):E:=.con (.str s)
noncomputable abbrev zU(b:Bool):E:=.con (.bl b)
noncomputable abbrev af(i:Nat):E:=.var i
noncomputable def d4:E:=(.emit (.cmp .In (af 0) (.gl 0)))
noncomputable def iE:E:=(.comp 1 [] (af 0) (.nm 0) .nil d4)
noncomputable def cG:S:=(.ret (.and (.cmp .Gt (.blt .len (aJ (af 0))) (ak 0)) (.and (.cmp .NotIn (af 0) (.gl 2)) (.blt .all (aJ iE)))) .done)
noncomputable def dX:S:=(.ret (.and (.uV (af 0) .str) (.and (.cmp .LtE (.blt .len (aJ (af 0))) (.gl 1)) (.call 0 (aJ (af 0))))) .done)
noncomputable def i7:S:=(.ret (.and (.uV (af 0) .int) (.not (.uV (af 0) .bool))) .done)
noncomputable def eJ:S:=(.ret (.and (.call 2 (aJ (af 0))) (.zK .LtE .LtE (ak 0) (af 0) (.gl 3))) .done)
noncomputable def ky:S:=(.ret (.call 3 (aJ (af 0))) .done)
noncomputable def oy:E:=(.emit (.cmp .Lt (.ix (af 1) (.bin .Sub (af 0) (ak 1))) (.ix (af 1) (af 0))))
noncomputable def wD:E:=(.comp 1 [0] (.blt .md (bg (ak 1) (.blt .len (aJ (af 0))))) (.nm 0) .nil oy)
noncomputable def sv:S:=(.ret (.blt .all (aJ wD)) .done)
noncomputable def iu:E:=(.emit (.call 1 (aJ (af 0))))
noncomputable def lD:E:=(.comp 1 [] (af 0) (.nm 0) .nil iu)
noncomputable def eW:S:=(.bk (.or (.not (.uV (af 0) .tuple)) (.cmp .Gt (.blt .len (aJ (af 0))) (.gl 4))) (.ret (zU false) .done) .done (.ret (.and (.blt .all (aJ lD)) (.call 5 (aJ (af 0)))) .done))
noncomputable def iS:S:=(.ret (.and (.uV (af 0) .tuple) (.and (.cmp .Eq (.blt .len (aJ (af 0))) (ak 2)) (.and (.call 1 (aJ (.ix (af 0) (ak 0)))) (.call 3 (aJ (.ix (af 0) (ak 1))))))) .done)
noncomputable def ip:E:=(.emit (.ix (af 0) (ak 0)))
noncomputable def lv:E:=(.comp 1 [] (af 0) (.nm 0) .nil ip)
noncomputable def io:E:=(.emit (.call 7 (aJ (af 0))))
noncomputable def ll:E:=(.comp 1 [] (af 0) (.nm 0) .nil io)
noncomputable def eQ:S:=(.bk (.or (.not (.uV (af 0) .tuple)) (.cmp .Gt (.blt .len (aJ (af 0))) (.gl 5))) (.ret (zU false) .done) .done (.ret (.and (.blt .all (aJ ll)) (.call 5 (aJ lv))) .done))
noncomputable def iH:S:=(.bk (.or (.not (.uV (af 0) .tuple)) (.cmp .NotEq (.blt .len (aJ (af 0))) (ak 4))) (.ret (zU false) .done) .done (.ret (.and (.call 1 (aJ (.ix (af 0) (ak 0)))) (.and (.call 1 (aJ (.ix (af 0) (ak 1)))) (.and (.call 6 (aJ (.ix (af 0) (ak 2)))) (.call 8 (aJ (.ix (af 0) (ak 3))))))) .done))
noncomputable def gz:S:=(.ret (.and (.uV (af 0) .str) (.cmp .In (af 0) (af 1))) .done)
noncomputable def cq:S:=(.bk (.not (.uV (af 0) .tuple)) (.ret (zU false) .done) .done (.bk (.cmp .Eq (.blt .len (aJ (af 0))) (ak 1)) (.ret (.call 10 (bg (.ix (af 0) (ak 0)) (.tup (aJ (ar [97,110,121]))))) .done) .done (.bk (.cmp .Eq (.blt .len (aJ (af 0))) (ak 2)) (.ret (.and (.call 10 (bg (.ix (af 0) (ak 0)) (.tup (bg (ar [105,115]) (ar [98,121]))))) (.call 1 (aJ (.ix (af 0) (ak 1))))) .done) .done (.bk (.cmp .Eq (.blt .len (aJ (af 0))) (ak 3)) (.ret (.and (.call 10 (bg (.ix (af 0) (ak 0)) (.tup (bg (ar [108,101,97,115,116]) (ar [109,111,115,116]))))) (.and (.call 1 (aJ (.ix (af 0) (ak 1)))) (.call 3 (aJ (.ix (af 0) (ak 2)))))) .done) .done (.ret (zU false) .done)))))
noncomputable def dI:S:=(.ret (.and (.uV (af 0) .tuple) (.zK .LtE .LtE (.gl 8) (.blt .len (aJ (af 0))) (.gl 9))) .done)
noncomputable def eR:S:=(.bk (.or (.not (.uV (af 0) .tuple)) (.cmp .NotEq (.blt .len (aJ (af 0))) (ak 2))) (.ret (.tup .nil) .done) .done (.bk (.call 10 (bg (.ix (af 0) (ak 0)) (.tup (aJ (ar [110,111,116]))))) (.ret (.tup (aJ (.ix (af 0) (ak 1)))) .done) .done (.bk (.and (.call 10 (bg (.ix (af 0) (ak 0)) (.tup (bg (ar [97,110,100]) (ar [111,114]))))) (.call 12 (aJ (.ix (af 0) (ak 1))))) (.ret (.ix (af 0) (ak 1)) .done) .done (.ret (.tup .nil) .done))))
noncomputable def fY:S:=(.ret (.or (.call 11 (aJ (af 0))) (.cmp .Gt (.blt .len (aJ (.call 13 (aJ (af 0))))) (ak 0))) .done)
noncomputable def dw:E:=(.more (.call 13 (aJ (af 0))) (.nm 1) .nil (.emit (af 1)))
noncomputable def pO:E:=(.comp 2 [] (af 1) (.nm 0) .nil dw)
noncomputable def jH:E:=(.emit (.call 14 (aJ (af 0))))
noncomputable def pB:E:=(.comp 1 [] (af 1) (.nm 0) .nil jH)
noncomputable def be:S:=(.aug 2 .Add (.blt .len (aJ (af 1))) (.bk (.or (.cmp .Gt (af 2) (.gl 7)) (.not (.blt .all (aJ pB)))) (.ret (zU false) .done) .done (.asg 1 pO .done)))
noncomputable def iQ:S:=(.asg 1 (.lst (aJ (af 0))) (.asg 2 (ak 0) (.sF (.nm 3) (.blt .di (aJ (.gl 6))) be (.ret (.cmp .Eq (.blt .len (aJ (af 1))) (ak 0)) .done))))
noncomputable def dM:S:=(.ret (.and (.call 2 (aJ (af 0))) (.zK .LtE .LtE (af 1) (af 0) (af 2))) .done)
noncomputable def gm:S:=(.bk (.or (.not (.uV (af 0) .tuple)) (.cmp .NotEq (.blt .len (aJ (af 0))) (ak 7))) (.ret (zU false) .done) .done (.lK [1,2,3,4,5,6,7] (af 0) (.bk (.or (.not (.call 10 (bg (af 1) (.gl 10)))) (.or (.not (.call 9 (aJ (af 2)))) (.not (.call 15 (aJ (af 3)))))) (.ret (zU false) .done) .done (.bk (.or (.not (.call 16 (lG (af 4) (ak 1) (.gl 11)))) (.not (.call 16 (lG (af 5) (ak 1) (af 4))))) (.ret (zU false) .done) .done (.ret (.and (.call 16 (lG (af 6) (ak 0) (.gl 12))) (.call 4 (aJ (af 7)))) .done)))))
noncomputable def fV:E:=(.emit (.cmp .In (af 0) (.gl 13)))
noncomputable def dr:E:=(.comp 1 [] (af 0) (.nm 0) .nil fV)
noncomputable def bY:S:=(.bk (.or (.not (.zK .LtE .LtE (ak 1) (.blt .len (aJ (af 0))) (.gl 14))) (.not (.blt .all (aJ dr)))) (.ret (zU false) .done) .done (.ret (.or (.cmp .Eq (af 0) (ar [48])) (.cmp .NotEq (.ix (af 0) (ak 0)) (ar [48]))) .done))
noncomputable def iG:S:=(.bk (.cmp .Lt (af 1) (.blt .len (aJ (af 0)))) (.ret (.ix (af 0) (af 1)) .done) .done (.ret (ar []) .done))
noncomputable def er:S:=(.asg 2 (.call 19 (bg (af 0) (af 1))) (.bk (.not (.call 0 (aJ (af 2)))) (.zj 107 ["at"] (aJ (af 1)) .done) .done (.ret (af 2) .done)))
noncomputable def cE:S:=(.asg 2 (.call 19 (bg (af 0) (af 1))) (.bk (.not (.call 18 (aJ (af 2)))) (.zj 107 ["at"] (aJ (af 1)) .done) .done (.ret (.blt .int (aJ (af 2))) .done)))
noncomputable def fo:S:=(.asg 2 (.call 19 (bg (af 0) (af 1))) (.bk (.cmp .Eq (af 2) (ar [97,110,121])) (.ret (.tup (bg (.tup (aJ (af 2))) (.bin .Add (af 1) (ak 1)))) .done) .done (.bk (.cmp .In (af 2) (.tup (bg (ar [105,115]) (ar [98,121])))) (.ret (.tup (bg (.tup (bg (af 2) (.call 20 (bg (af 0) (.bin .Add (af 1) (ak 1)))))) (.bin .Add (af 1) (ak 2)))) .done) .done (.asg 3 (.call 20 (bg (af 0) (af 1))) (.asg 4 (.call 19 (bg (af 0) (.bin .Add (af 1) (ak 1)))) (.bk (.Li 16 true (af 4)) (.zj 107 ["at"] (aJ (.bin .Add (af 1) (ak 1))) .done) .done (.ret (.tup (bg (.tup (lG (.Kk 16 (af 4)) (af 3) (.call 21 (bg (af 0) (.bin .Add (af 1) (ak 2)))))) (.bin .Add (af 1) (ak 3)))) .done)))))))
noncomputable def f9:S:=(.asg 3 (.call 19 (bg (af 0) (af 1))) (.bk (.cmp .NotIn (af 3) (.tup (bg (ar [110,111,116]) (ar [40])))) (.ret (.call 22 (bg (af 0) (af 1))) .done) .done (.bk (.cmp .Eq (af 2) (.gl 15)) (.zj 107 ["at"] (aJ (af 1)) .done) .done (.bk (.cmp .Eq (af 3) (ar [110,111,116])) (.lK [4,5] (.call 23 (lG (af 0) (.bin .Add (af 1) (ak 1)) (.bin .Add (af 2) (ak 1)))) (.ret (.tup (bg (.tup (bg (ar [110,111,116]) (af 4))) (af 5))) .done)) .done (.lK [4,5] (.call 24 (jC (af 0) (.bin .Add (af 1) (ak 1)) (.bin .Add (af 2) (ak 1)) (.gl 17))) (.bk (.cmp .NotEq (.call 19 (bg (af 0) (af 5))) (ar [41])) (.zj 107 ["at"] (aJ (af 5)) .done) .done (.ret (.tup (bg (af 4) (.bin .Add (af 5) (ak 1)))) .done)))))))
noncomputable def bo:S:=(.lK [4,5] (.call 24 (jC (af 0) (.bin .Add (af 5) (ak 1)) (af 2) (.qk (af 3) (ak 1) .hole))) (.expr (.cS .append (af 6) (aJ (af 4))) .done))
noncomputable def cU:S:=(.bk (.cmp .Eq (.blt .len (aJ (af 3))) (ak 0)) (.ret (.call 23 (lG (af 0) (af 1) (af 2))) .done) .done (.lK [4,5] (.call 24 (jC (af 0) (af 1) (af 2) (.qk (af 3) (ak 1) .hole))) (.asg 6 (.sZ (aJ (af 4))) (.JI (.cmp .Eq (.call 19 (bg (af 0) (af 5))) (.ix (af 3) (ak 0))) bo (.bk (.cmp .Eq (.blt .len (aJ (af 6))) (ak 1)) (.ret (.tup (bg (af 4) (af 5))) .done) .done (.ret (.tup (bg (.tup (bg (.ix (af 3) (ak 0)) (.blt .tuple (aJ (af 6))))) (af 5))) .done))))))
noncomputable def cg:S:=(.bk (.not (.uV (af 0) .str)) (.zj 107 ["at"] (aJ (ak 0)) .done) .done (.asg 1 (.cS .split (af 0) (aJ (ar [32]))) (.lK [2,3] (.call 24 (jC (af 1) (ak 0) (ak 0) (.gl 17))) (.bk (.or (.cmp .Lt (af 3) (.blt .len (aJ (af 1)))) (.not (.call 15 (aJ (af 2))))) (.zj 107 ["at"] (aJ (af 3)) .done) .done (.ret (af 2) .done)))))
noncomputable def gG:S:=(.bk (.cmp .Eq (af 0) (.gl 18)) (.ret (.lst .nil) .done) .done (.ret (.cS .split (af 0) (aJ (ar [44]))) .done))
noncomputable def gJ:S:=(.bk (.and (.call 18 (aJ (af 0))) (.call 3 (aJ (.blt .int (aJ (af 0)))))) (.ret (.blt .int (aJ (af 0))) .done) .done (.ret (.con .non) .done))
noncomputable def km:S:=(.lK [1,2,3] (.cS .partition (af 0) (aJ (ar [61]))) (.ret (.tup (bg (af 1) (.call 27 (aJ (af 3))))) .done))
noncomputable def xW:S:=(.ret (.con .non) .done)
noncomputable def j4:S:=(.ret (.call 25 (aJ (af 0))) .done)
noncomputable def d7:S:=(.tri j4 [107] Zy xW .done)
noncomputable def nS:E:=(.emit (.call 27 (aJ (af 0))))
noncomputable def mH:E:=(.comp 1 [] (.qk (af 4) (ak 5) .hole) (.nm 0) .nil nS)
noncomputable def mF:E:=(.emit (.call 28 (aJ (af 0))))
noncomputable def nX:E:=(.comp 1 [] (.call 26 (aJ (.ix (af 4) (ak 4)))) (.nm 0) .nil mF)
noncomputable def fQ:S:=(.lK [1,2,3] (.cS .partition (af 0) (aJ (ar [32,124,32]))) (.asg 4 (.cS .split (af 1) (aJ (ar [32]))) (.bk (.cmp .NotEq (.blt .len (aJ (af 4))) (ak 9)) (.ret (.con .non) .done) .done (.asg 5 (.blt .tuple (aJ (.call 26 (aJ (.ix (af 4) (ak 3)))))) (.asg 6 (.blt .tuple (aJ nX)) (.Gp [7,8,9,10] mH (.asg 11 (.tup (.cons (.ix (af 4) (ak 0)) (.cons (.tup (jC (.ix (af 4) (ak 1)) (.ix (af 4) (ak 2)) (af 5) (af 6))) (.cons (.call 29 (aJ (af 3))) (jC (af 7) (af 8) (af 9) (af 10)))))) (.bk (.call 17 (aJ (af 11))) (.ret (af 11) .done) .done (.ret (.con .non) .done)))))))))
noncomputable def dm:S:=(.bk (.cmp .Eq (af 0) (ar [111,102,102,101,114])) (.ret (.call 30 (aJ (af 1))) .done) .done (.bk (.cmp .Eq (af 0) (ar [110,97,109,101])) (.ret (.ite (.call 1 (aJ (af 1))) (af 1) (.con .non)) .done) .done (.asg 2 (.call 27 (aJ (af 1))) (.ret (.ite (.and (.cmp .Eq (af 0) (ar [109,97,110,121])) (.cmp .Eq (af 2) (ak 0))) (.con .non) (af 2)) .done))))
noncomputable def jp:S:=(.bk (.or (.cS .starts (af 0) (aJ (ar [99,111,109,101,32]))) (.cS .starts (af 0) (aJ (ar [99,104,97,110,103,101,32])))) (.ret (.cS .ma (af 0) (bg (ar [32]) (ak 3))) .done) .done (.ret (.cS .split (af 0) (aJ (ar [32]))) .done))
noncomputable def ek:S:=(.asg 1 (.Lp 19 (.ix (af 0) (ak 0))) (.bk (.and (.cmp .Eq (.ix (af 0) (ak 0)) (ar [109,101,101,116])) (.cmp .Eq (.blt .len (aJ (af 0))) (ak 6))) (.ret (.bin .Add (af 1) (.tup (aJ (ar [110,117,109,98,101,114])))) .done) .done (.ret (af 1) .done)))
noncomputable def mh:E:=(.emit (.call 31 (bg (af 0) (af 1))))
noncomputable def sW:E:=(.comp 2 [] (.Lz (bg (af 2) (.qk (af 1) (ak 1) .hole))) (.tp [0,1]) .nil mh)
noncomputable def fX:S:=(.asg 1 (.call 32 (aJ (af 0))) (.asg 2 (.call 33 (aJ (af 1))) (.bk (.or (.cmp .Is (af 2) (.con .non)) (.cmp .NotEq (.blt .len (aJ (af 1))) (.bin .Add (.blt .len (aJ (af 2))) (ak 1)))) (.ret (.con .non) .done) .done (.asg 3 sW (.bk (.cmp .In (.con .non) (af 3)) (.ret (.con .non) .done) .done (.asg 4 (.ix (af 1) (ak 0)) (.bk (.cmp .In (af 4) (.tup (bg (ar [99,111,109,101]) (ar [99,104,97,110,103,101])))) (.ret (.tup (jC (af 4) (.ix (af 3) (ak 0)) (.ix (af 3) (ak 2)) (.ix (af 3) (ak 1)))) .done) .done (.bk (.cmp .Eq (af 4) (ar [109,101,101,116])) (.ret (.tup (jC (af 4) (.ix (af 3) (ak 0)) (.blt .tuple (aJ (.qk (af 3) (ak 2) .hole))) (.ix (af 3) (ak 1)))) .done) .done (.ret (.blt .tuple (aJ (.bin .Add (.lst (aJ (af 4))) (af 3)))) .done)))))))))
noncomputable def iY:S:=(.bk (.not (.uV (af 0) .str)) (.zj 107 ["at"] (aJ (ak 0)) .done) .done (.asg 1 (.call 30 (aJ (af 0))) (.bk (.cmp .Is (af 1) (.con .non)) (.zj 107 ["at"] (aJ (ak 0)) .done) .done (.ret (af 1) .done))))
noncomputable def lC:E:=(.emit (.call 34 (aJ (af 0))))
noncomputable def ly:E:=(.comp 1 [] (.cS .split (af 0) (aJ (ar [10]))) (.nm 0) .nil lC)
noncomputable def jN:S:=(.bk (.not (.uV (af 0) .str)) (.zj 107 ["at"] (aJ (ak 0)) .done) .done (.bk (.cmp .Eq (af 0) (ar [])) (.ret (.lst .nil) .done) .done (.asg 1 ly (.bk (.cmp .In (.con .non) (af 1)) (.zj 107 ["at"] (aJ (.cS .jO (af 1) (aJ (.con .non)))) .done) .done (.ret (af 1) .done)))))
noncomputable def nu:S:=(.bk (.cmp .Lt (af 1) (.blt .len (aJ (af 0)))) (.ret (.ix (af 0) (af 1)) .done) .done (.ret (ak 0) .done))
noncomputable def j3:S:=(.asg 2 (.bin .Mod (.bin .Mult (.bin .Add (.bin .Add (af 0) (.bin .Mult (ak 7919) (af 1))) (ak 1)) (ak 48271)) (ak 2147483647)) (.ret (.bin .Mod (.bin .Mult (af 2) (.bin .Add (.bin .FloorDiv (af 2) (ak 1009)) (ak 69621))) (ak 2147483647)) .done))
noncomputable def jP:S:=(.asg 2 (.bin .Mod (.bin .Mult (.bin .Add (.bin .Add (.call 38 (bg (af 0) (af 1))) (.bin .Mult (ak 104729) (af 1))) (ak 11)) (ak 69621)) (ak 2147483647)) (.ret (.bin .Mod (.bin .Mult (af 2) (.bin .Add (.bin .FloorDiv (af 2) (ak 1013)) (ak 48271))) (ak 2147483647)) .done))
noncomputable def oz:S:=(.asg 2 (.call 37 (bg (af 0) (af 1))) (.ret (.sZ (lG (.ix (.lst (bg (ak 0) (af 2))) (.blt .int (aJ (.cmp .GtE (af 2) (.bin .Pow (ak 10) (ak 18)))))) (ak 0) (.bin .Add (af 2) (af 1)))) .done))
noncomputable def mu:S:=(.bk (.cmp .Gt (.ix (af 0) (ak 0)) (ak 0)) (.asg 2 (.bin .Mod (.ix (af 0) (ak 0)) (af 1)) (.set (af 0) (ak 0) (.bin .FloorDiv (.ix (af 0) (ak 0)) (af 1)) (.ret (af 2) .done))) .done (.set (af 0) (ak 1) (.bin .Add (.ix (af 0) (ak 1)) (ak 1)) (.ret (.bin .Mod (.call 39 (bg (.ix (af 0) (ak 2)) (.ix (af 0) (ak 1)))) (af 1)) .done)))
noncomputable def iF:S:=(.expr (.cS .append (af 4) (aJ (.cS .fZ (af 3) (aJ (.call 41 (bg (af 0) (.blt .len (aJ (af 3))))))))) .done)
noncomputable def n8:S:=(.asg 3 (.zk (af 1)) (.asg 4 (.sZ .nil) (.sF (.nm 5) (.blt .di (aJ (.call 41 (bg (af 0) (.bin .Add (af 2) (ak 1)))))) iF (.ret (.blt .tuple (aJ (.blt .sorted (aJ (af 4))))) .done))))
noncomputable def iL:S:=(.ret (.ix (.lst (lG (.call 41 (bg (af 0) (ak 10))) (.call 41 (bg (af 0) (ak 10))) (.bin .Sub (.bin .Pow (ak 10) (ak 9)) (.call 41 (bg (af 0) (ak 2)))))) (.bin .Mod (.bin .FloorDiv (.call 41 (bg (af 0) (ak 8))) (ak 3)) (ak 3))) .done)
noncomputable def BY:E:=(.emit (.ix (af 1) (.call 41 (bg (af 2) (ak 26)))))
noncomputable def o0:E:=(.comp 1 [1,0] (.blt .di (aJ (.bin .Add (ak 1) (.call 41 (bg (af 0) (ak 8)))))) (.nm 0) .nil BY)
noncomputable def ms:S:=(.asg 1 (ar [97,98,99,100,101,102,103,104,105,106,107,108,109,110,111,112,113,114,115,116,117,118,119,120,121,122]) (.asg 2 (.cS .join (ar []) (aJ o0)) (.bk (.cmp .In (af 2) (.tup (.cons (ar [97,110,121]) (.cons (ar [105,115]) (jC (ar [98,121]) (ar [110,111,116]) (ar [97,110,100]) (ar [111,114])))))) (.ret (.bin .Add (af 2) (ar [113])) .done) .done (.ret (af 2) .done))))
noncomputable def mx:S:=(.bk (.cmp .Eq (.call 41 (bg (af 0) (ak 3))) (ak 0)) (.ret (.call 44 (aJ (af 0))) .done) .done (.ret (.ix (af 1) (.call 41 (bg (af 0) (.blt .len (aJ (af 1)))))) .done))
noncomputable def oM:E:=(.emit (.tup (bg (af 0) (.call 43 (aJ (af 1))))))
noncomputable def pc:E:=(.comp 1 [0] (.call 42 (lG (af 0) (.ix (af 3) (ak 1)) (.blt .min2 (bg (ak 6) (.blt .len (aJ (.ix (af 3) (ak 1)))))))) (.nm 0) .nil oM)
noncomputable def Cc:E:=(.emit (.call 44 (aJ (af 1))))
noncomputable def uO:E:=(.comp 1 [1] (.blt .di (aJ (ak 8))) (.nm 0) .nil Cc)
noncomputable def Cg:E:=(.emit (.blt .qV (aJ (.bin .Add uO (.lst (aJ (ar [109,110])))))))
noncomputable def pf:E:=(.comp 1 [0] (.blt .di (aJ (ak 2))) (.nm 0) .nil Cg)
noncomputable def mD:S:=(.asg 1 (.call 45 (bg (af 0) (.lst (.cons (ar [97,110,110]) (jC (ar [98,111,98]) (ar [99,121]) (ar [122,122,122,122,122,122,122,122]) (ar [112,114,105,99,101])))))) (.asg 2 (.call 45 (bg (af 0) (.lst (lG (ar [98,114,101,97,100]) (ar [119,111,111,100]) (ar [105,115,108,101]))))) (.asg 3 (.lst (bg (.lst (.cons (ar [97]) (.cons (ar [102,114,101,115,104]) (jC (ar [111,108,100]) (ar [114,121,101]) (ar [97,110,110]) (ar [97,110,121,120]))))) (.lst (jC (ar [97]) (ar [112,114,105,99,101]) (ar [119,105,100,116,104]) (ar [111,108,100]))))) (.bk (.cmp .Eq (.call 41 (bg (af 0) (ak 2))) (ak 0)) (.asg 3 pf .done) .done (.asg 4 (.call 42 (lG (af 0) (.ix (af 3) (ak 0)) (.blt .min2 (bg (ak 6) (.blt .len (aJ (.ix (af 3) (ak 0)))))))) (.asg 5 (.blt .tuple (aJ pc)) (.ret (.tup (jC (af 1) (af 2) (af 4) (af 5))) .done)))))))
noncomputable def ny:S:=(.asg 1 (.call 41 (bg (af 0) (ak 8))) (.bk (.cmp .Lt (af 1) (ak 2)) (.ret (.tup (aJ (ar [97,110,121]))) .done) .done (.bk (.cmp .Eq (af 1) (ak 2)) (.ret (.tup (bg (ar [98,121]) (.call 45 (bg (af 0) (.lst (jC (ar [97,110,110]) (ar [98,111,98]) (ar [99,121]) (ar [122,122,122,122,122,122,122,122]))))))) .done) .done (.bk (.cmp .Lt (af 1) (ak 5)) (.ret (.tup (lG (.ix (.lst (bg (ar [108,101,97,115,116]) (ar [109,111,115,116]))) (.bin .Mod (af 1) (ak 2))) (.call 45 (bg (af 0) (.lst (jC (ar [97]) (ar [112,114,105,99,101]) (ar [119,105,100,116,104]) (ar [111,108,100]))))) (.call 43 (aJ (af 0))))) .done) .done (.ret (.tup (bg (ar [105,115]) (.call 45 (bg (af 0) (.lst (.cons (ar [97]) (.cons (ar [102,114,101,115,104]) (jC (ar [111,108,100]) (ar [114,121,101]) (ar [97,110,110]) (ar [119,111,111,100]))))))))) .done)))))
noncomputable def kL:E:=(.emit (.call 48 (lG (af 1) (.bin .Sub (af 3) (ak 1)) (af 2))))
noncomputable def tX:E:=(.comp 1 [0,2,1] (.blt .di (aJ (af 4))) (.nm 0) .nil kL)
noncomputable def jf:S:=(.set (af 2) (ak 0) (.bin .Sub (.ix (af 2) (ak 0)) (ak 1)) (.asg 3 (.call 41 (bg (af 0) (ak 6))) (.bk (.or (.cmp .Lt (af 1) (ak 2)) (.or (.cmp .Lt (af 3) (ak 2)) (.cmp .Lt (.ix (af 2) (ak 0)) (ak 3)))) (.ret (.call 47 (aJ (af 0))) .done) .done (.bk (.cmp .Eq (af 3) (ak 2)) (.ret (.tup (bg (ar [110,111,116]) (.call 48 (lG (af 0) (.bin .Sub (af 1) (ak 1)) (af 2))))) .done) .done (.asg 4 (.bin .Add (ak 2) (.call 41 (bg (af 0) (.ix (.lst (bg (ak 2) (ak 5))) (.bin .FloorDiv (.call 41 (bg (af 0) (ak 3))) (ak 2)))))) (.ret (.tup (bg (.ix (.lst (bg (ar [97,110,100]) (ar [111,114]))) (.bin .Mod (af 3) (ak 2))) (.blt .tuple (aJ tX)))) .done))))))
noncomputable def cJ:S:=(.asg 1 (.ix (.lst (lG (.bin .Add (ak 1) (.call 41 (bg (af 0) (ak 9)))) (.bin .Add (ak 1) (.call 41 (bg (af 0) (.bin .Pow (ak 10) (ak 6))))) (.bin .Pow (ak 10) (ak 6)))) (.call 41 (bg (af 0) (ak 3)))) (.asg 2 (.ix (.lst (lG (ak 1) (.bin .Add (ak 1) (.call 41 (bg (af 0) (af 1)))) (af 1))) (.call 41 (bg (af 0) (ak 3)))) (.asg 3 (.ix (.lst (lG (ak 0) (ak 1000) (.call 41 (bg (af 0) (ak 1001))))) (.call 41 (bg (af 0) (ak 3)))) (.asg 4 (.ix (.lst (jC (ak 0) (.bin .Pow (ak 10) (ak 9)) (.call 41 (bg (af 0) (.bin .Add (.bin .Pow (ak 10) (ak 9)) (ak 1)))) (.call 41 (bg (af 0) (ak 30))))) (.call 41 (bg (af 0) (ak 4)))) (.asg 5 (.call 46 (aJ (af 0))) (.asg 6 (.call 48 (lG (af 0) (.bin .Add (ak 1) (.call 41 (bg (af 0) (ak 6)))) (.sZ (aJ (ak 12))))) (.ret (.tup (.cons (.ix (.lst (lG (ar [103,105,118,101]) (ar [116,97,107,101]) (ar [98,101,97,114]))) (.call 41 (bg (af 0) (ak 3)))) (.cons (af 5) (.cons (af 6) (jC (af 1) (af 2) (af 3) (af 4)))))) .done)))))))
noncomputable def ph:S:=(.asg 2 (.call 51 (aJ (af 0))) (.bk (.cmp .In (.ix (af 0) (ak 0)) (af 1)) (.ret (.bin .Add (.bin .Add (ar [40,32]) (af 2)) (ar [32,41])) .done) .done (.ret (af 2) .done)))
noncomputable def rH:E:=(.emit (.call 50 (bg (af 0) (.tup (aJ (ar [111,114]))))))
noncomputable def sG:E:=(.comp 1 [] (.ix (af 0) (ak 1)) (.nm 0) .nil rH)
noncomputable def sr:E:=(.emit (.call 50 (bg (af 0) (.tup (bg (ar [97,110,100]) (ar [111,114]))))))
noncomputable def sY:E:=(.comp 1 [] (.ix (af 0) (ak 1)) (.nm 0) .nil sr)
noncomputable def bB:S:=(.asg 1 (.ix (af 0) (ak 0)) (.bk (.cmp .In (af 1) (.tup (bg (ar [108,101,97,115,116]) (ar [109,111,115,116])))) (.ret (.bin .Add (.bin .Add (.ix (af 0) (ak 1)) (.ix (.lst (bg (ar [32,60,61,32]) (ar [32,62,61,32]))) (.blt .int (aJ (.cmp .Eq (af 1) (ar [108,101,97,115,116])))))) (.blt .str (aJ (.ix (af 0) (ak 2))))) .done) .done (.bk (.cmp .Eq (af 1) (ar [110,111,116])) (.ret (.bin .Add (ar [110,111,116,32]) (.call 50 (bg (.ix (af 0) (ak 1)) (.tup (bg (ar [97,110,100]) (ar [111,114])))))) .done) .done (.bk (.cmp .Eq (af 1) (ar [97,110,100])) (.ret (.cS .join (ar [32,97,110,100,32]) (aJ sY)) .done) .done (.bk (.cmp .Eq (af 1) (ar [111,114])) (.ret (.cS .join (ar [32,111,114,32]) (aJ sG)) .done) .done (.ret (.cS .join (ar [32]) (aJ (af 0))) .done))))))
noncomputable def iC:S:=(.ret (.ix (.lst (bg (.cS .join (ar [44]) (aJ (af 0))) (ar [45]))) (.blt .int (aJ (.cmp .Eq (af 0) (.lst .nil))))) .done)
noncomputable def fg:E:=(.emit (.blt .str (aJ (af 0))))
noncomputable def jy:E:=(.comp 1 [] (.lst (jC (af 4) (af 5) (af 6) (af 7))) (.nm 0) .nil fg)
noncomputable def fe:E:=(.emit (.bin .Add (.bin .Add (af 0) (ar [61])) (.blt .str (aJ (af 1)))))
noncomputable def js:E:=(.comp 2 [] (.ix (af 2) (ak 3)) (.tp [0,1]) .nil fe)
noncomputable def cX:S:=(.lK [1,2,3,4,5,6,7] (af 0) (.asg 8 (.sZ (jC (af 1) (.ix (af 2) (ak 0)) (.ix (af 2) (ak 1)) (.call 52 (aJ (.blt .list (aJ (.ix (af 2) (ak 2)))))))) (.expr (.cS .append (af 8) (aJ (.call 52 (aJ js)))) (.asg 8 (.JV (af 8) jy) (.ret (.bin .Add (.bin .Add (.cS .join (ar [32]) (aJ (af 8))) (ar [32,124,32])) (.call 51 (aJ (af 3)))) .done)))))
noncomputable def nQ:S:=(.ret (.ix (.lst (jC (ak 0) (.bin .Pow (ak 10) (ak 9)) (.call 41 (bg (af 0) (ak 30))) (.call 41 (bg (af 0) (.bin .Pow (ak 10) (ak 9)))))) (.call 41 (bg (af 0) (ak 4)))) .done)
noncomputable def EL:E:=(.emit (.call 54 (aJ (af 1))))
noncomputable def yi:E:=(.comp 1 [0] (.blt .di (aJ (.bin .Add (ak 2) (.call 41 (bg (af 0) (ak 2)))))) (.nm 0) .nil EL)
noncomputable def eZ:S:=(.asg 1 (.call 41 (bg (af 0) (ak 7))) (.asg 2 (.call 54 (aJ (af 0))) (.asg 3 (.call 45 (bg (af 0) (.lst (jC (ar [97,110,110]) (ar [122,122,122,122,122,122,122,122]) (ar [98]) (ar [112,114,105,99,101]))))) (.bk (.cmp .Lt (af 1) (ak 2)) (.ret (.tup (jC (.ix (.lst (bg (ar [99,111,109,101]) (ar [99,104,97,110,103,101]))) (af 1)) (af 2) (.call 49 (aJ (af 0))) (.call 54 (aJ (af 0))))) .done) .done (.bk (.cmp .Eq (af 1) (ak 2)) (.ret (.tup (lG (ar [111,102,102]) (af 2) (af 3))) .done) .done (.bk (.cmp .Eq (af 1) (ak 3)) (.ret (.tup (jC (ar [108,101,115,115]) (af 2) (af 3) (.ix (.lst (lG (ak 1) (.bin .Pow (ak 10) (ak 9)) (.bin .Add (ak 1) (.call 41 (bg (af 0) (ak 30)))))) (.call 41 (bg (af 0) (ak 3)))))) .done) .done (.bk (.cmp .Eq (af 1) (ak 4)) (.ret (.tup (jC (ar [119,97,105,116]) (af 2) (af 3) (.call 54 (aJ (af 0))))) .done) .done (.bk (.cmp .Eq (af 1) (ak 5)) (.asg 4 (.blt .tuple (aJ yi)) (.ret (.tup (jC (ar [109,101,101,116]) (af 2) (af 4) (.ix (.lst (lG (ak 1) (.bin .Pow (ak 10) (ak 9)) (.bin .Add (ak 1) (.call 41 (bg (af 0) (ak 30)))))) (.call 41 (bg (af 0) (ak 3)))))) .done)) .done (.ret (.tup (lG (ar [111,117,116]) (af 2) (.call 54 (aJ (af 0))))) .done)))))))))
noncomputable def tJ:E:=(.emit (.blt .str (aJ (af 0))))
noncomputable def tD:E:=(.comp 1 [] (af 0) (.nm 0) .nil tJ)
noncomputable def tM:E:=(.emit (.blt .str (aJ (af 0))))
noncomputable def tP:E:=(.comp 1 [] (.ix (af 0) (ak 2)) (.nm 0) .nil tM)
noncomputable def dA:S:=(.bk (.cmp .In (.ix (af 0) (ak 0)) (.tup (bg (ar [99,111,109,101]) (ar [99,104,97,110,103,101])))) (.ret (.cS .join (ar [32]) (aJ (.lst (jC (.ix (af 0) (ak 0)) (.blt .str (aJ (.ix (af 0) (ak 1)))) (.blt .str (aJ (.ix (af 0) (ak 3)))) (.call 53 (aJ (.ix (af 0) (ak 2)))))))) .done) .done (.bk (.cmp .Eq (.ix (af 0) (ak 0)) (ar [109,101,101,116])) (.ret (.cS .join (ar [32]) (aJ (.bin .Add (.lst (lG (ar [109,101,101,116]) (.blt .str (aJ (.ix (af 0) (ak 1)))) (.blt .str (aJ (.ix (af 0) (ak 3)))))) tP))) .done) .done (.ret (.cS .join (ar [32]) (aJ tD)) .done)))
noncomputable def cH:S:=(.asg 2 (.lst (.cons (ar []) (.cons (ar [99,111,109,101]) (.cons (ar [111,102,102]) (.cons (ar [99,104,97,110,103,101]) (.cons (ar [108,101,115,115]) (.cons (ar [119,97,105,116]) (.cons (ar [109,101,101,116]) (.cons (ar [111,117,116]) (.cons (ar [67,111,109,101]) (.cons (ar [116,111]) (.cons (ar [48]) (.cons (ar [49]) (jC (ar [48,48]) (ar [48,49]) (ar [55]) (ar [45,49]))))))))))))))) (.asg 2 (.bin .Add (af 2) (.lst (.cons (ar [49,48,48,48,48,48,48,48,48,48]) (.cons (ar [49,48,48,48,48,48,48,48,48,49]) (.cons (ar [57,57,57,57,57,57,57,57,57,57,57]) (.cons (ar [120]) (.cons (ar [97,110,110]) (.cons (ar [105,115]) (.cons (ar [110,105,110,101,115,105,103,110,115]) (.cons (ar [65]) (jC (ar [49,46,48]) (ar [43,49]) (ar [124]) (ar [45])))))))))))) (.asg 2 (.bin .Add (af 2) (.lst (.cons (ar [103,105,118,101]) (.cons (ar [97,110,121]) (.cons (ar [97,61,49]) (jC (ar [49,44,50]) (ar [78,111,110,101]) (ar [40]) (ar [97,110,121,32,97,110,100,32,97,110,121]))))))) (.asg 3 (.zk (.cS .split (af 1) (aJ (ar [32])))) (.asg 4 (.call 41 (bg (af 0) (.blt .min2 (bg (.blt .len (aJ (af 3))) (.ix (.lst (lG (ak 4) (ak 12) (ak 999))) (.call 41 (bg (af 0) (ak 3)))))))) (.asg 5 (.call 41 (bg (af 0) (ak 5))) (.bk (.cmp .Lt (af 5) (ak 2)) (.set (af 3) (af 4) (.ix (af 2) (.call 41 (bg (af 0) (.blt .len (aJ (af 2)))))) .done) .done (.bk (.cmp .Eq (af 5) (ak 2)) (.expr (.cS .fZ (af 3) (aJ (af 4))) .done) .done (.bk (.cmp .Eq (af 5) (ak 3)) (.expr (.cS .insert (af 3) (bg (af 4) (.ix (af 3) (af 4)))) .done) .done (.bk (.cmp .Eq (af 5) (ak 4)) (.expr (.cS .insert (af 3) (bg (af 4) (.ix (af 2) (.call 41 (bg (af 0) (.blt .len (aJ (af 2)))))))) .done) .done (.ret (.cS .join (ar [32]) (aJ (af 3))) .done)))))))))))
noncomputable def iR:S:=(.asg 2 (.call 41 (bg (af 0) (.blt .len (aJ (af 1))))) (.asg 3 (.call 41 (bg (af 0) (ak 8))) (.bk (.cmp .Eq (af 3) (ak 0)) (.ret (.bin .Add (.bin .Add (.qk (af 1) .hole (af 2)) (.qk (af 1) (.bin .Add (af 2) (ak 1)) .hole)) (.bin .Mult (.lst (aJ (ar []))) (.blt .int (aJ (.cmp .Eq (.blt .len (aJ (af 1))) (ak 1)))))) .done) .done (.bk (.cmp .Eq (af 3) (ak 1)) (.ret (.bin .Add (.qk (af 1) .hole (.bin .Add (af 2) (ak 1))) (.qk (af 1) (af 2) .hole)) .done) .done (.bk (.cmp .Eq (af 3) (ak 2)) (.ret (.bin .Add (.qk (af 1) (af 2) .hole) (.qk (af 1) .hole (af 2))) .done) .done (.bk (.cmp .Eq (af 3) (ak 3)) (.ret (.bin .Add (.bin .Add (.qk (af 1) .hole (af 2)) (.lst (aJ (ar [])))) (.qk (af 1) (af 2) .hole)) .done) .done (.ret (.bin .Add (.bin .Add (.qk (af 1) .hole (af 2)) (.lst (aJ (.call 57 (bg (af 0) (.ix (af 1) (af 2))))))) (.qk (af 1) (.bin .Add (af 2) (ak 1)) .hole)) .done)))))))
noncomputable def ra:E:=(.emit (af 0))
noncomputable def jR:E:=(.comp 1 [] (af 0) (.nm 0) (aJ (.not (.zK .LtE .LtE (ar [48]) (af 0) (ar [57])))) ra)
noncomputable def fj:S:=(.bk (.or (.cmp .Eq (af 0) (ar [])) (.or (.cmp .Gt (.blt .len (aJ (af 0))) (ak 10)) (.cmp .NotEq jR (.lst .nil)))) (.ret (.con .non) .done) .done (.bk (.or (.and (.cmp .Eq (.ix (af 0) (ak 0)) (ar [48])) (.cmp .NotEq (af 0) (ar [48]))) (.cmp .Gt (.blt .int (aJ (af 0))) (.bin .Pow (ak 10) (ak 9)))) (.ret (.con .non) .done) .done (.ret (.blt .int (aJ (af 0))) .done)))
noncomputable def CK:E:=(.emit (af 0))
noncomputable def uh:E:=(.comp 1 [] (af 0) (.nm 0) (aJ (.not (.zK .LtE .LtE (ar [97]) (af 0) (ar [122])))) CK)
noncomputable def qR:S:=(.bk (.or (.not (.zK .LtE .LtE (ak 1) (.blt .len (aJ (af 0))) (ak 8))) (.cmp .In (af 0) (.lst (.cons (ar [97,110,121]) (.cons (ar [105,115]) (jC (ar [98,121]) (ar [110,111,116]) (ar [97,110,100]) (ar [111,114]))))))) (.ret (.con .non) .done) .done (.bk (.cmp .NotEq uh (.lst .nil)) (.ret (.con .non) .done) .done (.ret (af 0) .done)))
noncomputable def rE:S:=(.ret (.con .non) .done)
noncomputable def rq:S:=(.ret (.call 35 (aJ (af 0))) .done)
noncomputable def nP:S:=(.tri rq [107] Zy rE .done)
noncomputable def lF:E:=(.emit (.call 59 (aJ (af 0))))
noncomputable def lj:E:=(.comp 1 [] (.qk (af 1) (ak 3) .hole) (.nm 0) .nil lF)
noncomputable def a8:S:=(.asg 1 (.cS .split (af 0) (aJ (ar [32]))) (.asg 2 (.ix (af 1) (ak 0)) (.bk (.cmp .Lt (.blt .len (aJ (af 1))) (ak 3)) (.ret (.con .non) .done) .done (.asg 3 (.call 59 (aJ (.ix (af 1) (ak 1)))) (.bk (.cmp .In (af 2) (.lst (bg (ar [99,111,109,101]) (ar [99,104,97,110,103,101])))) (.asg 4 (.tup (jC (af 2) (af 3) (.call 61 (aJ (.cS .join (ar [32]) (aJ (.qk (af 1) (ak 3) .hole))))) (.call 59 (aJ (.ix (af 1) (ak 2)))))) .done) (.bk (.and (.cmp .Eq (af 2) (ar [109,101,101,116])) (.cmp .In (.blt .len (aJ (af 1))) (.lst (bg (ak 5) (ak 6))))) (.asg 5 (.blt .tuple (aJ lj)) (.asg 4 (.tup (jC (af 2) (af 3) (af 5) (.call 59 (aJ (.ix (af 1) (ak 2)))))) (.bk (.or (.cmp .In (.con .non) (af 5)) (.cmp .Eq (.ix (af 4) (ak 3)) (ak 0))) (.ret (.con .non) .done) .done .done))) (.bk (.and (.cmp .Eq (af 2) (ar [111,102,102])) (.cmp .Eq (.blt .len (aJ (af 1))) (ak 3))) (.asg 4 (.tup (lG (af 2) (af 3) (.call 60 (aJ (.ix (af 1) (ak 2)))))) .done) (.bk (.and (.cmp .Eq (af 2) (ar [111,117,116])) (.cmp .Eq (.blt .len (aJ (af 1))) (ak 3))) (.asg 4 (.tup (lG (af 2) (af 3) (.call 59 (aJ (.ix (af 1) (ak 2)))))) .done) (.bk (.and (.cmp .In (af 2) (.lst (bg (ar [108,101,115,115]) (ar [119,97,105,116])))) (.cmp .Eq (.blt .len (aJ (af 1))) (ak 4))) (.asg 4 (.tup (jC (af 2) (af 3) (.call 60 (aJ (.ix (af 1) (ak 2)))) (.call 59 (aJ (.ix (af 1) (ak 3)))))) (.bk (.and (.cmp .Eq (af 2) (ar [108,101,115,115])) (.cmp .Eq (.ix (af 4) (ak 3)) (ak 0))) (.ret (.con .non) .done) .done .done)) (.ret (.con .non) .done) .done) .done) .done) .done) (.ret (.ix (.lst (bg (af 4) (.con .non))) (.blt .int (aJ (.cmp .In (.con .non) (af 4))))) .done))))))
noncomputable def fU:S:=(.expr (.cS .append (af 1) (aJ (.call 62 (aJ (af 3))))) (.bk (.cmp .Is (.ix (af 1) (.neg (ak 1))) (.con .non)) (.ret (.tup (bg (ar [114,101,102,117,115,101,100]) (af 2))) .done) .done .done))
noncomputable def rY:S:=(.bk (.cmp .Eq (af 0) (ar [])) (.ret (.lst .nil) .done) .done (.asg 1 (.sZ .nil) (.sF (.tp [2,3]) (.blt .enum (aJ (.tr (.cS .split (af 0) (aJ (ar [10])))))) fU (.ret (af 1) .done))))
noncomputable def pq:S:=(.asg 3 (.lst (jC (.qf (af 2) [] [107]) (.qf (af 2) [] [107]) (.qf (af 2) [] [107]) (.qf (af 2) [] [107]))) (.asg 3 (.bin .Add (af 3) (.lst (jC (.qf (af 2) [] [107]) (.qf (af 2) [] [107]) (.qf (af 2) [] [107]) (.qf (af 2) [] [107])))) (.asg 3 (.bin .Add (af 3) (.lst (lG (.qf (af 2) [] [107]) (.qf (af 2) [] [107]) (.qf (af 2) [] [107])))) (.asg 1 (ar [111,116,104,101,114]) (.bk (.and (.qf (af 2) [107] []) (.and (.qf (af 2) [107] []) (.cmp .NotIn (zU true) (af 3)))) (.asg 1 (.tup (bg (ar [114,101,102,117,115,101,100]) (.Lk (af 2) [107] "at"))) .done) .done .done)))))
noncomputable def B4:S:=(.asg 1 (.call 36 (aJ (af 0))) .done)
noncomputable def nh:S:=(.asg 1 (.con .non) (.tri B4 [107] (Zz 2) pq (.ret (af 1) .done)))
noncomputable def wc:S:=(.bk (.cmp .NotEq (.call 64 (aJ (af 7))) (.call 63 (aJ (af 7)))) (.ret (zU false) .done) .done .done)
noncomputable def A6:S:=(.asg 3 (.call 58 (bg (af 2) (af 3))) .done)
noncomputable def HW:E:=(.emit (.call 56 (aJ (.call 55 (aJ (af 1))))))
noncomputable def Bg:E:=(.comp 1 [2] (.blt .di (aJ (.bin .Add (ak 1) (.call 41 (bg (af 2) (ak 5)))))) (.nm 0) .nil HW)
noncomputable def qu:S:=(.asg 2 (.call 40 (bg (af 0) (af 1))) (.asg 3 Bg (.sF (.nm 4) (.blt .di (aJ (.call 41 (bg (af 2) (ak 4))))) A6 (.asg 5 (.cS .join (ar [10]) (aJ (af 3))) (.asg 6 (.lst (bg (.ix (.lst (lG (ar []) (ar [32]) (ar [10]))) (.call 41 (bg (af 2) (ak 3)))) (.ix (.lst (lG (ar []) (ar [32]) (ar [10]))) (.call 41 (bg (af 2) (ak 3)))))) (.sF (.nm 7) (.lst (bg (af 5) (.bin .Add (.bin .Add (.ix (af 6) (ak 0)) (af 5)) (.ix (af 6) (ak 1))))) wc (.bk (.cmp .NotEq (.call 64 (aJ (.ix (.lst (.cons (.con .non) (jC (ak 7) (af 3) (.tup (lG (ar [111,117,116]) (ak 1) (ak 0))) (zU true)))) (.call 41 (bg (af 2) (ak 5)))))) (.tup (bg (ar [114,101,102,117,115,101,100]) (ak 0)))) (.ret (zU false) .done) .done .done)))))))
noncomputable def wQ:S:=(.sF (.nm 1) (.blt .di (aJ (ak 5))) qu (.ret (zU true) .done))
noncomputable def fns:List Fn:=[⟨1,1,cG,false⟩,⟨1,1,dX,false⟩,⟨1,1,i7,false⟩,⟨1,1,eJ,false⟩,⟨1,1,ky,false⟩,⟨1,1,sv,false⟩,⟨1,1,eW,false⟩,⟨1,1,iS,false⟩,⟨1,1,eQ,false⟩,⟨1,1,iH,false⟩,⟨2,2,gz,false⟩,⟨1,1,cq,false⟩,⟨1,1,dI,false⟩,⟨1,1,eR,false⟩,⟨1,1,fY,false⟩,⟨1,4,iQ,false⟩,⟨3,3,dM,false⟩,⟨1,8,gm,false⟩,⟨1,1,bY,false⟩,⟨2,2,iG,false⟩,⟨2,3,er,false⟩,⟨2,3,cE,false⟩,⟨2,5,fo,false⟩,⟨3,6,f9,false⟩,⟨4,7,cU,false⟩,⟨1,4,cg,false⟩,⟨1,1,gG,false⟩,⟨1,1,gJ,false⟩,⟨1,4,km,false⟩,⟨1,1,d7,false⟩,⟨1,12,fQ,false⟩,⟨2,3,dm,false⟩,⟨1,1,jp,false⟩,⟨1,2,ek,false⟩,⟨1,5,fX,false⟩,⟨1,2,iY,false⟩,⟨1,2,jN,false⟩,⟨2,2,nu,false⟩,⟨2,3,j3,false⟩,⟨2,3,jP,false⟩,⟨2,3,oz,true⟩,⟨2,3,mu,false⟩,⟨3,6,n8,false⟩,⟨1,1,iL,false⟩,⟨1,3,ms,false⟩,⟨2,2,mx,false⟩,⟨1,6,mD,false⟩,⟨1,2,ny,false⟩,⟨3,5,jf,false⟩,⟨1,7,cJ,false⟩,⟨2,3,ph,false⟩,⟨1,2,bB,false⟩,⟨1,1,iC,false⟩,⟨1,9,cX,false⟩,⟨1,1,nQ,false⟩,⟨1,5,eZ,false⟩,⟨1,1,dA,false⟩,⟨2,6,cH,false⟩,⟨2,4,iR,false⟩,⟨1,1,fj,false⟩,⟨1,1,qR,false⟩,⟨1,1,nP,false⟩,⟨1,6,a8,false⟩,⟨1,4,rY,false⟩,⟨1,4,nh,false⟩,⟨1,8,wQ,false⟩]
noncomputable def gv:List T:=[(.str [97,98,99,100,101,102,103,104,105,106,107,108,109,110,111,112,113,114,115,116,117,118,119,120,121,122]),(.int 8),(.tup [(.str [97,110,121]),(.str [105,115]),(.str [98,121]),(.str [110,111,116]),(.str [97,110,100]),(.str [111,114])]),(.int 1000000000),(.int 6),(.int 6),(.int 6),(.int 40),(.int 2),(.int 6),(.tup [(.str [103,105,118,101]),(.str [116,97,107,101]),(.str [98,101,97,114])]),(.int 1000000),(.int 1000),(.str [48,49,50,51,52,53,54,55,56,57]),(.int 10),(.int 12),(.dct (WL (λk=>.inr ⟨k.toArray⟩) [[62,61],[60,61]]) [(.str [108,101,97,115,116]),(.str [109,111,115,116])]),(.tup [(.str [111,114]),(.str [97,110,100])]),(.str [45]),(.dct (WL (λk=>.inr ⟨k.toArray⟩) [[99,111,109,101],[111,102,102],[99,104,97,110,103,101],[108,101,115,115],[119,97,105,116],[109,101,101,116],[111,117,116]]) [(.tup [(.str [110,117,109,98,101,114]),(.str [110,117,109,98,101,114]),(.str [111,102,102,101,114])]),(.tup [(.str [110,117,109,98,101,114]),(.str [110,97,109,101])]),(.tup [(.str [110,117,109,98,101,114]),(.str [110,117,109,98,101,114]),(.str [111,102,102,101,114])]),(.tup [(.str [110,117,109,98,101,114]),(.str [110,97,109,101]),(.str [109,97,110,121])]),(.tup [(.str [110,117,109,98,101,114]),(.str [110,97,109,101]),(.str [110,117,109,98,101,114])]),(.tup [(.str [110,117,109,98,101,114]),(.str [109,97,110,121]),(.str [110,117,109,98,101,114]),(.str [110,117,109,98,101,114])]),(.tup [(.str [110,117,109,98,101,114]),(.str [110,117,109,98,101,114])])])]
noncomputable abbrev cf:=dS fns gv
abbrev CF(k:Nat)(b:S)(p q:Nat)(c:Bool):Prop:=∀(n:Nat) (ws:List W) (m:Mem),cf (n+1) k ws m=if ws.length=p then(ex (cf n) gv b (ws.map Zz++RL (q-p) Zy) m).bind λfl m'=>fin m.length c fl m' else .stuck
theorem qe:CF 0 cG 1 1 false:=λ_ _ _=>rfl
theorem sM:CF 1 dX 1 1 false:=λ_ _ _=>rfl
theorem w9:CF 2 i7 1 1 false:=λ_ _ _=>rfl
theorem uU:CF 3 eJ 1 1 false:=λ_ _ _=>rfl
theorem yU:CF 4 ky 1 1 false:=λ_ _ _=>rfl
theorem HA:CF 5 sv 1 1 false:=λ_ _ _=>rfl
theorem vP:CF 6 eW 1 1 false:=λ_ _ _=>rfl
theorem AC:CF 7 iS 1 1 false:=λ_ _ _=>rfl
theorem vz:CF 8 eQ 1 1 false:=λ_ _ _=>rfl
theorem As:CF 9 iH 1 1 false:=λ_ _ _=>rfl
theorem vt:CF 10 gz 2 2 false:=λ_ _ _=>rfl
theorem o6:CF 11 cq 1 1 false:=λ_ _ _=>rfl
theorem tI:CF 12 dI 1 1 false:=λ_ _ _=>rfl
theorem vY:CF 13 eR 1 1 false:=λ_ _ _=>rfl
theorem yG:CF 14 fY 1 1 false:=λ_ _ _=>rfl
theorem yO:CF 15 iQ 1 4 false:=λ_ _ _=>rfl
theorem tB:CF 16 dM 3 3 false:=λ_ _ _=>rfl
theorem xL:CF 17 gm 1 8 false:=λ_ _ _=>rfl
theorem nU:CF 18 bY 1 1 false:=λ_ _ _=>rfl
theorem AH:CF 19 iG 2 2 false:=λ_ _ _=>rfl
theorem rR:CF 20 er 2 3 false:=λ_ _ _=>rfl
theorem mY:CF 21 cE 2 3 false:=λ_ _ _=>rfl
theorem te:CF 22 fo 2 5 false:=λ_ _ _=>rfl
theorem pH:CF 23 f9 3 6 false:=λ_ _ _=>rfl
theorem j6:CF 24 cU 4 7 false:=λ_ _ _=>rfl
theorem mC:CF 25 cg 1 4 false:=λ_ _ _=>rfl
theorem wy:CF 26 gG 1 1 false:=λ_ _ _=>rfl
theorem wx:CF 27 gJ 1 1 false:=λ_ _ _=>rfl
theorem AZ:CF 28 km 1 4 false:=λ_ _ _=>rfl
theorem qZ:CF 29 d7 1 1 false:=λ_ _ _=>rfl
theorem pK:CF 30 fQ 1 12 false:=λ_ _ _=>rfl
theorem gy:CF 31 dm 2 3 false:=λ_ _ _=>rfl
theorem xD:CF 32 jp 1 1 false:=λ_ _ _=>rfl
theorem sj:CF 33 ek 1 2 false:=λ_ _ _=>rfl
theorem oZ:CF 34 fX 1 5 false:=λ_ _ _=>rfl
theorem lw:CF 35 iY 1 2 false:=λ_ _ _=>rfl
theorem fq:CF 36 jN 1 2 false:=λ_ _ _=>rfl
theorem EW:CF 37 nu 2 2 false:=λ_ _ _=>rfl
theorem Dx:CF 38 j3 2 3 false:=λ_ _ _=>rfl
theorem Dn:CF 39 jP 2 3 false:=λ_ _ _=>rfl
theorem Fl:CF 40 oz 2 3 true:=λ_ _ _=>rfl
theorem EZ:CF 41 mu 2 3 false:=λ_ _ _=>rfl
theorem FG:CF 42 n8 3 6 false:=λ_ _ _=>rfl
theorem AN:CF 43 iL 1 1 false:=λ_ _ _=>rfl
theorem ER:CF 44 ms 1 3 false:=λ_ _ _=>rfl
theorem Er:CF 45 mx 2 2 false:=λ_ _ _=>rfl
theorem F6:CF 46 mD 1 6 false:=λ_ _ _=>rfl
theorem DD:CF 47 ny 1 2 false:=λ_ _ _=>rfl
theorem yk:CF 48 jf 3 5 false:=λ_ _ _=>rfl
theorem qd:CF 49 cJ 1 7 false:=λ_ _ _=>rfl
theorem si:CF 50 ph 2 3 false:=λ_ _ _=>rfl
theorem cx:CF 51 bB 1 2 false:=λ_ _ _=>rfl
theorem Ao:CF 52 iC 1 1 false:=λ_ _ _=>rfl
theorem sU:CF 53 cX 1 9 false:=λ_ _ _=>rfl
theorem Ft:CF 54 nQ 1 1 false:=λ_ _ _=>rfl
theorem HR:CF 55 eZ 1 5 false:=λ_ _ _=>rfl
theorem i3:CF 56 dA 1 1 false:=λ_ _ _=>rfl
theorem qm:CF 57 cH 2 6 false:=λ_ _ _=>rfl
theorem zu:CF 58 iR 2 4 false:=λ_ _ _=>rfl
theorem tR:CF 59 fj 1 1 false:=λ_ _ _=>rfl
theorem EA:CF 60 qR 1 1 false:=λ_ _ _=>rfl
theorem Cq:CF 61 nP 1 1 false:=λ_ _ _=>rfl
theorem bM:CF 62 a8 1 6 false:=λ_ _ _=>rfl
theorem wa:CF 63 rY 1 4 false:=λ_ _ _=>rfl
theorem wI:CF 64 nh 1 4 false:=λ_ _ _=>rfl
theorem Js:CF 65 wQ 1 8 false:=λ_ _ _=>rfl
theorem AL:gv[0]?=Zz (.str [97,98,99,100,101,102,103,104,105,106,107,108,109,110,111,112,113,114,115,116,117,118,119,120,121,122]):=rfl
theorem jr:gv[1]?=Zz (.int 8):=rfl
theorem lx:gv[2]?=Zz (.tup [(.str [97,110,121]),(.str [105,115]),(.str [98,121]),(.str [110,111,116]),(.str [97,110,100]),(.str [111,114])]):=rfl
theorem lZ:gv[3]?=Zz (.int 1000000000):=rfl
theorem lB:gv[4]?=Zz (.int 6):=rfl
theorem lr:gv[5]?=Zz (.int 6):=rfl
theorem zY:gv[6]?=Zz (.int 6):=rfl
theorem ir:gv[7]?=Zz (.int 40):=rfl
theorem iK:gv[8]?=Zz (.int 2):=rfl
theorem jS:gv[9]?=Zz (.int 6):=rfl
theorem F0:gv[10]?=Zz (.tup [(.str [103,105,118,101]),(.str [116,97,107,101]),(.str [98,101,97,114])]):=rfl
theorem oI:gv[11]?=Zz (.int 1000000):=rfl
theorem lQ:gv[12]?=Zz (.int 1000):=rfl
theorem Am:gv[13]?=Zz (.str [48,49,50,51,52,53,54,55,56,57]):=rfl
theorem qb:gv[14]?=Zz (.int 10):=rfl
theorem jK:gv[15]?=Zz (.int 12):=rfl
theorem rp:gv[16]?=Zz (.dct (WL (λk=>.inr ⟨k.toArray⟩) [[62,61],[60,61]]) [(.str [108,101,97,115,116]),(.str [109,111,115,116])]):=rfl
theorem oo:gv[17]?=Zz (.tup [(.str [111,114]),(.str [97,110,100])]):=rfl
theorem u6:gv[18]?=Zz (.str [45]):=rfl
end My
section
set_option maxRecDepth 20000
namespace My
open Mi
def bi(s:List T):Prop:=∃a b c:Int,s=[.int a,.int b,.int c]
noncomputable def put(m:Mem)(i:Nat)(s:List T):Mem:=m.set i (Zz (false,s))
theorem AD{m:Mem}{i:Nat}{s:List T}(h:i<m.length):(put m i s)[i]?=Zz (Zz (false,s)):=Rr h
theorem aG{m:Mem}{i:Nat}{s:List T}:(put m i s).length=m.length:=Ta
theorem Bw{m:Mem}{i:Nat}{s s':List T}:(put m i s).set i (Zz (false,s'))=put m i s':=List.set_set _
theorem Hq{i j:Int}(h:0<=i)(h':i<4294967296):hH i j=true:=by
 have:i.natAbs<2^64:=by omega
 simp[hH,small,this]
theorem KW{i j:Int}(h:0<=j)(h':j<4294967296):hH i j=true:=by
 have:j.natAbs<2^64:=by omega
 simp[hH,small,this]
section
variable{call:Nat->List W->Mem->Res W}{gv:List T}{env:Env}{m m1 m2 m3:Mem}{a b c e o v i:E}{x y z r:T}{w w1 w2:W}{f:Nat}{bb:B}{k:Bool}
theorem aD{op:PySem.Operator}(h1:ev call gv a env m=.ok (.t x) m1)(h2:ev call gv b env m1=.ok (.t y) m2)(h3:oO op x y=Zz r):ev call gv (.bin op a b) env m=.ok (.t r) m2:=by
 rw[ev,h1,ag,h2,ag];show bX (oO op x y) m2=_;rw[h3];rfl
theorem ao{op:XH}(h1:ev call gv a env m=.ok (.t x) m1)(h2:ev call gv b env m1=.ok (.t y) m2)(h3:bD op x y=Zz k):ev call gv (.cmp op a b) env m=.ok (.t (.bl k)) m2:=by
 rw[ev,h1,ag,h2,ag];show bX ((bD op x y).map .bl) m2=_;rw[h3];rfl
theorem ae(t:T):ev call gv (.con t) env m=.ok (.t t) m:=by rw[ev]
theorem aa{i:Nat}{w:W}(h:env[i]?=Zz (Zz w)):ev call gv (.var i) env m=.ok w m:=by rw[ev,h]
theorem jI{c j:Nat}{k:Int}{xs:List T}(h:env[c]?=Zz (Zz (.c j)))(hm:m[j]?=Zz (Zz (false,xs)))(hx:atT xs k=Zz r):ev call gv (.ix (.var c) (.con (.int k))) env m=.ok (.t r) m:=by
 rw[ev,aa h,ag,ae,ag];simp only[view,hm,SE,rn,hx];rfl
theorem aS(h1:ev call gv a env m=.ok (.t x) m1)(h2:ev call gv b env m1=.ok (.t y) m2)(h3:rn x y=Zz r):ev call gv (.ix a b) env m=.ok (.t r) m2:=by
 rw[ev,h1,ag,h2,ag];show bX (rn x y) m2=_;rw[h3];rfl
theorem aA(h:ev call gv e env m=.ok (.t x) m1)(hb:cv bb [x]=Zz r):ev call gv (.blt bb (.cons e .nil)) env m=.ok (.t r) m1:=by
 rw[ev,evs,h];show bX (cv bb [x]) m1=_;rw[hb];rfl
theorem ap(h:ev call gv e env m=.ok w m1):ev call gv (.call f (.cons e .nil)) env m=call f [w] m1:=by
 rw[ev,evs,h];rfl
theorem am(h1:ev call gv a env m=.ok w m1)(h2:ev call gv b env m1=.ok w1 m2):ev call gv (.call f (.cons a (.cons b .nil))) env m=call f [w,w1] m2:=by
 simp only[ev,evs,h1,h2,ag]
theorem eS(h1:ev call gv a env m=.ok w m1)(h2:ev call gv b env m1=.ok w1 m2)(h3:ev call gv c env m2=.ok w2 m3):ev call gv (.call f (.cons a (.cons b (.cons c .nil)))) env m=call f [w,w1,w2] m3:=by
 simp only[ev,evs,h1,h2,h3,ag]
theorem qT(h1:ev call gv a env m=.ok (.t x) m1):ev call gv (.tup (.cons a .nil)) env m=.ok (.t (.tup [x])) m1:=by
 simp only[ev,evs,h1,ag,df,cF];exact Xy (by simp[lim])
theorem bf(h1:ev call gv a env m=.ok (.t x) m1)(h2:ev call gv b env m1=.ok (.t y) m2):ev call gv (.tup (.cons a (.cons b .nil))) env m=.ok (.t (.tup [x,y])) m2:=by
 simp only[ev,evs,h1,h2,ag,df,cF];exact Xy (by simp[lim])
theorem gX(h1:ev call gv a env m=.ok (.t x) m1)(h2:ev call gv b env m1=.ok (.t y) m2)(h3:ev call gv c env m2=.ok (.t z) m3):ev call gv (.tup (.cons a (.cons b (.cons c .nil)))) env m=.ok (.t (.tup [x,y,z])) m3:=by
 simp only[ev,evs,h1,h2,h3,ag,df,cF];exact Xy (by simp[lim])
theorem ci(h1:ev call gv a env m=.ok (.t x) m1)(h2:ev call gv b env m1=.ok (.t y) m2):ev call gv (.lst (.cons a (.cons b .nil))) env m=.ok (.t (.lst [x,y])) m2:=by
 simp only[ev,evs,h1,h2,ag,df,cF];exact Xy (by simp[lim])
theorem cM(h:ev call gv a env m=.ok (.t (.bl true)) m1):ev call gv (.and a b) env m=ev call gv b env m1:=by rw[ev,h];rfl
theorem fI(h:ev call gv a env m=.ok (.t (.bl false)) m1):ev call gv (.and a b) env m=.ok (.t (.bl false)) m1:=by rw[ev,h];rfl
theorem bc(h:ev call gv a env m=.ok (.t (.bl k)) m1):ev call gv (.not a) env m=.ok (.t (.bl (!k))) m1:=by rw[ev,h];rfl
theorem dh(h:ev call gv a env m=.ok (.t (.bl true)) m1):ev call gv (.or a b) env m=.ok (.t (.bl true)) m1:=by rw[ev,h];rfl
theorem bn(h:ev call gv a env m=.ok (.t (.bl false)) m1):ev call gv (.or a b) env m=ev call gv b env m1:=by rw[ev,h];rfl
theorem mf{ty:Ty}(h:ev call gv a env m=.ok (.t x) m1)(hk:cz x ty=k):ev call gv (.uV a ty) env m=.ok (.t (.bl k)) m1:=by rw[ev,h,<-hk];rfl
end
section
variable{call:Nat->List W->Mem->Res W}{gv:List T}{env:Env}{m m1 m2 m3:Mem}{a lo hi:E}{es:Es}{x y z r:T}{w:W}{ws:List W}{ts:List T}{f:Nat}{bb:B}
theorem aR{ts:List T}(h:ts.length<=1000:=by exact Nat.le_of_ble_eq_true rfl):ts.length<=lim:=Rn h (by decide)
theorem aM:evs call gv .nil env m=.ok [] m:=by rw[evs]
theorem al(h1:ev call gv a env m=.ok w m1)(h2:evs call gv es env m1=.ok ws m2):evs call gv (.cons a es) env m=.ok (w::ws) m2:=by rw[evs,h1,ag,h2];rfl
theorem a9(h:evs call gv es env m=.ok ws m1)(h2:ii ws m1=.ok ts m1)(hl:ts.length<=lim):ev call gv (.lst es) env m=.ok (.t (.lst ts)) m1:=by rw[ev,h,ag,h2,ag,Xy hl]
theorem fh(h:evs call gv es env m=.ok ws m1)(h2:ii ws m1=.ok ts m1)(hl:ts.length<=lim):ev call gv (.tup es) env m=.ok (.t (.tup ts)) m1:=by rw[ev,h,ag,h2,ag,Xy hl]
theorem jl(h:evs call gv es env m=.ok ws m1):ev call gv (.call f es) env m=call f ws m1:=by rw[ev,h];rfl
theorem F1(h:evs call gv es env m=.ok ws m1)(h2:views ws m1=Zz ts)(h3:cv bb ts=Zz r):ev call gv (.blt bb es) env m=.ok (.t r) m1:=by
 rw[ev,h,ag,h2];show bX (cv bb ts) m1=_;rw[h3];rfl
theorem ju{k:Nat}(h:gv[k]?=Zz x):ev call gv (.gl k) env m=.ok (.t x) m:=by rw[ev,h];rfl
theorem qA{k:Int}(h1:ev call gv a env m=.ok (.t x) m1)(h2:ev call gv lo env m1=.ok (.t (.int k)) m2)(h3:GM x (Zz k) Zy=Zz r)(hh:aF lo=false:=by rfl):ev call gv (.qk a lo .hole) env m=.ok (.t r) m2:=by
 rw[ev,h1,ag,hh,Xz S4,h2];show bX (GM x (Zz k) Zy) m2=_;rw[h3];rfl
end
section
variable{call:Nat->List W->Mem->Res W}{gv:List T}{env env':Env}{m m1 m2:Mem}{k a b:S}{e:E}{w:W}
theorem pA(h:ev call gv e env m=.ok (.t (.bl false)) m1)(h2:ex call gv b env m1=.ok (.next env') m2):ex call gv (.bk e a b k) env m=ex call gv k env' m2:=by
 rw[ex,h];show(ex call gv b env m1).bind _=_;rw[h2];rfl
theorem l7(h:ev call gv e env m=.ok (.t (.bl true)) m1)(h2:ex call gv a env m1=.ok (.next env') m2):ex call gv (.bk e a b k) env m=ex call gv k env' m2:=by
 rw[ex,h];show(ex call gv a env m1).bind _=_;rw[h2];rfl
theorem kb(h:ev call gv e env m=.ok w m1):ex call gv (.expr e k) env m=ex call gv k env m1:=by rw[ex,h];rfl
end
section
variable{call:Nat->List W->Mem->Res W}{gv:List T}{env:Env}{m m1 m2:Mem}{a c inner:E}{x:T}{xs:List T}
theorem cp(h:ev call gv a env m=.ok (.t x) m1):ev call gv (.emit a) env m=.ok (.t (.lst [x])) m1:=by rw[ev,h];rfl
theorem Fo(h:ev call gv c env m=.ok (.t (.bl true)) m1)(h2:ev call gv inner env m1=.ok (.t (.lst xs)) m2):bp call gv (.cons c .nil) inner env m=.ok xs m2:=by
 unfold bp;rw[tests,h,ag,rD,ag,Xy rfl,tests,ag,Xy rfl,h2];rfl
theorem Jm(h:ev call gv c env m=.ok (.t (.bl false)) m1):bp call gv (.cons c .nil) inner env m=.ok [] m1:=by
 unfold bp;rw[tests,h,ag,rD,ag,Xz (by decide),ag,Xz (by decide)]
theorem iT(h2:ev call gv inner env m=.ok (.t (.lst xs)) m2):bp call gv .nil inner env m=.ok xs m2:=by
 unfold bp;rw[tests,ag,Xy rfl,h2];rfl
end
theorem at0{α:Type}(a:α)(r:List α):atT (a::r) 0=Zz a:=by simp[atT,ie]
theorem at1{α:Type}(a b:α)(r:List α):atT (a::b::r) 1=Zz b:=by
 have:(1:Int)<(r.length:Int)+1+1:=by omega
 simp[atT,ie,this]
theorem r7{α:Type}{xs:List α}{i:Int}(h0:0<=i)(h1:i<xs.length):atT xs i=xs[i.toNat]?:=by
 unfold atT ie;rw[Xy h0,Xy h1];rfl
theorem cI{α β:Type}(f:α->β)(xs:List α):xs.flatMap (λx=>[f x])=xs.map f:=by
 induction xs with
 |nil=>rfl
 |cons x xs ih=>simp[ih]
section
variable{m:Mem}
theorem Lw{n f:Nat}{a b t:T}{body:S}{k:Nat}(hcf:∀ws:List W,cf (n+1) f ws m=if ws.length=2 then(ex (cf n) gv body (ws.map Zz++RL (2+k-2) Zy) m).bind λfl m'=>fin m.length false fl m' else .stuck)(h:ex (cf n) gv body ([Zz (.t a),Zz (.t b)]++RL k Zy) m=.ok (.ret (.t t)) m):cf (n+1) f [.t a,.t b] m=.ok (.t t) m:=by
 rw[hcf];rw[Xy (show[W.t a,W.t b].length=2 from rfl)];have:2+k-2=k:=by omega
 rw[this];show(ex (cf n) gv body ([Zz (.t a),Zz (.t b)]++RL k Zy) m).bind _=_;rw[h];exact av (cell:=false) rfl
end
theorem EE{n:Nat}{m:Mem}{x k:Int}:∃y:Int,cf (n+1) 38 [.t (.int x),.t (.int k)] m=.ok (.t (.int y)) m:=by
 have h4:hH 7919 k=true:=Hq (by decide) (by decide);have h5:∀x,hH x 48271=true:=λx=>KW (by decide) (by decide)
 have h6:∀x y,hH (x%2147483647) y=true:=λx y=>Hq (VW _ (by decide)) (by have:=Us x (b:=2147483647) (by decide);omega)
 refine⟨((x+7919*k+1)*48271%2147483647)*((x+7919*k+1)*48271%2147483647 / 1009+69621)%2147483647,?_⟩;refine Lw (n:=n) (k:=1) (λws=>Dx _ ws m) ?_;show ex _ gv j3 [Zz (.t (.int x)),Zz (.t (.int k)),Zy] m=_;unfold j3;rw[aq (aD (aD (aD (aD (aa rfl) (aD (ae _) (aa rfl) (uq h4)) (cR _ _)) (ae _) (cR _ _)) (ae _) (uq (h5 _))) (ae _) (lE (by decide)))];exact aj (aD (aD (aa rfl) (aD (aD (aa rfl) (ae _) (wH (by decide))) (ae _) (cR _ _)) (uq (h6 _ _))) (ae _) (lE (by decide)))
theorem Ev{n:Nat}{m:Mem}{x k:Int}:∃y:Int,cf (n+2) 39 [.t (.int x),.t (.int k)] m=.ok (.t (.int y)) m:=by
 have h4:hH 104729 k=true:=Hq (by decide) (by decide);have h5:∀x,hH x 69621=true:=λx=>KW (by decide) (by decide)
 have h6:∀x y,hH (x%2147483647) y=true:=λx y=>Hq (VW _ (by decide)) (by have:=Us x (b:=2147483647) (by decide);omega)
 obtain⟨z,hz⟩:=EE (n:=n) (m:=m) (x:=x) (k:=k);refine⟨((z+104729*k+11)*69621%2147483647)*((z+104729*k+11)*69621%2147483647 / 1013+48271)%2147483647,?_⟩;refine Lw (n:=n+1) (k:=1) (λws=>Dn _ ws m) ?_;show ex _ gv jP [Zz (.t (.int x)),Zz (.t (.int k)),Zy] m=_;unfold jP;rw[aq (aD (aD (aD (aD ((am (aa rfl) (aa rfl)).trans hz) (aD (ae _) (aa rfl) (uq h4)) (cR _ _)) (ae _) (cR _ _)) (ae _) (uq (h5 _))) (ae _) (lE (by decide)))];exact aj (aD (aD (aa rfl) (aD (aD (aa rfl) (ae _) (wH (by decide))) (ae _) (cR _ _)) (uq (h6 _ _))) (ae _) (lE (by decide)))
theorem aH{n:Nat}{m:Mem}{i:Nat}{s:List T}{many:Int}(hi:i<m.length)(hs:bi s)(h1:0<many)(h2:many<1073741824):
  ∃r s',cf (n+3) 41 [.c i,.t (.int many)] (put m i s)=.ok (.t (.int r)) (put m i s')/\bi s'/\0<=r/\r<many:=by
 obtain⟨a,b,c,rfl⟩:=hs;have key:∃r s',ex (cf (n+2)) gv mu [Zz (.c i),Zz (.t (.int many)),Zy] (put m i [.int a,.int b,.int c])=.ok (.ret (.t (.int r))) (put m i s')/\bi s'/\0<=r/\r<many:=by
  have h:=AD (s:=[.int a,.int b,.int c]) hi;unfold mu;have hg:ev (cf (n+2)) gv (.cmp .Gt (.ix (.var 0) (.con (.int 0))) (.con (.int 0))) [Zz (.c i),Zz (.t (.int many)),Zy] (put m i [.int a,.int b,.int c])=.ok (.t (.bl (decide (0<a)))) (put m i [.int a,.int b,.int c]):=ao (jI rfl h rfl) (ae _) (Hn _ _);by_cases ha:0<a
  ·rw[Y1 ha]at hg
   refine⟨a%many,[.int (a / many),.int b,.int c],aE hg ?_,⟨_,_,_,rfl⟩,VW _ (by omega),Us _ h1⟩;rw[aq (aD (jI rfl h rfl) (aa rfl) (lE h1))];rw[ve (aD (jI rfl h rfl) (aa rfl) (wH ⟨h1,h2⟩)) (aa rfl) (ae _) h rfl];rw[Bw];exact aj (aa rfl)
  ·rw[Y0 ha]at hg
   rw[aB hg];have hp:=AD (s:=[.int a,.int (b+1),.int c]) hi;obtain⟨z,hz⟩:=Ev (n:=n) (m:=put m i [.int a,.int (b+1),.int c]) (x:=c) (k:=b+1);refine⟨z%many,[.int a,.int (b+1),.int c],?_,⟨_,_,_,rfl⟩,VW _ (by omega),Us _ h1⟩;rw[ve (aD (jI rfl h rfl) (ae _) (cR _ _)) (aa rfl) (ae _) h rfl];show ex (cf (n+2)) gv _ _ (put m i [.int a,.int b,.int c] |>.set i (Zz (false,[.int a,.int (b+1),.int c])))=_;rw[Bw];exact aj (aD ((am (jI rfl hp rfl) (jI rfl hp rfl)).trans hz) (aa rfl) (lE h1))
 obtain⟨r,s',e,h⟩:=key;refine⟨r,s',?_,h⟩;rw[EZ];simp only[RI,Rz,RQ,TC,if_true,RL,VH,TJ,V7];rw[e];exact av (cell:=false) (by rw[aG,aG])
theorem HL{n:Nat}{m:Mem}{ns:List Int}{k:Int}(hk:0<=k):∃v:Int,cf (n+1) 37 [.t (.db ns),.t (.int k)] m=.ok (.t (.int v)) m:=by
 have key:∃v:Int,ex (cf n) gv nu [Zz (.t (.db ns)),Zz (.t (.int k))] m=.ok (.ret (.t (.int v))) m:=by
  unfold nu;have hc:ev (cf n) gv (.cmp .Lt (.var 1) (.blt .len (.cons (.var 0) .nil))) [Zz (.t (.db ns)),Zz (.t (.int k))] m=.ok (.t (.bl (decide (k<ns.length)))) m:=ao (aa rfl) (aA (aa rfl) (IL ns)) (k9 _ _);by_cases h:k<ns.length
  ·obtain⟨v,hv,_⟩:=gu (xs:=ns) (i:=k) hk h
   rw[Y1 h]at hc;exact⟨v,aE hc (aj (aS (aa rfl) (aa rfl) (by rw[IK,hv];rfl)))⟩
  ·rw[Y0 h]at hc
   exact⟨0,by rw[aB hc];exact aj (ae _)⟩
 obtain⟨v,e⟩:=key;exact⟨v,Lw (n:=n) (k:=0) (λws=>EW _ ws m) e⟩
theorem G8{n:Nat}{m:Mem}{ns:List Int}{k:Int}(hk:0<=k):∃s,cf (n+2) 40 [.t (.db ns),.t (.int k)] m=.ok (.c m.length) (put (m++[Zy]) m.length s)/\bi s:=by
 obtain⟨v,hv⟩:=HL (n:=n) (m:=m) (ns:=ns) hk;have hx:∀b:Bool,atT [T.int 0,.int v] (b2i b)=Zz (.int (if b then v else 0)):=λb=>by cases b<;>rfl
 refine⟨[.int (if decide (1000000000000000000<=v)then v else 0),.int 0,.int (v+k)],?_,⟨_,_,_,rfl⟩⟩;have key:ex (cf (n+1)) gv oz [Zz (.t (.db ns)),Zz (.t (.int k)),Zy] m=.ok (.ret (.c m.length)) (m++[Zz (false,[.int (if decide (1000000000000000000<=v)then v else 0),.int 0,.int (v+k)])]):=by
  unfold oz;rw[aq ((am (aa rfl) (aa rfl)).trans hv)];have h1:ev (cf (n+1)) gv (.ix (.lst (.cons (.con (.int 0)) (.cons (.var 2) .nil))) (.blt .int (.cons (.cmp .GtE (.var 2) (.bin .Pow (.con (.int 10)) (.con (.int 18)))) .nil))) [Zz (.t (.db ns)),Zz (.t (.int k)),Zz (.t (.int v))] m=.ok (.t (.int (if decide (1000000000000000000<=v)then v else 0))) m:=
   aS (ci (ae _) (aa rfl)) (aA (ao (aa rfl) (aD (ae _) (ae _) (KA (by decide))) (K9 _ _)) (tY _)) (hx _)
  have h2:ev (cf (n+1)) gv (.bin .Add (.var 2) (.var 1)) [Zz (.t (.db ns)),Zz (.t (.int k)),Zz (.t (.int v))] m=.ok (.t (.int (v+k))) m:=aD (aa rfl) (aa rfl) (cR _ _);refine aj ?_;rw[ev];simp only[evs,h1,h2,ae,ag,RR,RS,df,cF];exact Xy (by simp[lim])
 rw[Fl];simp only[RI,Rz,RQ,TC,if_true,RL,VH,TJ,V7];rw[key];simp[ag,fin,put]
theorem bA{m xs:Mem}{i:Nat}{s:List T}(hi:i<m.length):put (m++xs) i s=put m i s++xs:=by
 unfold put;rw[List.set_append_left _ _ hi]
section
variable{m:Mem}{i:Nat}{s L F L' F':List T}
theorem I9(hi:i<m.length):(put (m++[Zz (false,L),Zz (false,F)]) i s)[m.length]?=Zz (Zz (false,L)):=by
 rw[bA hi,Ru (by rw[aG];exact RU _),aG,UX];rfl
theorem J4(hi:i<m.length):(put (m++[Zz (false,L),Zz (false,F)]) i s)[m.length+1]?=Zz (Zz (false,F)):=by
 rw[bA hi,Ru (by rw[aG];omega),aG,Nat.add_sub_cancel_left];rfl
theorem K7(hi:i<m.length):(put (m++[Zz (false,L),Zz (false,F)]) i s).set m.length (Zz (false,L'))=put (m++[Zz (false,L'),Zz (false,F)]) i s:=by
 rw[bA hi,bA hi,UB _ _ (by rw[aG];exact RU _),aG,UX];rfl
theorem Kp(hi:i<m.length):(put (m++[Zz (false,L),Zz (false,F)]) i s).set (m.length+1) (Zz (false,F'))=put (m++[Zz (false,L),Zz (false,F')]) i s:=by
 rw[bA hi,bA hi,UB _ _ (by rw[aG];omega),aG,Nat.add_sub_cancel_left];rfl
theorem Fa(hi:i<m.length):(put (m++[Zz (false,L),Zz (false,F)]) i s).take m.length=put m i s:=by
 rw[bA hi];exact VX aG
end
theorem oH{α β:Type}(f:α->β):∀(xs:List α) (k:Nat),(xs.map f).eraseIdx k=(xs.eraseIdx k).map f
 |[],_=>rfl
 |_::_,0=>rfl
 |x::xs,k+1=>by
  rw[RQ,List.eraseIdx_cons_succ,List.eraseIdx_cons_succ,RQ,oH f xs k]
theorem Ed{m:Mem}{b:Mt}{j:Nat}{xs ys:List T}{x t:T}(hb:b=.append∨b=.fZ)(h:m[j]?=Zz (Zz (false,xs)))(hm:rO b xs [x]=Zz (t,ys)):ri b (.c j) [.t x] m=.ok (.t t) (m.set j (Zz (false,ys))):=by
 rcases hb with rfl|rfl<;>simp[ri,df,cF,ag,h,hm]
theorem mM{n:Nat}{q:Int}(h0:0<=q)(h1:q<n):ie n q=Zz q.toNat:=by unfold ie;rw[Xy h0,Xy h1]
theorem sL{α:Type}:∀{l:List α}{k:Nat}(h:k<l.length),([l[k]]++l.eraseIdx k).Perm l
 |_::_,0,_=>List.Perm.refl _
 |a::l,k+1,h=>(List.Perm.swap a (l[k]'(Nat.lt_of_succ_lt_succ h)) (l.eraseIdx k)).trans ((sL (Nat.lt_of_succ_lt_succ h)).cons a)
theorem C4{n:Nat}{m:Mem}{i:Nat}{s:List T}{ls fs:List (List Nat)}{e1 e2:Option W}{x:T}(hi:i<m.length)(hs:bi s)(h0:0<ls.length)(h1:ls.length<=60)(h2:fs.length<=60):
  ∃(ls' fs':List (List Nat)) (s':List T),ex (cf (n+3)) gv iF [Zz (.c i),e1,e2,Zz (.c m.length),Zz (.c (m.length+1)),Zz (.t x)] (put (m++[Zz (false,ls.map .str),Zz (false,fs.map .str)]) i s)=.ok (.next [Zz (.c i),e1,e2,Zz (.c m.length),Zz (.c (m.length+1)),Zz (.t x)]) (put (m++[Zz (false,ls'.map .str),Zz (false,fs'.map .str)]) i s')/\bi s'/\ls'.length+1=ls.length/\fs'.length=fs.length+1/\(fs'++ls').Perm (fs++ls):=by
 have hiM:i<(m++[Zz (false,ls.map T.str),Zz (false,fs.map T.str)]).length:=by rw[RV];omega
 obtain⟨q,s1,d1,hs1,q0,q1⟩:=aH (n:=n) (many:=(ls.length:Int)) hiM hs (by omega) (by omega);have hq:q.toNat<ls.length:=by omega
 have hv:∀ws,views (.c m.length::ws) (put (m++[Zz (false,ls.map .str),Zz (false,fs.map .str)]) i s)=(views ws (put (m++[Zz (false,ls.map .str),Zz (false,fs.map .str)]) i s)).map (.lst (ls.map .str)::·):=λws=>by
  simp[views,view,I9 hi]
 have hlen:ev (cf (n+3)) gv (.blt .len (.cons (.var 3) .nil)) [Zz (.c i),e1,e2,Zz (.c m.length),Zz (.c (m.length+1)),Zz (.t x)] (put (m++[Zz (false,ls.map .str),Zz (false,fs.map .str)]) i s)=.ok (.t (.int (ls.length:Int))) (put (m++[Zz (false,ls.map .str),Zz (false,fs.map .str)]) i s):=by
  rw[ev,evs,aa rfl,ag,evs,ag,ag,hv];simp[views,cv,gq,HX,bX]
 have hpop:ev (cf (n+3)) gv (.cS .fZ (.var 3) (.cons (.call 41 (.cons (.var 0) (.cons (.blt .len (.cons (.var 3) .nil)) .nil))) .nil)) [Zz (.c i),e1,e2,Zz (.c m.length),Zz (.c (m.length+1)),Zz (.t x)] (put (m++[Zz (false,ls.map .str),Zz (false,fs.map .str)]) i s)=.ok (.t (.str ls[q.toNat])) (put (m++[Zz (false,(ls.eraseIdx q.toNat).map .str),Zz (false,fs.map .str)]) i s1):=by
  rw[ev,aa rfl,ag];have ht:oY .fZ (.c m.length) (put (m++[Zz (false,ls.map .str),Zz (false,fs.map .str)]) i s)=true:=by
   show(match(put (m++[Zz (false,ls.map .str),Zz (false,fs.map .str)]) i s)[m.length]? with
    |some (Zz _)=>true
    |_=>false)=true
   rw[I9 hi]
  rw[Xy ht,evs,am (aa rfl) hlen,d1,ag,evs,ag,ag];have hm:rO .fZ (ls.map T.str) [.int q]=Zz (.str ls[q.toNat],(ls.eraseIdx q.toNat).map .str):=by
   show(match ie (ls.map T.str).length q with
    |some k=>((ls.map T.str)[k]?).map λt=>(t,(ls.map T.str).eraseIdx k)
    |none=>Zy)=_
   rw[R2,mM q0 q1];dsimp only;rw[Rv,RZ hq,oH];rfl
  rw[Ed (.inr rfl) (I9 hi) hm,K7 hi]
 refine⟨ls.eraseIdx q.toNat,fs++[ls[q.toNat]],s1,?_,hs1,by rw[UI hq];omega,by simp,?_⟩
 rotate_left
 ·rw[Sg]
  exact List.Perm.append_left fs (sL hq)
 unfold iF;have happ:ev (cf (n+3)) gv (.cS .append (.var 4) (.cons (.cS .fZ (.var 3) (.cons (.call 41 (.cons (.var 0) (.cons (.blt .len (.cons (.var 3) .nil)) .nil))) .nil)) .nil)) [Zz (.c i),e1,e2,Zz (.c m.length),Zz (.c (m.length+1)),Zz (.t x)] (put (m++[Zz (false,ls.map .str),Zz (false,fs.map .str)]) i s)=.ok (.t .non) (put (m++[Zz (false,(ls.eraseIdx q.toNat).map .str),Zz (false,(fs++[ls[q.toNat]]).map .str)]) i s1):=by
  rw[ev,aa rfl,ag];have ht:oY .append (.c (m.length+1)) (put (m++[Zz (false,ls.map .str),Zz (false,fs.map .str)]) i s)=true:=by
   show(match(put (m++[Zz (false,ls.map .str),Zz (false,fs.map .str)]) i s)[m.length+1]? with
    |some (Zz _)=>true
    |_=>false)=true
   rw[J4 hi]
  rw[Xy ht,evs,hpop,ag,evs,ag,ag];have hm:rO .append (fs.map T.str) [.str ls[q.toNat]]=Zz (.non,(fs++[ls[q.toNat]]).map .str):=by
   show(if(fs.map T.str).length<lim then Zz (T.non,fs.map T.str++[.str ls[q.toNat]])else Zy)=_;rw[Xy (by rw[R2];unfold lim;omega),U7];rfl
  rw[Ed (.inl rfl) (J4 hi) hm,Kp hi]
 rw[kb happ,ex]
theorem gQ{n:Nat}{m:Mem}{x:T}:cf (n+1) 2 [.t x] m=.ok (.t (.bl (cz x .int&&!cz x .bool))) m:=by
 rw[w9];cases x<;>simp[i7,ex,ev,Res.bind,view,bX,cz,jt,fin]
noncomputable def k6:T->Bool
 |.int i=>decide (0<=i)&&decide (i<=1000000000)
 |_=>false
theorem fv{n:Nat}{m:Mem}{x:T}:cf (n+2) 3 [.t x] m=.ok (.t (.bl (k6 x))) m:=by
 rw[uU];cases x with
 |int i =>
  by_cases h:0<=i<;>simp[eJ,ex,ev,evs,Res.bind,view,bX,cz,jt,fin,gQ,bD,pS,HN,Ju,A4,k6,h,lZ]
 |_=>simp[eJ,ex,ev,evs,Res.bind,view,bX,cz,jt,fin,gQ,k6]
noncomputable def gr:List Nat:=[97,98,99,100,101,102,103,104,105,106,107,108,109,110,111,112,113,114,115,116,117,118,119,120,121,122]
noncomputable def six:List (List Nat):=[[97,110,121],[105,115],[98,121],[110,111,116],[97,110,100],[111,114]]
noncomputable def jW(cs:List Nat):Bool:=six.any λa=>a==cs
noncomputable def aW(cs:List Nat):Bool:=decide (1<=cs.length)&&decide (cs.length<=8)&&!jW cs&&cs.all λc=>decide (c∈gr)
theorem Dh{n:Nat}{cs:List Nat}{m:Mem}(hl:cs.length<=lim):ev (cf n) gv iE [Zz (.t (.str cs))] m=.ok (.t (.lst (cs.map λc=>.bl (decide (c∈gr))))) m:=by
 have h:=bQ (f:=bp (cf n) gv .nil d4) (tg:=.nm 0) (env:=[Zy]) (m:=m)
  (g:=λt=>match t with|.str [c]=>[.bl (decide (c∈gr))]|_=>[]) (cs.map λc=>.str [c]) (λt ht=>by
   obtain⟨c,_,rfl⟩:=Rg.mp ht;exact⟨[Zz (.t (.str [c]))],rfl,by simp[bp,tests,d4,ev,Res.bind,view,bX,AL,bD,pS,HN,Ju,A4,mJ,Ff,gr]⟩)
 have e:(cs.map λc=>T.str [c]).flatMap (λt=>match t with|.str [c]=>[T.bl (decide (c∈gr))]|_=>[])=cs.map λc=>.bl (decide (c∈gr)):=by
  rw[List.flatMap_map];exact cI _ _
 rw[e]at h;exact aX (x:=.t (.str cs)) (m0:=m) (by simp[ev]) (by simp[ba,mi,hl]) h (by simpa using hl)
theorem BO(cs:List Nat):jL (.str cs) (.tup [.str [97,110,121],.str [105,115],.str [98,121],.str [110,111,116],.str [97,110,100],.str [111,114]])=Zz (jW cs):=by
 simp[jL,flat,eqT,six,jW]
noncomputable def eK(cs:List Nat):Bool:=decide (1<=cs.length)&&!jW cs&&cs.all λc=>decide (c∈gr)
theorem lP{n:Nat}{m:Mem}{cs:List Nat}(hl:cs.length<=lim):cf (n+1) 0 [.t (.str cs)] m=.ok (.t (.bl (eK cs))) m:=by
 have e:ex (cf n) gv cG [Zz (.t (.str cs))] m=.ok (.ret (.t (.bl (eK cs)))) m:=by
  unfold cG;refine aj ?_;by_cases h1:0<cs.length
  ·have h1':(0:Int)<cs.length:=by omega
   have h1'':(decide (1<=cs.length))=true:=Y1 h1;have hin:bD .NotIn (.str cs) (.tup [.str [97,110,121],.str [105,115],.str [98,121],.str [110,111,116],.str [97,110,100],.str [111,114]])=Zz (!jW cs):=by
    rcases cs with _|⟨c,_|⟨d,r⟩⟩<;>simp[bD,pS,HN,Ju,A4,BO]
   cases h6:jW cs
   ·simp only[eK,h1'',h6]
    simp[ev,evs,cz,aF,dB,mw hl,h1,h1',hin,h6,lx,Dh hl,ut (dY _ cs)]
   ·simp[ev,evs,cz,aF,dB,mw hl,h1,h1',hin,h6,lx,eK]
  ·have h1':¬(0:Int)<cs.length:=by omega
   have h1'':(decide (1<=cs.length))=false:=Y0 h1;simp only[eK,h1''];simp[ev,evs,cz,aF,dB,mw hl,h1,h1']
 exact aC (qe _ _ _) rfl e (av (cell:=false) rfl)
theorem pL{n:Nat}{m:Mem}{cs:List Nat}(hl:cs.length<=lim):cf (n+2) 1 [.t (.str cs)] m=.ok (.t (.bl (aW cs))) m:=by
 have e:ex (cf (n+1)) gv dX [Zz (.t (.str cs))] m=.ok (.ret (.t (.bl (aW cs)))) m:=by
  unfold dX;refine aj ?_;by_cases h8:cs.length<=8
  ·have h8':(cs.length:Int)<=8:=by omega
   have hw:aW cs=eK cs:=by simp[aW,eK,h8]
   simp[ev,evs,cz,aF,dB,mw hl,h8',jr,lP (n:=n) hl,hw]
  ·have h8':¬(cs.length:Int)<=8:=by omega
   simp[ev,evs,cz,aF,dB,mw hl,h8',jr,aW,h8]
 exact aC (sM _ _ _) rfl e (av (cell:=false) rfl)
theorem Aj{n:Nat}{m:Mem}{x:T}(h:cz x .str=false):cf (n+2) 1 [.t x] m=.ok (.t (.bl false)) m:=by
 have e:ex (cf (n+1)) gv dX [Zz (.t x)] m=.ok (.ret (.t (.bl false))) m:=by
  unfold dX;refine aj ?_;cases x with
  |str cs=>cases h
  |_=>simp[ev,evs,cz,aF,dB]
 exact aC (sM _ _ _) rfl e (av (cell:=false) rfl)
theorem HP(cs:List Nat):((cs.map λc=>[c]).map Rf).sum=cs.length:=by
 induction cs with
 |nil=>rfl
 |cons c cs ih=>rw[RQ,RQ,TE,ih];simp;omega
def JQ:T->Prop:=λt=>∀cs,t=.str cs->cs.length<=lim
noncomputable def oneOf(x:T)(ws:List (List Nat)):Bool:=match x with
 |.str cs=>ws.any λa=>a==cs
 |_=>false
theorem oQ{n:Nat}{m:Mem}{x:T}{ws:List (List Nat)}:cf (n+1) 10 [.t x,.t (.tup (ws.map .str))] m=.ok (.t (.bl (oneOf x ws))) m:=by
 have hh:∀cs,bD .In (.str cs) (.tup (ws.map .str))=Zz (ws.any λa=>a==cs):=λcs=>by
  have h1:jL (.str cs) (.tup (ws.map .str))=Zz (ws.any λa=>a==cs):=by
   have ha:∀ws:List (List Nat),(ws.map T.str).all flat=true:=λws=>by simp[flat]
   have hb:∀ws:List (List Nat),((ws.map T.str).any λt=>eqT t (.str cs))=ws.any λa=>a==cs:=λws=>by
    induction ws with
    |nil=>rfl
    |cons w ws ih=>simp[eqT]at ih ⊢;rw[ih]
   unfold jL;dsimp only;rw[ha,hb];rfl
  rw[<-h1];cases cs with
  |nil=>rfl
  |cons c r=>cases r<;>rfl
 rw[vt];cases x with
 |str cs=>simp[gz,ex,ev,evs,cz,aF,dB,hh,oneOf,fin]
 |_=>exact aC rfl rfl rfl (av (cell:=false) rfl)
noncomputable def b8:T->Bool
 |.str cs=>aW cs
 |_=>false
theorem d8{n:Nat}{m:Mem}{x:T}(h:JQ x):cf (n+2) 1 [.t x] m=.ok (.t (.bl (b8 x))) m:=by
 cases x with
 |str cs=>exact pL (h cs rfl)
 |_=>exact Aj rfl
noncomputable def dk:T->Bool
 |.tup [a]=>oneOf a [[97,110,121]]
 |.tup [a,b]=>oneOf a [[105,115],[98,121]]&&b8 b
 |.tup [a,b,c]=>oneOf a [[108,101,97,115,116],[109,111,115,116]]&&b8 b&&k6 c
 |_=>false
def vK:T->Prop
 |.tup ts=>∀t∈ts,JQ t
 |_=>True
theorem gq{n:Nat}{m:Mem}{x:T}{w:List Nat}:cf (n+1) 10 [.t x,.t (.tup [.str w])] m=.ok (.t (.bl (oneOf x [w]))) m:=oQ (ws:=[w])
theorem DQ{n:Nat}{m:Mem}{x:T}{w v:List Nat}:cf (n+1) 10 [.t x,.t (.tup [.str w,.str v])] m=.ok (.t (.bl (oneOf x [w,v]))) m:=oQ (ws:=[w,v])
theorem at2{α:Type}(a b c:α)(r:List α):atT (a::b::c::r) 2=Zz c:=by
 have:(2:Int)<(r.length:Int)+1+1+1:=by omega
 simp[atT,ie,this]
theorem FK{n:Nat}{m:Mem}{x:T}(h:vK x):cf (n+3) 11 [.t x] m=.ok (.t (.bl (dk x))) m:=by
 have key:ex (cf (n+2)) gv cq [Zz (.t x)] m=.ok (.ret (.t (.bl (dk x)))) m:=by
  unfold cq;cases x with
  |tup ts =>
   rw[aB (m1:=m) rfl]
   match ts,h with
   |[],_ =>
    rw[aB (m1:=m) rfl,aB (m1:=m) rfl,aB (m1:=m) rfl];exact aj rfl
   |[a],_ =>
    exact aE (m1:=m) rfl (aj (by simp[ev,evs,cz,aF,dB,at0,gq (n:=n+1),lim,dk]))
   |[a,b],h =>
    rw[aB (m1:=m) rfl];have hb:=d8 (n:=n) (m:=m) (x:=b) (h b (by simp));refine aE (m1:=m) rfl (aj ?_);cases ho:oneOf a [[105,115],[98,121]]<;>simp[ev,evs,cz,aF,dB,at0,at1,DQ (n:=n+1),lim,dk,ho,hb]
   |[a,b,c],h =>
    rw[aB (m1:=m) rfl,aB (m1:=m) rfl];have hb:=d8 (n:=n) (m:=m) (x:=b) (h b (by simp));have hc:=fv (n:=n) (m:=m) (x:=c);refine aE (m1:=m) rfl (aj ?_);cases ho:oneOf a [[108,101,97,115,116],[109,111,115,116]]<;>cases hw:b8 b<;>simp[ev,evs,cz,aF,dB,at0,at1,at2,DQ (n:=n+1),lim,dk,ho,hb,hw,hc]
   |a::b::c::d::r,_ =>
    have h1:¬(r.length:Int)+1+1+1+1=1:=by omega
    have h2:¬(r.length:Int)+1+1+1+1=2:=by omega
    have h3:¬(r.length:Int)+1+1+1+1=3:=by omega
    rw[aB (m1:=m) (by simp[ev,evs,cz,aF,dB,h1]),aB (m1:=m) (by simp[ev,evs,cz,aF,dB,h2]),aB (m1:=m) (by simp[ev,evs,cz,aF,dB,h3])];exact aj rfl
  |_=>exact aE (m1:=m) rfl (aj rfl)
 exact aC (o6 _ _ _) rfl key (av (cell:=false) rfl)
noncomputable def iU:T->Bool
 |.tup ts=>decide (2<=ts.length)&&decide (ts.length<=6)
 |_=>false
theorem uo{n:Nat}{m:Mem}{x:T}:cf (n+1) 12 [.t x] m=.ok (.t (.bl (iU x))) m:=by
 rw[tI];cases x with
 |tup ts =>
  by_cases h:2<=ts.length
  ·have h':(2:Int)<=ts.length:=by omega
   simp[dI,ex,ev,evs,cz,aF,dB,iK,jS,h',iU,h,fin];omega
  ·have h':¬(2:Int)<=ts.length:=by omega
   simp[dI,ex,ev,evs,cz,aF,dB,iK,jS,h',iU,h,fin]
 |_=>exact aC rfl rfl rfl (av (cell:=false) rfl)
noncomputable def kids:T->List T
 |.tup [a,b]=>if oneOf a [[110,111,116]]then[b]else if oneOf a [[97,110,100],[111,114]]&&iU b then(match b with
  |.tup ts=>ts
  |_=>[])else[]
 |_=>[]
theorem uH{n:Nat}{m:Mem}{x:T}:cf (n+2) 13 [.t x] m=.ok (.t (.tup (kids x))) m:=by
 have key:ex (cf (n+1)) gv eR [Zz (.t x)] m=.ok (.ret (.t (.tup (kids x)))) m:=by
  unfold eR;cases x with
  |tup ts =>
   match ts with
   |[]=>exact aE (m1:=m) rfl (aj rfl)
   |[a]=>exact aE (m1:=m) rfl (aj rfl)
   |[a,b] =>
    rw[aB (m1:=m) rfl];cases hn:oneOf a [[110,111,116]]with
    |true=>exact aE (m1:=m) (by simp[ev,evs,cz,aF,dB,at0,gq (n:=n),lim,hn]) (aj (by simp[ev,evs,cz,aF,dB,at1,lim,kids,hn]))
    |false =>
     rw[aB (m1:=m) (by simp[ev,evs,cz,aF,dB,at0,gq (n:=n),lim,hn])];cases ho:oneOf a [[97,110,100],[111,114]]with
     |false =>
      rw[aB (m1:=m) (by simp[ev,evs,cz,aF,dB,at0,DQ (n:=n),lim,ho])];exact aj (by simp[ev,evs,cz,aF,dB,lim,kids,hn,ho])
     |true =>
      cases hj:iU b with
      |false =>
       rw[aB (m1:=m) (by simp[ev,evs,cz,aF,dB,at0,at1,DQ (n:=n),lim,ho,uo (n:=n),hj])];exact aj (by simp[ev,evs,cz,aF,dB,lim,kids,hn,ho,hj])
      |true =>
       refine aE (m1:=m) (by simp[ev,evs,cz,aF,dB,at0,at1,DQ (n:=n),lim,ho,uo (n:=n),hj]) (aj ?_);cases b with
       |tup ts=>simp[ev,evs,cz,aF,dB,at1,kids,hn,ho,hj]
       |_=>cases hj
   |a::b::c::r =>
    have h1:¬(r.length:Int)+1+1+1=2:=by omega
    exact aE (m1:=m) (by simp[ev,evs,cz,aF,dB,h1]) (aj rfl)
  |_=>exact aE (m1:=m) rfl (aj rfl)
 exact aC (vY _ _ _) rfl key (av (cell:=false) rfl)
noncomputable def eO(x:T):Bool:=dk x || decide (0<(kids x).length)
theorem Gn{n:Nat}{m:Mem}{x:T}(h:vK x):cf (n+4) 14 [.t x] m=.ok (.t (.bl (eO x))) m:=by
 have key:ex (cf (n+3)) gv fY [Zz (.t x)] m=.ok (.ret (.t (.bl (eO x)))) m:=by
  unfold fY;refine aj ?_;cases hp:dk x<;>simp[ev,evs,cz,aF,dB,FK (n:=n) h,hp,uH (n:=n+1),eO]
 exact aC (yG _ _ _) rfl key (av (cell:=false) rfl)
theorem H6(x:T):(kids x).length<=6:=by
 unfold kids;split
 ·rename_i a b
  split
  ·simp
  ·split
   ·rename_i h
    rw[R6]at h;cases b with
    |tup ts =>
     have:=h.2;unfold iU at this;simp at this;exact this.2
    |_=>simp
   ·simp
 ·simp
theorem Au{n:Nat}{m:Mem}{l:List T}{e0 e2 e3:Option W}(hf:∀x∈l,vK x)(hl:l.length<=lim):ev (cf (n+4)) gv pB [e0,Zz (.t (.lst l)),e2,e3] m=.ok (.t (.lst (l.map λx=>.bl (eO x)))) m:=by
 have h:=bQ (f:=bp (cf (n+4)) gv .nil jH) (tg:=.nm 0) (env:=[Zy]) (m:=m) (g:=λx=>[.bl (eO x)]) l (λt ht=>⟨[Zz (.t t)],rfl,by simp[bp,tests,jH,ev,evs,cz,aF,dB,Gn (n:=n) (hf t ht)]⟩);rw[cI]at h;exact aX (x:=.t (.lst l)) (m0:=m) rfl rfl h (by simpa using hl)
theorem C3{n:Nat}{m:Mem}{x:T}:bp (cf (n+4)) gv .nil dw [Zz (.t x),Zy] m=.ok (kids x) m:=by
 have h:=bQ (f:=bp (cf (n+4)) gv .nil (.emit (.var 1))) (tg:=.nm 1) (env:=[Zz (.t x),Zy]) (m:=m) (g:=λy=>[y]) (kids x) (λt ht=>⟨[Zz (.t x),Zz (.t t)],rfl,by simp[bp,tests,ev,evs,cz,aF,dB]⟩);rw[cI,WU]at h;have e:ev (cf (n+4)) gv dw [Zz (.t x),Zy] m=.ok (.t (.lst (kids x))) m:=by
  have e1:ev (cf (n+4)) gv dw [Zz (.t x),Zy] m=(ev (cf (n+4)) gv (.call 13 (.cons (.var 0) .nil)) [Zz (.t x),Zy] m).bind λy m0=>(ba y m0).bind λts m =>
    (bU (bp (cf (n+4)) gv .nil (.emit (.var 1))) (.nm 1) ts [Zz (.t x),Zy] m).bind λout m=>.ok (.t (.lst out)) (giveBack y m0 m):=by
   unfold dw;rw[ev];rfl
  rw[e1];have e2:ev (cf (n+4)) gv (.call 13 (.cons (.var 0) .nil)) [Zz (.t x),Zy] m=.ok (.t (.tup (kids x))) m:=by simp[ev,evs,cz,aF,dB,uH (n:=n+2)]
  rw[e2];show(bU (bp (cf (n+4)) gv .nil (.emit (.var 1))) (.nm 1) (kids x) [Zz (.t x),Zy] m).bind _=_;rw[h];rfl
 unfold bp;simp[tests,ag,e,Be]
theorem Cp{n:Nat}{m:Mem}{l:List T}{e0 e2 e3:Option W}(hl:(l.flatMap kids).length<=lim):ev (cf (n+4)) gv pO [e0,Zz (.t (.lst l)),e2,e3] m=.ok (.t (.lst (l.flatMap kids))) m:=by
 have h:=bQ (f:=bp (cf (n+4)) gv .nil dw) (tg:=.nm 0) (env:=[Zy,Zy]) (m:=m) (g:=kids) l (λt ht=>⟨[Zz (.t t),Zy],rfl,C3⟩);exact aX (x:=.t (.lst l)) (m0:=m) rfl rfl h hl
noncomputable def lay:Nat->List T->List T
 |0,l=>l
 |k+1,l=>lay k (l.flatMap kids)
noncomputable def run:Nat->Nat->List T->Option (List T)
 |0,_,l=>Zz l
 |k+1,p,l=>if 40<p+l.length∨l.all eO=false then Zy else run k (p+l.length) (l.flatMap kids)
theorem FI(l:List T):(l.flatMap kids).length<=6*l.length:=by
 induction l with
 |nil=>simp
 |cons x l ih =>
  have:=H6 x;rw[UF,RV,RI];omega
theorem BZ(l:List T):((l.map eO).all id)=l.all eO:=by rw[U2];rfl
theorem layers{n:Nat}{m:Mem}{x:Option W}:∀(ts:List T) (l:List T) (p:Nat) (d:Option W),(∀k,∀y∈lay k l,vK y)->l.length<=lim->match run ts.length p l with
  |none=>bF (ex (cf (n+4)) gv be) (.nm 3) ts [x,Zz (.t (.lst l)),Zz (.t (.int p)),d] m=.ok (.ret (.t (.bl false))) m
  |some l'=>∃p' d',bF (ex (cf (n+4)) gv be) (.nm 3) ts [x,Zz (.t (.lst l)),Zz (.t (.int p)),d] m=.ok (.next [x,Zz (.t (.lst l')),p',d']) m
 |[],l,p,d,_,_=>⟨_,_,rfl⟩
 |t::ts,l,p,d,hf,hl=>by
  have hd:bJ (.nm 3) t [x,Zz (.t (.lst l)),Zz (.t (.int p)),d]=Zz [x,Zz (.t (.lst l)),Zz (.t (.int p)),Zz (.t t)]:=rfl;have hfo:=Au (n:=n) (m:=m) (l:=l) (e0:=x) (e2:=Zz (.t (.int ((p:Int)+l.length)))) (e3:=Zz (.t t)) (λy hy=>hf 0 y hy) hl;have ha:=ut (dY eO l);rw[BZ]at ha;have haug:∀k,ex (cf (n+4)) gv (.aug 2 .Add (.blt .len (.cons (.var 1) .nil)) k) [x,Zz (.t (.lst l)),Zz (.t (.int p)),Zz (.t t)] m=ex (cf (n+4)) gv k [x,Zz (.t (.lst l)),Zz (.t (.int ((p:Int)+l.length))),Zz (.t t)] m:=λk=>by
   rw[ex];simp[ev,evs,cz,aF,dB,Jj]
  rw[RI,run];by_cases hc:40<p+l.length∨l.all eO=false
  ·rw[Xy hc]
   show bF _ _ _ _ _=_;rw[bF,hd];show(ex (cf (n+4)) gv be [x,Zz (.t (.lst l)),Zz (.t (.int p)),Zz (.t t)] m).bind _=_;have e:ex (cf (n+4)) gv be [x,Zz (.t (.lst l)),Zz (.t (.int p)),Zz (.t t)] m=.ok (.ret (.t (.bl false))) m:=by
    unfold be;rw[haug];refine aE (m1:=m) ?_ (aj rfl);by_cases h4:40<p+l.length
    ·have h4':(40:Int)<(p:Int)+l.length:=by omega
     simp[ev,evs,cz,aF,dB,ir,h4']
    ·have h4':¬(40:Int)<(p:Int)+l.length:=by omega
     have hal:l.all eO=false:=by
      rcases hc with h|h
      ·exact Y3 h h4
      ·exact h
     rw[hal]at ha;simp[ev,evs,cz,aF,dB,ir,h4',hfo,ha]
   rw[e];rfl
  ·rw[Xz hc]
   have h4:¬40<p+l.length:=λh=>hc (.inl h)
   have hal:l.all eO=true:=by
    cases h:l.all eO with
    |true=>rfl
    |false=>exact Y3 (.inr h) hc
   have hfl:=FI l;have hl2:(l.flatMap kids).length<=lim:=by unfold lim;omega
   have hk:=Cp (n:=n) (m:=m) (e0:=x) (e2:=Zz (.t (.int ((p:Int)+l.length)))) (e3:=Zz (.t t)) hl2;have e:ex (cf (n+4)) gv be [x,Zz (.t (.lst l)),Zz (.t (.int p)),Zz (.t t)] m=.ok (.next [x,Zz (.t (.lst (l.flatMap kids))),Zz (.t (.int ((p+l.length:Nat):Int))),Zz (.t t)]) m:=by
    unfold be;rw[haug];have h4':¬(40:Int)<(p:Int)+l.length:=by omega
    rw[hal]at ha;rw[aB (m1:=m) (by simp[ev,evs,cz,aF,dB,ir,h4',hfo,ha])];rw[aq hk];rw[ex];simp
   have ih:=layers (n:=n) (m:=m) (x:=x) ts (l.flatMap kids) (p+l.length) (Zz (.t t)) (λk y hy=>hf (k+1) y hy) hl2;have step:bF (ex (cf (n+4)) gv be) (.nm 3) (t::ts) [x,Zz (.t (.lst l)),Zz (.t (.int p)),d] m=bF (ex (cf (n+4)) gv be) (.nm 3) ts [x,Zz (.t (.lst (l.flatMap kids))),Zz (.t (.int ((p+l.length:Nat):Int))),Zz (.t t)] m:=by
    rw[bF,hd];show(ex (cf (n+4)) gv be [x,Zz (.t (.lst l)),Zz (.t (.int p)),Zz (.t t)] m).bind _=_;rw[e];rfl
   rw[step];exact ih
noncomputable def d6(x:T):Bool:=match run 6 0 [x]with
 |none=>false
 |some l=>l.isEmpty
theorem sy{n:Nat}{m:Mem}{x:T}(hf:∀k,∀y∈lay k [x],vK y):cf (n+5) 15 [.t x] m=.ok (.t (.bl (d6 x))) m:=by
 have key:ex (cf (n+4)) gv iQ [Zz (.t x),Zy,Zy,Zy] m=.ok (.ret (.t (.bl (d6 x)))) m:=by
  unfold iQ;rw[aq (w:=.t (.lst [x])) (m1:=m) rfl];rw[aq (w:=.t (.int 0)) (m1:=m) rfl];simp only[RR,RS];have hit:ev (cf (n+4)) gv (.blt .di (.cons (.gl 6) .nil)) [Zz (.t x),Zz (.t (.lst [x])),Zz (.t (.int 0)),Zy] m=.ok (.t (.lst (rangeT 0 6))) m:=by
   simp[ev,evs,cz,aF,dB,zY,nK (show(6:Int)<2^62/\-(2^62)<=(6:Int) by decide)]
  have h:=layers (n:=n) (m:=m) (x:=Zz (.t x)) (rangeT 0 6) [x] 0 Zy hf (by show 1<=lim;decide);have hr:(rangeT 0 6).length=6:=rfl;rw[hr]at h;unfold d6;cases q:run 6 0 [x]with
  |none =>
   rw[q]at h;have h:bF (ex (cf (n+4)) gv be) (.nm 3) (rangeT 0 6) [Zz (.t x),Zz (.t (.lst [x])),Zz (.t (.int 0)),Zy] m=.ok (.ret (.t (.bl false))) m:=h;rw[ex,hit];show(bF (ex (cf (n+4)) gv be) (.nm 3) (rangeT 0 6) [Zz (.t x),Zz (.t (.lst [x])),Zz (.t (.int 0)),Zy] m).bind _=_;rw[h];rfl
  |some l' =>
   rw[q]at h;obtain⟨p',d',h⟩:=h;have h:bF (ex (cf (n+4)) gv be) (.nm 3) (rangeT 0 6) [Zz (.t x),Zz (.t (.lst [x])),Zz (.t (.int 0)),Zy] m=.ok (.next [Zz (.t x),Zz (.t (.lst l')),p',d']) m:=h;rw[iz hit rfl h];refine aj ?_;cases l'<;>simp[ev,evs,cz,aF,dB,giveBack];omega
 exact aC (yO _ _ _) rfl key (av (cell:=false) rfl)
noncomputable def tot:Nat->List T->Nat
 |0,_=>0
 |d+1,l=>l.length+tot d (l.flatMap kids)
theorem lT:∀(d:Nat) (a b:List T),tot d (a++b)=tot d a+tot d b
 |0,_,_=>rfl
 |d+1,a,b=>by
  rw[tot,tot,tot,List.flatMap_append,lT d,RV];omega
theorem i9:∀d:Nat,tot d []=0
 |0=>rfl
 |d+1=>by rw[tot];simpa using i9 d
theorem Bv(d:Nat):∀l:List T,tot d l=(l.map λx=>tot d [x]).sum
 |[]=>by rw[i9];rfl
 |x::l=>by rw[show x::l=[x]++l from rfl,lT,Bv d l];simp
theorem j9(d:Nat)(x:T):tot (d+1) [x]=1+tot d (kids x):=by
 rw[tot];simp
def Mc(x:T):Prop:=∀k,∀y∈lay k [x],vK y
inductive WT:Nat->T->Prop where
 |leaf {d:Nat}{t:T}:dk t=true->kids t=[]->vK t->WT (d+1) t
 |nt {d:Nat}{a:T}:WT d a->WT (d+1) (.tup [.str [110,111,116],a])
 |jn {d:Nat}{w:List Nat}{ts:List T}:(w=[97,110,100]∨w=[111,114])->2<=ts.length->ts.length<=6->(∀t∈ts,WT d t)->WT (d+1) (.tup [.str w,.tup ts])
theorem xS(a:T):kids (.tup [.str [110,111,116],a])=[a]:=by simp[kids,oneOf]
theorem Bk{w:List Nat}{ts:List T}(hw:w=[97,110,100]∨w=[111,114])(h2:2<=ts.length)(h6:ts.length<=6):kids (.tup [.str w,.tup ts])=ts:=by
 rcases hw with rfl|rfl<;>simp[kids,oneOf,iU,h2,h6]
theorem uW(w a b:List Nat):bD .In (.str w) (.tup [.str a,.str b])=Zz (a==w || b==w):=by
 have h:jL (.str w) (.tup [.str a,.str b])=Zz (a==w || b==w):=by simp[jL,flat,eqT]
 rw[<-h];cases w with
 |nil=>rfl
 |cons c r=>cases r<;>rfl
noncomputable def wl(ws:List (List Nat)):T:=.lst (ws.map .str)
noncomputable def b9(ws:List (List Nat))(i:Nat):List Nat:=(ws[i]?).getD []
theorem bO{n:Nat}{m:Mem}{ws:List (List Nat)}{k:Int}{i:Nat}(hk:k=(i:Int)):cf (n+1) 19 [.t (wl ws),.t (.int k)] m=.ok (.t (.str (b9 ws i))) m:=by
 subst hk;have key:ex (cf n) gv iG [Zz (.t (wl ws)),Zz (.t (.int i))] m=.ok (.ret (.t (.str (b9 ws i)))) m:=by
  unfold iG;have hc:ev (cf n) gv (.cmp .Lt (.var 1) (.blt .len (.cons (.var 0) .nil))) [Zz (.t (wl ws)),Zz (.t (.int i))] m=.ok (.t (.bl (decide (i<ws.length)))) m:=by
   refine(ao (aa rfl) (aA (aa rfl) (pM _)) (k9 _ _)).trans ?_;rw[R2]
   congr 3
   exact decide_eq_decide.mpr (by omega)
  by_cases h:i<ws.length
  ·rw[Y1 h]at hc
   refine aE hc (aj (aS (aa rfl) (aa rfl) ?_));show atT (ws.map T.str) (i:Int)=_;rw[r7 (by omega) (by rw[R2];omega)];simp[b9,h]
  ·rw[Y0 h]at hc
   rw[aB hc];refine aj ?_;rw[show b9 ws i=[] by simp[b9,TX (WV.mp h)]];exact ae _
 exact aC (AH _ _ _) rfl key (av (cell:=false) rfl)
theorem sx{n:Nat}{m:Mem}{ws:List (List Nat)}{k:Int}{i:Nat}(hk:k=(i:Int))(hl:(b9 ws i).length<=lim)(hw:eK (b9 ws i)=true):cf (n+2) 20 [.t (wl ws),.t (.int k)] m=.ok (.t (.str (b9 ws i))) m:=by
 have key:ex (cf (n+1)) gv er [Zz (.t (wl ws)),Zz (.t (.int k)),Zy] m=.ok (.ret (.t (.str (b9 ws i)))) m:=by
  unfold er;rw[aq ((am (aa rfl) (aa rfl)).trans (bO hk))];dsimp only[RR,RS];have hi:=lP (n:=n) (m:=m) hl;rw[hw]at hi;rw[aB (bc (k:=true) ((ap (aa rfl)).trans hi))];exact aj (aa rfl)
 exact aC (rR _ _ _) rfl key (av (cell:=false) rfl)
noncomputable def jA:List Nat:=[48,49,50,51,52,53,54,55,56,57]
noncomputable def fK(cs:List Nat):Bool:=decide (1<=cs.length)&&decide (cs.length<=10)&&(cs.all λc=>decide (c∈jA))&&(cs==[48] || cs.head? != Zz 48)
theorem EP{n:Nat}{cs:List Nat}{m:Mem}(hl:cs.length<=lim):ev (cf n) gv dr [Zz (.t (.str cs))] m=.ok (.t (.lst (cs.map λc=>.bl (decide (c∈jA))))) m:=by
 have h:=bQ (f:=bp (cf n) gv .nil fV) (tg:=.nm 0) (env:=[Zy]) (m:=m)
  (g:=λt=>match t with|.str [c]=>[.bl (decide (c∈jA))]|_=>[]) (cs.map λc=>.str [c]) (λt ht=>by
   obtain⟨c,_,rfl⟩:=Rg.mp ht;exact⟨[Zz (.t (.str [c]))],rfl,iT (cp (ao (aa rfl) (ju Am) (IF _ _)))⟩)
 have e:(cs.map λc=>T.str [c]).flatMap (λt=>match t with|.str [c]=>[T.bl (decide (c∈jA))]|_=>[])=cs.map λc=>.bl (decide (c∈jA)):=by
  clear h hl
  induction cs with
  |nil=>rfl
  |cons c cs ih=>rw[RQ,UF,ih];rfl
 rw[e]at h;have hb:ba (.t (.str cs)) m=.ok (cs.map λc=>.str [c]) m:=by simp[ba,mi,hl]
 exact aX (x:=.t (.str cs)) (m0:=m) (m1:=m) (aa rfl) hb h (by rw[R2];exact hl)
theorem jY{n:Nat}{m:Mem}{cs:List Nat}(hl:cs.length<=lim):cf (n+1) 18 [.t (.str cs)] m=.ok (.t (.bl (fK cs))) m:=by
 have key:ex (cf n) gv bY [Zz (.t (.str cs))] m=.ok (.ret (.t (.bl (fK cs)))) m:=by
  unfold bY;have ha:ev (cf n) gv (.not (.blt .all (.cons dr .nil))) [Zz (.t (.str cs))] m=.ok (.t (.bl (!(cs.all λc=>decide (c∈jA))))) m:=by
   refine(bc (aA (EP hl) (ut (dY _ _)))).trans ?_;rw[U2];rfl
  have hb:ev (cf n) gv (.zK .LtE .LtE (.con (.int 1)) (.blt .len (.cons (.var 0) .nil)) (.gl 14)) [Zz (.t (.str cs))] m=.ok (.t (.bl (decide (1<=cs.length)&&decide (cs.length<=10)))) m:=by
   rw[ev,ae,ag,aA (aa rfl) (mw hl),ag];simp only[view,SE,B8];by_cases h1:1<=cs.length
   ·rw[Y1 (show(1:Int)<=(cs.length:Int) by omega)]
    dsimp only;rw[ju qb,ag];simp only[view,SE,B8,h1,decide_true,SW,VY,bX]
    congr 3
    exact decide_eq_decide.mpr (by omega)
   ·rw[Y0 (show ¬(1:Int)<=(cs.length:Int) by omega)]
    simp[h1]
  by_cases h1:(decide (1<=cs.length)&&decide (cs.length<=10))=true
  ·rw[h1]at hb
   by_cases h2:(cs.all λc=>decide (c∈jA))=true
   ·rw[h2]at ha
    rw[aB ((bn (bc hb)).trans ha)];rw[R6]at h1;have hlen:=Y4 h1.1;have hf:fK cs=(cs==[48] || cs.head? != Zz 48):=by
     unfold fK;rw[h1.1,h1.2,h2];rfl
    rw[hf];cases cs with
    |nil=>simp at hlen
    |cons c r =>
     have e1:ev (cf n) gv (.cmp .Eq (.var 0) (.con (.str [48]))) [Zz (.t (.str (c::r)))] m=.ok (.t (.bl (c::r==[48]))) m:=ao (aa rfl) (ae _) (cu _ _);cases q:(c::r==[48])with
     |true =>
      rw[q]at e1;exact aj (dh e1)
     |false =>
      rw[q]at e1;refine aj ((bn e1).trans (ao (aS (aa rfl) (ae _) ((A8 hl _).trans (by rw[at0];rfl))) (ae _) ?_));rw[BI];simp[bne]
   ·rw[SU.mpr h2]at ha
    have hf:fK cs=false:=by unfold fK;rw[SU.mpr h2];simp
    rw[hf];exact aE ((bn (bc hb)).trans ha) (aj (ae _))
  ·rw[SU.mpr h1]at hb
   have hf:fK cs=false:=by unfold fK;rw[SU.mpr h1];simp
   rw[hf];exact aE (dh (bc hb)) (aj (ae _))
 exact aC (nU _ _ _) rfl key (av (cell:=false) rfl)
theorem u5{cs:List Nat}(h:fK cs=true):cv .int [.str cs]=Zz (.int (fL cs))/\cs.length<=lim:=by
 unfold fK at h;simp only[R6,decide_eq_true_eq,RX]at h;obtain⟨⟨⟨h1,h2⟩,h3⟩,_⟩:=h;refine⟨?_,by unfold lim;omega⟩;show(if cs≠[]/\cs.length<=600/\cs.all (λc=>decide (48<=c)&&decide (c<=57))=true then Zz (T.int (fL cs))else Zy)=_;refine Xy ⟨λz=>by subst z;simp at h1,by omega,RX.mpr λc hc=>?_⟩;have:=h3 c hc;unfold jA at this;rw[R6];refine⟨Y1 ?_,Y1 ?_⟩<;>(simp at this;omega)
theorem vU{n:Nat}{m:Mem}{ws:List (List Nat)}{k:Int}{i:Nat}(hk:k=(i:Int))(hw:fK (b9 ws i)=true):cf (n+2) 21 [.t (wl ws),.t (.int k)] m=.ok (.t (.int (fL (b9 ws i)))) m:=by
 have key:ex (cf (n+1)) gv cE [Zz (.t (wl ws)),Zz (.t (.int k)),Zy] m=.ok (.ret (.t (.int (fL (b9 ws i))))) m:=by
  unfold cE;rw[aq ((am (aa rfl) (aa rfl)).trans (bO hk))];dsimp only[RR,RS];have hi:=jY (n:=n) (m:=m) (u5 hw).2;rw[hw]at hi;rw[aB (bc (k:=true) ((ap (aa rfl)).trans hi))];exact aj (aA (aa rfl) (u5 hw).1)
 exact aC (mY _ _ _) rfl key (av (cell:=false) rfl)
inductive F2:T->List (List Nat)->Prop where
 |any:F2 (.tup [.str [97,110,121]]) [[97,110,121]]
 |two {w v:List Nat}:(w=[105,115]∨w=[98,121])->eK v=true->v.length<=lim->F2 (.tup [.str w,.str v]) [w,v]
 |three {a w v f:List Nat}:(a=[62,61]/\w=[108,101,97,115,116]∨a=[60,61]/\w=[109,111,115,116])->eK v=true->v.length<=lim->fK f=true->F2 (.tup [.str w,.str v,.int (fL f)]) [v,a,f]
theorem jX{call:Nat->List W->Mem->Res W}{gv:List T}{env:Env}{m m1:Mem}{k:S}{e:E}{i j:Nat}{x y:T}(h:ev call gv e env m=.ok (.t (.tup [x,y])) m1):ex call gv (.lK [i,j] e k) env m=ex call gv k ((env.set i (Zz (.t x))).set j (Zz (.t y))) m1:=by
 rw[ex,h];rfl
theorem Jp{call:Nat->List W->Mem->Res W}{gv:List T}{env:Env}{m m1:Mem}{e:E}{k:Nat}{x r:T}{ks:List L2.Key}{vs:List T}(h:ev call gv e env m=.ok (.t x) m1)(hk:gv[k]?=Zz (.dct ks vs))(hr:(pZ x).bind (bR ks vs)=Zz r):ev call gv (.Kk k e) env m=.ok (.t r) m1:=by
 rw[ev,h];show bX (vo gv[k]? λks vs=>(pZ x).bind (bR ks vs)) m1=_;rw[hk];show bX ((pZ x).bind (bR ks vs)) m1=_;rw[hr];rfl
theorem ET{call:Nat->List W->Mem->Res W}{gv:List T}{env:Env}{m m1:Mem}{e:E}{k:Nat}{neg b:Bool}{x:T}{ks:List L2.Key}{vs:List T}(h:ev call gv e env m=.ok (.t x) m1)(hk:gv[k]?=Zz (.dct ks vs))(hr:((pZ x).map λk=>T.bl (if neg then !(bR ks vs k).isSome else(bR ks vs k).isSome))=Zz (.bl b)):ev call gv (.Li k neg e) env m=.ok (.t (.bl b)) m1:=by
 rw[ev,h];show bX (vo gv[k]? λks vs=>(pZ x).map λk=>T.bl (if neg then !(bR ks vs k).isSome else(bR ks vs k).isSome)) m1=_;rw[hk];show bX ((pZ x).map λk=>T.bl (if neg then !(bR ks vs k).isSome else(bR ks vs k).isSome)) m1=_;rw[hr];rfl
theorem cr{call:Nat->List W->Mem->Res W}{gv:List T}{env:Env}{m:Mem}{i:Nat}{a b:Int}(h:env[i]?=Zz (Zz (.t (.int a)))):ev call gv (.bin .Add (.var i) (.con (.int b))) env m=.ok (.t (.int (a+b))) m:=aD (aa h) (ae _) (cR _ _)
noncomputable abbrev Rd:=Except Nat (T×Nat)
noncomputable def Dz(e:Nat):Exc:=⟨107,["at"],[.int (e:Int)]⟩
def Back(r:Rd)(m:Mem)(res:Res W):Prop:=match r with
 |.ok p=>res=.ok (.t (.tup [p.1,.int (p.2:Int)])) m
 |.error e=>∃x,res=.exc (Dz e) (m++x)
section
variable{call:Nat->List W->Mem->Res W}{gv:List T}{env:Env}{m m1 m2:Mem}{e a b c:E}{s s' k:S}{x:Exc}
theorem BA{i:Nat}(h:ev call gv e env m=.exc x m1):ex call gv (.asg i e k) env m=.exc x m1:=by rw[ex,h];rfl
theorem jU{is:List Nat}(h:ev call gv e env m=.exc x m1):ex call gv (.lK is e k) env m=.exc x m1:=by rw[ex,h];rfl
theorem kH(h:ev call gv e env m=.exc x m1):ex call gv (.ret e k) env m=.exc x m1:=by rw[ex,h];rfl
theorem dP(h:ev call gv e env m=.ok (.t (.bl true)) m1)(h2:ex call gv s env m1=.exc x m2):ex call gv (.bk e s s' k) env m=.exc x m2:=by
 rw[ex,h];show(ex call gv s env m1).bind _=_;rw[h2];rfl
theorem fw{cl:Nat}{nm:Xx}{t:T}(h:ev call gv e env m=.ok (.t t) m1):ex call gv (.zj cl [nm] (.cons e .nil) k) env m=.exc ⟨cl,[nm],[t]⟩ m1:=by
 rw[ex,evs,h,ag,evs,ag,ag,df,cF,ag,ag,Xz (by simp)];exact Xy rfl
theorem lL{cc:Prop}[Decidable cc]{bb:S}{kk:Nat}{cell:Bool}{X:Res W}(hX:X=if cc then(ex call gv bb env m).bind λfl m'=>fin kk cell fl m' else .stuck)(hc:cc)(key:ex call gv bb env m=.exc x m1):X=.exc x m1:=by
 rw[hX,Xy hc,key];rfl
theorem xE(h:ev call gv a env m=.exc x m1):ev call gv (.tup (.cons a (.cons b .nil))) env m=.exc x m1:=by rw[ev,evs,h];rfl
theorem EV{y:T}(h:ev call gv a env m=.ok (.t y) m1)(h2:ev call gv b env m1=.exc x m2):ev call gv (.tup (.cons a (.cons b .nil))) env m=.exc x m2:=by rw[ev,evs,h,ag,evs,h2];rfl
theorem DP{y z:T}(h:ev call gv a env m=.ok (.t y) m1)(h2:ev call gv b env m1=.ok (.t z) m2){m3:Mem}(h3:ev call gv c env m2=.exc x m3):ev call gv (.tup (.cons a (.cons b (.cons c .nil)))) env m=.exc x m3:=by rw[ev,evs,h,ag,evs,h2,ag,evs,h3];rfl
end
theorem Back.fn{r:Rd}{m:Mem}{cc:Prop}[Decidable cc]{bb:S}{env:Env}{call:Nat->List W->Mem->Res W}{gv:List T}{X:Res W}(hX:X=if cc then(ex call gv bb env m).bind λfl m'=>fin m.length false fl m' else .stuck)(hc:cc)(key:match r with
   |.ok p=>∃y,ex call gv bb env m=.ok (.ret (.t (.tup [p.1,.int (p.2:Int)]))) (m++y)
   |.error e=>∃y,ex call gv bb env m=.exc (Dz e) (m++y)):Back r m X:=by
 cases r with
 |ok p =>
  obtain⟨y,key⟩:=key;refine aC hX hc key ?_;show Res.ok _ ((m++y).take m.length)=_;rw[List.take_left]
 |error e =>
  obtain⟨y,key⟩:=key;exact⟨y,lL hX hc key⟩
theorem uz{n:Nat}{m:Mem}{ws:List (List Nat)}{k:Int}{i:Nat}(hk:k=(i:Int))(hl:(b9 ws i).length<=lim)(hw:eK (b9 ws i)=false):cf (n+2) 20 [.t (wl ws),.t (.int k)] m=.exc (Dz i) m:=by
 refine lL (rR _ _ _) rfl (show ex (cf (n+1)) gv er [Zz (.t (wl ws)),Zz (.t (.int k)),Zy] m=_ from ?_);unfold er;rw[aq ((am (aa rfl) (aa rfl)).trans (bO hk))];dsimp only[RR,RS];have hi:=lP (n:=n) (m:=m) hl;rw[hw]at hi;subst hk;exact dP (bc (k:=false) ((ap (aa rfl)).trans hi)) (fw (aa rfl))
theorem yo{n:Nat}{m:Mem}{ws:List (List Nat)}{k:Int}{i:Nat}(hk:k=(i:Int))(hl:(b9 ws i).length<=lim)(hw:fK (b9 ws i)=false):cf (n+2) 21 [.t (wl ws),.t (.int k)] m=.exc (Dz i) m:=by
 refine lL (mY _ _ _) rfl (show ex (cf (n+1)) gv cE [Zz (.t (wl ws)),Zz (.t (.int k)),Zy] m=_ from ?_);unfold cE;rw[aq ((am (aa rfl) (aa rfl)).trans (bO hk))];dsimp only[RR,RS];have hi:=jY (n:=n) (m:=m) hl;rw[hw]at hi;subst hk;exact dP (bc (k:=false) ((ap (aa rfl)).trans hi)) (fw (aa rfl))
noncomputable def signOf(w:List Nat):Option (List Nat):=if w==[62,61]then Zz [108,101,97,115,116]else if w==[60,61]then Zz [109,111,115,116]else Zy
theorem JZ(a w:List Nat):decide ((Uj ⟨a.toArray⟩:L2.Key)=.inr ⟨w.toArray⟩)=(w==a):=by
 by_cases h:w=a
 ·subst h;simp
 ·rw[Y2.mpr h]
  refine Y0 λz=>h ?_
  have z:=XD z;have:=congrArg (λs:Xx=>s.cps.toList) z;simpa using this.symm
theorem CP(w:List Nat):bR (WL (λk=>.inr ⟨k.toArray⟩) [[62,61],[60,61]]) [(.str [108,101,97,115,116]),(.str [109,111,115,116])] (.inr ⟨w.toArray⟩)=(signOf w).map .str:=by
 unfold bR signOf;simp only[RQ,TC,Ur,List.zip_nil_left,List.find?,JZ];cases w==[62,61]<;>cases w==[60,61]<;>rfl
noncomputable def eA(ws:List (List Nat))(i:Nat):Rd:=
 if b9 ws i==[97,110,121]then .ok (.tup [.str (b9 ws i)],i+1)
 else if b9 ws i==[105,115] || b9 ws i==[98,121]then(if eK (b9 ws (i+1))then .ok (.tup [.str (b9 ws i),.str (b9 ws (i+1))],i+2)else .error (i+1))
 else if eK (b9 ws i)then(match signOf (b9 ws (i+1))with
  |none=>.error (i+1)
  |some sg=>if fK (b9 ws (i+2))then .ok (.tup [.str sg,.str (b9 ws i),.int (fL (b9 ws (i+2)))],i+3)else .error (i+2))
 else .error i
def Fits(ws:List (List Nat)):Prop:=∀w∈ws,w.length<=lim
theorem Fits.at{ws:List (List Nat)}(h:Fits ws)(i:Nat):(b9 ws i).length<=lim:=by
 unfold b9;cases q:ws[i]? with
 |none=>simp[lim]
 |some w=>exact h w (SG q)
theorem nH{n:Nat}{m:Mem}{ws:List (List Nat)}{i:Nat}{b:Int}(hf:Fits ws)(hb:b=(i:Int)):Back (eA ws i) m (cf (n+3) 22 [.t (wl ws),.t (.int b)] m):=by
 refine Back.fn (te _ _ _) rfl (env:=[Zz (.t (wl ws)),Zz (.t (.int b)),Zy,Zy,Zy]) ?_;subst hb;have h0:∀k,ex (cf (n+2)) gv (.asg 2 (.call 19 (.cons (.var 0) (.cons (.var 1) .nil))) k) [Zz (.t (wl ws)),Zz (.t (.int (i:Int))),Zy,Zy,Zy] m=ex (cf (n+2)) gv k [Zz (.t (wl ws)),Zz (.t (.int (i:Int))),Zz (.t (.str (b9 ws i))),Zy,Zy] m:=λk=>by
  rw[aq ((am (aa rfl) (aa rfl)).trans (bO rfl))];rfl
 have e1:∀e3 e4,ev (cf (n+2)) gv (.cmp .Eq (.var 2) (.con (.str [97,110,121]))) [Zz (.t (wl ws)),Zz (.t (.int (i:Int))),Zz (.t (.str (b9 ws i))),e3,e4] m=.ok (.t (.bl (b9 ws i==[97,110,121]))) m:=λe3 e4=>ao (aa rfl) (ae _) (cu _ _)
 have e2:∀e3 e4,ev (cf (n+2)) gv (.cmp .In (.var 2) (.tup (.cons (.con (.str [105,115])) (.cons (.con (.str [98,121])) .nil)))) [Zz (.t (wl ws)),Zz (.t (.int (i:Int))),Zz (.t (.str (b9 ws i))),e3,e4] m=.ok (.t (.bl (b9 ws i==[105,115] || b9 ws i==[98,121]))) m:=λe3 e4 =>
  ao (aa rfl) (bf (ae _) (ae _)) (by rw[uW,Ui (a:=b9 ws i),Ui (a:=b9 ws i)])
 have p1:∀(d:Int) (j:Nat) e2 e3 e4,(i:Int)+d=(j:Int)->ev (cf (n+2)) gv (.bin .Add (.var 1) (.con (.int d))) [Zz (.t (wl ws)),Zz (.t (.int (i:Int))),e2,e3,e4] m=.ok (.t (.int (j:Int))) m:=λd j e2 e3 e4 h=>by rw[cr rfl,h]
 unfold fo;rw[h0];unfold eA;cases q1:b9 ws i==[97,110,121]with
 |true =>
  rw[Xy rfl];have e1:=e1 Zy Zy;rw[q1]at e1;refine⟨[],?_⟩;rw[Rm];exact aE e1 (aj (bf (qT (aa rfl)) (p1 1 _ _ _ _ (by omega))))
 |false =>
  rw[Xz (by simp)];have e1:=e1 Zy Zy;rw[q1]at e1;rw[aB e1];have e2:=e2 Zy Zy;cases q2:(b9 ws i==[105,115] || b9 ws i==[98,121])with
  |true =>
   rw[q2]at e2;rw[Xy rfl];cases q3:eK (b9 ws (i+1))with
   |true =>
    rw[Xy rfl];refine⟨[],?_⟩;rw[Rm];exact aE e2 (aj (bf (bf (aa rfl) ((am (aa rfl) (p1 1 (i+1) _ _ _ (by omega))).trans (sx rfl (hf.at _) q3))) (p1 2 _ _ _ _ (by omega))))
   |false =>
    rw[Xz (by simp)];refine⟨[],?_⟩;rw[Rm];exact dP e2 (kH (xE (EV (aa rfl) ((am (aa rfl) (p1 1 (i+1) _ _ _ (by omega))).trans (uz rfl (hf.at _) q3)))))
  |false =>
   rw[q2]at e2;rw[Xz (by simp),aB e2];cases q3:eK (b9 ws i)with
   |false =>
    rw[Xz (by simp)];refine⟨[],?_⟩;rw[Rm];exact BA ((am (aa rfl) (aa rfl)).trans (uz rfl (hf.at _) q3))
   |true =>
    rw[Xy rfl];rw[aq ((am (aa rfl) (aa rfl)).trans (sx rfl (hf.at _) q3))];dsimp only[RR,RS];rw[aq ((am (aa rfl) (p1 1 (i+1) _ _ _ (by omega))).trans (bO rfl))];dsimp only[RR,RS];have hl:=CP (b9 ws (i+1));cases q4:signOf (b9 ws (i+1))with
    |none =>
     rw[q4]at hl;refine⟨[],?_⟩;rw[Rm];exact dP (ET (b:=true) (aa rfl) rp (by show((Zz (Uj _)).map _)=_;rw[VY,hl];rfl)) (fw (p1 1 (i+1) _ _ _ (by omega)))
    |some sg =>
     rw[q4]at hl;rw[aB (ET (b:=false) (aa rfl) rp (by show((Zz (Uj _)).map _)=_;rw[VY,hl];rfl))];have hg:∀e2 e3,ev (cf (n+2)) gv (.Kk 16 (.var 4)) [Zz (.t (wl ws)),Zz (.t (.int (i:Int))),e2,e3,Zz (.t (.str (b9 ws (i+1))))] m=.ok (.t (.str sg)) m:=λe2 e3=>Jp (aa rfl) rp hl
     dsimp only;cases q5:fK (b9 ws (i+2))with
     |true =>
      rw[Xy rfl];refine⟨[],?_⟩;rw[Rm];exact aj (bf (gX (hg _ _) (aa rfl) ((am (aa rfl) (p1 2 (i+2) _ _ _ (by omega))).trans (vU rfl q5))) (p1 3 _ _ _ _ (by omega)))
     |false =>
      rw[Xz (by simp)];refine⟨[],?_⟩;rw[Rm];exact kH (xE (DP (hg _ _) (aa rfl) ((am (aa rfl) (p1 2 (i+2) _ _ _ (by omega))).trans (yo rfl (hf.at _) q5))))
theorem yJ{c:Env->Mem->Res Bool}{f:Env->Mem->Res Flow}{n:Nat}{env env':Env}{m m1 m2:Mem}(h1:c env m=.ok true m1)(h2:f env m1=.ok (.next env') m2):fc c f (n+1) env m=fc c f n env' m2:=by
 rw[fc,h1];show(f env m1).bind _=_;rw[h2];rfl
theorem yu{c:Env->Mem->Res Bool}{f:Env->Mem->Res Flow}{n:Nat}{env:Env}{m m1:Mem}(h1:c env m=.ok false m1):fc c f (n+1) env m=.ok (.next env) m1:=by
 rw[fc,h1];rfl
theorem vd{m:Mem}{ts:List T}{t:T}(hl:ts.length<lim):ri .append (.c m.length) [.t t] (m++[Zz (false,ts)])=.ok (.t .non) (m++[Zz (false,ts++[t])]):=by
 have hg:(m++[Zz (false,ts)])[m.length]?=Zz (Zz (false,ts)):=by rw[Ru (RU _),UX];rfl
 unfold ri;dsimp only;rw[df,cF,ag,ag,hg];dsimp only;unfold rO;dsimp only;rw[Xy hl];dsimp only;rw[UB _ _ (RU _),UX];rfl
theorem sR{m:Mem}{c:Option (Bool×List T)}:(m++[c])[m.length]?=Zz c:=by rw[Ru (RU _),UX];rfl
theorem Jk{call:Nat->List W->Mem->Res W}{gv:List T}{env:Env}{m:Mem}{i j:Nat}{ts:List T}{t:T}(hi:env[i]?=Zz (Zz (.c m.length)))(hj:env[j]?=Zz (Zz (.t t)))(hl:ts.length<lim):ev call gv (.cS .append (.var i) (.cons (.var j) .nil)) env (m++[Zz (false,ts)])=.ok (.t .non) (m++[Zz (false,ts++[t])]):=by
 rw[ev,aa hi,ag];rw[show oY .append (.c m.length) (m++[Zz (false,ts)])=true by unfold oY;dsimp only;rw[sR]];rw[Xy rfl,evs,aa hj,ag,evs,ag,ag];exact vd hl
theorem eI{call:Nat->List W->Mem->Res W}{gv:List T}{env:Env}{m m1 m2 m3 m4:Mem}{f:Nat}{a b c d:E}{w w1 w2 w3:W}(h1:ev call gv a env m=.ok w m1)(h2:ev call gv b env m1=.ok w1 m2)(h3:ev call gv c env m2=.ok w2 m3)(h4:ev call gv d env m3=.ok w3 m4):ev call gv (.call f (.cons a (.cons b (.cons c (.cons d .nil))))) env m=call f [w,w1,w2,w3] m4:=by
 simp only[ev,evs,h1,h2,h3,h4,ag]
section
variable{N:Nat}{s:List Nat}{rest:List T}{P:T->List (List Nat)->Prop}{I:List Nat->Prop}{wi:Int}
def Reads(N:Nat)(rest:List T)(wi:Int)(P:T->List (List Nat)->Prop)(I:List Nat->Prop):Prop:=
 ∀(m:Mem) (t:T) (pre mid post:List (List Nat)) (b:Int),P t mid->mid.length<900000->I (b9 post 0)->b=(pre.length:Int)->cf N 24 [.t (wl (pre++mid++post)),.t (.int b),.t (.int wi),.t (.tup rest)] m=.ok (.t (.tup [t,.int ((pre.length+mid.length:Nat):Int)])) m
theorem jg(s:List Nat)(rest:List T):GM (.tup (.str s::rest)) (Zz 1) Zy=Zz (.tup rest):=by
 show Zz (T.tup (cut (T.str s::rest) (Zz 1) Zy))=_;simp only[cut,aT,RI];rw[Xz (by decide),show min (1:Int).toNat (rest.length+1)=1 by simp];simp
theorem xX{call:Nat->List W->Mem->Res W}{gv:List T}{env:Env}{m:Mem}{i:Nat}{ts:List T}{bb:B}{r:T}(hi:env[i]?=Zz (Zz (.c m.length)))(hr:cv bb [.lst ts]=Zz r):ev call gv (.blt bb (.cons (.var i) .nil)) env (m++[Zz (false,ts)])=.ok (.t r) (m++[Zz (false,ts)]):=
 F1 (al (aa hi) aM) (show views [.c m.length] (m++[Zz (false,ts)])=Zz [.lst ts] by unfold views views view;dsimp only;rw[sR];rfl) hr
end
noncomputable def JN:List T:=[.str [111,114],.str [97,110,100]]
theorem uK(w a b:List Nat):bD .NotIn (.str w) (.tup [.str a,.str b])=Zz (!(a==w || b==w)):=by
 show(A4 (.str w) (.tup [.str a,.str b])).map (!·)=_;rw[show A4 (.str w) (.tup [.str a,.str b])=Zz (a==w || b==w)from uW w a b];rfl
noncomputable def gh(s:List Nat)(f:Nat->Rd)(ws:List (List Nat)):Nat->List T->Nat->Except Nat (List T×Nat)
 |0,acc,b=>.ok (acc,b)
 |n+1,acc,b=>if b9 ws b==s then(match f (b+1)with
  |.error e=>.error e
  |.ok p=>gh s f ws n (acc++[p.1]) p.2)else .ok (acc,b)
noncomputable def EQ(s:List Nat):List T->T
 |[t]=>t
 |acc=>.tup [.str s,.tup acc]
noncomputable def dQ(s:List Nat)(f:Nat->Rd)(ws:List (List Nat))(i:Nat):Rd:=match f i with
 |.error e=>.error e
 |.ok p=>match gh s f ws ws.length [p.1] p.2 with
  |.error e=>.error e
  |.ok q=>.ok (EQ s q.1,q.2)
noncomputable def gL:Nat->List (List Nat)->Nat->Rd
 |0,ws,i=>if b9 ws i==[110,111,116] || b9 ws i==[40]then .error i else eA ws i
 |k+1,ws,i=>if b9 ws i==[110,111,116] || b9 ws i==[40]then
   (if b9 ws i==[110,111,116]then(match gL k ws (i+1)with
    |.error e=>.error e
    |.ok p=>.ok (.tup [.str [110,111,116],p.1],p.2))
   else(match dQ [111,114] (dQ [97,110,100] (gL k ws) ws) ws (i+1)with
    |.error e=>.error e
    |.ok p=>if b9 ws p.2==[41]then .ok (p.1,p.2+1)else .error p.2))
  else eA ws i
noncomputable abbrev Ks(k:Nat)(ws:List (List Nat)):Nat->Rd:=dQ [97,110,100] (gL k ws) ws
noncomputable abbrev J5(k:Nat)(ws:List (List Nat)):Nat->Rd:=dQ [111,114] (Ks k ws) ws
def It(f:Nat->Rd):Prop:=∀i p,f i=.ok p->i<p.2
theorem uR(ws:List (List Nat)):It (eA ws):=by
 intro i p h;unfold eA at h;split at h
 ·cases h;exact Ts _
 ·split at h
  ·split at h
   ·cases h;show i<i+2;omega
   ·cases h
  ·split at h
   ·split at h
    ·cases h
    ·split at h
     ·cases h;show i<i+3;omega
     ·cases h
   ·cases h
theorem Gc{s:List Nat}{f:Nat->Rd}{ws:List (List Nat)}(hf:It f):∀(n:Nat) (acc:List T) (b:Nat) (q:List T×Nat),gh s f ws n acc b=.ok q->b<=q.2:=by
 intro n
 induction n with
 |zero=>intro acc b q h;cases h;exact RU _
 |succ n ih =>
  intro acc b q h;rw[gh]at h;split at h
  ·split at h
   ·cases h
   ·rename_i p hp
    have h1:=hf _ _ hp;have h2:=ih _ _ _ h;omega
  ·cases h;exact RU _
theorem rg{s:List Nat}{f:Nat->Rd}{ws:List (List Nat)}(hf:It f):It (dQ s f ws):=by
 intro i p h;unfold dQ at h;split at h
 ·cases h
 ·rename_i p1 h1
  split at h
  ·cases h
  ·rename_i q h2
   cases h;have:=hf _ _ h1;have:=Gc hf _ _ _ _ h2;show i<q.2;omega
theorem BW(ws:List (List Nat)):∀k,It (gL k ws):=by
 intro k
 induction k with
 |zero =>
  intro i p h;rw[gL]at h;split at h
  ·cases h
  ·exact uR ws i p h
 |succ k ih =>
  intro i p h;rw[gL]at h;split at h
  ·split at h
   ·split at h
    ·cases h
    ·rename_i p1 h1
     cases h;have:=ih _ _ h1;show i<p1.2;omega
   ·split at h
    ·cases h
    ·rename_i p1 h1
     split at h
     ·cases h
      have:=rg (rg ih) _ _ h1;show i<p1.2+1;omega
     ·cases h
  ·exact uR ws i p h
section
variable{N:Nat}{s:List Nat}{rest:List T}{wi:Int}{ws:List (List Nat)}{f:Nat->Rd}
def RJ(N:Nat)(rest:List T)(wi:Int)(ws:List (List Nat))(f:Nat->Rd):Prop:=
 ∀(m:Mem) (i:Nat) (b:Int),b=(i:Int)->Back (f i) m (cf N 24 [.t (wl ws),.t (.int b),.t (.int wi),.t (.tup rest)] m)
def RO(N:Nat)(wi:Int)(ws:List (List Nat))(f:Nat->Rd):Prop:=
 ∀(m:Mem) (i:Nat) (b:Int),b=(i:Int)->Back (f i) m (cf N 23 [.t (wl ws),.t (.int b),.t (.int wi)] m)
theorem Ir{i:Nat}(h:ws.length<=i):b9 ws i=[]:=by simp[b9,TX h]
theorem JD(R:RJ (N+1) rest wi ws f)(hf:It f)(hs:s≠[]){e1:Option W}{m:Mem}:∀(n fu:Nat) (acc:List T) (t:T) (b:Nat),acc.getLast?=Zz t->ws.length<=n+b->n<fu->acc.length+n<1000000 ->
  match gh s f ws n acc b with
  |.ok q=>∃t',q.1.getLast?=Zz t'/\q.1≠[]/\fc (λenv m=>(ev (cf (N+1)) gv (.cmp .Eq (.call 19 (.cons (.var 0) (.cons (.var 5) .nil))) (.ix (.var 3) (.con (.int 0)))) env m).bind bT) (λenv m=>ex (cf (N+1)) gv bo env m) fu
    [Zz (.t (wl ws)),e1,Zz (.t (.int wi)),Zz (.t (.tup (.str s::rest))),Zz (.t t),Zz (.t (.int (b:Int))),Zz (.c m.length)] (m++[Zz (false,acc)]) =
    .ok (.next [Zz (.t (wl ws)),e1,Zz (.t (.int wi)),Zz (.t (.tup (.str s::rest))),Zz (.t t'),Zz (.t (.int (q.2:Int))),Zz (.c m.length)]) (m++[Zz (false,q.1)])
  |.error e=>∃x,fc (λenv m=>(ev (cf (N+1)) gv (.cmp .Eq (.call 19 (.cons (.var 0) (.cons (.var 5) .nil))) (.ix (.var 3) (.con (.int 0)))) env m).bind bT) (λenv m=>ex (cf (N+1)) gv bo env m) fu
    [Zz (.t (wl ws)),e1,Zz (.t (.int wi)),Zz (.t (.tup (.str s::rest))),Zz (.t t),Zz (.t (.int (b:Int))),Zz (.c m.length)] (m++[Zz (false,acc)])=.exc (Dz e) (m++x):=by
 have cond:∀{b:Nat}{t:T}{ts:List T},(ev (cf (N+1)) gv (.cmp .Eq (.call 19 (.cons (.var 0) (.cons (.var 5) .nil))) (.ix (.var 3) (.con (.int 0)))) [Zz (.t (wl ws)),e1,Zz (.t (.int wi)),Zz (.t (.tup (.str s::rest))),Zz (.t t),Zz (.t (.int (b:Int))),Zz (.c m.length)] (m++[Zz (false,ts)])).bind bT=.ok (b9 ws b==s) (m++[Zz (false,ts)]):=λ{b t ts}=>by
  have h0:rn (.tup (.str s::rest)) (.int 0)=Zz (.str s):=at0 _ _;rw[ao ((am (aa rfl) (aa rfl)).trans (bO rfl)) (aS (aa rfl) (ae _) h0) (cu _ _)];rfl
 have ne:∀{acc:List T}{t:T},acc.getLast?=Zz t->acc≠[]:=λ{acc t} h z=>by rw[z]at h;cases h
 intro n
 induction n with
 |zero =>
  intro fu acc t b ht hb hfu hl;obtain⟨fu,rfl⟩:∃g,fu=g+1:=⟨fu-1,by omega⟩
  have hw:(b9 ws b==s)=false:=by
   rw[Ir (by omega)];exact Y2.mpr (Tj hs)
  have c1:=cond (b:=b) (t:=t) (ts:=acc);rw[hw]at c1;exact⟨t,ht,ne ht,yu c1⟩
 |succ n ih =>
  intro fu acc t b ht hb hfu hl;obtain⟨fu,rfl⟩:∃g,fu=g+1:=⟨fu-1,by omega⟩
  rw[gh];have c1:=cond (b:=b) (t:=t) (ts:=acc);cases hw:b9 ws b==s with
  |false =>
   rw[hw]at c1;rw[Xz (by simp)];exact⟨t,ht,ne ht,yu c1⟩
  |true =>
   rw[hw]at c1;rw[Xy rfl];have hr:=R (m++[Zz (false,acc)]) (b+1) ((b:Int)+1) (by omega);cases hq:f (b+1)with
   |error e =>
    rw[hq]at hr;obtain⟨x,hr⟩:=hr;refine⟨[Zz (false,acc)]++x,?_⟩;rw[fc,c1];show(ex (cf (N+1)) gv bo _ _).bind _=_;rw[show ex (cf (N+1)) gv bo [Zz (.t (wl ws)),e1,Zz (.t (.int wi)),Zz (.t (.tup (.str s::rest))),Zz (.t t),Zz (.t (.int (b:Int))),Zz (.c m.length)] (m++[Zz (false,acc)])=.exc (Dz e) (m++[Zz (false,acc)]++x) by
     unfold bo;exact jU ((eI (aa rfl) (cr rfl) (aa rfl) (qA (aa rfl) (ae _) (jg s rest))).trans hr)]
    rw[Sg];rfl
   |ok p =>
    rw[hq]at hr;have hr:_=_:=hr;have hadv:=hf _ _ hq;have hbody:ex (cf (N+1)) gv bo [Zz (.t (wl ws)),e1,Zz (.t (.int wi)),Zz (.t (.tup (.str s::rest))),Zz (.t t),Zz (.t (.int (b:Int))),Zz (.c m.length)] (m++[Zz (false,acc)]) =
      .ok (.next [Zz (.t (wl ws)),e1,Zz (.t (.int wi)),Zz (.t (.tup (.str s::rest))),Zz (.t p.1),Zz (.t (.int (p.2:Int))),Zz (.c m.length)]) (m++[Zz (false,acc++[p.1])]):=by
     unfold bo;rw[jX ((eI (aa rfl) (cr rfl) (aa rfl) (qA (aa rfl) (ae _) (jg s rest))).trans hr)];dsimp only[RR,RS];rw[kb (Jk rfl rfl (by unfold lim;omega)),ex]
    have h2:=ih fu (acc++[p.1]) p.1 p.2 (by simp) (by omega) (by omega) (by rw[RV,VB];omega);show match gh s f ws n (acc++[p.1]) p.2 with
     |.ok q=>_
     |.error e=>_
    cases hl2:gh s f ws n (acc++[p.1]) p.2 with
    |ok q =>
     rw[hl2]at h2;obtain⟨t',h3,h4,h5⟩:=h2;exact⟨t',h3,h4,(yJ c1 hbody).trans h5⟩
    |error e =>
     rw[hl2]at h2;obtain⟨x,h5⟩:=h2;exact⟨x,(yJ c1 hbody).trans h5⟩
theorem DZ(R:RJ (N+1) rest wi ws f)(hf:It f)(hs:s≠[])(hl:ws.length<900000):RJ (N+2) (.str s::rest) wi ws (dQ s f ws):=by
 intro m i b hb;refine Back.fn (j6 _ _ _) rfl (env:=[Zz (.t (wl ws)),Zz (.t (.int b)),Zz (.t (.int wi)),Zz (.t (.tup (.str s::rest))),Zy,Zy,Zy]) ?_;have hr:=R m i b hb;have h0:∀k,ex (cf (N+1)) gv (.bk (.cmp .Eq (.blt .len (.cons (.var 3) .nil)) (.con (.int 0))) (.ret (.call 23 (.cons (.var 0) (.cons (.var 1) (.cons (.var 2) .nil)))) .done) .done k) [Zz (.t (wl ws)),Zz (.t (.int b)),Zz (.t (.int wi)),Zz (.t (.tup (.str s::rest))),Zy,Zy,Zy] m=ex (cf (N+1)) gv k [Zz (.t (wl ws)),Zz (.t (.int b)),Zz (.t (.int wi)),Zz (.t (.tup (.str s::rest))),Zy,Zy,Zy] m:=λk =>
  aB (m1:=m) (ao (k:=false) (aA (aa rfl) (A9 _)) (ae _) (by rw[dy];simp;omega))
 unfold cU;rw[h0];unfold dQ;cases hq:f i with
 |error e =>
  rw[hq]at hr;obtain⟨x,hr⟩:=hr;exact⟨x,jU ((eI (aa rfl) (aa rfl) (aa rfl) (qA (aa rfl) (ae _) (jg s rest))).trans hr)⟩
 |ok p =>
  rw[hq]at hr;have hr:_=_:=hr;rw[jX ((eI (aa rfl) (aa rfl) (aa rfl) (qA (aa rfl) (ae _) (jg s rest))).trans hr)];dsimp only[RR,RS];rw[aq (show ev (cf (N+1)) gv (.sZ (.cons (.var 4) .nil)) _ m=.ok (.c m.length) (m++[Zz (false,[p.1])]) by rw[ev,al (aa rfl) aM,ag,df,cF,ag,ag,Xy (by simp[lim])])];dsimp only[RR,RS];have hlp:=JD (e1:=Zz (.t (.int b))) (m:=m) R hf hs ws.length turns [p.1] p.1 p.2 rfl (by omega) (by unfold turns;omega) (by simp;omega);rw[ex];cases hq2:gh s f ws ws.length [p.1] p.2 with
  |error e =>
   rw[hq2]at hlp;obtain⟨x,hlp⟩:=hlp;exact⟨x,by rw[hlp];rfl⟩
  |ok q =>
   rw[hq2]at hlp;obtain⟨t',h1,h2,hlp⟩:=hlp;refine⟨[Zz (false,q.1)],?_⟩;rw[hlp,ag];dsimp only;have hc:ev (cf (N+1)) gv (.cmp .Eq (.blt .len (.cons (.var 6) .nil)) (.con (.int 1))) [Zz (.t (wl ws)),Zz (.t (.int b)),Zz (.t (.int wi)),Zz (.t (.tup (.str s::rest))),Zz (.t t'),Zz (.t (.int (q.2:Int))),Zz (.c m.length)] (m++[Zz (false,q.1)])=.ok (.t (.bl ((q.1.length:Int)==1))) (m++[Zz (false,q.1)]):=
    ao (xX rfl (pM _)) (ae _) (dy _ _)
   have many:q.1.length≠1->ex (cf (N+1)) gv (.bk (.cmp .Eq (.blt .len (.cons (.var 6) .nil)) (.con (.int 1))) (.ret (.tup (.cons (.var 4) (.cons (.var 5) .nil))) .done) .done (.ret (.tup (.cons (.tup (.cons (.ix (.var 3) (.con (.int 0))) (.cons (.blt .tuple (.cons (.var 6) .nil)) .nil))) (.cons (.var 5) .nil))) .done)) [Zz (.t (wl ws)),Zz (.t (.int b)),Zz (.t (.int wi)),Zz (.t (.tup (.str s::rest))),Zz (.t t'),Zz (.t (.int (q.2:Int))),Zz (.c m.length)] (m++[Zz (false,q.1)])=.ok (.ret (.t (.tup [.tup [.str s,.tup q.1],.int (q.2:Int)]))) (m++[Zz (false,q.1)]):=λhn=>by
    rw[show((q.1.length:Int)==1)=false from by rw[Y2];omega]at hc;rw[aB hc];have h0:rn (.tup (.str s::rest)) (.int 0)=Zz (.str s):=at0 _ _;exact aj (bf (bf (aS (aa rfl) (ae _) h0) (xX rfl (ij _))) (aa rfl))
   obtain⟨ac,bb⟩:=q;dsimp only at *
   match ac,h1,h2 with
   |[],h1,h2=>exact Y3 rfl h2
   |[x],h1,h2 =>
    cases h1;exact aE hc (aj (bf (aa rfl) (aa rfl)))
   |x::y::r,h1,h2=>exact many (by simp)
theorem Jl(R:RO N wi ws f):RJ (N+1) [] wi ws f:=by
 intro m i b hb;refine Back.fn (j6 _ _ _) rfl (env:=[Zz (.t (wl ws)),Zz (.t (.int b)),Zz (.t (.int wi)),Zz (.t (.tup [])),Zy,Zy,Zy]) ?_;have hr:=R m i b hb;have hc:ev (cf N) gv (.cmp .Eq (.blt .len (.cons (.var 3) .nil)) (.con (.int 0))) [Zz (.t (wl ws)),Zz (.t (.int b)),Zz (.t (.int wi)),Zz (.t (.tup [])),Zy,Zy,Zy] m=.ok (.t (.bl true)) m:=ao (k:=true) (aA (aa rfl) (A9 _)) (ae _) rfl;unfold cU;cases hq:f i with
 |error e =>
  rw[hq]at hr;obtain⟨x,hr⟩:=hr;exact⟨x,dP hc (kH ((eS (aa rfl) (aa rfl) (aa rfl)).trans hr))⟩
 |ok p =>
  rw[hq]at hr;have hr:_=_:=hr;exact⟨[],by rw[Rm];exact aE hc (aj ((eS (aa rfl) (aa rfl) (aa rfl)).trans hr))⟩
theorem Kf(R:RO N wi ws f)(hf:It f)(hl:ws.length<900000):RJ (N+3) JN wi ws (dQ [111,114] (dQ [97,110,100] f ws) ws):=
 DZ (DZ (Jl R) hf (by simp) hl) (rg hf) (by simp) hl
end
section
variable{ws:List (List Nat)}
theorem Ky(hF:Fits ws)(hl:ws.length<900000):∀(k n:Nat) (wi:Int),0<=wi->wi+k=12->RO (n+4*k+4) wi ws (gL k ws):=by
 intro k
 induction k with
 |zero =>
  intro n wi h0 h1 m i b hb;refine Back.fn (pH _ _ _) rfl (env:=[Zz (.t (wl ws)),Zz (.t (.int b)),Zz (.t (.int wi)),Zy,Zy,Zy]) ?_;have hp:=nH (n:=n) (m:=m) hF hb;have hc:ev (cf (n+3)) gv (.cmp .NotIn (.var 3) (.tup (.cons (.con (.str [110,111,116])) (.cons (.con (.str [40])) .nil)))) [Zz (.t (wl ws)),Zz (.t (.int b)),Zz (.t (.int wi)),Zz (.t (.str (b9 ws i))),Zy,Zy] m=.ok (.t (.bl (!(b9 ws i==[110,111,116] || b9 ws i==[40])))) m:=
   ao (aa rfl) (bf (ae _) (ae _)) (by rw[uK,Ui (a:=b9 ws i),Ui (a:=b9 ws i)])
  unfold f9;rw[aq ((am (aa rfl) (aa rfl)).trans (bO hb))];dsimp only[RR,RS];rw[gL];cases q:(b9 ws i==[110,111,116] || b9 ws i==[40])with
  |true =>
   rw[q]at hc;rw[Xy rfl,aB hc];refine⟨[],?_⟩;rw[Rm];subst hb;exact dP (m1:=m) (ao (k:=true) (aa rfl) (ju jK) (by rw[dy];simp;omega)) (fw (aa rfl))
  |false =>
   rw[q]at hc;rw[Xz (by simp)];cases hq:eA ws i with
   |error e =>
    rw[hq]at hp;obtain⟨x,hp⟩:=hp;exact⟨x,dP hc (kH ((am (aa rfl) (aa rfl)).trans hp))⟩
   |ok p =>
    rw[hq]at hp;have hp:_=_:=hp;exact⟨[],by rw[Rm];exact aE hc (aj ((am (aa rfl) (aa rfl)).trans hp))⟩
 |succ k ih =>
  intro n wi h0 h1 m i b hb;refine Back.fn (pH _ _ _) rfl (env:=[Zz (.t (wl ws)),Zz (.t (.int b)),Zz (.t (.int wi)),Zy,Zy,Zy]) ?_;have hp:=nH (n:=n+4*(k+1)) (m:=m) hF hb;have hc:ev (cf (n+4*(k+1)+3)) gv (.cmp .NotIn (.var 3) (.tup (.cons (.con (.str [110,111,116])) (.cons (.con (.str [40])) .nil)))) [Zz (.t (wl ws)),Zz (.t (.int b)),Zz (.t (.int wi)),Zz (.t (.str (b9 ws i))),Zy,Zy] m=.ok (.t (.bl (!(b9 ws i==[110,111,116] || b9 ws i==[40])))) m:=
   ao (aa rfl) (bf (ae _) (ae _)) (by rw[uK,Ui (a:=b9 ws i),Ui (a:=b9 ws i)])
  have hwi:(wi==12)=false:=by rw[Y2];omega
  unfold f9;rw[aq ((am (aa rfl) (aa rfl)).trans (bO hb))];dsimp only[RR,RS];rw[gL];cases q:(b9 ws i==[110,111,116] || b9 ws i==[40])with
  |false =>
   rw[q]at hc;rw[Xz (by simp)];cases hq:eA ws i with
   |error e =>
    rw[hq]at hp;obtain⟨x,hp⟩:=hp;exact⟨x,dP hc (kH ((am (aa rfl) (aa rfl)).trans hp))⟩
   |ok p =>
    rw[hq]at hp;have hp:_=_:=hp;exact⟨[],by rw[Rm];exact aE hc (aj ((am (aa rfl) (aa rfl)).trans hp))⟩
  |true =>
   rw[q]at hc;rw[Xy rfl,aB hc];rw[aB (m1:=m) (ao (k:=false) (aa rfl) (ju jK) (by rw[dy,hwi]))];have hn:ev (cf (n+4*(k+1)+3)) gv (.cmp .Eq (.var 3) (.con (.str [110,111,116]))) [Zz (.t (wl ws)),Zz (.t (.int b)),Zz (.t (.int wi)),Zz (.t (.str (b9 ws i))),Zy,Zy] m=.ok (.t (.bl (b9 ws i==[110,111,116]))) m:=ao (aa rfl) (ae _) (cu _ _);cases q2:(b9 ws i==[110,111,116])with
   |true =>
    rw[q2]at hn;rw[Xy rfl];have hr:=ih (n+3) (wi+1) (by omega) (by omega) m (i+1) (b+1) (by omega);have e0:n+4*(k+1)+3=n+3+4*k+4:=by omega
    rw[e0]at hn ⊢;cases hq:gL k ws (i+1)with
    |error e =>
     rw[hq]at hr;obtain⟨x,hr⟩:=hr;exact⟨x,dP hn (jU ((eS (aa rfl) (cr rfl) (cr rfl)).trans hr))⟩
    |ok p =>
     rw[hq]at hr;have hr:_=_:=hr;refine⟨[],?_⟩;rw[Rm];refine aE hn ?_;rw[jX ((eS (aa rfl) (cr rfl) (cr rfl)).trans hr)];dsimp only[RR,RS];exact aj (bf (bf (ae _) (aa rfl)) (aa rfl))
   |false =>
    rw[q2]at hn;rw[Xz (by simp),aB hn];have hr:=Kf (ih n (wi+1) (by omega) (by omega)) (BW ws k) hl m (i+1) (b+1) (by omega);have e0:n+4*(k+1)+3=n+4*k+4+3:=by omega
    rw[e0];cases hq:dQ [111,114] (dQ [97,110,100] (gL k ws) ws) ws (i+1)with
    |error e =>
     rw[hq]at hr;obtain⟨x,hr⟩:=hr;exact⟨x,jU ((eI (aa rfl) (cr rfl) (cr rfl) (ju oo)).trans hr)⟩
    |ok p =>
     rw[hq]at hr;have hr:_=_:=hr;rw[jX ((eI (aa rfl) (cr rfl) (cr rfl) (ju oo)).trans hr)];dsimp only[RR,RS];have h3:ev (cf (n+4*k+4+3)) gv (.cmp .NotEq (.call 19 (.cons (.var 0) (.cons (.var 5) .nil))) (.con (.str [41]))) [Zz (.t (wl ws)),Zz (.t (.int b)),Zz (.t (.int wi)),Zz (.t (.str (b9 ws i))),Zz (.t p.1),Zz (.t (.int (p.2:Int)))] m=.ok (.t (.bl (!(b9 ws p.2==[41])))) m:=ao ((am (aa rfl) (aa rfl)).trans (bO rfl)) (ae _) (BI _ _);cases q3:(b9 ws p.2==[41])with
     |true =>
      rw[q3]at h3;rw[Xy rfl];refine⟨[],?_⟩;rw[Rm,aB h3];refine(aj (bf (aa rfl) (cr rfl))).trans ?_
      congr 6
     |false =>
      rw[q3]at h3;rw[Xz (by simp)];refine⟨[],?_⟩;rw[Rm];exact dP h3 (fw (aa rfl))
end
inductive fR:T->Prop where
 |str {cs:List Nat}:cs.length<=lim->fR (.str cs)
 |int (i:Int):fR (.int i)
 |tup {ts:List T}:(∀t∈ts,fR t)->fR (.tup ts)
theorem fR.one{x:T}(h:fR x):vK x:=by
 cases h with
 |str _=>exact Uq
 |int _=>exact Uq
 |tup h =>
  intro t ht cs e;have:=h t ht;rw[e]at this;cases this with
  |str h=>exact h
theorem fR.kids{x:T}(h:fR x):∀y∈kids x,fR y:=by
 intro y hy;unfold My.kids at hy;split at hy
 ·rename_i a b
  cases h with
  |tup h =>
   have hb:=h b (by simp);split at hy
   ·simp at hy;subst hy;exact hb
   ·split at hy
    ·cases hb with
     |tup h2=>exact h2 y hy
     |str _=>cases hy
     |int _=>cases hy
    ·cases hy
 ·cases hy
theorem fR.lay:∀(k:Nat) (l:List T),(∀y∈l,fR y)->∀y∈lay k l,fR y
 |0,l,h=>h
 |k+1,l,h=>fR.lay k (l.flatMap My.kids) λy hy=>by
  obtain⟨x,hx,hy⟩:=VI.mp hy;exact(h x hx).kids y hy
def Good(f:Nat->Rd):Prop:=∀i p,f i=.ok p->fR p.1
theorem rk{ws:List (List Nat)}(hF:Fits ws):Good (eA ws):=by
 intro i p h;have two:∀{a b:T},fR a->fR b->fR (.tup [a,b]):=λha hb=>.tup λt ht=>by
  simp at ht;rcases ht with rfl|rfl
  ·exact ha
  ·exact hb
 unfold eA at h;split at h
 ·cases h
  exact .tup λt ht=>by simp at ht;subst ht;exact .str (hF.at _)
 ·split at h
  ·split at h
   ·cases h
    exact two (.str (hF.at _)) (.str (hF.at _))
   ·cases h
  ·split at h
   ·split at h
    ·cases h
    ·rename_i sg hsg
     split at h
     ·cases h
      refine .tup λt ht=>?_
      simp at ht;rcases ht with rfl|rfl|rfl
      ·refine .str ?_
       unfold signOf at hsg;split at hsg
       ·cases hsg;decide
       ·split at hsg
        ·cases hsg;decide
        ·cases hsg
      ·exact .str (hF.at _)
      ·exact .int _
     ·cases h
   ·cases h
theorem C1{s:List Nat}{f:Nat->Rd}{ws:List (List Nat)}(hf:Good f):∀(n:Nat) (acc:List T) (b:Nat) (q:List T×Nat),(∀t∈acc,fR t)->gh s f ws n acc b=.ok q->∀t∈q.1,fR t:=by
 intro n
 induction n with
 |zero=>intro acc b q ha h;cases h;exact ha
 |succ n ih =>
  intro acc b q ha h;rw[gh]at h;split at h
  ·split at h
   ·cases h
   ·rename_i p hp
    refine ih _ _ _ (λt ht=>?_) h;rcases SP.mp ht with ht|ht
    ·exact ha t ht
    ·simp at ht;subst ht;exact hf _ _ hp
  ·cases h;exact ha
theorem fO{s:List Nat}{f:Nat->Rd}{ws:List (List Nat)}(hs:s.length<=lim)(hf:Good f):Good (dQ s f ws):=by
 intro i p h;unfold dQ at h;split at h
 ·cases h
 ·rename_i p1 h1
  split at h
  ·cases h
  ·rename_i q h2
   cases h;have:=C1 hf _ _ _ _ (λt ht=>by simp at ht;subst ht;exact hf _ _ h1) h2;show fR (EQ s q.1);unfold EQ;split
   ·rename_i t e;exact this t (by rw[e];simp)
   ·refine .tup λt ht=>?_
    simp at ht;rcases ht with rfl|rfl
    ·exact .str hs
    ·exact .tup this
theorem yh{ws:List (List Nat)}(hF:Fits ws):∀k,Good (gL k ws):=by
 intro k
 induction k with
 |zero =>
  intro i p h;rw[gL]at h;split at h
  ·cases h
  ·exact rk hF i p h
 |succ k ih =>
  intro i p h;rw[gL]at h;split at h
  ·split at h
   ·split at h
    ·cases h
    ·rename_i p1 h1
     cases h;refine .tup λt ht=>?_
     simp at ht;rcases ht with rfl|rfl
     ·exact .str (by decide)
     ·exact ih _ _ h1
   ·split at h
    ·cases h
    ·rename_i p1 h1
     split at h
     ·cases h
      exact fO (s:=[111,114]) (by decide) (fO (s:=[97,110,100]) (by decide) ih) _ p1 h1
     ·cases h
  ·exact rk hF i p h
noncomputable def oW(ws:List (List Nat)):Except Nat T:=match J5 12 ws 0 with
 |.error e=>.error e
 |.ok p=>if decide (p.2<ws.length) || !d6 p.1 then .error p.2 else .ok p.1
theorem split_len(c:Nat):∀cs:List Nat,(az c cs).length<=cs.length+1/\∀w∈az c cs,w.length<=cs.length
 |[]=>by rw[az];simp
 |a::r=>by
  obtain⟨h1,h2⟩:=split_len c r;rw[az];split
  ·refine⟨by simp;omega,λw hw=>?_⟩
   rcases R7.mp hw with rfl|hw
   ·simp
   ·have:=h2 w hw;simp;omega
  ·split
   ·rename_i x xs e
    rw[e]at h1 h2;refine⟨by simp at h1 ⊢;omega,λw hw=>?_⟩;rcases R7.mp hw with rfl|hw
    ·have:=h2 x (by simp);simp;omega
    ·have:=h2 w (R5 _ hw);simp;omega
   ·exact⟨by simp,λw hw=>by simp at hw;subst hw;simp⟩
def Kt(r:Except Nat T)(m:Mem)(res:Res W):Prop:=match r with
 |.ok t=>res=.ok (.t t) m
 |.error e=>∃x,res=.exc (Dz e) (m++x)
theorem yj{n:Nat}{m:Mem}{cs:List Nat}(hc:cs.length<=800000):Kt (oW (az 32 cs)) m (cf (n+56) 25 [.t (.str cs)] m):=by
 obtain⟨hs1,hs2⟩:=split_len 32 cs;generalize hws:az 32 cs=ws at *;have hF:Fits ws:=λw hw=>by have:=hs2 w hw;unfold lim;omega
 have hl:ws.length<900000:=by omega
 have hr:Back (J5 12 ws 0) m (cf (n+55) 24 [.t (wl ws),.t (.int 0),.t (.int 0),.t (.tup JN)] m):=Kf (Ky hF hl 12 n 0 (by omega) (by omega)) (BW ws 12) hl m 0 0 rfl;have h0:∀k,ex (cf (n+55)) gv (.bk (.not (.uV (.var 0) .str)) (.zj 107 ["at"] (.cons (.con (.int 0)) .nil) .done) .done (.asg 1 (.cS .split (.var 0) (.cons (.con (.str [32])) .nil)) k)) [Zz (.t (.str cs)),Zy,Zy,Zy] m=ex (cf (n+55)) gv k [Zz (.t (.str cs)),Zz (.t (wl ws)),Zy,Zy] m:=λk=>by
  rw[aB (m1:=m) (bc (k:=true) (mf (aa rfl) rfl))];rw[aq (show ev (cf (n+55)) gv (.cS .split (.var 0) (.cons (.con (.str [32])) .nil)) [Zz (.t (.str cs)),Zy,Zy,Zy] m=.ok (.t (wl ws)) m by
   rw[ev,aa rfl,ag,show oY .split (.t (.str cs)) m=true from rfl,Xy rfl,al (ae _) aM,ag];show bX (if cs.length<=900000 then Zz (.lst ((az 32 cs).map .str))else Zy) m=_;rw[Xy (by omega),hws];rfl)]
  rfl
 have fin1:∀{x:Exc}{y:Mem},ex (cf (n+55)) gv cg [Zz (.t (.str cs)),Zy,Zy,Zy] m=.exc x (m++y)->cf (n+56) 25 [.t (.str cs)] m=.exc x (m++y):=λkey=>lL (mC _ _ _) rfl key
 unfold oW;cases hq:J5 12 ws 0 with
 |error e =>
  rw[hq]at hr;obtain⟨x,hr⟩:=hr;refine⟨x,fin1 ?_⟩;unfold cg;rw[h0];exact jU ((eI (aa rfl) (ae _) (ae _) (ju oo)).trans hr)
 |ok p =>
  rw[hq]at hr;have hr:_=_:=hr;have hg:=fO (s:=[111,114]) (ws:=ws) (by decide) (fO (s:=[97,110,100]) (ws:=ws) (by decide) (yh hF 12)) _ _ hq;have hw:=sy (n:=n+50) (m:=m) (x:=p.1) (λk y hy=>(fR.lay k [p.1] (λy hy=>by simp at hy;subst hy;exact hg) y hy).one);have h2:∀k,ex (cf (n+55)) gv (.lK [2,3] (.call 24 (.cons (.var 1) (.cons (.con (.int 0)) (.cons (.con (.int 0)) (.cons (.gl 17) .nil))))) k) [Zz (.t (.str cs)),Zz (.t (wl ws)),Zy,Zy] m=ex (cf (n+55)) gv k [Zz (.t (.str cs)),Zz (.t (wl ws)),Zz (.t p.1),Zz (.t (.int (p.2:Int)))] m:=λk=>by
   rw[jX ((eI (aa rfl) (ae _) (ae _) (ju oo)).trans hr)];rfl
  have h3:ev (cf (n+55)) gv (.or (.cmp .Lt (.var 3) (.blt .len (.cons (.var 1) .nil))) (.not (.call 15 (.cons (.var 2) .nil)))) [Zz (.t (.str cs)),Zz (.t (wl ws)),Zz (.t p.1),Zz (.t (.int (p.2:Int)))] m=.ok (.t (.bl (decide (p.2<ws.length) || !d6 p.1))) m:=by
   have h4:ev (cf (n+55)) gv (.cmp .Lt (.var 3) (.blt .len (.cons (.var 1) .nil))) [Zz (.t (.str cs)),Zz (.t (wl ws)),Zz (.t p.1),Zz (.t (.int (p.2:Int)))] m=.ok (.t (.bl (decide (p.2<ws.length)))) m:=by
    refine(ao (aa rfl) (aA (aa rfl) (pM _)) (k9 _ _)).trans ?_;rw[R2]
    congr 3
    exact decide_eq_decide.mpr (by omega)
   cases q:decide (p.2<ws.length)with
   |true=>rw[q]at h4;exact dh h4
   |false =>
    rw[q]at h4;exact(bn h4).trans (bc ((ap (aa rfl)).trans hw))
  dsimp only;cases q:(decide (p.2<ws.length) || !d6 p.1)with
  |true =>
   rw[q]at h3;rw[Xy rfl];refine⟨[],fin1 ?_⟩;rw[Rm];unfold cg;rw[h0,h2];exact dP h3 (fw (aa rfl))
  |false =>
   rw[q]at h3;rw[Xz (by simp)];refine aC (mC _ _ _) rfl (show ex (cf (n+55)) gv cg [Zz (.t (.str cs)),Zy,Zy,Zy] m=.ok (.ret (.t p.1)) m from ?_) (av (cell:=false) rfl);unfold cg;rw[h0,h2,aB h3];exact aj (aa rfl)
inductive oC:T->Prop where
 |any:oC (.tup [.str [97,110,121]])
 |two {w v:List Nat}:(w=[105,115]∨w=[98,121])->aW v=true->oC (.tup [.str w,.str v])
 |three {w v:List Nat}{k:Int}:(w=[108,101,97,115,116]∨w=[109,111,115,116])->aW v=true->0<=k->k<=1000000000->oC (.tup [.str w,.str v,.int k])
theorem yH{cs:List Nat}(h:aW cs=true):cs.length<=lim:=by
 unfold aW at h;simp at h;unfold lim;omega
theorem oC.wt{d:Nat}{t:T}(h:oC t):WT (d+1) t:=by
 cases h with
 |any=>exact .leaf (by decide) (by rfl) λt ht cs e=>by subst e;simp at ht;subst ht;decide
 |two hw hv =>
  refine .leaf ?_ ?_ λt ht cs e=>?_
  ·rcases hw with rfl|rfl<;>simp[dk,oneOf,b8,hv]
  ·rcases hw with rfl|rfl<;>simp[kids,oneOf]
  ·subst e
   simp at ht;rcases ht with rfl|rfl
   ·rcases hw with rfl|rfl<;>decide
   ·exact yH hv
 |three hw hv h0 h1 =>
  refine .leaf ?_ ?_ λt ht cs e=>?_
  ·rcases hw with rfl|rfl<;>simp[dk,oneOf,b8,hv,k6,h0,h1]
  ·rfl
  ·subst e
   simp at ht;rcases ht with rfl|rfl
   ·rcases hw with rfl|rfl<;>decide
   ·exact yH hv
theorem fP{a:T}{ws:List (List Nat)}(h:oneOf a ws=true):∃cs,a=.str cs/\cs∈ws:=by
 cases a with
 |str cs =>
  obtain⟨w,h1,h2⟩:=TQ.mp (show(ws.any λa=>a==cs)=true from h);exact⟨cs,rfl,by rw[<-eq_of_beq h2];exact h1⟩
 |_=>cases h
theorem zv{t:T}(h:dk t=true):∃w r,t=.tup (.str w::r)/\w≠[110,111,116]/\w≠[97,110,100]/\w≠[111,114]:=by
 unfold dk at h;split at h
 ·obtain⟨w,rfl,hw⟩:=fP h
  simp at hw;subst hw;exact⟨_,_,rfl,by decide,by decide,by decide⟩
 ·rw[R6]at h
  obtain⟨w,rfl,hw⟩:=fP h.1;simp at hw;rcases hw with rfl|rfl<;>exact⟨_,_,rfl,by decide,by decide,by decide⟩
 ·rw[R6,R6]at h
  obtain⟨w,rfl,hw⟩:=fP h.1.1;simp at hw;rcases hw with rfl|rfl<;>exact⟨_,_,rfl,by decide,by decide,by decide⟩
 ·cases h
theorem mK{call:Nat->List W->Mem->Res W}{gv:List T}{env env':Env}{m m1:Mem}{k:S}{e:E}{is:List Nat}{t:T}(h:ev call gv e env m=.ok (.t t) m1)(h2:bJ (.tp is) t env=Zz env'):ex call gv (.lK is e k) env m=ex call gv k env' m1:=by
 rw[ex,h];show(match bJ (.tp is) t env with
  |some env=>ex call gv k env m1
  |none=>.stuck)=_
 rw[h2]
theorem oC.Iu{t:T}(h:oC t):kids t=[]:=by
 cases h with
 |any=>rfl
 |two hw _=>rcases hw with rfl|rfl<;>simp[kids,oneOf]
 |three _ _ _ _=>rfl
theorem wG(m:Nat)(h:0<m):∃c r,UY 10 m=c::r/\c≠'0':=by
 induction m using Nat.strongRecOn with
 |_ m ih =>
  by_cases hm:m<10
  ·refine⟨Nat.digitChar m,[],Nat.toDigits_of_lt_base hm,?_⟩
   have:∀k:Nat,k<10->0<k->Nat.digitChar k≠'0':=by decide
   exact this m hm h
  ·obtain⟨c,r,e,hc⟩:=ih (m / 10) (by omega) (by omega)
   have t:UY 10 (m / 10)++UY 10 (m%10)=UY 10 (10*(m / 10)+m%10):=Nat.toDigits_append_toDigits (by decide) (by omega) (XO m (by decide));rw[Nat.div_add_mod]at t;exact⟨c,r++UY 10 (m%10),by rw[<-t,e];rfl,hc⟩
theorem bx{k:Int}(h0:0<=k)(h1:k<10000000000):fK (cA k)=true/\fL (cA k)=k/\32∉cA k/\(cA k).length<=10:=by
 obtain⟨n,rfl⟩:=Uy h0;have hl:(cA (n:Int)).length<=10:=by
  have:=PySem.W.KT.len_num h0 h1;unfold cA;rw[RK];exact this
 have e:cA (n:Int)=(UY 10 n).map Char.toNat:=PySem.W.KIN.signs_num n;have hd:∀c∈cA (n:Int),48<=c/\c<=57:=λc hc=>by
  rw[e]at hc;obtain⟨ch,hch,rfl⟩:=Rg.mp hc;exact PyProof.Rows.digit_range (Nat.isDigit_of_mem_toDigits (by decide) (by decide) hch)
 have h1':1<=(cA (n:Int)).length:=by rw[e,R2];exact PySem.toDigits_len_ge 10 n
 refine⟨?_,?_,λz=>Y3 (hd 32 z).1 (by decide),hl⟩
 ·unfold fK
  rw[Y1 h1',Y1 hl];simp only[SW,R6,RX];refine⟨λc hc=>Y1 ?_,?_⟩
  ·have:=hd c hc
   obtain⟨i,rfl⟩:∃i,c=48+i:=⟨c-48,by omega⟩
   exact(by decide:∀i<10,48+i∈jA) i (by omega)
  ·by_cases hn:n=0
   ·subst hn
    rw[e];rfl
   ·obtain⟨c,r,e2,hc⟩:=wG n (by omega)
    rw[e,e2];simp only[RQ,List.head?_cons,Sm];right;rw[bne_iff_ne];intro z;have z:c.toNat=48:=T6 z;exact hc (Char.ext (UInt32.toNat_inj.mp z))
 ·have:=PySem.W.KIN.val_back n
  rw[e];show((PySem.NumText.digitsVal ((UY 10 n).map Char.toNat):Nat):Int)=_;rw[this]
theorem Hm{t:T}(h:dk t=true):oC t:=by
 unfold dk at h;split at h
 ·rename_i a
  obtain⟨cs,rfl,hc⟩:=fP h;simp at hc;subst hc;exact .any
 ·rename_i a b
  rw[R6]at h;obtain⟨cs,rfl,hc⟩:=fP h.1;cases b with
  |str v=>exact .two (by simpa using hc) h.2
  |_=>cases h.2
 ·rename_i a b c
  rw[R6,R6]at h;obtain⟨cs,rfl,hc⟩:=fP h.1.1;cases b with
  |str v =>
   cases c with
   |int k =>
    have hk:(decide (0<=k)&&decide (k<=1000000000))=true:=h.2;rw[R6]at hk;exact .three (by simpa using hc) h.1.2 (Y4 hk.1) (Y4 hk.2)
   |_=>cases h.2
  |_=>cases h.1.2
 ·cases h
theorem pj{v:List Nat}(h:aW v=true):eK v=true/\v.length<=8/\32∉v:=by
 unfold aW at h;simp only[R6,decide_eq_true_eq]at h;obtain⟨⟨⟨h1,h2⟩,h3⟩,h4⟩:=h;refine⟨by unfold eK;rw[Y1 h1,h3,h4];rfl,h2,λz=>?_⟩;have:=Y4 (RX.mp h4 32 z);revert this;decide
section
variable{call:Nat->List W->Mem->Res W}{gv:List T}{env:Env}{m m1 m2 m3:Mem}{a b c e:E}{x y z:T}{p q r:List Nat}{s k:S}{w:W}
theorem l0(h:ev call gv e env m=.ok (.t (.str p)) m)(hb:(p==q)=false):ex call gv (.bk (.cmp .Eq e (.con (.str q))) s .done k) env m=ex call gv k env m:=aB (ao h (ae _) (by rw[cu,hb]))
theorem Ct(h:ev call gv e env m=.ok (.t (.str p)) m)(hb:(p==q)=true)(hs:ex call gv s env m=.ok (.ret w) m2):ex call gv (.bk (.cmp .Eq e (.con (.str q))) s .done k) env m=.ok (.ret w) m2:=aE (ao h (ae _) (by rw[cu,hb])) hs
theorem zG(h:ev call gv e env m=.ok (.t (.str p)) m)(hb:(q==p || r==p)=false):ex call gv (.bk (.cmp .In e (.tup (.cons (.con (.str q)) (.cons (.con (.str r)) .nil)))) s .done k) env m=ex call gv k env m:=aB (ao h (bf (ae _) (ae _)) (by rw[uW,hb]))
theorem K4(h:ev call gv e env m=.ok (.t (.str p)) m)(hb:(q==p || r==p)=true)(hs:ex call gv s env m=.ok (.ret w) m2):ex call gv (.bk (.cmp .In e (.tup (.cons (.con (.str q)) (.cons (.con (.str r)) .nil)))) s .done k) env m=.ok (.ret w) m2:=aE (ao h (bf (ae _) (ae _)) (by rw[uW,hb])) hs
theorem zS{ts:List T}(h:ev call gv e env m=.ok (.t (.tup (x::y::ts))) m):ev call gv (.ix e (.con (.int 1))) env m=.ok (.t y) m:=aS h (ae _) (at1 _ _ _)
theorem b7{ts:List T}(h:ev call gv e env m=.ok (.t (.tup (.str p::ts))) m):ev call gv (.ix e (.con (.int 0))) env m=.ok (.t (.str p)) m:=aS h (ae _) (at0 _ _)
end
theorem yP(h:List Nat)(ws:List (List Nat)):bD .In (.str h) (.tup (ws.map .str))=Zz (ws.any λa=>a==h)/\bD .In (.str h) (.lst (ws.map .str))=Zz (ws.any λa=>a==h):=by
 have ha:(ws.map T.str).all flat=true:=by simp[flat]
 have hb:((ws.map T.str).any λt=>eqT t (.str h))=ws.any λa=>a==h:=by
  clear ha
  induction ws with
  |nil=>rfl
  |cons w ws ih=>simp[eqT]at ih ⊢;rw[ih]
 have h1:jL (.str h) (.tup (ws.map .str))=Zz (ws.any λa=>a==h):=by
  unfold jL;dsimp only;rw[ha,hb];rfl
 have h2:jL (.str h) (.lst (ws.map .str))=Zz (ws.any λa=>a==h):=by
  unfold jL;dsimp only;rw[ha,hb];rfl
 constructor
 ·rw[<-h1]
  match h with
  |[]=>rfl
  |[c]=>rfl
  |c::c'::r=>rfl
 ·rw[<-h2]
  match h with
  |[]=>rfl
  |[c]=>rfl
  |c::c'::r=>rfl
theorem Tx.cons{d:Nat}{t:T}(h:WT d t):∃w r,t=.tup (.str w::r):=by
 cases h with
 |leaf h _ _=>obtain⟨w,r,e,_⟩:=zv h;exact⟨w,r,e⟩
 |nt _=>exact⟨_,_,rfl⟩
 |jn _ _ _ _=>exact⟨_,_,rfl⟩
theorem Fd{f g:T->Nat}:∀{ts:List T},(∀t∈ts,f t<=g t)->(ts.map f).sum<=(ts.map g).sum
 |[],_=>RU _
 |t::ts,h=>by
  rw[RQ,RQ,TE,TE];exact Nat.add_le_add (h t RD) (Fd λx hx=>h x (R5 _ hx))
theorem DH{f:T->Nat}:∀{ts:List T}{t:T},t∈ts->f t<=(ts.map f).sum
 |x::ts,t,h=>by
  rw[RQ,TE];rcases R7.mp h with rfl|h
  ·omega
  ·have:=DH (f:=f) h
   omega
theorem BJ(f:T->Nat)(k c:Nat):∀ts:List T,(ts.map λt=>k*f t+c).sum=k*(ts.map f).sum+c*ts.length
 |[]=>by simp
 |t::ts=>by
  rw[RQ,RQ,TE,TE,BJ f k c ts,RI,XI,XI];omega
theorem du(sep:List Nat):∀ys:List (List Nat),(aK sep ys).length<=(ys.map Rf).sum+ys.length*sep.length
 |[]=>by simp[aK]
 |[x]=>by simp[aK]
 |x::y::r=>by
  have ih:=du sep (y::r);show(x++sep++aK sep (y::r)).length<=_;rw[RV,RV,RQ,TE,RI,Nat.add_mul];omega
theorem kn{call:Nat->List W->Mem->Res W}{gv:List T}{env:Env}{m m1 m2:Mem}{a b:E}{sep:List Nat}{ys:List (List Nat)}(h1:ev call gv a env m=.ok (.t (.str sep)) m1)(h2:ev call gv b env m1=.ok (.t (.lst (ys.map .str))) m2)(hz:(ys.map Rf).sum+ys.length*sep.length<=lim):ev call gv (.cS .join a (.cons b .nil)) env m=.ok (.t (.str (aK sep ys))) m2:=by
 rw[ev,h1,ag,DM,Xy rfl,al h2 aM,ag];have hs:strs? (ys.map T.str)=Zz ys:=by
  have:=strs_map (λx:List Nat=>x) ys;simpa using this
 exact D9 hs hz
theorem DB:∀(n:Nat) (t:T),ay n t=true->eqT t t=true:=by
 intro n
 induction n with
 |zero =>
  intro t h;cases t with
  |non=>rfl
  |bl b=>simp[eqT]
  |int b=>simp[eqT]
  |str b=>simp[eqT]
  |tup ts=>simp[ay]at h
  |lst ts=>simp[ay]at h
  |dct ks ts=>simp[ay]at h
  |db ns=>simp[ay]at h
 |succ n ih =>
  have hl:∀ts:List T,au n ts=true->r9 ts ts=true:=by
   intro ts
   induction ts with
   |nil=>intro _;rfl
   |cons t ts iht =>
    intro h;rw[au,R6]at h;rw[r9,ih t h.1,iht h.2];rfl
  intro t h;cases t with
  |tup ts=>rw[ay]at h;rw[eqT];exact hl ts h
  |lst ts=>rw[ay]at h;rw[eqT];exact hl ts h
  |non=>rfl
  |bl b=>simp[eqT]
  |int b=>simp[eqT]
  |str b=>simp[eqT]
  |dct ks ts=>simp[ay]at h
  |db ns=>simp[ay]at h
theorem BD{t:T}(h:ay 60 t=true):bD .NotEq t t=Zz false:=by
 show(if(rM t t || (ay 60 t&&ay 60 t))=true then Zz (!eqT t t)else Zy)=_;rw[h,SW,UW,Xy rfl,DB 60 t h];rfl
theorem gg{k:Nat}{w:List Nat}(h:aW w=true):ay k (.str w)=true:=by
 unfold ay;show(w.toArray.all λc=>decide (c<0x110000))=true;rw[List.all_toArray,RX];intro c hc;have:c<200:=by
  unfold aW at h;simp only[R6]at h;exact(by decide:∀c∈gr,c<200) c (Y4 (RX.mp h.2 c hc))
 exact Y1 (by omega)
theorem bE{k:Nat}:∀{ts:List T},(∀t∈ts,ay k t=true)->au k ts=true
 |[],_=>by unfold au;rfl
 |t::ts,h=>by
  unfold au;rw[h t RD,bE λu hu=>h u (R5 _ hu)];rfl
theorem cD{k:Nat}{w:List Nat}(h:∀c∈w,c<1114112):ay k (.str w)=true:=by
 unfold ay;show(w.toArray.all λc=>decide (c<0x110000))=true;rw[List.all_toArray,RX];exact λc hc=>Y1 (h c hc)
mutual
noncomputable def fits:T->Bool
 |.str cs=>decide (cs.length<=lim)
 |.tup ts=>eM ts
 |_=>true
noncomputable def eM:List T->Bool
 |[]=>true
 |t::ts=>fits t&&eM ts
end
theorem bK:∀{ts:List T}{t:T},eM ts=true->t∈ts->fits t=true
 |a::ts,t,h,ht=>by
  rw[eM,R6]at h;rcases R7.mp ht with rfl|ht
  ·exact h.1
  ·exact bK h.2 ht
theorem mE:∀{ts:List T},(∀t∈ts,fits t=true)->eM ts=true
 |[],_=>by rw[eM]
 |a::ts,h=>by
  rw[eM,h a RD,mE λt ht=>h t (R5 _ ht)];rfl
theorem re{t:T}(h:fits t=true):JQ t:=by
 rintro cs rfl;rw[fits]at h;exact Y4 h
theorem J3{t:T}(h:fits t=true):vK t:=by
 cases t with
 |tup ts=>rw[fits]at h;exact λu hu=>re (bK h hu)
 |_=>exact Uq
theorem Cb{x:T}(h:fits x=true):∀y∈kids x,fits y=true:=by
 intro y hy;unfold kids at hy;split at hy
 ·rename_i a b
  rw[fits,eM,eM,eM,R6,R6]at h;split at hy
  ·rw[RN]at hy;subst hy;exact h.2.1
  ·split at hy
   ·cases b with
    |tup ts=>exact bK (by have:=h.2.1;rw[fits]at this;exact this) hy
    |_=>cases hy
   ·cases hy
 ·cases hy
theorem xx:∀(k:Nat) (l:List T),(∀t∈l,fits t=true)->∀y∈lay k l,fits y=true
 |0,l,h=>h
 |k+1,l,h=>xx k _ λt ht=>by
  obtain⟨x,hx,hk⟩:=VI.mp ht;exact Cb (h x hx) t hk
theorem DF{x:T}(h:fits x=true):Mc x:=λk y hy=>J3 (xx k [x] (λt ht=>by rw[RN]at ht;subst ht;exact h) y hy)
section
variable{call:Nat->List W->Mem->Res W}{gv:List T}{env:Env}{m m1 m2:Mem}{a b e:E}{x y r:T}{w:W}{f:Nat}{bb:B}
theorem vO(h1:ev call gv a env m=.ok (.t x) m1)(h2:ev call gv b env m1=.ok (.t y) m2)(hb:cv bb [x,y]=Zz r):ev call gv (.blt bb (.cons a (.cons b .nil))) env m=.ok (.t r) m2:=by
 simp only[ev,evs,h1,h2,ag,Br,A3,VY,SE,hb];rfl
end
noncomputable def dU:List (List Nat)->Bool
 |a::b::r=>cO a b&&dU (b::r)
 |_=>true
theorem xB:∀ws:List (List Nat),((Sc (ws.length-1)).map λk=>cO (ws.getD k []) (ws.getD (k+1) [])).all id=dU ws
 |[]=>rfl
 |[a]=>rfl
 |a::b::r=>by
  have ih:=xB (b::r);have e:(a::b::r).length-1=((b::r).length-1)+1:=by simp
  rw[e,List.range_succ_eq_map,RQ,TD,Sh,dU,<-ih];rfl
theorem yF{ws:List (List Nat)}{k:Nat}(h:k<ws.length):atT (ws.map T.str) (k:Int)=Zz (.str (ws.getD k [])):=by
 rw[r7 (by omega) (by rw[R2];omega)];simp[h]
theorem Jg{i j:Int}(h:(i<2^62/\-(2^62)<=i)/\j<2^62/\-(2^62)<=j):cv .md [.int i,.int j]=Zz (.lst (rangeT i (j-i).toNat)):=Xy h
theorem B0(ws:List (List Nat))(l:List Nat):(l.map λk:Nat=>T.int (1+(k:Int))).flatMap (λt=>match t with|.int i=>[T.bl (cO (ws.getD (i.toNat-1) []) (ws.getD i.toNat []))]|_=>[])=l.map λk=>.bl (cO (ws.getD k []) (ws.getD (k+1) [])):=by
 induction l with
 |nil=>rfl
 |cons k l ih =>
  rw[RQ,UF,ih,RQ];have e3:(1+(k:Int)).toNat=k+1:=by omega
  simp[e3]
theorem CH{n:Nat}{m:Mem}{x:T}{ws:List (List Nat)}(hix:∀k:Nat,k<ws.length->rn x (.int (k:Int))=Zz (.str (ws.getD k []))){k:Nat}(hk:k+1<ws.length):
  bp (cf n) gv .nil oy [Zz (.t (.int (1+(k:Int)))),Zz (.t x)] m=.ok [.bl (cO (ws.getD k []) (ws.getD (k+1) []))] m:=by
 have e1:(1+(k:Int))-1=((k:Nat):Int):=by omega
 have e2:(1+(k:Int))=((k+1:Nat):Int):=by omega
 have i1:=hix k (by omega);have i2:=hix (k+1) (by omega);rw[<-e1]at i1;rw[<-e2]at i2;simp[bp,tests,oy,ev,evs,cz,aF,dB,i1,i2,bD,pS,HN,HN,Ju,A4]
theorem FD{n:Nat}{m:Mem}{x:T}{k:Nat}(hlen:cv .len [x]=Zz (.int (k:Int)))(hk:k<=1000):ev (cf n) gv (.blt .md (.cons (.con (.int 1)) (.cons (.blt .len (.cons (.var 0) .nil)) .nil))) [Zz (.t x)] m=.ok (.t (.lst (rangeT 1 ((k:Int)-1).toNat))) m:=by
 have hb:(k:Int)<2^62:=by
  have:(1000:Int)<2^62:=by decide
  omega
 have hb2:-(2^62)<=(k:Int):=by omega
 have h2:cv .md [.int 1,.int (k:Int)]=Zz (.lst (rangeT 1 ((k:Int)-1).toNat)):=Jg ⟨⟨by decide,by decide⟩,hb,hb2⟩;have h3:ev (cf n) gv (.blt .len (.cons (.var 0) .nil)) [Zz (.t x)] m=.ok (.t (.int k)) m:=aA (by rw[ev];rfl) hlen;exact vO (by rw[ev]) h3 h2
theorem Co{n:Nat}{m:Mem}{x:T}{ws:List (List Nat)}(hix:∀k:Nat,k<ws.length->rn x (.int (k:Int))=Zz (.str (ws.getD k [])))(hlen:cv .len [x]=Zz (.int ws.length))(hl:ws.length<=1000):
  ev (cf n) gv wD [Zz (.t x)] m=.ok (.t (.lst ((Sc (ws.length-1)).map λk=>.bl (cO (ws.getD k []) (ws.getD (k+1) []))))) m:=by
 have h:=bQ (f:=bp (cf n) gv .nil oy) (tg:=.nm 0) (env:=[Zy,Zz (.t x)]) (m:=m)
  (g:=λt=>match t with|.int i=>[.bl (cO (ws.getD (i.toNat-1) []) (ws.getD i.toNat []))]|_=>[]) (rangeT 1 ((ws.length:Int)-1).toNat) (λt ht=>by
   unfold rangeT at ht;obtain⟨k,hk,rfl⟩:=Rg.mp ht;have hk:=Wa.mp hk;refine⟨[Zz (.t (.int (1+(k:Int)))),Zz (.t x)],rfl,?_⟩;have e3:(1+(k:Int)).toNat=k+1:=by omega
   simp only[e3,Nat.add_sub_cancel];exact CH hix (by omega))
 have e:(rangeT 1 ((ws.length:Int)-1).toNat).flatMap (λt=>match t with|.int i=>[T.bl (cO (ws.getD (i.toNat-1) []) (ws.getD i.toNat []))]|_=>[])=(Sc (ws.length-1)).map λk=>.bl (cO (ws.getD k []) (ws.getD (k+1) [])):=by
  rw[<-B0];unfold rangeT;rw[show((ws.length:Int)-1).toNat=ws.length-1 by omega]
 rw[e]at h;have hz:((Sc (ws.length-1)).map λk=>T.bl (cO (ws.getD k []) (ws.getD (k+1) []))).length<=lim:=by
  rw[R2,UC];unfold lim;omega
 exact aX (x:=.t (.lst (rangeT 1 ((ws.length:Int)-1).toNat))) (m0:=m) (m1:=m) (FD hlen hl) rfl h hz
theorem Bt{n:Nat}{m:Mem}{x:T}{ws:List (List Nat)}(hx:x=.tup (ws.map .str)∨x=.lst (ws.map .str))(hl:ws.length<=1000):cf (n+1) 5 [.t x] m=.ok (.t (.bl (dU ws))) m:=by
 have hix:∀k:Nat,k<ws.length->rn x (.int (k:Int))=Zz (.str (ws.getD k [])):=λk hk=>by
  rcases hx with rfl|rfl
  ·rw[IP,yF hk]
  ·rw[IB,yF hk]
 have hlen:cv .len [x]=Zz (.int ws.length):=by
  rcases hx with rfl|rfl
  ·rw[A9,R2]
  ·rw[pM,R2]
 have hc:=Co (n:=n) (m:=m) hix hlen hl;have ha:=ut (dY (λk=>cO (ws.getD k []) (ws.getD (k+1) [])) (Sc (ws.length-1)));rw[xB]at ha;have key:ex (cf n) gv sv [Zz (.t x)] m=.ok (.ret (.t (.bl (dU ws)))) m:=by
  unfold sv;exact aj (aA hc ha)
 exact aC (HA _ _ _) rfl key (av (cell:=false) rfl)
noncomputable def vG:T->List Nat
 |.str c=>c
 |_=>[]
theorem o9:∀{ts:List T},ts.all b8=true->ts=(ts.map vG).map .str
 |[],_=>rfl
 |t::ts,h=>by
  rw[TD,R6]at h;rw[RQ,RQ,<-o9 h.2];cases t with
  |str c=>rfl
  |_=>cases h.1
noncomputable def jh:T->Bool
 |.tup ts=>decide (ts.length<=6)&&(ts.all b8&&dU (ts.map vG))
 |_=>false
theorem Ei{n:Nat}{m:Mem}{x:T}(h:fits x=true):cf (n+3) 6 [.t x] m=.ok (.t (.bl (jh x))) m:=by
 have key:ex (cf (n+2)) gv eW [Zz (.t x)] m=.ok (.ret (.t (.bl (jh x)))) m:=by
  unfold eW;cases x with
  |tup ts =>
   by_cases hl:ts.length<=6
   ·have hl':¬(6:Int)<ts.length:=by omega
    rw[aB (m1:=m) (by simp[ev,evs,cz,aF,dB,lB,hl'])];have hc:ev (cf (n+2)) gv lD [Zz (.t (.tup ts))] m=.ok (.t (.lst (ts.map λt=>.bl (b8 t)))) m:=by
     have h3:=bQ (f:=bp (cf (n+2)) gv .nil iu) (tg:=.nm 0) (env:=[Zy]) (m:=m) (g:=λt=>[.bl (b8 t)]) ts (λt ht=>⟨[Zz (.t t)],rfl,by
      rw[fits]at h;simp[bp,tests,iu,ev,evs,cz,aF,dB,d8 (n:=n) (re (bK h ht))]⟩)
     rw[cI]at h3;exact aX (x:=.t (.tup ts)) (m0:=m) rfl rfl h3 (by rw[R2];unfold lim;omega)
    have ha:=ut (dY b8 ts);have hb:(ts.map b8).all id=ts.all b8:=by rw[U2];rfl
    rw[hb]at ha;refine aj ?_;cases hw:ts.all b8 with
    |false =>
     rw[hw]at ha;simp only[jh,hw];simp[ev,evs,cz,aF,dB,hc,ha]
    |true =>
     rw[hw]at ha;have hr:=Bt (n:=n+1) (m:=m) (x:=.tup ts) (ws:=ts.map vG) (.inl (congrArg T.tup (o9 hw))) (by rw[R2];omega);simp only[jh,hw,Y1 hl];simp[ev,evs,cz,aF,dB,hc,ha,hr]
   ·have hl':(6:Int)<ts.length:=by omega
    refine aE (m1:=m) (by simp[ev,evs,cz,aF,dB,lB,hl']) (aj ?_);simp only[jh,Y0 hl];simp[ev,evs,cz,aF,dB]
  |_=>exact aE (m1:=m) rfl (aj rfl)
 exact aC (vP _ _ _) rfl key (av (cell:=false) rfl)
noncomputable def eP:T->Bool
 |.tup [a,b]=>b8 a&&k6 b
 |_=>false
theorem GT{n:Nat}{m:Mem}{x:T}(h:fits x=true):cf (n+3) 7 [.t x] m=.ok (.t (.bl (eP x))) m:=by
 have key:ex (cf (n+2)) gv iS [Zz (.t x)] m=.ok (.ret (.t (.bl (eP x)))) m:=by
  unfold iS;refine aj ?_;cases x with
  |tup ts =>
   match ts,h with
   |[],_=>rfl
   |[a],_=>rfl
   |[a,b],h =>
    rw[fits]at h;have hw:=d8 (n:=n) (m:=m) (x:=a) (re (bK h (by simp)));have hn:=fv (n:=n) (m:=m) (x:=b);cases hwa:b8 a<;>simp[ev,evs,cz,aF,dB,at0,at1,hw,hn,hwa,eP]
   |a::b::c::r,_ =>
    have h1:¬(r.length:Int)+1+1+1=2:=by omega
    simp[ev,evs,cz,aF,dB,eP,h1]
  |_=>rfl
 exact aC (AC _ _ _) rfl key (av (cell:=false) rfl)
noncomputable def vq:T->T
 |.tup (a::_)=>a
 |_=>.non
theorem yx{t:T}(h:eP t=true):∃a b,t=.tup [a,b]/\b8 a=true:=by
 unfold eP at h;split at h
 ·rw[R6]at h
  exact⟨_,_,rfl,h.1⟩
 ·cases h
noncomputable def jM:T->Bool
 |.tup ts=>decide (ts.length<=6)&&(ts.all eP&&dU ((ts.map vq).map vG))
 |_=>false
theorem D6{n:Nat}{m:Mem}{x:T}(h:fits x=true):cf (n+4) 8 [.t x] m=.ok (.t (.bl (jM x))) m:=by
 have key:ex (cf (n+3)) gv eQ [Zz (.t x)] m=.ok (.ret (.t (.bl (jM x)))) m:=by
  unfold eQ;cases x with
  |tup ts =>
   rw[fits]at h;by_cases hl:ts.length<=6
   ·have hl':¬(6:Int)<ts.length:=by omega
    rw[aB (m1:=m) (by simp[ev,evs,cz,aF,dB,lr,hl'])];have hc:ev (cf (n+3)) gv ll [Zz (.t (.tup ts))] m=.ok (.t (.lst (ts.map λt=>.bl (eP t)))) m:=by
     have h3:=bQ (f:=bp (cf (n+3)) gv .nil io) (tg:=.nm 0) (env:=[Zy]) (m:=m) (g:=λt=>[.bl (eP t)]) ts (λt ht=>⟨[Zz (.t t)],rfl,by
      simp[bp,tests,io,ev,evs,cz,aF,dB,GT (n:=n) (bK h ht)]⟩)
     rw[cI]at h3;exact aX (x:=.t (.tup ts)) (m0:=m) rfl rfl h3 (by rw[R2];unfold lim;omega)
    have ha:=ut (dY eP ts);have hb:(ts.map eP).all id=ts.all eP:=by rw[U2];rfl
    rw[hb]at ha;refine aj ?_;cases hw:ts.all eP with
    |false =>
     rw[hw]at ha;simp only[jM,hw];simp[ev,evs,cz,aF,dB,hc,ha]
    |true =>
     rw[hw]at ha;have hs:∀t∈ts,eP t=true:=λt ht=>RX.mp hw t ht
     have hf:ev (cf (n+3)) gv lv [Zz (.t (.tup ts))] m=.ok (.t (.lst (ts.map vq))) m:=by
      have h3:=bQ (f:=bp (cf (n+3)) gv .nil ip) (tg:=.nm 0) (env:=[Zy]) (m:=m) (g:=λt=>[vq t]) ts (λt ht=>⟨[Zz (.t t)],rfl,by
       obtain⟨a,b,rfl,_⟩:=yx (hs t ht);simp[bp,tests,ip,ev,evs,cz,aF,dB,at0,vq]⟩)
      rw[cI]at h3;exact aX (x:=.t (.tup ts)) (m0:=m) rfl rfl h3 (by rw[R2];unfold lim;omega)
     have hw2:(ts.map vq).all b8=true:=RX.mpr λt ht=>by
      obtain⟨u,hu,rfl⟩:=Rg.mp ht;obtain⟨a,b,rfl,hwa⟩:=yx (hs u hu);exact hwa
     have hr:=Bt (n:=n+2) (m:=m) (x:=.lst (ts.map vq)) (ws:=(ts.map vq).map vG) (.inr (congrArg T.lst (o9 hw2))) (by rw[R2,R2];omega);simp only[jM,hw,Y1 hl,SW];rw[cM (aA hc ha),ap hf];exact hr
   ·have hl':(6:Int)<ts.length:=by omega
    refine aE (m1:=m) (by simp[ev,evs,cz,aF,dB,lr,hl']) (aj ?_);simp only[jM,Y0 hl];simp[ev,evs,cz,aF,dB]
  |_=>exact aE (m1:=m) rfl (aj rfl)
 exact aC (vz _ _ _) rfl key (av (cell:=false) rfl)
noncomputable def pF:T->Bool
 |.tup [a,b,c,d]=>b8 a&&(b8 b&&(jh c&&jM d))
 |_=>false
theorem Mb{α:Type}(a b c d:α)(r:List α):atT (a::b::c::d::r) 3=Zz d:=by
 have:(3:Int)<(r.length:Int)+1+1+1+1:=by omega
 simp[atT,ie,this]
theorem F9{ts:List T}(h:¬ts.length=4):pF (.tup ts)=false:=by
 unfold pF;split
 ·rename_i e;cases e;exact Y3 rfl h
 ·rfl
theorem A1{n:Nat}{m:Mem}{x:T}(h:fits x=true):cf (n+5) 9 [.t x] m=.ok (.t (.bl (pF x))) m:=by
 have key:ex (cf (n+4)) gv iH [Zz (.t x)] m=.ok (.ret (.t (.bl (pF x)))) m:=by
  unfold iH;cases x with
  |tup ts =>
   by_cases hl:ts.length=4
   ·match ts,hl,h with
    |[a,b,c,d],_,h =>
     rw[fits]at h;have ha:=d8 (n:=n+2) (m:=m) (x:=a) (re (bK h (by simp)));have hb:=d8 (n:=n+2) (m:=m) (x:=b) (re (bK h (by simp)));have hc:=Ei (n:=n+1) (m:=m) (x:=c) (bK h (by simp));have hd:=D6 (n:=n) (m:=m) (x:=d) (bK h (by simp));rw[aB (m1:=m) rfl];refine aj ?_;cases hwa:b8 a<;>cases hwb:b8 b<;>cases hmc:jh c<;>simp[ev,evs,cz,aF,dB,at0,at1,at2,Mb,ha,hb,hc,hd,hwa,hwb,hmc,pF]
   ·have hl':¬(ts.length:Int)=4:=by omega
    exact aE (m1:=m) (by simp[ev,evs,cz,aF,dB,hl']) (aj (by simp[ev,evs,cz,aF,dB,F9 hl]))
  |_=>exact aE (m1:=m) rfl (aj rfl)
 exact aC (As _ _ _) rfl key (av (cell:=false) rfl)
theorem zx{n:Nat}{m:Mem}{x:T}:cf (n+3) 4 [.t x] m=.ok (.t (.bl (k6 x))) m:=by
 rw[yU];simp[ky,ex,ev,evs,Res.bind,fv,fin]
noncomputable def oU(x:T)(lo hi:Int):Bool:=match x with
 |.int i=>decide (lo<=i)&&decide (i<=hi)
 |_=>false
theorem yN{n:Nat}{m:Mem}{x:T}{lo hi:Int}:cf (n+2) 16 [.t x,.t (.int lo),.t (.int hi)] m=.ok (.t (.bl (oU x lo hi))) m:=by
 rw[tB];cases x with
 |int i=>by_cases h:lo<=i<;>simp[dM,ex,ev,evs,Res.bind,view,bX,cz,jt,fin,gQ,bD,pS,HN,HN,Ju,A4,oU,h]
 |_=>simp[dM,ex,ev,evs,Res.bind,view,bX,cz,jt,fin,gQ,oU]
noncomputable def sides:List (List Nat):=[[103,105,118,101],[116,97,107,101],[98,101,97,114]]
noncomputable def vT(x y:T):Bool:=match y with
 |.int k=>oU x 1 k
 |_=>false
noncomputable def cL:T->Bool
 |.tup [a,b,c,d,e,f,g]=>oneOf a sides&&(pF b&&(d6 c&&(oU d 1 1000000&&(vT e d&&(oU f 0 1000&&k6 g)))))
 |_=>false
theorem CO{ts:List T}(h:¬ts.length=7):cL (.tup ts)=false:=by
 unfold cL;split
 ·rename_i e;cases e;exact Y3 rfl h
 ·rfl
theorem C5{n:Nat}{m:Mem}{x:T}:cf (n+1) 10 [.t x,.t (.tup [.str [103,105,118,101],.str [116,97,107,101],.str [98,101,97,114]])] m=.ok (.t (.bl (oneOf x sides))) m:=oQ (ws:=sides)
theorem yf{n:Nat}{m:Mem}{x:T}(h:fits x=true):cf (n+6) 17 [.t x] m=.ok (.t (.bl (cL x))) m:=by
 have key:ex (cf (n+5)) gv gm [Zz (.t x),Zy,Zy,Zy,Zy,Zy,Zy,Zy] m=.ok (.ret (.t (.bl (cL x)))) m:=by
  unfold gm;cases x with
  |tup ts =>
   by_cases hl:ts.length=7
   ·match ts,hl,h with
    |[a,b,c,d,e,f,g],_,h =>
     rw[fits]at h;rw[aB (m1:=m) rfl];rw[mK (t:=.tup [a,b,c,d,e,f,g]) (m1:=m) (env':=[Zz (.t (.tup [a,b,c,d,e,f,g])),Zz (.t a),Zz (.t b),Zz (.t c),Zz (.t d),Zz (.t e),Zz (.t f),Zz (.t g)]) rfl rfl];generalize hE:([Zz (.t (.tup [a,b,c,d,e,f,g])),Zz (.t a),Zz (.t b),Zz (.t c),Zz (.t d),Zz (.t e),Zz (.t f),Zz (.t g)]:Env)=env;have hside:ev (cf (n+5)) gv (.call 10 (.cons (.var 1) (.cons (.gl 10) .nil))) env m=.ok (.t (.bl (oneOf a sides))) m:=by subst hE;exact(jl (al (aa rfl) (al (ju F0) aM))).trans (C5 (n:=n+4))
     have hcard:ev (cf (n+5)) gv (.call 9 (.cons (.var 2) .nil)) env m=.ok (.t (.bl (pF b))) m:=by subst hE;exact(jl (al (aa rfl) aM)).trans (A1 (n:=n) (bK h (show b∈[a,b,c,d,e,f,g] by simp)))
     have hwish:ev (cf (n+5)) gv (.call 15 (.cons (.var 3) .nil)) env m=.ok (.t (.bl (d6 c))) m:=by subst hE;exact(jl (al (aa rfl) aM)).trans (sy (n:=n) (DF (bK h (show c∈[a,b,c,d,e,f,g] by simp))))
     have hmany:ev (cf (n+5)) gv (.call 16 (.cons (.var 4) (.cons (.con (.int 1)) (.cons (.gl 11) .nil)))) env m=.ok (.t (.bl (oU d 1 1000000))) m:=by subst hE;exact(jl (al (aa rfl) (al (ae _) (al (ju oI) aM)))).trans (yN (n:=n+3))
     have hleast:∀k,d=.int k->ev (cf (n+5)) gv (.call 16 (.cons (.var 5) (.cons (.con (.int 1)) (.cons (.var 4) .nil)))) env m=.ok (.t (.bl (vT e d))) m:=by rintro k rfl;subst hE;exact(jl (al (aa rfl) (al (ae _) (al (aa rfl) aM)))).trans (yN (n:=n+3))
     have hweight:ev (cf (n+5)) gv (.call 16 (.cons (.var 6) (.cons (.con (.int 0)) (.cons (.gl 12) .nil)))) env m=.ok (.t (.bl (oU f 0 1000))) m:=by subst hE;exact(jl (al (aa rfl) (al (ae _) (al (ju lQ) aM)))).trans (yN (n:=n+3))
     have htill:ev (cf (n+5)) gv (.call 4 (.cons (.var 7) .nil)) env m=.ok (.t (.bl (k6 g))) m:=by subst hE;exact(jl (al (aa rfl) aM)).trans (zx (n:=n+2))
     have hfalse:∀k:S,ex (cf (n+5)) gv (.ret (.con (.bl false)) k) env m=.ok (.ret (.t (.bl false))) m:=λk=>aj (by rw[ev])
     cases v1:oneOf a sides with
     |false =>
      rw[v1]at hside;rw[aE (dh (bc hside)) (hfalse _)];simp[cL,v1]
     |true =>
     rw[v1]at hside;cases v2:pF b with
     |false =>
      rw[v2]at hcard;rw[aE ((bn (bc hside)).trans (dh (bc hcard))) (hfalse _)];simp[cL,v2]
     |true =>
     rw[v2]at hcard;cases v3:d6 c with
     |false =>
      rw[v3]at hwish;rw[aE ((bn (bc hside)).trans ((bn (bc hcard)).trans (bc hwish))) (hfalse _)];simp[cL,v3]
     |true =>
     rw[v3]at hwish;rw[aB ((bn (bc hside)).trans ((bn (bc hcard)).trans (bc hwish)))];cases v4:oU d 1 1000000 with
     |false =>
      rw[v4]at hmany;rw[aE (dh (bc hmany)) (hfalse _)];simp[cL,v4]
     |true =>
     have hk:∃k,d=.int k:=by
      cases d with
      |int k=>exact⟨k,rfl⟩
      |_=>cases v4
     obtain⟨k,hk⟩:=hk;have hleast:=hleast k hk;rw[v4]at hmany;cases v5:vT e d with
     |false =>
      rw[v5]at hleast;rw[aE ((bn (bc hmany)).trans (bc hleast)) (hfalse _)];simp[cL,v5]
     |true =>
     rw[v5]at hleast;rw[aB ((bn (bc hmany)).trans (bc hleast))];refine aj ?_;have ho:cL (.tup [a,b,c,d,e,f,g])=(oU f 0 1000&&k6 g):=by simp[cL,v1,v2,v3,v4,v5]
     rw[ho];cases v6:oU f 0 1000 with
     |false=>rw[v6]at hweight;rw[fI hweight];rfl
     |true=>rw[v6]at hweight;rw[cM hweight,htill];rfl
   ·have hl':¬(ts.length:Int)=7:=by omega
    exact aE (m1:=m) (by simp[ev,evs,cz,aF,dB,hl']) (aj (by simp[ev,evs,cz,aF,dB,CO hl]))
  |_=>exact aE (m1:=m) rfl (aj rfl)
 exact aC (xL _ _ _) rfl key (av (cell:=false) rfl)
theorem BQ:∀{a b:List Nat},cO a b=false->cO b a=false->a=b
 |[],[],_,_=>rfl
 |[],_::_,h,_=>by cases h
 |_::_,[],_,h=>by cases h
 |a::x,b::y,h1,h2=>by
  unfold cO at h1 h2;by_cases q:a<b
  ·rw[Xy q]at h1;cases h1
  ·by_cases q2:b<a
   ·rw[Xy q2]at h2;cases h2
   ·rw[Xz q,Xz q2]at h1
    rw[Xz q2,Xz q]at h2;rw[show a=b by omega,BQ h1 h2]
theorem kg:∀{xs:List (List Nat)},xs.Pairwise (λa b=>cO b a=false)->xs.Nodup->dU xs=true
 |[],_,_=>rfl
 |[_],_,_=>rfl
 |a::b::r,h,hn=>by
  have h1:=(SL.mp h).1 b (by simp);have h2:cO a b=true:=by
   cases q:cO a b with
   |true=>rfl
   |false=>exact Y3 (BQ q h1) λz=>by rw[z]at hn;simp at hn
  show(cO a b&&dU (b::r))=true;rw[h2,kg (SL.mp h).2 (Un.mp hn).2];rfl
theorem Df{xs:List (List Nat)}(hn:xs.Nodup):dU (iP xs)=true:=kg (rj xs) ((ge xs).nodup_iff.mpr hn)
theorem tZ{n:Nat}{m:Mem}{i:Nat}{e1 e2:Option W}(hi:i<m.length):∀(ts:List T) (ls fs:List (List Nat)) (s:List T) (e5:Option W),bi s->ts.length<=ls.length->ls.length<=30->ts.length+fs.length<=60 ->
  ∃(ls' fs':List (List Nat)) (s':List T) (e5':Option W),bF (ex (cf (n+3)) gv iF) (.nm 5) ts [Zz (.c i),e1,e2,Zz (.c m.length),Zz (.c (m.length+1)),e5] (put (m++[Zz (false,ls.map .str),Zz (false,fs.map .str)]) i s)=.ok (.next [Zz (.c i),e1,e2,Zz (.c m.length),Zz (.c (m.length+1)),e5']) (put (m++[Zz (false,ls'.map .str),Zz (false,fs'.map .str)]) i s')/\bi s'/\fs'.length=fs.length+ts.length/\(fs'++ls').Perm (fs++ls)
 |[],ls,fs,s,e5,hs,_,_,_=>⟨ls,fs,s,e5,rfl,hs,rfl,.refl _⟩
 |t::ts,ls,fs,s,e5,hs,h1,h2,h3=>by
  rw[RI]at h1 h3;obtain⟨l1,f1,s1,g1,hs1,k1,k2,p1⟩:=C4 (n:=n) (e1:=e1) (e2:=e2) (x:=t) (ls:=ls) (fs:=fs) hi hs (by omega) (by omega) (by omega);obtain⟨l2,f2,s2,e6,g2,hs2,k3,p2⟩:=tZ hi ts l1 f1 s1 (Zz (.t t)) hs1 (by omega) (by omega) (by omega);refine⟨l2,f2,s2,e6,?_,hs2,by rw[k3,k2,RI];omega,p2.trans p1⟩;rw[bF];show(ex (cf (n+3)) gv iF [Zz (.c i),e1,e2,Zz (.c m.length),Zz (.c (m.length+1)),Zz (.t t)] _).bind _=_;rw[g1];exact g2
theorem wM(x:List Nat):∀l,(vp x l).length=l.length+1
 |[]=>rfl
 |y::r=>by
  unfold vp;split
  ·rw[RI,wM x r,RI]
  ·rfl
theorem uI:∀xs:List (List Nat),(iP xs).length=xs.length
 |[]=>rfl
 |x::xs=>by rw[show iP (x::xs)=vp x (iP xs)from rfl,wM,uI xs,RI]
theorem ku(xs:List (List Nat)):strs? (xs.map T.str)=Zz xs:=by
 have:=strs_map (λc:List Nat=>c) xs;simpa using this
theorem GQ{n:Nat}{m:Mem}{i:Nat}{s:List T}{ws:List (List Nat)}{most:Nat}(hi:i<m.length)(hs:bi s)(h1:most<=ws.length)(h2:ws.length<=20)(hd:ws.Nodup):
  ∃(fs:List (List Nat)) (s':List T),cf (n+4) 42 [.c i,.t (.lst (ws.map .str)),.t (.int (most:Int))] (put m i s)=.ok (.t (.tup (fs.map .str))) (put m i s')/\bi s'/\fs.length<=most/\dU fs=true/\∀w∈fs,w∈ws:=by
 have hi2:i<(m++[Zz (false,ws.map T.str),Zz (false,([]:List T))]).length:=by rw[RV];omega
 obtain⟨r,s1,d1,hs1,r0,r1⟩:=aH (n:=n) (many:=(most:Int)+1) hi2 hs (by omega) (by omega);obtain⟨l2,f2,s2,e5,g2,hs2,k2,p2⟩:=tZ (n:=n) (e1:=Zz (.t (.lst (ws.map .str)))) (e2:=Zz (.t (.int (most:Int)))) hi (rangeT 0 r.toNat) ws [] s1 Zy hs1 (by simp[rangeT];omega) (by omega) (by simp[rangeT];omega);have hl:(rangeT 0 r.toNat).length=r.toNat:=by simp[rangeT]
 rw[hl]at k2;have hk:f2.length<=most:=by rw[k2];simp;omega
 have hn:f2.Nodup:=(List.nodup_append.mp (p2.nodup_iff.mpr hd)).1;refine⟨iP f2,s2,?_,hs2,by rw[uI];exact hk,Df hn,λw hw=>p2.mem_iff.mp (UN _ ((ge f2).mem_iff.mp hw))⟩;have key:ex (cf (n+3)) gv n8 [Zz (.c i),Zz (.t (.lst (ws.map .str))),Zz (.t (.int (most:Int))),Zy,Zy,Zy] (put m i s)=.ok (.ret (.t (.tup ((iP f2).map .str)))) (put (m++[Zz (false,l2.map .str),Zz (false,f2.map .str)]) i s2):=by
  unfold n8;have c1:ev (cf (n+3)) gv (.zk (.var 1)) [Zz (.c i),Zz (.t (.lst (ws.map .str))),Zz (.t (.int (most:Int))),Zy,Zy,Zy] (put m i s)=.ok (.c m.length) (put m i s++[Zz (false,ws.map .str)]):=by
   rw[ev,aa rfl,ag];simp[view,aG]
  rw[aq c1];simp only[RR,RS];have c2:ev (cf (n+3)) gv (.sZ .nil) [Zz (.c i),Zz (.t (.lst (ws.map .str))),Zz (.t (.int (most:Int))),Zz (.c m.length),Zy,Zy] (put m i s++[Zz (false,ws.map .str)])=.ok (.c (m.length+1)) (put (m++[Zz (false,ws.map .str),Zz (false,[])]) i s):=by
   rw[bA hi];simp[ev,evs,ag,cF,lim,aG]
  rw[aq c2];simp only[RR,RS];have hr:=nK (i:=r) ⟨by omega,by omega⟩;have hit:ev (cf (n+3)) gv (.blt .di (.cons (.call 41 (.cons (.var 0) (.cons (.bin .Add (.var 2) (.con (.int 1))) .nil))) .nil)) [Zz (.c i),Zz (.t (.lst (ws.map .str))),Zz (.t (.int (most:Int))),Zz (.c m.length),Zz (.c (m.length+1)),Zy] (put (m++[Zz (false,ws.map .str),Zz (false,[])]) i s)=.ok (.t (.lst (rangeT 0 r.toNat))) (put (m++[Zz (false,ws.map .str),Zz (false,[])]) i s1):=
   aA ((am (aa rfl) (aD (aa rfl) (ae _) (cR _ _))).trans d1) hr
  rw[iz hit rfl g2];refine aj (aA (x:=.lst ((iP f2).map .str)) ?_ (ij _));have hv:∀ws,views (.c (m.length+1)::ws) (put (m++[Zz (false,l2.map .str),Zz (false,f2.map .str)]) i s2)=(views ws (put (m++[Zz (false,l2.map .str),Zz (false,f2.map .str)]) i s2)).map (.lst (f2.map .str)::·):=λws=>by
   simp[views,view,J4 hi]
  show ev (cf (n+3)) gv (.blt .sorted (.cons (.var 4) .nil)) _ (put (m++[Zz (false,l2.map .str),Zz (false,f2.map .str)]) i s2)=_;rw[ev,evs,aa rfl,ag,evs,ag,ag,hv];show bX ((strs? (f2.map T.str)).bind λxs=>if xs.length<64 then Zz (T.lst ((iP xs).map .str))else Zy) _=_;rw[ku,SE,Xy (by omega)];rfl
 rw[FG];simp only[RI,Rz,RQ,TC,if_true,RL,VH,TJ,V7];rw[key];show Res.ok _ ((put (m++[Zz (false,l2.map .str),Zz (false,f2.map .str)]) i s2).take (put m i s).length)=_;rw[aG,Fa hi]
theorem Ds{α:Type}{f:α->T}{P:α->Prop}{ts:List T}{xss:List (List T)}(h:uA (λ_ xs=>∃c,P c/\xs=[f c]) ts xss):∃cs:List α,xss.flatten=cs.map f/\cs.length=ts.length/\∀c∈cs,P c:=by
 induction h with
 |nil=>exact⟨[],rfl,rfl,λ_ h=>by cases h⟩
 |cons h _ ih =>
  obtain⟨c,hc,rfl⟩:=h;obtain⟨cs,h1,h2,h3⟩:=ih;exact⟨c::cs,by rw[Tl,h1];rfl,by simp[h2],by simpa using⟨hc,h3⟩⟩
theorem drawn{α:Type}{f:α->T}{P:α->Prop}{n own:Nat}{keep:List Nat}{c it e inner:E}{tg:Tg}{env:Env}{m m0:Mem}{i:Nat}{s:List T}{x:T}{ts:List T}(hc:c=.comp own keep it tg .nil inner)(he:inner=.emit e)(hs:bi s)(h0:ev (cf n) gv it env m0=.ok (.t x) (put m i s))(hx:mi x=Zz ts)(hl:ts.length<=lim)(h:∀t∈ts,∀s,bi s->∃env' c s',bJ tg t (RL own Zy++keep.map λi=>(env[i]?).join)=Zz env'/\ev (cf n) gv e env' (put m i s)=.ok (.t (f c)) (put m i s')/\bi s'/\P c):
  ∃(cs:List α) (s':List T),ev (cf n) gv c env m0=.ok (.t (.lst (cs.map f))) (put m i s')/\bi s'/\cs.length=ts.length/\∀c∈cs,P c:=by
 subst hc he;obtain⟨xss,m',h2,⟨s2,rfl,hs2⟩,ht⟩:=sH (f:=bp (cf n) gv .nil (.emit e)) (tg:=tg) (env:=RL own Zy++keep.map λi=>(env[i]?).join) (P:=λm'=>∃s,m'=put m i s/\bi s) (R:=λ_ xs=>∃c,P c/\xs=[f c]) ts (put m i s) ⟨s,rfl,hs⟩ (by
  rintro t ht m' ⟨s,rfl,hs⟩;obtain⟨env',c,s',h1,h2,h3,h4⟩:=h t ht s hs;exact⟨env',_,_,h1,iT (cp h2),⟨s',rfl,h3⟩,c,h4,rfl⟩)
 obtain⟨cs,e1,e2,e3⟩:=Ds ht;rw[e1]at h2;exact⟨cs,s2,aX (x:=.t x) h0 (by simp[ba,hx]) h2 (by rw[R2];omega),hs2,e2,e3⟩
section
variable{n:Nat}{m:Mem}{i:Nat}{s:List T}
theorem tV(hi:i<m.length)(hs:bi s):∃(v:Int) (s':List T),cf (n+4) 43 [.c i] (put m i s)=.ok (.t (.int v)) (put m i s')/\bi s'/\0<=v/\v<=1000000000:=by
 obtain⟨r1,s1,h1,hs1,a0,a1⟩:=aH (n:=n) (many:=10) hi hs (by decide) (by decide);obtain⟨r2,s2,h2,hs2,b0,b1⟩:=aH (n:=n) (many:=10) hi hs1 (by decide) (by decide);obtain⟨r3,s3,h3,hs3,c0,c1⟩:=aH (n:=n) (many:=2) hi hs2 (by decide) (by decide);obtain⟨r5,s5,h5,hs5,k0,k1⟩:=aH (n:=n) (many:=8) hi hs3 (by decide) (by decide);obtain⟨z,hz,hzm⟩:=gu (xs:=[T.int r1,.int r2,.int (1000000000-r3)]) (i:=r5 / 3%3) (by omega) (by simp;omega);have hz':∃v:Int,z=.int v/\0<=v/\v<=1000000000:=by
  simp only[R7,R8,or_false]at hzm;rcases hzm with rfl|rfl|rfl<;>exact⟨_,rfl,by omega,by omega⟩
 obtain⟨v,rfl,hv⟩:=hz';refine⟨v,s5,?_,hs5,hv⟩;have key:ex (cf (n+3)) gv iL [Zz (.c i)] (put m i s)=.ok (.ret (.t (.int v))) (put m i s5):=by
  unfold iL;exact aj (aS (a9 (al ((am (aa rfl) (ae _)).trans h1) (al ((am (aa rfl) (ae _)).trans h2) (al (aD (aD (ae _) (ae _) rfl) ((am (aa rfl) (ae _)).trans h3) (xK _ _)) aM))) rfl aR) (aD (aD ((am (aa rfl) (ae _)).trans h5) (ae _) (wH (by decide))) (ae _) (lE (by decide))) hz)
 exact aC (AN _ _ _) rfl key (av (cell:=false) (by rw[aG,aG]))
theorem rA(cs:List Nat):aK [] (cs.map λc=>[c])=cs:=by
 rw[uF,<-List.flatMap_def,cI];simp
theorem BS(hi:i<m.length)(hs:bi s):∃(cs:List Nat) (s':List T),cf (n+4) 44 [.c i] (put m i s)=.ok (.t (.str cs)) (put m i s')/\bi s'/\aW cs=true:=by
 have key:∃(cs:List Nat) (s':List T),ex (cf (n+3)) gv ms [Zz (.c i),Zy,Zy] (put m i s)=.ok (.ret (.t (.str cs))) (put m i s')/\bi s'/\aW cs=true:=by
  obtain⟨r,s1,d1,hs1,r0,r1⟩:=aH (n:=n) (many:=8) hi hs (by decide) (by decide);unfold ms;rw[aq (ae _)];obtain⟨cs,s2,h2,hs2,l2,hl⟩:=drawn (c:=o0) (f:=λc=>T.str [c]) (P:=λc=>c∈gr) (env:=[Zz (.c i),Zz (.t (.str gr)),Zy]) rfl rfl hs1 (aA (aD (ae (.int 1)) ((am (aa rfl) (ae (.int 8))).trans d1) (cR _ _)) (nK (show 1+r<2^62/\-(2^62)<=1+r by omega))) rfl (by simp[rangeT,lim];omega) (λt _ s hs=>by
   obtain⟨q,s3,h3,hs3,hq0,hq1⟩:=aH (n:=n) (many:=26) hi hs (by decide) (by decide);obtain⟨c,hc,hcm⟩:=gu (xs:=gr) hq0 (by simpa[gr]using hq1);exact⟨_,c,s3,rfl,aS (aa rfl) ((am (aa rfl) (ae _)).trans h3) (by rw[A8 (by decide),hc];rfl),hs3,hcm⟩)
  have l8:1<=cs.length/\cs.length<=8:=by simp[rangeT]at l2;omega
  have hj:=D9 (m:=put m i s2) (sep:=[]) (strs_map (λc=>[c]) cs) (by rw[HP,Rz,Nat.mul_zero];unfold lim;omega);rw[rA]at hj;have h2:ev (cf (n+3)) gv o0 [Zz (.c i),Zz (.t (.str [97,98,99,100,101,102,103,104,105,106,107,108,109,110,111,112,113,114,115,116,117,118,119,120,121,122])),Zy] (put m i s)=_:=h2;simp only[RR,RS];rw[aq (w:=.t (.str cs)) (m1:=put m i s2) (by simp[ev,evs,cz,aF,dB,DM,h2,hj])];have hin:bD .In (.str cs) (.tup [.str [97,110,121],.str [105,115],.str [98,121],.str [110,111,116],.str [97,110,100],.str [111,114]])=Zz (jW cs):=by
   rcases cs with _|⟨c,_|⟨d,r⟩⟩<;>simp[bD,pS,HN,Ju,A4,BO]
  cases h6:jW cs with
  |true =>
   have hc:cs∈six:=by
    obtain⟨a,ha,hb⟩:=TQ.mp h6;rw[<-eq_of_beq hb];exact ha
   refine⟨cs++[113],s2,aE (m1:=put m i s2) (by simp[ev,evs,cz,aF,dB,lim,hin,h6]) (aj (by simp[ev,evs,cz,aF,dB,ig (a:=cs) (b:=[113]) (by simp[lim];omega)])),hs2,?_⟩;simp only[six,R7,R8,or_false]at hc;rcases hc with rfl|rfl|rfl|rfl|rfl|rfl<;>decide
  |false =>
   refine⟨cs,s2,?_,hs2,?_⟩
   ·rw[aB (m1:=put m i s2) (by simp[ev,evs,cz,aF,dB,lim,hin,h6])]
    exact aj (by simp[ev,evs,cz,aF,dB])
   ·simp[aW,h6,l8]
    exact hl
 obtain⟨cs,s',e,hs',hw⟩:=key;exact⟨cs,s',aC (ER _ _ _) rfl e (av (cell:=false) (by rw[aG,aG])),hs',hw⟩
theorem kt{ws:List (List Nat)}(hi:i<m.length)(hs:bi s)(h0:0<ws.length)(h1:ws.length<100)(hw:ws.all aW=true):∃(cs:List Nat) (s':List T),cf (n+5) 45 [.c i,.t (.lst (ws.map .str))] (put m i s)=.ok (.t (.str cs)) (put m i s')/\bi s'/\aW cs=true:=by
 have key:∃(cs:List Nat) (s':List T),ex (cf (n+4)) gv mx [Zz (.c i),Zz (.t (.lst (ws.map .str)))] (put m i s)=.ok (.ret (.t (.str cs))) (put m i s')/\bi s'/\aW cs=true:=by
  obtain⟨r,s1,d1,hs1,r0,r1⟩:=aH (n:=n+1) (many:=3) hi hs (by decide) (by decide);unfold mx;have c1:=ao (op:=.Eq) ((am (f:=41) (call:=cf (n+4)) (gv:=gv) (env:=[Zz (.c i),Zz (.t (.lst (ws.map .str)))]) (a:=.var 0) (aa rfl) (ae (.int 3))).trans d1) (ae (.int 0)) (dy _ _);cases hr:r==0 with
  |true =>
   rw[hr]at c1;obtain⟨cs,s2,d2,hs2,h2⟩:=BS (n:=n) hi hs1;exact⟨cs,s2,aE c1 (aj ((ap (aa rfl)).trans d2)),hs2,h2⟩
  |false =>
   rw[hr]at c1;obtain⟨q,s2,d2,hs2,q0,q1⟩:=aH (n:=n+1) (many:=(ws.length:Int)) hi hs1 (by omega) (by omega);obtain⟨x,hx,hm⟩:=gu (xs:=ws.map T.str) q0 (by rw[R2];exact q1);obtain⟨w,hwm,rfl⟩:=Rg.mp hm;have hl:cv .len [.lst (ws.map T.str)]=Zz (.int (ws.length:Int)):=by simp[cv,Mi.gq,HX]
   refine⟨w,s2,?_,hs2,RX.mp hw w hwm⟩;rw[aB c1];exact aj (aS (aa rfl) ((am (aa rfl) (aA (aa rfl) hl)).trans d2) hx)
 obtain⟨cs,s',e,hs',h⟩:=key;exact⟨cs,s',aC (Er _ _ _) rfl e (av (cell:=false) (by rw[aG,aG])),hs',h⟩
end
theorem xR(x:List Nat):∀l,(sw x l).length<=l.length+1
 |[]=>RU _
 |y::l=>by
  unfold sw;split
  ·exact RU _
  ·split
   ·rw[RI,RI]
    have:=xR x l;omega
   ·rw[RI];omega
theorem pU:∀xs,(bS xs).length<=xs.length
 |[]=>RU _
 |x::xs=>by
  have h1:=xR x (bS xs);have h2:=pU xs;show(sw x (bS xs)).length<=_;rw[RI];omega
theorem GG{call:Nat->List W->Mem->Res W}{gv:List T}{env:Env}{m m1:Mem}{a:E}{x:T}(h1:ev call gv a env m=.ok (.t x) m1):ev call gv (.lst (.cons a .nil)) env m=.ok (.t (.lst [x])) m1:=by
 simp only[ev,evs,h1,ag,df,cF];exact Xy (by simp[lim])
noncomputable def sp(p:List Nat×Int):T:=.tup [.str p.1,.int p.2]
noncomputable def mz(nm kd:List Nat)(mk:List (List Nat))(sz:List (List Nat×Int)):T:=.tup [.str nm,.str kd,.tup (mk.map .str),.tup (sz.map sp)]
noncomputable def uX(ws:List (List Nat)):T:=.lst (ws.map .str)
structure ug (ws:List (List Nat)):Prop where
 one:1<=ws.length
 few:ws.length<=9
 nd:ws.Nodup
 wd:ws.all aW=true
structure GoodC (nm kd:List Nat) (mk:List (List Nat)) (sz:List (List Nat×Int)):Prop where
 nm:aW nm=true
 kd:aW kd=true
 L3:mk.length<=6
 Mk:dU mk=true
 Ll:mk.all aW=true
 LK:sz.length<=6
 Mj:dU (sz.map (·.1))=true
 K2:∀p∈sz,aW p.1=true/\0<=p.2/\p.2<=1000000000
section
variable{n:Nat}{m:Mem}{i:Nat}{s:List T}
theorem Go{e1 e2 e3 e4 e5:Option W}(hi:i<m.length)(hs:bi s):∃(a b:List (List Nat)) (s':List T),ev (cf (n+4)) gv pf [Zz (.c i),e1,e2,e3,e4,e5] (put m i s)=.ok (.t (.lst [uX a,uX b])) (put m i s')/\bi s'/\ug a/\ug b:=by
 obtain⟨cs,s2,h2,hs2,l2,hp⟩:=drawn (c:=pf) (f:=uX) (P:=ug) (env:=[Zz (.c i),e1,e2,e3,e4,e5]) (n:=n+4) rfl rfl hs (aA (ae (.int 2)) (nK (by decide))) rfl (by simp[rangeT,lim]) (λt _ s hs=>by
  obtain⟨fs,s3,h3,hs3,l3,hw⟩:=drawn (c:=uO) (f:=T.str) (P:=λc=>aW c=true) (env:=[Zz (.t t),Zz (.c i)]) (n:=n+4) rfl rfl hs (aA (ae (.int 8)) (nK (by decide))) rfl (by simp[rangeT,lim]) (λt _ s hs=>by
   obtain⟨c,s4,h4,hs4,hc⟩:=BS (n:=n) hi hs;exact⟨_,c,s4,rfl,(ap (aa rfl)).trans h4,hs4,hc⟩)
  have l3:fs.length=8:=by simpa[rangeT]using l3
  have hadd:oO .Add (.lst (fs.map .str)) (.lst [.str [109,110]])=Zz (.lst ((fs++[[109,110]]).map .str)):=by
   show(if _ then _ else _)=_;rw[Xy (by simp[l3,lim]),U7];rfl
  have hset:cv .qV [.lst ((fs++[[109,110]]).map .str)]=Zz (uX (bS (fs++[[109,110]]))):=by
   show((strs? ((fs++[[109,110]]).map T.str)).bind λxs=>if xs.length<64 then Zz (T.lst ((bS xs).map .str))else Zy)=_;rw[ku,SE,Xy (by simp[l3])];rfl
  refine⟨_,bS (fs++[[109,110]]),s3,rfl,aA (aD h3 (GG (ae _)) hadd) hset,hs3,?_,?_,sX _,?_⟩
  ·exact List.length_pos_of_mem ((hJ [109,110] _).mpr (by simp))
  ·have:=pU (fs++[[109,110]])
   rw[RV,l3]at this;exact this
  ·rw[RX]
   intro w hm;rcases SP.mp ((hJ w _).mp hm)with h|h
   ·exact hw w h
   ·rw[RN]at h
    rw[h];decide)
 have l2:cs.length=2:=by simpa[rangeT]using l2
 rcases cs with _|⟨a,_|⟨b,_|_⟩⟩
 ·cases l2
 ·cases l2
 ·exact⟨a,b,s2,h2,hs2,hp a (by simp),hp b (by simp)⟩
 ·simp at l2
theorem Ja(k:Nat):cv .min2 [.int 6,.int (k:Int)]=Zz (.int ((min 6 k:Nat):Int)):=by
 show Zz (T.int (if(k:Int)<6 then(k:Int)else 6))=_;by_cases h:k<6
 ·rw[Xy (by omega),Nat.min_eq_right (by omega)]
 ·rw[Xz (by omega),Ul (by omega)];rfl
theorem KR(ws:List (List Nat)):cv .len [uX ws]=Zz (.int (ws.length:Int)):=by simp[cv,Mi.gq,HX,uX]
theorem IU{env:Env}{ws:List (List Nat)}{e:E}(hi:i<m.length)(hs:bi s)(hg:ug ws)(h0:env[0]?=Zz (Zz (.c i)))(he:∀s,ev (cf (n+4)) gv e env (put m i s)=.ok (.t (uX ws)) (put m i s)):
  ∃(fs:List (List Nat)) (s':List T),ev (cf (n+4)) gv (.call 42 (.cons (.var 0) (.cons e (.cons (.blt .min2 (.cons (.con (.int 6)) (.cons (.blt .len (.cons e .nil)) .nil))) .nil)))) env (put m i s)=.ok (.t (.tup (fs.map .str))) (put m i s')/\bi s'/\fs.length<=6/\dU fs=true/\fs.all aW=true:=by
 obtain⟨fs,s1,h1,hs1,l1,r1,w1⟩:=GQ (n:=n) (ws:=ws) (most:=min 6 ws.length) hi hs (by omega) (by have:=hg.few;omega) hg.nd;exact⟨fs,s1,(eS (aa h0) (he s) (vO (ae _) (aA (he s) (KR ws)) (Ja _))).trans h1,hs1,by omega,r1,RX.mpr λw hw=>RX.mp hg.wd w (w1 w hw)⟩
theorem GR(hi:i<m.length)(hs:bi s):∃(nm kd:List Nat) (mk:List (List Nat)) (sz:List (List Nat×Int)) (s':List T),cf (n+6) 46 [.c i] (put m i s)=.ok (.t (mz nm kd mk sz)) (put m i s')/\bi s'/\GoodC nm kd mk sz:=by
 obtain⟨nm,s1,h1,hs1,w1⟩:=kt (n:=n) (ws:=[[97,110,110],[98,111,98],[99,121],[122,122,122,122,122,122,122,122],[112,114,105,99,101]]) hi hs (by decide) (by decide) (by decide);obtain⟨kd,s2,h2,hs2,w2⟩:=kt (n:=n) (ws:=[[98,114,101,97,100],[119,111,111,100],[105,115,108,101]]) hi hs1 (by decide) (by decide) (by decide);obtain⟨r,s3,h3,hs3,r0,r1⟩:=aH (n:=n+2) (many:=2) hi hs2 (by decide) (by decide);have rest:∀(a b:List (List Nat)) (s:List T),bi s->ug a->ug b->∃(mk:List (List Nat)) (sz:List (List Nat×Int)) (s':List T),ex (cf (n+5)) gv (.asg 4 (.call 42 (.cons (.var 0) (.cons (.ix (.var 3) (.con (.int 0))) (.cons (.blt .min2 (.cons (.con (.int 6)) (.cons (.blt .len (.cons (.ix (.var 3) (.con (.int 0))) .nil)) .nil))) .nil)))) (.asg 5 (.blt .tuple (.cons pc .nil)) (.ret (.tup (.cons (.var 1) (.cons (.var 2) (.cons (.var 4) (.cons (.var 5) .nil))))) .done))) [Zz (.c i),Zz (.t (.str nm)),Zz (.t (.str kd)),Zz (.t (.lst [uX a,uX b])),Zy,Zy] (put m i s)=.ok (.ret (.t (mz nm kd mk sz))) (put m i s')/\bi s'/\GoodC nm kd mk sz:=λa b s hs ga gb=>by
  obtain⟨mk,s4,h4,hs4,l4,r4,w4⟩:=IU (n:=n+1) (env:=[Zz (.c i),Zz (.t (.str nm)),Zz (.t (.str kd)),Zz (.t (.lst [uX a,uX b])),Zy,Zy]) (e:=.ix (.var 3) (.con (.int 0))) hi hs ga rfl (λs=>aS (aa rfl) (ae _) (at0 _ _));rw[aq h4];simp only[RR,RS];obtain⟨fs,s5,h5,hs5,l5,r5,w5⟩:=IU (n:=n+1) (env:=[Zz (.c i),Zz (.t (.str nm)),Zz (.t (.str kd)),Zz (.t (.lst [uX a,uX b])),Zz (.t (.tup (mk.map .str))),Zy]) (e:=.ix (.var 3) (.con (.int 1))) hi hs4 gb rfl (λs=>aS (aa rfl) (ae _) (at1 _ _ _));have walk:∃(sz:List (List Nat×Int)) (s':List T),ev (cf (n+5)) gv pc [Zz (.c i),Zz (.t (.str nm)),Zz (.t (.str kd)),Zz (.t (.lst [uX a,uX b])),Zz (.t (.tup (mk.map .str))),Zy] (put m i s4)=.ok (.t (.lst (sz.map sp))) (put m i s')/\bi s'/\sz.map (·.1)=fs/\∀p∈sz,0<=p.2/\p.2<=1000000000:=by
   obtain⟨xss,m',g1,⟨s2,rfl,hs2⟩,ht⟩:=sH (f:=bp (cf (n+5)) gv .nil oM) (tg:=.nm 0) (env:=[Zy,Zz (.c i)]) (P:=λm'=>∃s,m'=put m i s/\bi s) (R:=λt xs=>∃p:List Nat×Int,(0<=p.2/\p.2<=1000000000)/\t=.str p.1/\xs=[sp p]) (fs.map .str) (put m i s5) ⟨s5,rfl,hs5⟩ (by
    rintro t ht m' ⟨s,rfl,hs⟩;obtain⟨w,_,rfl⟩:=Rg.mp ht;obtain⟨v,s3,h3,hs3,hv⟩:=tV (n:=n+1) hi hs;exact⟨[Zz (.t (.str w)),Zz (.c i)],_,_,rfl,iT (show ev (cf (n+5)) gv oM _ _=_ from cp (bf (aa rfl) ((ap (aa rfl)).trans h3))),⟨s3,rfl,hs3⟩,(w,v),hv,rfl,rfl⟩)
   have:∀(fs:List (List Nat)) (xss:List (List T)),uA (λt xs=>∃p:List Nat×Int,(0<=p.2/\p.2<=1000000000)/\t=.str p.1/\xs=[sp p]) (fs.map T.str) xss->∃sz:List (List Nat×Int),xss.flatten=sz.map sp/\sz.map (·.1)=fs/\∀p∈sz,0<=p.2/\p.2<=1000000000:=λfs=>by
    induction fs with
    |nil=>intro xss h;cases h;exact⟨[],rfl,rfl,λ_ h=>by cases h⟩
    |cons f fs ih =>
     intro xss h;cases h with
     |cons h1 h2 =>
      obtain⟨p,hp,e,rfl⟩:=h1;cases e;obtain⟨sz,q1,q2,q3⟩:=ih _ h2;exact⟨p::sz,by rw[Tl,q1];rfl,by rw[RQ,q2],R1.mpr ⟨hp,q3⟩⟩
   obtain⟨sz,q1,q2,q3⟩:=this _ _ ht;rw[q1]at g1;have ql:sz.length=fs.length:=by rw[<-q2,R2]
   exact⟨sz,s2,aX (x:=.t (.tup (fs.map .str))) h5 rfl g1 (by rw[R2];unfold lim;omega),hs2,q2,q3⟩
  obtain⟨sz,s6,h6,hs6,e6,b6⟩:=walk;rw[aq (aA h6 (ij _))];refine⟨mk,sz,s6,aj (fh (al (aa rfl) (al (aa rfl) (al (aa rfl) (al (aa rfl) aM)))) rfl aR),hs6,w1,w2,l4,r4,w4,?_,by rw[e6];exact r5,λp hp=>⟨RX.mp w5 p.1 (by rw[<-e6];exact Vc hp),b6 p hp⟩⟩;have:=congrArg Rf e6;rw[R2]at this;omega
 have key:∃(mk:List (List Nat)) (sz:List (List Nat×Int)) (s':List T),ex (cf (n+5)) gv mD [Zz (.c i),Zy,Zy,Zy,Zy,Zy] (put m i s)=.ok (.ret (.t (mz nm kd mk sz))) (put m i s')/\bi s'/\GoodC nm kd mk sz:=by
  unfold mD;rw[aq (w:=.t (.str nm)) (m1:=put m i s1) ((am (aa rfl) (a9 (al (ae _) (al (ae _) (al (ae _) (al (ae _) (al (ae _) aM))))) rfl aR)).trans h1)];rw[aq (w:=.t (.str kd)) (m1:=put m i s2) ((am (aa rfl) (a9 (al (ae _) (al (ae _) (al (ae _) aM))) rfl aR)).trans h2)];rw[aq (w:=.t (.lst [uX [[97],[102,114,101,115,104],[111,108,100],[114,121,101],[97,110,110],[97,110,121,120]],uX [[97],[112,114,105,99,101],[119,105,100,116,104],[111,108,100]]])) (m1:=put m i s2) (ci (a9 (al (ae _) (al (ae _) (al (ae _) (al (ae _) (al (ae _) (al (ae _) aM)))))) rfl aR) (a9 (al (ae _) (al (ae _) (al (ae _) (al (ae _) aM)))) rfl aR))];simp only[RR,RS];have c1:=λenv (h:env[0]?=Zz (Zz (.c i)))=>ao (op:=.Eq) ((am (f:=41) (call:=cf (n+5)) (gv:=gv) (env:=env) (a:=.var 0) (aa h) (ae (.int 2))).trans h3) (ae (.int 0)) (dy _ _)
  cases hr:r==0 with
  |true =>
   rw[hr]at c1;obtain⟨a,b,s4,h4,hs4,ga,gb⟩:=Go (n:=n+1) (e1:=Zz (.t (.str nm))) (e2:=Zz (.t (.str kd))) (e3:=Zz (.t (.lst [uX [[97],[102,114,101,115,104],[111,108,100],[114,121,101],[97,110,110],[97,110,121,120]],uX [[97],[112,114,105,99,101],[119,105,100,116,104],[111,108,100]]]))) (e4:=Zy) (e5:=Zy) hi hs3;obtain⟨mk,sz,s5,h5,hs5,g5⟩:=rest a b s4 hs4 ga gb;refine⟨mk,sz,s5,?_,hs5,g5⟩;rw[l7 (c1 _ rfl) (by rw[aq h4,ex])];exact h5
  |false =>
   rw[hr]at c1;obtain⟨mk,sz,s5,h5,hs5,g5⟩:=rest [[97],[102,114,101,115,104],[111,108,100],[114,121,101],[97,110,110],[97,110,121,120]] [[97],[112,114,105,99,101],[119,105,100,116,104],[111,108,100]] s3 hs3 ⟨by decide,by decide,by decide,by decide⟩ ⟨by decide,by decide,by decide,by decide⟩;refine⟨mk,sz,s5,?_,hs5,g5⟩;rw[aB (c1 _ rfl)];exact h5
 obtain⟨mk,sz,s',e,hs',h⟩:=key;exact⟨nm,kd,mk,sz,s',aC (F6 _ _ _) rfl e (av (cell:=false) (by rw[aG,aG])),hs',h⟩
theorem BH(hi:i<m.length)(hs:bi s):∃(t:T) (s':List T),cf (n+6) 47 [.c i] (put m i s)=.ok (.t t) (put m i s')/\bi s'/\oC t:=by
 have key:∃(t:T) (s':List T),ex (cf (n+5)) gv ny [Zz (.c i),Zy] (put m i s)=.ok (.ret (.t t)) (put m i s')/\bi s'/\oC t:=by
  obtain⟨r,s1,d1,hs1,r0,r1⟩:=aH (n:=n+2) (many:=8) hi hs (by decide) (by decide);have d1:cf (n+5) 41 [.c i,.t (.int 8)] (put m i s)=.ok (.t (.int r)) (put m i s1):=d1;unfold ny;rw[aq ((am (aa rfl) (ae _)).trans d1)];by_cases h2:r<2
  ·exact⟨_,s1,aE (ao (k:=true) (aa rfl) (ae _) ((k9 _ _).trans (congrArg Zz (Y1 h2)))) (aj (qT (ae _))),hs1,.any⟩
  rw[aB (ao (k:=false) (aa rfl) (ae _) ((k9 _ _).trans (congrArg Zz (Y0 h2))))];by_cases h3:r=2
  ·obtain⟨w,s2,d2,hs2,w2⟩:=kt (n:=n) (ws:=[[97,110,110],[98,111,98],[99,121],[122,122,122,122,122,122,122,122]]) hi hs1 (by decide) (by decide) (by decide)
   simp only[RQ,TC]at d2;exact⟨_,s2,aE (ao (k:=true) (aa rfl) (ae _) (by rw[dy,h3];rfl)) (aj (bf (ae _) ((am (aa rfl) (a9 (al (ae _) (al (ae _) (al (ae _) (al (ae _) aM)))) rfl aR)).trans d2))),hs2,.two (.inr rfl) w2⟩
  rw[aB (ao (k:=false) (aa rfl) (ae _) (by rw[dy,beq_false_of_ne h3]))];by_cases h4:r<5
  ·obtain⟨w,s2,d2,hs2,w2⟩:=kt (n:=n) (ws:=[[97],[112,114,105,99,101],[119,105,100,116,104],[111,108,100]]) hi hs1 (by decide) (by decide) (by decide)
   simp only[RQ,TC]at d2;obtain⟨v,s3,d3,hs3,v0,v1⟩:=tV (n:=n+1) hi hs2;by_cases hr:r%2=0
   ·exact⟨_,s3,aE (ao (k:=true) (aa rfl) (ae _) ((k9 _ _).trans (congrArg Zz (Y1 h4)))) (aj (gX (aS (ci (ae _) (ae _)) (aD (aa rfl) (ae _) (lE (by decide))) (by rw[hr];rfl)) ((am (aa rfl) (a9 (al (ae _) (al (ae _) (al (ae _) (al (ae _) aM)))) rfl aR)).trans d2) ((ap (aa rfl)).trans d3))),hs3,.three (.inl rfl) w2 v0 v1⟩
   ·have hr:r%2=1:=by omega
    exact⟨_,s3,aE (ao (k:=true) (aa rfl) (ae _) ((k9 _ _).trans (congrArg Zz (Y1 h4)))) (aj (gX (aS (ci (ae _) (ae _)) (aD (aa rfl) (ae _) (lE (by decide))) (by rw[hr];rfl)) ((am (aa rfl) (a9 (al (ae _) (al (ae _) (al (ae _) (al (ae _) aM)))) rfl aR)).trans d2) ((ap (aa rfl)).trans d3))),hs3,.three (.inr rfl) w2 v0 v1⟩
  rw[aB (ao (k:=false) (aa rfl) (ae _) ((k9 _ _).trans (congrArg Zz (Y0 h4))))];obtain⟨w,s2,d2,hs2,w2⟩:=kt (n:=n) (ws:=[[97],[102,114,101,115,104],[111,108,100],[114,121,101],[97,110,110],[119,111,111,100]]) hi hs1 (by decide) (by decide) (by decide);simp only[RQ,TC]at d2;exact⟨_,s2,aj (bf (ae _) ((am (aa rfl) (a9 (al (ae _) (al (ae _) (al (ae _) (al (ae _) (al (ae _) (al (ae _) aM)))))) rfl aR)).trans d2)),hs2,.two (.inl rfl) w2⟩
 obtain⟨t,s',e,hs',h⟩:=key;exact⟨t,s',aC (DD _ _ _) rfl e (av (cell:=false) (by rw[aG,aG])),hs',h⟩
end
theorem v9{M:Mem}{i j:Nat}{s R:List T}(hij:i≠j)(hj:j<M.length):(put (put M j R) i s)[j]?=Zz (Zz (false,R)):=by
 have h:=AD (m:=M) (i:=j) (s:=R) hj;unfold put at h ⊢;rw[Rx hij];exact h
theorem Ef{M:Mem}{i j:Nat}{s R R':List T}(hij:i≠j):(put (put M j R) i s).set j (Zz (false,R'))=put (put M j R') i s:=by
 unfold put;rw[List.set_comm _ _ hij.symm,List.set_set];exact List.set_comm _ _ hij
theorem xy{call:Nat->List W->Mem->Res W}{env:Env}{M:Mem}{i j:Nat}{s:List T}{r:Int}{k:S}(hij:i≠j)(hj:j<M.length)(h2:env[2]?=Zz (Zz (.c j))):
  ex call gv (.set (.var 2) (.con (.int 0)) (.bin .Sub (.ix (.var 2) (.con (.int 0))) (.con (.int 1))) k) env (put (put M j [.int r]) i s)=ex call gv k env (put (put M j [.int (r-1)]) i s):=by
 rw[ve (aD (jI h2 (v9 hij hj) rfl) (ae _) (xK _ _)) (aa h2) (ae _) (v9 hij hj) rfl];show ex call gv k env ((put (put M j [.int r]) i s).set j (Zz (false,[.int (r-1)])))=_;rw[Ef hij]
theorem oC.tot{d:Nat}{t:T}(h:oC t):tot (d+1) [t]=1:=by rw[j9,h.Iu,i9]
def Drawn(N d:Nat)(M:Mem)(i j:Nat):Prop:=∀(s:List T) (r:Int),bi s->∃(t:T) (s':List T),cf N 48 [.c i,.t (.int ((d:Int)+1)),.c j] (put (put M j [.int r]) i s)=.ok (.t t) (put (put M j [.int (r-(tot (d+1) [t]:Nat))]) i s')/\bi s'/\WT (d+1) t/\(r<=3->tot (d+1) [t]=1)/\(3<r->(tot (d+1) [t]:Int)<=r-3+5*d+1)
theorem pD{N d:Nat}{M:Mem}{i j:Nat}(h:Drawn N d M i j):∀(ts:List T) (s:List T) (r:Int),bi s->∃(ws:List T) (s':List T),bU (bp (cf N) gv .nil kL) (.nm 0) ts [Zy,Zz (.c i),Zz (.c j),Zz (.t (.int ((d:Int)+1+1)))] (put (put M j [.int r]) i s)=.ok ws (put (put M j [.int (r-(tot (d+1) ws:Nat))]) i s')/\bi s'/\ws.length=ts.length/\(∀w∈ws,WT (d+1) w)/\(r<=3->tot (d+1) ws=ts.length)/\(3<r->(tot (d+1) ws:Int)<=r-3+5*d+ts.length)
 |[],s,r,hs=>⟨[],s,by rw[bU,i9];simp,hs,rfl,λ_ h=>(by cases h),λ_=>i9 _,λh=>by rw[i9];simp;omega⟩
 |t::ts,s,r,hs=>by
  obtain⟨w,s1,h1,hs1,w1,a1,b1⟩:=h s r hs;obtain⟨ws,s2,h2,hs2,l2,w2,a2,b2⟩:=pD h ts s1 (r-(tot (d+1) [w]:Nat)) hs1;have ht:tot (d+1) (w::ws)=tot (d+1) [w]+tot (d+1) ws:=lT (d+1) [w] ws;refine⟨w::ws,s2,?_,hs2,by simp[l2],R1.mpr ⟨w1,w2⟩,λh=>?_,λh=>?_⟩
  ·rw[bU]
   have hb:bJ (.nm 0) t [Zy,Zz (.c i),Zz (.c j),Zz (.t (.int ((d:Int)+1+1)))]=Zz [Zz (.t t),Zz (.c i),Zz (.c j),Zz (.t (.int ((d:Int)+1+1)))]:=rfl;rw[hb];dsimp only;have hsub:=aD (call:=cf N) (gv:=gv) (env:=[Zz (.t t),Zz (.c i),Zz (.c j),Zz (.t (.int ((d:Int)+1+1)))]) (m:=put (put M j [.int r]) i s) (aa (i:=3) rfl) (ae (.int 1)) (xK ((d:Int)+1+1) 1);rw[show(d:Int)+1+1-1=(d:Int)+1 by omega]at hsub;rw[iT (show ev (cf N) gv kL _ _=_ from cp ((eS (aa rfl) hsub (aa rfl)).trans h1)),ag,h2,ag,show r-(tot (d+1) [w]:Nat)-(tot (d+1) ws:Nat)=r-(tot (d+1) (w::ws):Nat) by rw[ht];omega];rfl
  ·have:=a1 h
   have:=a2 (by omega);rw[ht,RI];omega
  ·have:=b1 h
   rw[ht,RI];by_cases h3:r-(tot (d+1) [w]:Nat)<=3
   ·have:=a2 h3;omega
   ·have:=b2 (by omega);omega
theorem HO:∀(d:Nat) {n:Nat}{M:Mem}{i j:Nat},i≠j->i<M.length->j<M.length->Drawn (n+(d+7)) d M i j:=by
 intro d
 induction d with
 |zero =>
  intro n M i j hij hi hj s r hs;have hi':i<(put M j [.int (r-1)]).length:=by rw[aG];exact hi
  obtain⟨q,s1,d1,hs1,q0,q1⟩:=aH (n:=n+3) (many:=6) hi' hs (by decide) (by decide);obtain⟨t,s2,d2,hs2,hl⟩:=BH (n:=n) hi' hs1;refine⟨t,s2,?_,hs2,hl.wt,λ_=>hl.tot,λh=>by rw[hl.tot];omega⟩;rw[hl.tot];have key:ex (cf (n+6)) gv jf [Zz (.c i),Zz (.t (.int 1)),Zz (.c j),Zy,Zy] (put (put M j [.int r]) i s)=.ok (.ret (.t t)) (put (put M j [.int (r-1)]) i s2):=by
   unfold jf;rw[xy hij hj rfl];rw[aq ((am (aa rfl) (ae _)).trans d1)];exact aE (dh (ao (k:=true) (aa rfl) (ae _) rfl)) (aj ((ap (aa rfl)).trans d2))
  exact aC (yk _ _ _) rfl key (av (cell:=false) (by rw[aG,aG,aG,aG]))
 |succ d ih =>
  intro n M i j hij hi hj s r hs;have D:=ih (n:=n) hij hi hj;have hi':∀r:Int,i<(put M j [.int r]).length:=λr=>by rw[aG];exact hi
  obtain⟨q,s1,d1,hs1,q0,q1⟩:=aH (n:=n+(d+4)) (many:=6) (hi' (r-1)) hs (by decide) (by decide);have d1:cf (n+(d+7)) 41 [.c i,.t (.int 6)] (put (put M j [.int (r-1)]) i s)=.ok (.t (.int q)) (put (put M j [.int (r-1)]) i s1):=d1;have key:∃(t:T) (s':List T),ex (cf (n+(d+7))) gv jf [Zz (.c i),Zz (.t (.int ((d:Int)+1+1))),Zz (.c j),Zy,Zy] (put (put M j [.int r]) i s)=.ok (.ret (.t t)) (put (put M j [.int (r-(tot (d+2) [t]:Nat))]) i s')/\bi s'/\WT (d+2) t/\(r<=3->tot (d+2) [t]=1)/\(3<r->(tot (d+2) [t]:Int)<=r-3+5*(d+1)+1):=by
   unfold jf;rw[xy hij hj rfl];rw[aq ((am (aa rfl) (ae _)).trans d1)];simp only[RR,RS];generalize hE:([Zz (.c i),Zz (.t (.int ((d:Int)+1+1))),Zz (.c j),Zz (.t (.int q)),Zy]:Env)=env;have e0:env[0]?=Zz (Zz (.c i)):=by rw[<-hE];rfl
   have e1:env[1]?=Zz (Zz (.t (.int ((d:Int)+1+1)))):=by rw[<-hE];rfl
   have e2:env[2]?=Zz (Zz (.c j)):=by rw[<-hE];rfl
   have e3:env[3]?=Zz (Zz (.t (.int q))):=by rw[<-hE];rfl
   have c1:=ao (call:=cf (n+(d+7))) (gv:=gv) (m:=put (put M j [.int (r-1)]) i s1) (aa e1) (ae (.int 2)) (k9 _ _);rw[Y0 (by omega)]at c1;have c2:=ao (call:=cf (n+(d+7))) (gv:=gv) (m:=put (put M j [.int (r-1)]) i s1) (aa e3) (ae (.int 2)) (k9 _ _);have c3:=ao (call:=cf (n+(d+7))) (gv:=gv) (jI (k:=0) e2 (v9 (s:=s1) (R:=[.int (r-1)]) hij hj) rfl) (ae (.int 3)) (k9 (r-1) 3);have leafs:∀k:S,ev (cf (n+(d+7))) gv (.or (.cmp .Lt (.var 1) (.con (.int 2))) (.or (.cmp .Lt (.var 3) (.con (.int 2))) (.cmp .Lt (.ix (.var 2) (.con (.int 0))) (.con (.int 3))))) env (put (put M j [.int (r-1)]) i s1)=.ok (.t (.bl true)) (put (put M j [.int (r-1)]) i s1)->∃(t:T) (s':List T),ex (cf (n+(d+7))) gv (.bk (.or (.cmp .Lt (.var 1) (.con (.int 2))) (.or (.cmp .Lt (.var 3) (.con (.int 2))) (.cmp .Lt (.ix (.var 2) (.con (.int 0))) (.con (.int 3))))) (.ret (.call 47 (.cons (.var 0) .nil)) .done) .done k) env (put (put M j [.int (r-1)]) i s1)=.ok (.ret (.t t)) (put (put M j [.int (r-(tot (d+2) [t]:Nat))]) i s')/\bi s'/\WT (d+2) t/\(r<=3->tot (d+2) [t]=1)/\(3<r->(tot (d+2) [t]:Int)<=r-3+5*(d+1)+1):=λk hc=>by
    obtain⟨t,s2,d2,hs2,hl⟩:=BH (n:=n+(d+1)) (hi' (r-1)) hs1;have d2:cf (n+(d+7)) 47 [.c i] (put (put M j [.int (r-1)]) i s1)=.ok (.t t) (put (put M j [.int (r-1)]) i s2):=d2;have ht:tot (d+2) [t]=1:=hl.tot;refine⟨t,s2,?_,hs2,hl.wt,λ_=>ht,λh=>by rw[ht];omega⟩;rw[ht];exact aE hc (aj ((ap (aa e0)).trans d2))
   by_cases hq:q<2
   ·rw[Y1 hq]at c2
    exact leafs _ (by rw[bn c1,dh c2])
   rw[Y0 hq]at c2;by_cases hr:r-1<3
   ·rw[Y1 hr]at c3
    exact leafs _ (by rw[bn c1,bn c2,c3])
   rw[Y0 hr]at c3;rw[aB (by rw[bn c1,bn c2,c3])];have hsub:∀m,ev (cf (n+(d+7))) gv (.bin .Sub (.var 1) (.con (.int 1))) env m=.ok (.t (.int ((d:Int)+1))) m:=λm=>by
    have:=aD (call:=cf (n+(d+7))) (gv:=gv) (m:=m) (aa e1) (ae (.int 1)) (xK ((d:Int)+1+1) 1);rw[show(d:Int)+1+1-1=(d:Int)+1 by omega]at this;exact this
   have c4:=ao (call:=cf (n+(d+7))) (gv:=gv) (m:=put (put M j [.int (r-1)]) i s1) (aa e3) (ae (.int 2)) (dy _ _);cases e4:(q==2)with
   |true =>
    rw[e4]at c4;obtain⟨t,s2,d2,hs2,hw,a2,b2⟩:=D s1 (r-1) hs1;have ht:tot (d+2) [.tup [.str [110,111,116],t]]=1+tot (d+1) [t]:=by rw[j9,xS]
    refine⟨_,s2,aE c4 (aj (bf (ae _) ((eS (aa e0) (hsub _) (aa e2)).trans ?_))),hs2,.nt hw,λh=>by omega,λh=>?_⟩
    ·rw[ht,d2,show r-1-(tot (d+1) [t]:Nat)=r-((1+tot (d+1) [t]:Nat):Int) by omega]
    ·rw[ht]
     by_cases h3:r-1<=3
     ·have:=a2 h3;omega
     ·have:=b2 (by omega);omega
   |false =>
    rw[e4]at c4;rw[aB c4];obtain⟨q3,s2,d2,hs2,a0,a1⟩:=aH (n:=n+(d+4)) (many:=3) (hi' (r-1)) hs1 (by decide) (by decide);have d2:cf (n+(d+7)) 41 [.c i,.t (.int 3)] (put (put M j [.int (r-1)]) i s1)=.ok (.t (.int q3)) (put (put M j [.int (r-1)]) i s2):=d2;obtain⟨z,hz,hzm⟩:=gu (xs:=[T.int 2,.int 5]) (i:=q3 / 2) (by omega) (by simp;omega);have hz':∃v:Int,z=.int v/\2<=v/\v<=5:=by
     simp only[R7,R8,or_false]at hzm;rcases hzm with rfl|rfl<;>exact⟨_,rfl,by decide,by decide⟩
    obtain⟨v,rfl,v0,v1⟩:=hz';obtain⟨q4,s3,d3,hs3,b0,b1⟩:=aH (n:=n+(d+4)) (many:=v) (hi' (r-1)) hs2 (by omega) (by omega);have d3:cf (n+(d+7)) 41 [.c i,.t (.int v)] (put (put M j [.int (r-1)]) i s2)=.ok (.t (.int q4)) (put (put M j [.int (r-1)]) i s3):=d3;have hz:rn (.lst [T.int 2,.int 5]) (.int (q3 / 2))=Zz (.int v):=hz;rw[aq (aD (ae (.int 2)) ((am (aa e0) (aS (ci (ae _) (ae _)) (aD ((am (aa e0) (ae _)).trans d2) (ae _) (wH (by decide))) hz)).trans d3) (cR _ _))];obtain⟨ws,s4,h5,hs4,l4,w4,a4,b4⟩:=pD D (rangeT 0 (2+q4).toNat) s3 (r-1) hs3;have hl:ws.length=(2+q4).toNat:=by rw[l4];simp[rangeT]
    have hl':(rangeT 0 (2+q4).toNat).length=(2+q4).toNat:=by simp[rangeT]
    rw[hl']at a4 b4;have hb:∃w,rn (.lst [T.str [97,110,100],.str [111,114]]) (.int (q%2))=Zz (.str w)/\(w=[97,110,100]∨w=[111,114]):=by
     by_cases h:q%2=0
     ·exact⟨_,by rw[h];rfl,.inl rfl⟩
     ·exact⟨_,by rw[show q%2=1 by omega];rfl,.inr rfl⟩
    obtain⟨w,hb,hw⟩:=hb;have ht:tot (d+2) [.tup [.str w,.tup ws]]=1+tot (d+1) ws:=by rw[j9,Bk hw (by omega) (by omega)]
    subst hE;simp only[RR,RS];have hcomp:=aX (own:=1) (keep:=[0,2,1]) (tg:=.nm 0) (cs:=.nil) (inner:=kL) (env:=[Zz (.c i),Zz (.t (.int ((d:Int)+1+1))),Zz (.c j),Zz (.t (.int q)),Zz (.t (.int (2+q4)))]) (x:=.t (.lst (rangeT 0 (2+q4).toNat))) (aA (aa (i:=4) rfl) (nK (show 2+q4<2^62/\-(2^62)<=2+q4 by omega))) rfl h5 (by rw[hl];unfold lim;omega);refine⟨_,s4,aj (bf (aS (ci (ae _) (ae _)) (aD (aa rfl) (ae _) (lE (by decide))) hb) (aA (e:=tX) (hcomp.trans ?_) (ij _))),hs4,.jn hw (by omega) (by omega) w4,λh=>by omega,λh=>?_⟩
    ·rw[ht,show r-1-(tot (d+1) ws:Nat)=r-((1+tot (d+1) ws:Nat):Int) by omega]
     rfl
    ·rw[ht]
     by_cases h3:r-1<=3
     ·have:=a4 h3;omega
     ·have:=b4 (by omega);omega
  obtain⟨t,s',e,hs',hl⟩:=key;exact⟨t,s',aC (yk _ _ _) rfl e (av (cell:=false) (by rw[aG,aG,aG,aG])),hs',hl⟩
noncomputable def FN(side:List Nat)(card w:T)(a b c e:Int):T:=.tup [.str side,card,w,.int a,.int b,.int c,.int e]
inductive Bb:T->Prop where
 |mk {side nm kd:List Nat}{mk:List (List Nat)}{sz:List (List Nat×Int)}{d:Nat}{w:T}{a b c e:Int}:side∈sides->GoodC nm kd mk sz->d<=5->WT (d+1) w->tot (d+1) [w]<=40->1<=a->a<=1000000->1<=b->b<=a->0<=c->c<=1000->0<=e->e<=1000000000->Bb (FN side (mz nm kd mk sz) w a b c e)
theorem lV{xs:List Int}{lo hi q:Int}(h:∀x∈xs,lo<=x/\x<=hi)(q0:0<=q)(q1:q<xs.length):∃v,atT (xs.map T.int) q=Zz (.int v)/\lo<=v/\v<=hi:=by
 obtain⟨x,hx,hm⟩:=gu (xs:=xs.map T.int) q0 (by rw[R2];exact q1);obtain⟨v,hv,rfl⟩:=Rg.mp hm;exact⟨v,hx,h v hv⟩
theorem xh{n:Nat}{m:Mem}{i:Nat}{s:List T}(hi:i<m.length)(hs:bi s):∃(t:T) (s':List T),cf (n+14) 49 [.c i] (put m i s)=.ok (.t t) (put m i s')/\bi s'/\Bb t:=by
 obtain⟨p1,s1,h1,hs1,p10,p11⟩:=aH (n:=n+10) (many:=9) hi hs (by decide) (by decide);obtain⟨p2,s2,h2,hs2,p20,p21⟩:=aH (n:=n+10) (many:=1000000) hi hs1 (by decide) (by decide);obtain⟨p3,s3,h3,hs3,p30,p31⟩:=aH (n:=n+10) (many:=3) hi hs2 (by decide) (by decide);obtain⟨a,ha,a0,a1⟩:=lV (xs:=[1+p1,1+p2,1000000]) (lo:=1) (hi:=1000000) (by simp;omega) p30 (by simpa using p31);obtain⟨p4,s4,h4,hs4,p40,p41⟩:=aH (n:=n+10) (many:=a) hi hs3 (by omega) (by omega);obtain⟨p5,s5,h5,hs5,p50,p51⟩:=aH (n:=n+10) (many:=3) hi hs4 (by decide) (by decide);obtain⟨b,hb,b0,b1⟩:=lV (xs:=[1,1+p4,a]) (lo:=1) (hi:=a) (by simp;omega) p50 (by simpa using p51);obtain⟨p6,s6,h6,hs6,p60,p61⟩:=aH (n:=n+10) (many:=1001) hi hs5 (by decide) (by decide);obtain⟨p7,s7,h7,hs7,p70,p71⟩:=aH (n:=n+10) (many:=3) hi hs6 (by decide) (by decide);obtain⟨c,hc,c0,c1⟩:=lV (xs:=[0,1000,p6]) (lo:=0) (hi:=1000) (by simp;omega) p70 (by simpa using p71);obtain⟨p8,s8,h8,hs8,p80,p81⟩:=aH (n:=n+10) (many:=1000000001) hi hs7 (by decide) (by decide);obtain⟨p9,s9,h9,hs9,p90,p91⟩:=aH (n:=n+10) (many:=30) hi hs8 (by decide) (by decide);obtain⟨pa,sa,hA,hsa,pa0,pa1⟩:=aH (n:=n+10) (many:=4) hi hs9 (by decide) (by decide);obtain⟨e,he,e0,e1⟩:=lV (xs:=[0,1000000000,p8,p9]) (lo:=0) (hi:=1000000000) (by simp;omega) pa0 (by simpa using pa1);obtain⟨nm,kd,mk,sz,sb,hB,hsb,gc⟩:=GR (n:=n+7) hi hsa;obtain⟨q,sc,hC,hsc,q0,q1⟩:=aH (n:=n+10) (many:=6) hi hsb (by decide) (by decide);have hj:m.length<(m++[Zy]).length:=by simp
 have hi2:i<(m++[Zy]).length:=by rw[RV];omega
 obtain⟨d,hd⟩:∃d:Nat,q=(d:Int)/\d<=5:=⟨q.toNat,by omega,by omega⟩
 obtain⟨w,sd,hD,hsd,hw,_,tw⟩:=HO d (n:=n+(6-d)) (show i≠m.length by omega) hi2 hj sc 12 hsc;rw[show n+(6-d)+(d+7)=n+13 by omega]at hD;have hmem:∀(z:Int) (s:List T),put (put (m++[Zy]) m.length [.int z]) i s=put m i s++[Zz (false,[T.int z])]:=λz s=>by
  have:put (m++[Zy]) m.length [T.int z]=m++[Zz (false,[T.int z])]:=by simp[put]
  rw[this,bA hi]
 rw[hmem,hmem]at hD;generalize 12-((tot (d+1) [w]:Nat):Int)=r3 at hD;have hi3:i<(m++[Zz (false,[T.int r3])]).length:=by rw[RV];omega
 obtain⟨q2,se,hE,hse,g0,g1⟩:=aH (n:=n+10) (many:=3) hi3 hsd (by decide) (by decide);rw[bA hi,bA hi]at hE;obtain⟨y,hy,hym⟩:=gu (xs:=[T.str [103,105,118,101],.str [116,97,107,101],.str [98,101,97,114]]) g0 (by simpa using g1);obtain⟨side,hside,rfl⟩:∃side,side∈sides/\y=.str side:=by
  simp only[R7,R8,or_false]at hym;rcases hym with rfl|rfl|rfl<;>exact⟨_,by decide,rfl⟩
 refine⟨FN side (mz nm kd mk sz) w a b c e,se,?_,hse,.mk hside gc hd.2 hw (by have:=tw (by decide);omega) a0 a1 b0 b1 c0 c1 e0 e1⟩;have key:ex (cf (n+13)) gv cJ [Zz (.c i),Zy,Zy,Zy,Zy,Zy,Zy] (put m i s)=.ok (.ret (.t (FN side (mz nm kd mk sz) w a b c e))) (put m i se++[Zz (false,[.int r3])]):=by
  simp only[RQ,TC]at ha hb hc he;unfold cJ;rw[aq (aS (a9 (al (aD (ae _) ((am (aa rfl) (ae _)).trans h1) (cR _ _)) (al (aD (ae _) ((am (aa rfl) (aD (ae _) (ae _) rfl)).trans h2) (cR _ _)) (al (aD (ae _) (ae _) rfl) aM))) rfl aR) ((am (aa rfl) (ae _)).trans h3) ha)];rw[aq (aS (a9 (al (ae _) (al (aD (ae _) ((am (aa rfl) (aa rfl)).trans h4) (cR _ _)) (al (aa rfl) aM))) rfl aR) ((am (aa rfl) (ae _)).trans h5) hb)];rw[aq (aS (a9 (al (ae _) (al (ae _) (al ((am (aa rfl) (ae _)).trans h6) aM))) rfl aR) ((am (aa rfl) (ae _)).trans h7) hc)];rw[aq (aS (a9 (al (ae _) (al (aD (ae _) (ae _) rfl) (al ((am (aa rfl) (aD (aD (ae _) (ae _) rfl) (ae _) (cR _ _))).trans h8) (al ((am (aa rfl) (ae _)).trans h9) aM)))) rfl aR) ((am (aa rfl) (ae _)).trans hA) he)];rw[aq ((ap (aa rfl)).trans hB)];simp only[RR,RS];rw[aq (w:=.t w) (m1:=put m i sd++[Zz (false,[.int r3])]) ?_]
  ·exact aj (fh (al (aS (a9 (al (ae _) (al (ae _) (al (ae _) aM))) rfl aR) ((am (aa rfl) (ae _)).trans hE) hy) (al (aa rfl) (al (aa rfl) (al (aa rfl) (al (aa rfl) (al (aa rfl) (al (aa rfl) aM))))))) rfl aR)
  ·refine(eS (aa rfl) (aD (ae _) ((am (aa rfl) (ae _)).trans hC) (cR _ _)) (w2:=.c m.length) (m3:=put m i sc++[Zz (false,[.int 12])]) ?_).trans ?_
   ·simp[ev,evs,ag,df,cF,lim,aG]
   ·rw[hd.1,Int.add_comm 1]
    exact hD
 exact aC (qd _ _ _) rfl key (show Res.ok _ ((put m i se++[Zz (false,[T.int r3])]).take (put m i s).length)=_ from by rw[aG];exact congrArg _ (VX aG))
theorem cW{α:Type}{f:Env->Mem->Res (List T)}{tg:Tg}{env:Env}{m:Mem}(i o:α->T):∀(xs:List α),(∀x∈xs,∃env',bJ tg (i x) env=Zz env'/\f env' m=.ok [o x] m)->bU f tg (xs.map i) env m=.ok (xs.map o) m
 |[],_=>rfl
 |x::xs,h=>by
  obtain⟨env',h1,h2⟩:=h x (by simp);rw[RQ,bU,h1];dsimp only;rw[h2,ag,cW i o xs (λy hy=>h y (R5 _ hy)),ag];rfl
def Vd(cs:List Nat):Prop:=∀c∈cs,c<1114112
theorem Vd.app{a b:List Nat}(h1:Vd a)(h2:Vd b):Vd (a++b):=λc hc=>(SP.mp hc).elim (h1 c) (h2 c)
theorem Vd.join{sep:List Nat}(h0:Vd sep):∀{ws:List (List Nat)},(∀w∈ws,Vd w)->Vd (aK sep ws)
 |[],_=>λ_ h=>Y3 h R8
 |[x],h=>h x (by simp)
 |x::y::r,h=>((h x (by simp)).app h0).app (Vd.join h0 λw hw=>h w (R5 _ hw))
theorem Vd.word{w:List Nat}(h:aW w=true):Vd w:=λc hc=>by
 unfold aW at h;simp only[R6]at h;have:=(by decide:∀c∈gr,c<200) c (Y4 (RX.mp h.2 c hc));omega
theorem Vd.dec{k:Int}(h0:0<=k)(h1:k<=1000000000):Vd (cA k):=λc hc=>by
 have:=(bx h0 (by omega)).1;unfold fK at this;simp only[R6,RX,decide_eq_true_eq]at this;have:=(by decide:∀c∈jA,c<200) c (this.1.2 c hc);omega
def LX(d:Nat)(t:T)(cs:List Nat):Prop:=cs.length<=60*tot d [t]/\Vd cs/\∀n m,cf (n+2*d) 51 [.t t] m=.ok (.t (.str cs)) m
theorem sP{N:Nat}{s:List (List Nat)}{h:List Nat}{r:List T}{cs:List Nat}(hl:cs.length<=3000)(hd0:Vd cs)(hx:∀n m,cf (n+N) 51 [.t (.tup (.str h::r))] m=.ok (.t (.str cs)) m):
  ∃cs':List Nat,cs'.length<=cs.length+4/\Vd cs'/\∀n m,cf (n+N+1) 50 [.t (.tup (.str h::r)),.t (.tup (s.map .str))] m=.ok (.t (.str cs')) m:=by
 have hd:∀n m (K:S) (R:Res Flow),ex (cf (n+N)) gv K [Zz (.t (.tup (.str h::r))),Zz (.t (.tup (s.map .str))),Zz (.t (.str cs))] m=R->ex (cf (n+N)) gv (.asg 2 (.call 51 (.cons (.var 0) .nil)) K) [Zz (.t (.tup (.str h::r))),Zz (.t (.tup (s.map .str))),Zy] m=R:=λn m K R q=>(aq ((ap (aa rfl)).trans (hx n m))).trans q
 have hc:=λn m=>ao (call:=cf (n+N)) (gv:=gv) (env:=[Zz (.t (.tup (.str h::r))),Zz (.t (.tup (s.map .str))),Zz (.t (.str cs))]) (m:=m) (b7 (aa (i:=0) rfl)) (aa (i:=1) rfl) (yP h s).1
 cases hk:(s.any λa=>a==h)with
 |true =>
  rw[hk]at hc;refine⟨[40,32]++cs++[32,41],by simp,(Vd.app (show Vd [40,32] by unfold Vd;decide) hd0).app (show Vd [32,41] by unfold Vd;decide),λn m=>aC (si _ _ _) rfl (hd n m _ _ (aE (hc n m) (aj (aD (aD (ae _) (aa rfl) (ig (by simp[lim];omega))) (ae _) (ig (by simp[lim];omega)))))) (av (cell:=false) rfl)⟩
 |false =>
  rw[hk]at hc;exact⟨cs,by omega,hd0,λn m=>aC (si _ _ _) rfl (hd n m _ _ ((aB (hc n m)).trans (aj (aa rfl)))) (av (cell:=false) rfl)⟩
theorem xr{call:Nat->List W->Mem->Res W}{gv:List T}{env:Env}{m:Mem}{o:E}{ys:List (List Nat)}(h:ev call gv o env m=.ok (.t (.tup (ys.map .str))) m)(hl:(ys.map Rf).sum+ys.length<=lim):ev call gv (.cS .join (.con (.str [32])) (.cons o .nil)) env m=.ok (.t (.str (aK [32] ys))) m:=by
 rw[ev,ae,ag,Xy (show oY .join (.t (.str [32])) m=true from rfl),evs,h,ag,evs,ag,ag];show bX ((strs? (ys.map T.str)).bind λzs=>if(zs.map Rf).sum+zs.length*[32].length<=lim then Zz (T.str (aK [32] zs))else Zy) m=_;rw[ku,SE,Xy (by simpa using hl)];rfl
theorem E2{d:Nat}{t:T}(h:oC t):∃cs,LX (d+1) t cs:=by
 have htot:tot (d+1) [t]=1:=by rw[j9,h.Iu,i9]
 unfold LX;rw[htot];cases h with
 |any =>
  refine⟨[97,110,121],by decide,(by unfold Vd;decide),λn m=>aC (cx _ _ _) rfl ?_ (av (cell:=false) rfl)⟩;unfold bB;exact(aq (b7 (aa rfl))).trans ((zG (aa rfl) rfl).trans ((l0 (aa rfl) rfl).trans ((l0 (aa rfl) rfl).trans ((l0 (aa rfl) rfl).trans (aj ((xr (ys:=[[97,110,121]]) (aa rfl) (by simp[lim])).trans rfl))))))
 |@two w v hw hv =>
  obtain⟨_,g2,_⟩:=pj hv;refine⟨aK [32] [w,v],by rcases hw with rfl|rfl<;>(simp[aK];omega),Vd.join (by unfold Vd;decide) (R1.mpr ⟨by rcases hw with rfl|rfl<;>(unfold Vd;decide),R1.mpr ⟨Vd.word hv,λ_ h=>Y3 h R8⟩⟩),λn m=>aC (cx _ _ _) rfl ?_ (av (cell:=false) rfl)⟩;unfold bB;refine(aq (b7 (aa rfl))).trans ?_;rw[zG (aa rfl) (by rcases hw with rfl|rfl<;>rfl),l0 (aa rfl) (by rcases hw with rfl|rfl<;>rfl),l0 (aa rfl) (by rcases hw with rfl|rfl<;>rfl),l0 (aa rfl) (by rcases hw with rfl|rfl<;>rfl)];exact aj (xr (ys:=[w,v]) (aa rfl) (by rcases hw with rfl|rfl<;>(simp[lim];omega)))
 |@three w v k hw hv k0 k1 =>
  obtain⟨_,g2,_⟩:=pj hv;obtain⟨_,_,_,f4⟩:=bx k0 (by omega);have hs:∃sg:List Nat,sg.length<=4/\Vd sg/\∀n m,ev (cf n) gv (.ix (.lst (.cons (.con (.str [32,60,61,32])) (.cons (.con (.str [32,62,61,32])) .nil))) (.blt .int (.cons (.cmp .Eq (.var 1) (.con (.str [108,101,97,115,116]))) .nil))) [Zz (.t (.tup [.str w,.str v,.int k])),Zz (.t (.str w))] m=.ok (.t (.str sg)) m:=by
   rcases hw with rfl|rfl
   ·exact⟨[32,62,61,32],by decide,(by unfold Vd;decide),λn m=>aS (ci (ae _) (ae _)) (aA (ao (aa rfl) (ae _) (cu _ _)) (tY _)) rfl⟩
   ·exact⟨[32,60,61,32],by decide,(by unfold Vd;decide),λn m=>aS (ci (ae _) (ae _)) (aA (ao (aa rfl) (ae _) (cu _ _)) (tY _)) rfl⟩
  obtain⟨sg,l4,vs,hs⟩:=hs;refine⟨v++sg++cA k,by simp;omega,((Vd.word hv).app vs).app (Vd.dec k0 k1),λn m=>aC (cx _ _ _) rfl ?_ (av (cell:=false) rfl)⟩;unfold bB;exact(aq (b7 (aa rfl))).trans (K4 (aa rfl) (by rcases hw with rfl|rfl<;>rfl) (aj (aD (aD (zS (aa rfl)) (hs _ m) (ig (by simp[lim];omega))) (aA (aS (x:=.tup [.str w,.str v,.int k]) (aa rfl) (ae _) rfl) (jF (by omega))) (ig (by simp[lim];omega)))))
theorem KE{α:Type}{P:T->α->Prop}[Inhabited α]{ts:List T}(h:∀t∈ts,∃b,P t b):∃f:T->α,∀t∈ts,P t (f t):=by
 classical
 refine⟨λt=>if ht:t∈ts then(h t ht).choose else default,λt ht=>?_⟩;simp only[dif_pos ht];exact(h t ht).choose_spec
theorem El:∀{d:Nat}{t:T},WT d t->60*tot d [t]<=2400->∃cs,LX d t cs:=by
 intro d t h
 induction h with
 |leaf hp _ _=>exact λ_=>E2 (Hm hp)
 |@nt d a hw ih =>
  intro hz;have htot:tot (d+1) [.tup [.str [110,111,116],a]]=1+tot d [a]:=by rw[j9,xS]
  obtain⟨cs,h1,v1,h2⟩:=ih (by omega);obtain⟨w,r,rfl⟩:=Tx.cons hw;obtain⟨cs',h3,v3,h4⟩:=sP (N:=2*d) (s:=[[97,110,100],[111,114]]) (by omega) v1 h2;refine⟨[110,111,116,32]++cs',?_,Vd.app (by unfold Vd;decide) v3,λn m=>?_⟩
  ·rw[htot];simp;omega
  ·refine aC (cx (n+2*d+1) _ _) rfl ?_ (av (cell:=false) rfl)
   unfold bB;exact(aq (b7 (aa rfl))).trans ((zG (aa rfl) rfl).trans (Ct (aa rfl) rfl (aj (aD (ae _) ((am (zS (aa rfl)) (bf (ae _) (ae _))).trans (h4 n m)) (ig (by simp[lim];omega))))))
 |@jn d w ts hw h2 h6 hts ih =>
  intro hz;have htot:tot (d+1) [.tup [.str w,.tup ts]]=1+(ts.map λx=>tot d [x]).sum:=by rw[j9,Bk hw h2 h6,Bv]
  have small:∀t∈ts,60*tot d [t]<=2400:=λt ht=>by
   have a2:tot d [t]<=(ts.map λx=>tot d [x]).sum:=DH (f:=λx=>tot d [x]) ht;omega
  have each:∀S:List (List Nat),∃f:T->List Nat,∀t∈ts,(f t).length<=60*tot d [t]+4/\Vd (f t)/\∀n m,cf (n+2*d+1) 50 [.t t,.t (.tup (S.map .str))] m=.ok (.t (.str (f t))) m:=λS=>KE (P:=λt b=>b.length<=60*tot d [t]+4/\Vd b/\∀n m,cf (n+2*d+1) 50 [.t t,.t (.tup (S.map .str))] m=.ok (.t (.str b)) m) λt ht=>by
   obtain⟨cs,h1,v1,h2⟩:=ih t ht (small t ht);obtain⟨a,r,rfl⟩:=Tx.cons (hts t ht);obtain⟨cs',h3,v3,h4⟩:=sP (N:=2*d) (s:=S) (by have:=small _ ht;omega) v1 h2;exact⟨cs',by omega,v3,h4⟩
  have comp:∀(S:List (List Nat)) (f:T->List Nat) (e:E),(∀t∈ts,(f t).length<=60*tot d [t]+4/\Vd (f t)/\∀n m,cf (n+2*d+1) 50 [.t t,.t (.tup (S.map .str))] m=.ok (.t (.str (f t))) m)->(∀n env m,ev (cf n) gv e env m=.ok (.t (.tup (S.map .str))) m)->∀n m,ev (cf (n+2*d+1)) gv (.comp 1 [] (.ix (.var 0) (.con (.int 1))) (.nm 0) .nil (.emit (.call 50 (.cons (.var 0) (.cons e .nil))))) [Zz (.t (.tup [.str w,.tup ts])),Zz (.t (.str w))] m=.ok (.t (.lst ((ts.map f).map .str))) m:=λS f e hf he n m=>by
   have hl:=cW (f:=bp (cf (n+2*d+1)) gv .nil (.emit (.call 50 (.cons (.var 0) (.cons e .nil))))) (tg:=.nm 0) (env:=[Zy]) (m:=m) (λt=>t) (λt=>T.str (f t)) ts (λt ht=>⟨_,rfl,iT (cp ((am (aa rfl) (he _ _ _)).trans ((hf t ht).2.2 n m)))⟩);rw[WU]at hl;rw[Sh];exact aX (x:=.t (.tup ts)) (m0:=m) (zS (aa rfl)) rfl hl (by rw[R2];unfold lim;omega)
  have len:∀(f:T->List Nat),(∀t∈ts,(f t).length<=60*tot d [t]+4)->((ts.map f).map Rf).sum+(ts.map f).length*5<=60*(1+(ts.map λx=>tot d [x]).sum):=λf hf=>by
   have:=Fd (f:=λt=>(f t).length) (g:=λt=>60*tot d [t]+4) hf;rw[BJ]at this;rw[Sh,R2];have e3:(WL (Rf ∘ f) ts).sum=(ts.map λt=>(f t).length).sum:=rfl;rw[e3];omega
  have fin:∀(S:List (List Nat)) (f:T->List Nat) (e:E) (sep:List Nat),sep.length<=5->Vd sep->(∀t∈ts,(f t).length<=60*tot d [t]+4/\Vd (f t)/\∀n m,cf (n+2*d+1) 50 [.t t,.t (.tup (S.map .str))] m=.ok (.t (.str (f t))) m)->(∀n env m,ev (cf n) gv e env m=.ok (.t (.tup (S.map .str))) m)->(aK sep (ts.map f)).length<=60*tot (d+1) [.tup [.str w,.tup ts]]/\Vd (aK sep (ts.map f))/\∀n m,ev (cf (n+2*d+1)) gv (.cS .join (.con (.str sep)) (.cons (.comp 1 [] (.ix (.var 0) (.con (.int 1))) (.nm 0) .nil (.emit (.call 50 (.cons (.var 0) (.cons e .nil))))) .nil)) [Zz (.t (.tup [.str w,.tup ts])),Zz (.t (.str w))] m=.ok (.t (.str (aK sep (ts.map f)))) m:=λS f e sep h5 v5 hf he=>by
   have l1:=len f λt ht=>(hf t ht).1
   have l2:=du sep (ts.map f);have l3:(ts.map f).length*sep.length<=(ts.map f).length*5:=Nat.mul_le_mul_left _ h5;rw[<-htot]at l1;exact⟨by omega,Vd.join v5 (λu hu=>by obtain⟨t,ht,rfl⟩:=Rg.mp hu;exact(hf t ht).2.1),λn m=>kn (ae _) (comp S f e hf he n m) (by unfold lim;omega)⟩
  rcases hw with rfl|rfl
  ·obtain⟨f,hf⟩:=each [[97,110,100],[111,114]]
   obtain⟨g1,g3,g2⟩:=fin _ f (.tup (.cons (.con (.str [97,110,100])) (.cons (.con (.str [111,114])) .nil))) [32,97,110,100,32] (by decide) (by unfold Vd;decide) hf λn env m=>bf (ae _) (ae _)
   refine⟨_,g1,g3,λn m=>aC (cx (n+2*d+1) _ _) rfl ?_ (av (cell:=false) rfl)⟩;unfold bB;exact(aq (b7 (aa rfl))).trans ((zG (aa rfl) rfl).trans ((l0 (aa rfl) rfl).trans (Ct (aa rfl) rfl (aj (g2 n m)))))
  ·obtain⟨f,hf⟩:=each [[111,114]]
   obtain⟨g1,g3,g2⟩:=fin _ f (.tup (.cons (.con (.str [111,114])) .nil)) [32,111,114,32] (by decide) (by unfold Vd;decide) hf λn env m=>qT (ae _)
   refine⟨_,g1,g3,λn m=>aC (cx (n+2*d+1) _ _) rfl ?_ (av (cell:=false) rfl)⟩;unfold bB;exact(aq (b7 (aa rfl))).trans ((zG (aa rfl) rfl).trans ((l0 (aa rfl) rfl).trans ((l0 (aa rfl) rfl).trans (Ct (aa rfl) rfl (aj (g2 n m))))))
noncomputable def dz(ws:List (List Nat)):List Nat:=if ws=[]then[45]else aK [44] ws
theorem yz:∀{ws:List (List Nat)}{k:Nat},(∀w∈ws,w.length<=k)->(ws.map Rf).sum<=ws.length*k
 |[],_,_=>by simp
 |a::l,k,h=>by
  have:=h a (by simp);have:=yz λw hw=>h w (R5 _ hw)
  rw[RQ,TE,RI,Nat.succ_mul];omega
theorem uL(sep:List Nat):∀{ws:List (List Nat)}{k:Nat},(∀w∈ws,w.length<=k)->(aK sep ws).length<=ws.length*(k+sep.length)/\(ws.map Rf).sum+ws.length*sep.length<=ws.length*(k+sep.length)
 |[],k,_=>by simp[aK]
 |x::r,k,h=>by
  have h0:=du sep (x::r);have h1:=yz h;rw[XI];omega
theorem tU{n:Nat}{m:Mem}{ws:List (List Nat)}(hl:ws.length<=100)(hd:ay 60 (.lst (ws.map .str))=true)(hw:∀w∈ws,w≠[]/\w.length<=100):cf (n+1) 52 [.t (.lst (ws.map .str))] m=.ok (.t (.str (dz ws))) m:=by
 have hb:=(uL [44] (ws:=ws) (k:=100) λw h=>(hw w h).2)
 have hb2:ws.length*(100+[44].length)<=10100:=by simp;omega
 have hm:dR .join (.str [44]) [.lst (ws.map .str)]=Zz (.str (aK [44] ws)):=by
  show((strs? (ws.map T.str)).bind λys=>if(ys.map Rf).sum+ys.length*[44].length<=lim then Zz (T.str (aK [44] ys))else Zy)=_;rw[ku,SE,Xy (by unfold lim;omega)]
 have hj:ev (cf n) gv (.cS .join (.con (.str [44])) (.cons (.var 0) .nil)) [Zz (.t (.lst (ws.map .str)))] m=.ok (.t (.str (aK [44] ws))) m:=by
  rw[ev,ae,ag,Xy (show oY .join (.t (.str [44])) m=true from rfl),evs,aa rfl,ag,evs,ag,ag];show bX (dR .join (.str [44]) [.lst (ws.map .str)]) m=_;rw[hm];rfl
 have hq:bD .Eq (.lst (ws.map .str)) (.lst [])=Zz (decide (ws=[])):=by
  show(if rM _ _ || (ay 60 _&&ay 60 (.lst []))then _ else _)=_;rw[Xy (by rw[hd];exact UW _)];cases ws<;>rfl
 have key:ex (cf n) gv iC [Zz (.t (.lst (ws.map .str)))] m=.ok (.ret (.t (.str (dz ws)))) m:=by
  unfold iC;refine aj (aS (ci hj (ae _)) (aA (ao (aa rfl) (by simp[ev,evs,ag,cF,lim]) hq) (tY _)) ?_);unfold dz;by_cases h:ws=[]
  ·subst h;rfl
  ·rw[Xz h,Y0 h];rfl
 exact aC (Ao _ _ _) rfl key (av (cell:=false) rfl)
theorem jo{w:List Nat}(h:aW w=true):w≠[]/\w.length<=8/\∀c∈w,c∈gr:=by
 unfold aW at h;simp at h;exact⟨λe=>by simp[e]at h,h.1.1.2,h.2⟩
theorem EF{w:List Nat}{c:Nat}(h:aW w=true)(hc:c∉gr):c∉w:=λhm=>hc ((jo h).2.2 c hm)
noncomputable def yK(p:List Nat×Int):List Nat:=p.1++([61]++cA p.2)
noncomputable def iN(side nm kd:List Nat)(mk:List (List Nat))(sz:List (List Nat×Int))(a b c e:Int):List (List Nat):=[side,nm,kd,dz mk,dz (sz.map yK),cA a,cA b,cA c,cA e]
theorem ui{ws:List (List Nat)}(hl:ws.length<=6)(h:∀w∈ws,w.length<=20):(dz ws).length<=126:=by
 unfold dz;split
 ·simp
 ·have:=(uL [44] h).1
  simp at this;omega
theorem DK{p:List Nat×Int}(hw:aW p.1=true)(h0:0<=p.2)(h1:p.2<=1000000000):yK p≠[]/\(yK p).length<=20:=by
 have hd:=(bx h0 (by omega)).2.2.2;have hl:=(jo hw).2.1;refine⟨by simp[yK],?_⟩;simp[yK];omega
theorem dec_not{k:Int}{c:Nat}(h0:0<=k)(h1:k<=1000000000)(hc:c∉jA):c∉cA k:=λhm=>by
 have:=(bx h0 (by omega)).1;unfold fK at this;simp only[R6,RX,decide_eq_true_eq]at this;exact hc (this.1.2 c hm)
theorem yE{side nm kd:List Nat}{mk:List (List Nat)}{sz:List (List Nat×Int)}{a b d e:Int}(hs:side∈sides)(g:GoodC nm kd mk sz)(a0:0<=a)(a1:a<=1000000000)(b0:0<=b)(b1:b<=1000000000)(c0:0<=d)(c1:d<=1000000000)(e0:0<=e)(e1:e<=1000000000):((iN side nm kd mk sz a b d e).map Rf).sum+9<=2000:=by
 have ls:side.length<=4:=by
  simp only[sides,R7,R8,or_false]at hs;rcases hs with rfl|rfl|rfl<;>decide
 have ln:=(jo g.nm).2.1;have lk:=(jo g.kd).2.1;have la:=(bx a0 (by omega)).2.2.2;have lb:=(bx b0 (by omega)).2.2.2;have lc:=(bx c0 (by omega)).2.2.2;have le:=(bx e0 (by omega)).2.2.2;have lm:=ui g.L3 λw hw=>by have:=(jo (RX.mp g.Ll w hw)).2.1;omega
 have lz:=ui (ws:=sz.map yK) (by rw[R2];exact g.LK) λw hw=>by
  obtain⟨p,hp,rfl⟩:=Rg.mp hw;have:=g.K2 p hp;exact(DK this.1 this.2.1 this.2.2).2
 simp[iN];omega
theorem xd{side nm kd:List Nat}{mk:List (List Nat)}{sz:List (List Nat×Int)}{a b d e:Int}(h:((iN side nm kd mk sz a b d e).map Rf).sum+9<=2000):(aK [32] (iN side nm kd mk sz a b d e)).length<=2000:=Rn (du [32] _) h
theorem Bn{p:List Nat×Int}(h:aW p.1=true/\0<=p.2/\p.2<=1000000000):∀c∈yK p,c<1114112:=λc hc=>by
 refine Nat.lt_of_not_le λhz=>?_
 rcases SP.mp hc with hc|hc
 ·exact EF h.1 (c:=c) (λq=>Y3 ((by decide:∀c∈gr,c<200) c q) (by omega)) hc
 ·rcases SP.mp hc with hc|hc
  ·simp at hc;omega
  ·exact dec_not h.2.1 h.2.2 (c:=c) (λq=>Y3 ((by decide:∀c∈jA,c<200) c q) (by omega)) hc
theorem law_text_ok{n:Nat}{V:List Nat}{m:Mem}{side nm kd:List Nat}{mk:List (List Nat)}{sz:List (List Nat×Int)}{w:T}{a b c e:Int}(hs:side∈sides)(g:GoodC nm kd mk sz)(a0:0<=a)(a1:a<=1000000000)(b0:0<=b)(b1:b<=1000000000)(c0:0<=c)(c1:c<=1000000000)(e0:0<=e)(e1:e<=1000000000)(hwt:∀m,cf (n+40) 51 [.t w] m=.ok (.t (.str (V))) m)(hwl:(V).length<=2400):
  cf (n+41) 53 [.t (FN side (mz nm kd mk sz) w a b c e)] m=.ok (.t (.str (aK [32] (iN side nm kd mk sz a b c e)++([32,124,32]++V)))) m:=by
 have hsum:=yE hs g a0 a1 b0 b1 c0 c1 e0 e1;have hlen:=xd hsum;have hm:=λm=>tU (n:=n+39) (m:=m) (ws:=mk) (by have:=g.L3;omega) (by
  rw[ay];refine bE λt ht=>?_
  obtain⟨w,hw,rfl⟩:=Rg.mp ht;exact gg (RX.mp g.Ll w hw)) λw hw=>by
  have:=jo (RX.mp g.Ll w hw);exact⟨this.1,by omega⟩
 have hz:=λm=>tU (n:=n+39) (m:=m) (ws:=sz.map yK) (by rw[R2];have:=g.LK;omega) (by
  rw[ay];refine bE λt ht=>?_
  obtain⟨w,hw,rfl⟩:=Rg.mp ht;obtain⟨p,hp,rfl⟩:=Rg.mp hw;exact cD (Bn (g.K2 p hp))) λw hw=>by
  obtain⟨p,hp,rfl⟩:=Rg.mp hw;have q:=g.K2 p hp;have:=DK q.1 q.2.1 q.2.2;exact⟨this.1,by omega⟩
 have k1:∀(M:Mem) (env:Env),env[2]?=Zz (Zz (.t (mz nm kd mk sz)))->ev (cf (n+40)) gv js env M=.ok (.t (.lst ((sz.map yK).map .str))) M:=λM env he=>by
  have h:=cW (f:=bp (cf (n+40)) gv .nil fe) (tg:=.tp [0,1]) (env:=[Zy,Zy]) (m:=M) sp (λp=>T.str (yK p)) sz (λp hp=>by
   have q:=g.K2 p hp;have q1:=(bx q.2.1 (by omega)).2.2.2;have q2:=(jo q.1).2.1;refine⟨[Zz (.t (.str p.1)),Zz (.t (.int p.2))],rfl,iT (show ev (cf (n+40)) gv fe _ _=_ from cp ((aD (aD (aa rfl) (ae _) (ig (by simp[lim];omega))) (aA (aa rfl) (jF (by omega))) (ig (by simp[lim];omega))).trans ?_))⟩;simp[yK])
  rw[Sh];exact aX (x:=.t (.tup (sz.map sp))) (m0:=M) (aS (aa he) (ae _) rfl) rfl h (by rw[R2];have:=g.LK;unfold lim;omega)
 have k0:∀(M:Mem) (env:Env),env[4]?=Zz (Zz (.t (.int a)))->env[5]?=Zz (Zz (.t (.int b)))->env[6]?=Zz (Zz (.t (.int c)))->env[7]?=Zz (Zz (.t (.int e)))->ev (cf (n+40)) gv jy env M=.ok (.t (.lst ([a,b,c,e].map λk=>T.str (cA k)))) M:=λM env h4 h5 h6 h7=>by
  have h:=cW (f:=bp (cf (n+40)) gv .nil fg) (tg:=.nm 0) (env:=[Zy]) (m:=M) T.int (λk=>T.str (cA k)) [a,b,c,e] (λk hk=>by
   have q:0<=k/\k<=1000000000:=by
    simp only[R7,R8,or_false]at hk;rcases hk with rfl|rfl|rfl|rfl<;>omega
   exact⟨_,rfl,iT (show ev (cf (n+40)) gv fg _ _=_ from cp (aA (aa rfl) (jF (by omega))))⟩)
  refine aX (x:=.t (.lst ([a,b,c,e].map T.int))) (m0:=M) ?_ rfl h (by simp[lim]);simp[ev,evs,h4,h5,h6,h7,ag,df,cF,lim]
 have hv:∀(M:Mem) (ts:List T),view (.c M.length) (M++[Zz (false,ts)])=Zz (.lst ts):=λM ts=>by simp[view]
 have key:ex (cf (n+40)) gv cX [Zz (.t (FN side (mz nm kd mk sz) w a b c e)),Zy,Zy,Zy,Zy,Zy,Zy,Zy,Zy] m=.ok (.ret (.t (.str (aK [32] (iN side nm kd mk sz a b c e)++([32,124,32]++V))))) (m++[Zz (false,[T.str side,.str nm,.str kd,.str (dz mk),.str (dz (sz.map yK))])]++[Zz (false,(iN side nm kd mk sz a b c e).map .str)]):=by
  unfold cX;rw[mK (aa rfl) rfl];simp only[Ur,List.zip_nil_right,List.zip_nil_left,VS,List.foldl_nil,RR,RS];rw[aq (w:=.c m.length) (m1:=m++[Zz (false,[T.str side,.str nm,.str kd,.str (dz mk)])]) (by
   rw[ev,al (aa rfl) (al (aS (aa rfl) (ae _) rfl) (al (aS (aa rfl) (ae _) rfl) (al ((ap (aA (aS (aa rfl) (ae _) rfl) rfl)).trans (hm m)) aM))),ag];simp[df,cF,ag,lim])]
  simp only[RR,RS];rw[kb (w:=.t .non) (m1:=m++[Zz (false,[T.str side,.str nm,.str kd,.str (dz mk),.str (dz (sz.map yK))])]) (by
   rw[ev,aa rfl,ag,Xy (by simp[oY]),al ((ap (k1 _ _ rfl)).trans (hz _)) aM,ag];exact vd (by simp[lim]))]
  rw[aq (w:=.c (m.length+1)) (m1:=m++[Zz (false,[T.str side,.str nm,.str kd,.str (dz mk),.str (dz (sz.map yK))])]++[Zz (false,(iN side nm kd mk sz a b c e).map .str)]) (by
   rw[ev,aa rfl,ag,k0 _ _ rfl rfl rfl rfl,ag];unfold JB;rw[hv];simp[view,B7,lim,iN])]
  simp only[RR,RS];refine aj (aD (aD (x:=.str (aK [32] (iN side nm kd mk sz a b c e))) ?_ (ae _) (ig (by simp[lim];omega))) ((ap (aa rfl)).trans (hwt _)) ((ig (by simp[lim];omega)).trans (by rw[Sg])));rw[ev,ae,ag,Xy (show oY .join (.t (.str [32])) _=true from rfl),al (aa rfl) aM,ag];have hl1:m.length+1=(m++[Zz (false,[T.str side,.str nm,.str kd,.str (dz mk),.str (dz (sz.map yK))])]).length:=by simp
  show bX ((view _ _).bind λx=>(views [_] _).bind λts=>dR .join x ts) _=_;rw[hl1,views,hv];show bX ((strs? ((iN side nm kd mk sz a b c e).map T.str)).bind λzs=>if(zs.map Rf).sum+zs.length*[32].length<=lim then Zz (T.str (aK [32] zs))else Zy) _=_;rw[ku,SE,Xy (by unfold lim;exact Rn hsum (by decide))];rfl
 exact aC (sU _ _ _) rfl key (show Res.ok _ ((m++_++_).take m.length)=_ from by rw[Sg];exact congrArg _ (VX rfl))
theorem xj{ws:List (List Nat)}(h:∀w∈ws,Vd w):Vd (dz ws):=by
 unfold dz;split
 ·unfold Vd;decide
 ·exact Vd.join (by unfold Vd;decide) h
theorem GD{side nm kd:List Nat}{mk:List (List Nat)}{sz:List (List Nat×Int)}{a b d e:Int}(hs:side∈sides)(g:GoodC nm kd mk sz)(a0:0<=a)(a1:a<=1000000000)(b0:0<=b)(b1:b<=1000000000)(c0:0<=d)(c1:d<=1000000000)(e0:0<=e)(e1:e<=1000000000):∀w∈iN side nm kd mk sz a b d e,Vd w:=by
 have q1:Vd side:=by
  simp only[sides,R7,R8,or_false]at hs;rcases hs with rfl|rfl|rfl<;>(unfold Vd;decide)
 have q2:Vd (dz mk):=xj λw hw=>Vd.word (RX.mp g.Ll w hw)
 have q3:Vd (dz (sz.map yK)):=xj λw hw=>by
  obtain⟨p,hp,rfl⟩:=Rg.mp hw;exact Bn (g.K2 p hp)
 unfold iN;exact R1.mpr ⟨q1,R1.mpr ⟨Vd.word g.nm,R1.mpr ⟨Vd.word g.kd,R1.mpr ⟨q2,R1.mpr ⟨q3,R1.mpr ⟨Vd.dec a0 a1,R1.mpr ⟨Vd.dec b0 b1,R1.mpr ⟨Vd.dec c0 c1,R1.mpr ⟨Vd.dec e0 e1,λ_ h=>Y3 h R8⟩⟩⟩⟩⟩⟩⟩⟩⟩
theorem sC{t:T}(h:Bb t):∃cs:List Nat,cs.length<=5000/\Vd cs/\∀n m,cf (n+41) 53 [.t t] m=.ok (.t (.str cs)) m:=by
 cases h with
 |@mk side nm kd mk sz d w a b c e hs g hd hw ht a0 a1 b0 b1 c0 c1 e0 e1 =>
  obtain⟨V,h1,v1,h2⟩:=El hw (by omega);have hl:=xd (yE hs g (show 0<=a by omega) (show a<=1000000000 by omega) (show 0<=b by omega) (show b<=1000000000 by omega) c0 (show c<=1000000000 by omega) e0 e1);refine⟨_,?_,(Vd.join (by unfold Vd;decide) (GD hs g (by omega) (by omega) (by omega) (by omega) c0 (by omega) e0 e1)).app (Vd.app (by unfold Vd;decide) v1),λn m=>law_text_ok (V:=V) hs g (by omega) (by omega) (by omega) (by omega) c0 (by omega) e0 e1 (λm=>by have:=h2 (n+40-2*(d+1)) m;rwa [show n+40-2*(d+1)+2*(d+1)=n+40 by omega]at this) (by omega)⟩;simp;omega
noncomputable def mn:List (List (List Nat)):=[[[],[99,111,109,101],[111,102,102],[99,104,97,110,103,101],[108,101,115,115],[119,97,105,116],[109,101,101,116],[111,117,116],[67,111,109,101],[116,111],[48],[49],[48,48],[48,49],[55],[45,49]],[[49,48,48,48,48,48,48,48,48,48],[49,48,48,48,48,48,48,48,48,49],[57,57,57,57,57,57,57,57,57,57,57],[120],[97,110,110],[105,115],[110,105,110,101,115,105,103,110,115],[65],[49,46,48],[43,49],[124],[45]],[[103,105,118,101],[97,110,121],[97,61,49],[49,44,50],[78,111,110,101],[40],[97,110,121,32,97,110,100,32,97,110,121]]]
noncomputable def tl(ws:List (List Nat)):Nat:=(ws.map Rf).sum+ws.length
theorem hU(w:List Nat)(ws:List (List Nat)):tl (w::ws)=w.length+1+tl ws:=by simp[tl];omega
theorem lH(a b:List (List Nat)):tl (a++b)=tl a+tl b:=by simp[tl];omega
theorem og(c:Nat):∀cs:List Nat,tl (az c cs)=cs.length+1
 |[]=>rfl
 |a::r=>by
  have ih:=og c r;rw[az];split
  ·rw[hU,ih];simp;omega
  ·split
   ·rename_i x xs e
    rw[e,hU]at ih;rw[hU];simp at ih ⊢;omega
   ·rename_i e
    exact Y3 e (iI c r)
theorem wu{ws:List (List Nat)}{k:Nat}{w:List Nat}(h:ws[k]?=Zz w):tl (ws.take k)+(w.length+1)+tl (ws.drop (k+1))=tl ws:=by
 obtain⟨hk,rfl⟩:=RG.mp h;have:=congrArg tl (List.take_append_drop k ws);rw[lH,Ua hk,hU]at this;omega
theorem JC(ws:List (List Nat)):ws.length<=tl ws:=by unfold tl;omega
theorem nN(c:Nat):∀{cs:List Nat},Vd cs->∀w∈az c cs,Vd w
 |[],_,w,hw=>by
  rw[az]at hw;rw[RN.mp hw];exact λ_ h=>Y3 h R8
 |a::r,h,w,hw=>by
  have ih:=nN c (cs:=r) λx hx=>h x (R5 _ hx)
  rw[az]at hw;split at hw
  ·rcases R7.mp hw with rfl|hw
   ·exact λ_ h=>Y3 h R8
   ·exact ih w hw
  ·split at hw
   ·rename_i x xs e
    rw[e]at ih;rcases R7.mp hw with rfl|hw
    ·intro y hy
     rcases R7.mp hy with rfl|hy
     ·exact h _ (by simp)
     ·exact ih x (by simp) y hy
    ·exact ih w (R5 _ hw)
   ·rename_i e
    exact Y3 e (iI c r)
theorem uM:Vd [32]:=by unfold Vd;decide
noncomputable def AU:List (List Nat):=mn.flatten
theorem zo:AU.length=35/\∀w∈AU,w.length<=13/\∀c∈w,c<1114112:=by decide +kernel
section
variable{n:Nat}{m:Mem}{i:Nat}{s:List T}
theorem pd(hi:i<m.length)(L:List T):(put (m++[Zz (false,L)]) i s)[m.length]?=Zz (Zz (false,L)):=by
 rw[bA hi,Ru (by rw[aG];exact RU _),aG,UX];rfl
theorem wq(hi:i<m.length)(L L':List T):(put (m++[Zz (false,L)]) i s).set m.length (Zz (false,L'))=put (m++[Zz (false,L')]) i s:=by
 rw[bA hi,bA hi,UB _ _ (by rw[aG];exact RU _),aG,UX];rfl
theorem sf(hi:i<m.length)(L:List T):view (.c m.length) (put (m++[Zz (false,L)]) i s)=Zz (.lst L):=by
 unfold view;dsimp only;rw[pd hi]
theorem DW{env:Env}(hi:i<m.length){ws:List (List Nat)}(h3:env[3]?=Zz (Zz (.c m.length))):ev (cf n) gv (.blt .len (.cons (.var 3) .nil)) env (put (m++[Zz (false,ws.map .str)]) i s)=.ok (.t (.int (ws.length:Int))) (put (m++[Zz (false,ws.map .str)]) i s):=by
 refine F1 (al (aa h3) aM) (ts:=[.lst (ws.map .str)]) ?_ (by rw[pM,R2]);show(view (.c m.length) _).bind _=_;rw[sf hi];rfl
theorem Dj{env:Env}(hi:i<m.length){ws:List (List Nat)}(h3:env[3]?=Zz (Zz (.c m.length)))(hl:tl ws<=900000):ev (cf n) gv (.cS .join (.con (.str [32])) (.cons (.var 3) .nil)) env (put (m++[Zz (false,ws.map .str)]) i s)=.ok (.t (.str (aK [32] ws))) (put (m++[Zz (false,ws.map .str)]) i s):=by
 rw[ev,ae,ag,Xy (show oY .join (.t (.str [32])) _=true from rfl),al (aa h3) aM,ag];show bX ((view _ _).bind λx=>(views [_] _).bind λts=>dR .join x ts) _=_;rw[views,sf hi];show bX ((strs? (ws.map T.str)).bind λzs=>if(zs.map Rf).sum+zs.length*[32].length<=lim then Zz (T.str (aK [32] zs))else Zy) _=_;rw[ku,SE,Xy (by unfold tl at hl;unfold lim;simp;omega)];rfl
theorem qF(ws:List (List Nat)):(aK [32] ws).length<=tl ws:=by
 have:=du [32] ws;unfold tl;simpa using this
theorem Hl(hi:i<m.length)(hs:bi s){env:Env}(h0:env[0]?=Zz (Zz (.c i)))(h2:env[2]?=Zz (Zz (.t (.lst (AU.map .str))))):∃(w:List Nat) (s':List T),ev (cf (n+3)) gv (.ix (.var 2) (.call 41 (.cons (.var 0) (.cons (.blt .len (.cons (.var 2) .nil)) .nil)))) env (put m i s)=.ok (.t (.str w)) (put m i s')/\bi s'/\w.length<=13/\Vd w:=by
 obtain⟨q,s1,g,hs1,q0,q1⟩:=aH (n:=n) (many:=35) hi hs (by decide) (by decide);obtain⟨y,hy,hm⟩:=gu (xs:=AU.map T.str) q0 (by rw[R2,zo.1];exact q1);obtain⟨w,hw,rfl⟩:=Rg.mp hm;have hl:cv .len [.lst (AU.map T.str)]=Zz (.int 35):=by rw[pM,R2,zo.1];rfl
 exact⟨w,s1,aS (aa h2) ((am (aa h0) (aA (aa h2) hl)).trans g) hy,hs1,zo.2 w hw⟩
end
theorem bG{call:Nat->List W->Mem->Res W}{gv:List T}{env:Env}{m:Mem}:ex call gv .done env m=.ok (.next env) m:=by rw[ex]
section
variable{n:Nat}{m:Mem}{i:Nat}{s:List T}
theorem KC{m:Mem}{j k:Nat}{xs:List T}{t:T}(h:m[j]?=Zz (Zz (false,xs)))(hk:k<=xs.length)(hl:xs.length<lim):ri .insert (.c j) [.t (.int (k:Int)),.t t] m=.ok (.t .non) (m.set j (Zz (false,xs.take k++t::xs.drop k))):=by
 have hm:rO .insert xs [.int (k:Int),t]=Zz (.non,xs.take k++t::xs.drop k):=Xy ⟨by omega,by omega,hl⟩;simp[ri,df,cF,ag,h,hm]
theorem zQ(hi:i<m.length)(hs:bi s){x:List Nat}(hx:x.length<=100000)(hvd:Vd x):∃(y:List Nat) (s':List T),cf (n+4) 57 [.c i,.t (.str x)] (put m i s)=.ok (.t (.str y)) (put m i s')/\bi s'/\y.length<=2*x.length+40/\Vd y:=by
 obtain⟨ws,hws⟩:∃ws,az 32 x=ws:=⟨_,rfl⟩
 have htl:=og 32 x;have hne:=iI 32 x;have hwv:=nN 32 hvd;rw[hws]at htl hne hwv;have hlen:=JC ws;have h0:0<ws.length:=List.length_pos_iff.mpr hne;have hi2:∀L:List T,i<(m++[Zz (false,L)]).length:=λL=>by rw[RV];omega
 obtain⟨r,s1,g1,hs1,r0,r1⟩:=aH (n:=n) (many:=3) (hi2 (ws.map .str)) hs (by decide) (by decide);obtain⟨z,hz,z0,z1⟩:=lV (xs:=[4,12,999]) (lo:=4) (hi:=999) (by simp) r0 (by simpa using r1);obtain⟨v,hv,v0,v1⟩:∃v:Int,cv .min2 [.int (ws.length:Int),.int z]=Zz (.int v)/\0<v/\v<=(ws.length:Int):=by
  refine⟨if z<(ws.length:Int)then z else(ws.length:Int),rfl,?_⟩;split<;>omega
 obtain⟨a,s2,g2,hs2,a0,a1⟩:=aH (n:=n) (many:=v) (hi2 (ws.map .str)) hs1 (by omega) (by omega);obtain⟨y,s3,g3,hs3,y0,y1⟩:=aH (n:=n) (many:=5) (hi2 (ws.map .str)) hs2 (by decide) (by decide);obtain⟨k,rfl⟩:∃k:Nat,a=(k:Int):=⟨a.toNat,by omega⟩
 have hk:k<ws.length:=by omega
 have hw:ws[k]?=Zz ws[k]:=RZ hk;have hp:=wu hw;obtain⟨w,s4,g4,hs4,w4,wv⟩:=Hl (n:=n) (m:=m++[Zz (false,ws.map .str)]) (env:=[Zz (.c i),Zz (.t (.str x)),Zz (.t (.lst (AU.map .str))),Zz (.c m.length),Zz (.t (.int (k:Int))),Zz (.t (.int y))]) (hi2 _) hs3 rfl rfl;have head:∀K:S,ex (cf (n+3)) gv (.asg 3 (.zk (.cS .split (.var 1) (.cons (.con (.str [32])) .nil))) (.asg 4 (.call 41 (.cons (.var 0) (.cons (.blt .min2 (.cons (.blt .len (.cons (.var 3) .nil)) (.cons (.ix (.lst (.cons (.con (.int 4)) (.cons (.con (.int 12)) (.cons (.con (.int 999)) .nil)))) (.call 41 (.cons (.var 0) (.cons (.con (.int 3)) .nil)))) .nil))) .nil))) (.asg 5 (.call 41 (.cons (.var 0) (.cons (.con (.int 5)) .nil))) K))) [Zz (.c i),Zz (.t (.str x)),Zz (.t (.lst (AU.map .str))),Zy,Zy,Zy] (put m i s)=ex (cf (n+3)) gv K [Zz (.c i),Zz (.t (.str x)),Zz (.t (.lst (AU.map .str))),Zz (.c m.length),Zz (.t (.int (k:Int))),Zz (.t (.int y))] (put (m++[Zz (false,ws.map .str)]) i s3):=λK=>by
  refine(aq (w:=.c m.length) (m1:=put (m++[Zz (false,ws.map .str)]) i s) ?_).trans ?_
  ·rw[ev,ev,aa rfl,ag,Xy (show oY .split (.t (.str x)) _=true from rfl),al (ae _) aM,ag]
   have:dR .split (.str x) [.str [32]]=Zz (.lst (ws.map .str)):=by rw[<-hws];exact Xy (by omega)
   rw[show ri .split (.t (.str x)) [.t (.str [32])] (put m i s)=bX (dR .split (.str x) [.str [32]]) (put m i s)from rfl,this];show Res.ok (W.c (put m i s).length) (put m i s++[Zz (false,ws.map .str)])=_;rw[aG,bA hi]
  refine(aq ((am (aa rfl) (vO (DW hi rfl) (aS (a9 (al (ae _) (al (ae _) (al (ae _) aM))) rfl aR) ((am (aa rfl) (ae _)).trans g1) hz) hv)).trans g2)).trans ?_;exact aq ((am (aa rfl) (ae _)).trans g3)
 have fin:∀(ys:List (List Nat)) (s':List T) {e5:Option W},tl ys<=2*x.length+40->ex (cf (n+3)) gv (.ret (.cS .join (.con (.str [32])) (.cons (.var 3) .nil)) .done) [Zz (.c i),Zz (.t (.str x)),Zz (.t (.lst (AU.map .str))),Zz (.c m.length),Zz (.t (.int (k:Int))),e5] (put (m++[Zz (false,ys.map .str)]) i s')=.ok (.ret (.t (.str (aK [32] ys)))) (put (m++[Zz (false,ys.map .str)]) i s'):=λys s' _ h=>aj (Dj hi rfl (by omega))
 have no:∀{j:Int}{M:Mem}{e2:Option W}{a:S}{K:S},(y==j)=false->ex (cf (n+3)) gv (.bk (.cmp .Eq (.var 5) (.con (.int j))) a .done K) [Zz (.c i),Zz (.t (.str x)),e2,Zz (.c m.length),Zz (.t (.int (k:Int))),Zz (.t (.int y))] M=ex (cf (n+3)) gv K [Zz (.c i),Zz (.t (.str x)),e2,Zz (.c m.length),Zz (.t (.int (k:Int))),Zz (.t (.int y))] M:=λh=>aB (ao (k:=false) (aa rfl) (ae _) ((dy _ _).trans (by rw[h])))
 suffices main:∃(z:List Nat) (L s':List T),ex (cf (n+3)) gv cH [Zz (.c i),Zz (.t (.str x)),Zy,Zy,Zy,Zy] (put m i s)=.ok (.ret (.t (.str z))) (put (m++[Zz (false,L)]) i s')/\bi s'/\z.length<=2*x.length+40/\Vd z by
  obtain⟨z,L,s',key,h1,h2⟩:=main;exact⟨z,s',aC (qm _ _ _) rfl key (show Res.ok _ ((put (m++[_]) i _).take (put m i s).length)=_ from by rw[aG,bA hi];exact congrArg _ (VX aG)),h1,h2⟩
 unfold cH;rw[aq (w:=.t (.lst ((mn.take 1).flatten.map .str))) (m1:=put m i s) rfl,aq (w:=.t (.lst ((mn.take 2).flatten.map .str))) (m1:=put m i s) rfl,aq (w:=.t (.lst (AU.map .str))) (m1:=put m i s) rfl];simp only[RR,RS];rw[head];by_cases hy:y<2
 ·refine⟨aK [32] (ws.set k w),(ws.set k w).map .str,s4,?_,hs4,Rn (qF _) ?_,Vd.join uM λu hu=>(List.mem_or_eq_of_mem_set hu).elim (hwv u) λe=>e▸wv⟩
  ·refine(l7 (ao (k:=true) (aa rfl) (ae _) ((k9 _ _).trans (congrArg Zz (Y1 hy)))) (env':=[Zz (.c i),Zz (.t (.str x)),Zz (.t (.lst (AU.map .str))),Zz (.c m.length),Zz (.t (.int (k:Int))),Zz (.t (.int y))]) (m2:=put (m++[Zz (false,(ws.set k w).map .str)]) i s4) ?_).trans ?_
   ·rw[ex,g4,ag,aa rfl,ag,aa rfl,ag]
    have:setM (.c m.length) (.t (.int (k:Int))) (.t (.str w)) (put (m++[Zz (false,ws.map .str)]) i s4)=.ok () (put (m++[Zz (false,(ws.set k w).map .str)]) i s4):=by
     show(match(put (m++[Zz (false,ws.map T.str)]) i s4)[m.length]? with
      |some (Zz (false,xs))=>match ie xs.length (k:Int)with
       |some j=>Res.ok () ((put (m++[Zz (false,ws.map T.str)]) i s4).set m.length (Zz (false,xs.set j (.str w))))
       |none=>.stuck
      |_=>.stuck)=_
     rw[pd hi];dsimp only;rw[mM (by omega) (by rw[R2];omega)];dsimp only;rw[wq hi,Sq,List.map_set]
    rw[this,ag];exact bG
   ·rw[no (by rw[Y2];omega),no (by rw[Y2];omega),no (by rw[Y2];omega)]
    exact fin _ _ (by
     have:=wu (ws:=ws.set k w) (k:=k) (w:=w) (by rw[Rr hk]);rw[List.take_set_of_le (RU _),List.drop_set_of_lt (by omega)]at this;omega)
  ·have:=wu (ws:=ws.set k w) (k:=k) (w:=w) (by rw[Rr hk])
   rw[List.take_set_of_le (RU _),List.drop_set_of_lt (by omega)]at this;omega
 rw[aB (ao (k:=false) (aa rfl) (ae _) ((k9 _ _).trans (congrArg Zz (Y0 hy))))];by_cases h2:y=2
 ·have hpt:tl (ws.eraseIdx k)<=tl ws:=by
   rw[List.eraseIdx_eq_take_drop_succ,lH];omega
  refine⟨aK [32] (ws.eraseIdx k),(ws.eraseIdx k).map .str,s3,?_,hs3,Rn (qF _) (by omega),Vd.join uM λu hu=>hwv u (List.mem_of_mem_eraseIdx hu)⟩;refine(l7 (ao (k:=true) (aa rfl) (ae _) (by rw[dy,h2];rfl)) (env':=[Zz (.c i),Zz (.t (.str x)),Zz (.t (.lst (AU.map .str))),Zz (.c m.length),Zz (.t (.int (k:Int))),Zz (.t (.int y))]) (m2:=put (m++[Zz (false,(ws.eraseIdx k).map .str)]) i s3) ?_).trans ?_
  ·refine(kb (w:=.t (.str ws[k])) (m1:=put (m++[Zz (false,(ws.eraseIdx k).map .str)]) i s3) ?_).trans bG
   have hm:rO .fZ (ws.map T.str) [.int (k:Int)]=Zz (.str ws[k],(ws.eraseIdx k).map .str):=by
    show(match ie (ws.map T.str).length (k:Int)with
     |some j=>((ws.map T.str)[j]?).map λt=>(t,(ws.map T.str).eraseIdx j)
     |none=>Zy)=_
    rw[mM (by omega) (by rw[R2];omega)];dsimp only;rw[Sq,Rv,hw,oH];rfl
   rw[ev,aa rfl,ag,Xy (show oY .fZ (.c m.length) _=true by unfold oY;dsimp only;rw[pd hi]),al (aa rfl) aM,ag,Ed (.inr rfl) (pd hi _) hm,wq hi]
  ·rw[no (by rw[Y2];omega),no (by rw[Y2];omega)]
   exact fin _ _ (by omega)
 rw[no (by rw[Y2];omega)];have ins:∀(j:Int) (e:E) (K:S) (u:List Nat) (s':List T),u.length<=tl ws+13->y=j->ev (cf (n+3)) gv e [Zz (.c i),Zz (.t (.str x)),Zz (.t (.lst (AU.map .str))),Zz (.c m.length),Zz (.t (.int (k:Int))),Zz (.t (.int y))] (put (m++[Zz (false,ws.map .str)]) i s3)=.ok (.t (.str u)) (put (m++[Zz (false,ws.map .str)]) i s') ->
   ex (cf (n+3)) gv (.bk (.cmp .Eq (.var 5) (.con (.int j))) (.expr (.cS .insert (.var 3) (.cons (.var 4) (.cons e .nil))) .done) .done K) [Zz (.c i),Zz (.t (.str x)),Zz (.t (.lst (AU.map .str))),Zz (.c m.length),Zz (.t (.int (k:Int))),Zz (.t (.int y))] (put (m++[Zz (false,ws.map .str)]) i s3)=ex (cf (n+3)) gv K [Zz (.c i),Zz (.t (.str x)),Zz (.t (.lst (AU.map .str))),Zz (.c m.length),Zz (.t (.int (k:Int))),Zz (.t (.int y))] (put (m++[Zz (false,(ws.take k++u::ws.drop k).map .str)]) i s'):=λj e K u s' _ hj he=>by
  refine l7 (ao (k:=true) (aa rfl) (ae _) (by rw[dy,hj];simp)) ((kb (w:=.t .non) ?_).trans bG);rw[ev,aa rfl,ag,Xy (show oY .insert (.c m.length) _=true by unfold oY;dsimp only;rw[pd hi]),al (aa rfl) (al he aM),ag,KC (pd hi _) (by rw[R2];omega) (by rw[R2];unfold lim;omega),wq hi,U7,RQ,Wr,Ws]
 have insv:∀u:List Nat,Vd u->Vd (aK [32] (ws.take k++u::ws.drop k)):=λu hu=>Vd.join uM λv hv=>by
  rcases SP.mp hv with hv|hv
  ·exact hwv v (UP hv)
  ·rcases R7.mp hv with rfl|hv
   ·exact hu
   ·exact hwv v (UQ hv)
 have tli:∀u:List Nat,tl (ws.take k++u::ws.drop k)=tl ws+u.length+1:=λu=>by
  have:=congrArg tl (List.take_append_drop k ws);rw[lH]at this;rw[lH,hU];omega
 by_cases h3:y=3
 ·have hu:ws[k].length+1<=tl ws:=by omega
  refine⟨aK [32] (ws.take k++ws[k]::ws.drop k),(ws.take k++ws[k]::ws.drop k).map .str,s3,?_,hs3,Rn (qF _) (by rw[tli];omega),insv _ (hwv _ (TN hk))⟩;rw[ins 3 _ _ ws[k] s3 (by omega) h3 (by
   rw[ev,aa rfl,ag,aa rfl,ag];show bX ((view (.c m.length) _).bind λx=>_) _=_;rw[sf hi];show bX (atT (ws.map T.str) (k:Int)) _=_;unfold atT;rw[mM (by omega) (by rw[R2];omega)];show bX ((ws.map T.str)[(k:Int).toNat]?) _=_;rw[Sq,Rv,hw];rfl),no (by rw[Y2];omega)]
  exact fin _ _ (by rw[tli];omega)
 rw[no (by rw[Y2];omega)];have h4:y=4:=by omega
 refine⟨aK [32] (ws.take k++w::ws.drop k),(ws.take k++w::ws.drop k).map .str,s4,?_,hs4,Rn (qF _) (by rw[tli];omega),insv _ wv⟩;rw[ins 4 _ _ w s4 (by omega) h4 g4];exact fin _ _ (by rw[tli];omega)
end
theorem pQ{α:Type}{f:Env->Mem->Res (List T)}{tg:Tg}{env:Env}{m:Mem}{emb:α->T}{g:α->List T}:∀(as:List α),(∀a∈as,∃env',bJ tg (emb a) env=Zz env'/\f env' m=.ok (g a) m)->bU f tg (as.map emb) env m=.ok (as.flatMap g) m
 |[],_=>rfl
 |a::as,h=>by
  obtain⟨env',h1,h2⟩:=h a RD;rw[RQ,bU,h1];show(f env' m).bind _=_;rw[h2,ag,pQ as λx hx=>h x (R5 _ hx)];rfl
theorem Bf{call:Nat->List W->Mem->Res W}{gv:List T}{env:Env}{m:Mem}{a b c:E}{x y:T}{o p:XH}(h1:ev call gv a env m=.ok (.t x) m)(h2:ev call gv b env m=.ok (.t y) m)(h3:bD o x y=Zz false):ev call gv (.zK o p a b c) env m=.ok (.t (.bl false)) m:=by
 rw[ev,h1,ag,h2,ag];show(match bD o x y with
  |some true=>_
  |some false=>_
  |none=>_)=_
 rw[h3]
theorem BX{call:Nat->List W->Mem->Res W}{gv:List T}{env:Env}{m:Mem}{a b c:E}{x y z:T}{o p:XH}{k:Bool}(h1:ev call gv a env m=.ok (.t x) m)(h2:ev call gv b env m=.ok (.t y) m)(h3:bD o x y=Zz true)(h4:ev call gv c env m=.ok (.t z) m)(h5:bD p y z=Zz k):ev call gv (.zK o p a b c) env m=.ok (.t (.bl k)) m:=by
 rw[ev,h1,ag,h2,ag];show(match bD o x y with
  |some true=>(ev call gv c env m).bind λz m=>bX (((view (.t y) m).bind λy=>(view z m).bind λz=>bD p y z).map .bl) m
  |some false=>_
  |none=>_)=_
 rw[h3];show(ev call gv c env m).bind _=_;rw[h4];show bX ((bD p y z).map .bl) m=_;rw[h5];rfl
theorem GF{xs:List T}(h:au 59 xs=true):bD .Eq (.lst xs) (.lst [])=Zz xs.isEmpty/\bD .NotEq (.lst xs) (.lst [])=Zz (!xs.isEmpty):=by
 have h1:ay 60 (.lst xs)=true:=by rw[ay];exact h
 have h2:ay 60 (.lst [])=true:=by decide
 have h3:eqT (.lst xs) (.lst [])=xs.isEmpty:=by cases xs<;>simp[eqT,r9]
 constructor
 ·show(if(rM (.lst xs) (.lst []) || (ay 60 (.lst xs)&&ay 60 (.lst [])))=true then Zz (eqT (.lst xs) (.lst []))else Zy)=_
  rw[h1,h2,SW,UW,Xy rfl,h3]
 ·show(if(rM (.lst xs) (.lst []) || (ay 60 (.lst xs)&&ay 60 (.lst [])))=true then Zz (!eqT (.lst xs) (.lst []))else Zy)=_
  rw[h1,h2,SW,UW,Xy rfl,h3]
theorem dG{call:Nat->List W->Mem->Res W}{gv:List T}{env:Env}{m:Mem}{b:Mt}{o e:E}{x y r:T}(hb:b=.split∨b=.partition)(ho:ev call gv o env m=.ok (.t x) m)(he:ev call gv e env m=.ok (.t y) m)(hx:cz x .str=true)(hm:dR b x [y]=Zz r):ev call gv (.cS b o (.cons e .nil)) env m=.ok (.t r) m:=by
 cases x with
 |str cs =>
  rcases hb with rfl|rfl<;>rw[ev,ho,ag,Xy (by rfl),evs,he,ag,evs,ag,ag]
  ·show bX (dR .split (.str cs) [y]) m=_
   rw[hm];rfl
  ·show bX (dR .partition (.str cs) [y]) m=_
   rw[hm];rfl
 |_=>cases hx
theorem zf(a b:Nat):bD .LtE (.str [a]) (.str [b])=Zz (decide (a<=b)):=by
 show Zz (!cO [b] [a])=_;have:cO [b] [a]=decide (b<a):=by
  unfold cO;by_cases h:b<a
  ·rw[Xy h,Y1 h]
  ·rw[Xz h,Y0 h]
   split<;>rfl
 rw[this];by_cases h:b<a
 ·rw[Y1 h,Y0 (by omega)];rfl
 ·rw[Y0 h,Y1 (by omega)];rfl
theorem FP{c:Nat}:c∈gr↔97<=c/\c<=122:=by
 refine⟨λh=>(by decide:∀c∈gr,97<=c/\c<=122) c h,λh=>?_⟩;obtain⟨i,rfl⟩:∃i,c=97+i:=⟨c-97,by omega⟩
 exact(by decide:∀i<26,97+i∈gr) i (by omega)
theorem FO{c:Nat}:c∈jA↔48<=c/\c<=57:=by
 refine⟨λh=>(by decide:∀c∈jA,48<=c/\c<=57) c h,λh=>?_⟩;obtain⟨i,rfl⟩:∃i,c=48+i:=⟨c-48,by omega⟩
 exact(by decide:∀i<10,48+i∈jA) i (by omega)
section
variable{n:Nat}{m:Mem}{w:List Nat}
theorem uC{lo hi:Nat}{c:E}(hc:c=.comp 1 [] (.var 0) (.nm 0) (.cons (.not (.zK .LtE .LtE (.con (.str [lo])) (.var 0) (.con (.str [hi])))) .nil) (.emit (.var 0)))(hl:w.length<=lim):ev (cf n) gv c [Zz (.t (.str w))] m=.ok (.t (.lst (w.flatMap λx=>if(decide (lo<=x)&&decide (x<=hi))=true then[]else[T.str [x]]))) m:=by
 subst hc;refine aX (x:=.t (.str w)) (m0:=m) (aa rfl) (by simp[ba,mi,hl]) (pQ (emb:=λc=>T.str [c]) w λx _=>⟨[Zz (.t (.str [x]))],rfl,?_⟩) ?_
 ·by_cases h1:lo<=x
  ·have h3:=BX (call:=cf n) (gv:=gv) (m:=m) (env:=[Zz (.t (.str [x]))]) (ae (.str [lo])) (aa (i:=0) rfl) (by rw[zf,Y1 h1]) (ae (.str [hi])) (zf x hi)
   by_cases h2:x<=hi
   ·rw[Y1 h2]at h3
    rw[Y1 h1,Y1 h2];exact Jm (bc h3)
   ·rw[Y0 h2]at h3
    rw[Y1 h1,Y0 h2];exact Fo (bc h3) (cp (aa rfl))
  ·rw[Y0 h1]
   exact Fo (bc (Bf (ae _) (aa rfl) (by rw[zf,Y0 h1]))) (cp (aa rfl))
 ·refine Rn ?_ hl
  induction w with
  |nil=>simp
  |cons a r ih =>
   have:=ih (by simp at hl;omega);rw[UF,RV,RI];split<;>simp at this ⊢<;>omega
theorem x9{lo hi:Nat}(hv:Vd w):bD .NotEq (.lst (w.flatMap λx=>if(decide (lo<=x)&&decide (x<=hi))=true then[]else[T.str [x]])) (.lst [])=Zz (!w.all λx=>decide (lo<=x)&&decide (x<=hi)):=by
 have hd:au 59 (w.flatMap λx=>if(decide (lo<=x)&&decide (x<=hi))=true then[]else[T.str [x]])=true:=bE λt ht=>by
  obtain⟨x,hx,ht⟩:=VI.mp ht;split at ht
  ·cases ht
  ·rw[RN.mp ht]
   exact cD λc hc=>by rw[RN.mp hc];exact hv x hx
 rw[(GF hd).2]
 congr 2
 clear hd hv
 induction w with
 |nil=>rfl
 |cons a r ih =>
  rw[UF,TD,<-ih];cases(decide (lo<=a)&&decide (a<=hi))<;>rfl
noncomputable def wT(w:List Nat):T:=if aW w=true then .str w else .non
noncomputable def nT(w:List Nat):T:=if(fK w&&decide (fL w<=1000000000))=true then .int (fL w)else .non
theorem EX:(w.all λx=>decide (97<=x)&&decide (x<=122))=w.all λc=>decide (c∈gr):=by
 congr 1
 funext c
 rw[Uk,R6,decide_eq_true_eq,decide_eq_true_eq,decide_eq_true_eq,FP]
theorem xV:(w.all λx=>decide (48<=x)&&decide (x<=57))=w.all λc=>decide (c∈jA):=by
 congr 1
 funext c
 rw[Uk,R6,decide_eq_true_eq,decide_eq_true_eq,decide_eq_true_eq,FO]
theorem I0(cs:List Nat):bD .In (.str cs) (.lst [.str [97,110,121],.str [105,115],.str [98,121],.str [110,111,116],.str [97,110,100],.str [111,114]])=Zz (jW cs):=(yP cs six).2
theorem rJ(hl:w.length<=400000)(hv:Vd w):cf (n+1) 60 [.t (.str w)] m=.ok (.t (wT w)) m:=by
 have hlm:w.length<=lim:=by unfold lim;omega
 refine aC (EA _ _ _) rfl ?_ (av (cell:=false) rfl);unfold qR;have h1:ev (cf n) gv (.not (.zK .LtE .LtE (.con (.int 1)) (.blt .len (.cons (.var 0) .nil)) (.con (.int 8)))) [Zz (.t (.str w))] m=.ok (.t (.bl (!(decide (1<=w.length)&&decide (w.length<=8))))) m:=by
  refine bc ?_;by_cases h:1<=w.length
  ·rw[Y1 h,SW]
   refine(BX (ae _) (aA (aa rfl) (mw hlm)) ((B8 _ _).trans (by rw[Y1 (by omega)])) (ae _) (B8 _ _)).trans ?_
   congr 3
   rw[decide_eq_decide];omega
  ·rw[Y0 h]
   exact Bf (ae _) (aA (aa rfl) (mw hlm)) ((B8 _ _).trans (by rw[Y0 (by omega)]))
 have hw:aW w=(((decide (1<=w.length)&&decide (w.length<=8))&&!jW w)&&w.all λc=>decide (c∈gr)):=rfl;unfold wT;rw[hw];cases q1:(decide (1<=w.length)&&decide (w.length<=8))with
 |false =>
  rw[q1]at h1;exact aE (dh h1) (aj (ae _))
 |true =>
  rw[q1]at h1;have h2:=(bn h1).trans (ao (op:=.In) (aa (i:=0) rfl) (a9 (al (ae (.str [97,110,121])) (al (ae (.str [105,115])) (al (ae (.str [98,121])) (al (ae (.str [110,111,116])) (al (ae (.str [97,110,100])) (al (ae (.str [111,114])) aM)))))) rfl aR) (I0 w));cases q2:jW w with
  |true =>
   rw[q2]at h2;exact aE h2 (aj (ae _))
  |false =>
   rw[q2]at h2;refine(aB h2).trans ?_;have h3:=ao (op:=.NotEq) (uC (n:=n) (m:=m) (w:=w) (c:=uh) rfl hlm) (a9 aM rfl aR) (x9 hv);rw[EX]at h3;cases q3:w.all λc=>decide (c∈gr)with
   |true =>
    rw[q3]at h3;exact(aB h3).trans (aj (aa rfl))
   |false =>
    rw[q3]at h3;exact aE h3 (aj (ae _))
theorem qt(hl:w.length<=400000):cf (n+3) 27 [.t (.str w)] m=.ok (.t (nT w)) m:=by
 refine aC (wx _ _ _) rfl ?_ (av (cell:=false) rfl);unfold gJ nT;have hi:=jY (n:=n+1) (m:=m) (cs:=w) (by unfold lim;omega);cases q:fK w with
 |false =>
  rw[q]at hi;exact(aB (fI ((ap (aa rfl)).trans hi))).trans (aj (ae _))
 |true =>
  rw[q]at hi;have hb:=(u5 q).1;have hn:=fv (n:=n) (m:=m) (x:=.int (fL w));have h0:0<=fL w:=Int.natCast_nonneg _;have e:k6 (.int (fL w))=decide (fL w<=1000000000):=by
   unfold k6;rw[Uk];simp;omega
  rw[e]at hn;have hc:=(cM (gv:=gv) (env:=[Zz (.t (.str w))]) ((ap (aa (i:=0) rfl)).trans hi)).trans ((ap (aA (aa (i:=0) rfl) hb)).trans hn);rw[SW];cases q2:decide (fL w<=1000000000)with
  |false =>
   rw[q2]at hc;exact(aB hc).trans (aj (ae _))
  |true =>
   rw[q2]at hc;exact aE hc (aj (aA (aa rfl) hb))
theorem A8{c:Nat}{r:List Nat}(h:(c::r).length<=lim):rn (.str (c::r)) (.int 0)=Zz (.str [c]):=by
 simp only[rn];rw[Xy h,at0];rfl
theorem i6(hl:w.length<=400000)(hv:Vd w):cf (n+1) 59 [.t (.str w)] m=.ok (.t (nT w)) m:=by
 have hlm:w.length<=lim:=by unfold lim;omega
 refine aC (tR _ _ _) rfl ?_ (av (cell:=false) rfl);unfold fj;cases w with
 |nil=>exact aE (dh (ao (k:=true) (aa rfl) (ae _) rfl)) (aj (ae _))
 |cons c r =>
  have h1:ev (cf n) gv (.cmp .Eq (.var 0) (.con (.str []))) [Zz (.t (.str (c::r)))] m=.ok (.t (.bl false)) m:=ao (aa rfl) (ae _) rfl;have hf:fK (c::r)=(((decide (1<=(c::r).length)&&decide ((c::r).length<=10))&&(c::r).all λc=>decide (c∈jA))&&(c::r==[48] || (c::r).head? != Zz 48)):=rfl;have h2:=ao (call:=cf n) (gv:=gv) (env:=[Zz (.t (.str (c::r)))]) (m:=m) (op:=.Gt) (aA (aa (i:=0) rfl) (mw hlm)) (ae (.int 10)) (Hn _ _);unfold nT;rw[hf,Y1 (show 1<=(c::r).length by simp),SW];by_cases q1:(c::r).length<=10
  ·rw[Y0 (by omega)]at h2
   rw[Y1 q1,SW];have h3:=ao (op:=.NotEq) (uC (n:=n) (m:=m) (w:=c::r) (c:=jR) rfl hlm) (a9 aM rfl aR) (x9 hv);rw[xV]at h3;cases q2:(c::r).all λc=>decide (c∈jA)with
   |false =>
    rw[q2]at h3;exact aE ((bn h1).trans ((bn h2).trans h3)) (aj (ae _))
   |true =>
    rw[q2]at h3;refine(aB ((bn h1).trans ((bn h2).trans h3))).trans ?_;have hb:cv .int [.str (c::r)]=Zz (.int (fL (c::r))):=by
     show(if c::r≠[]/\(c::r).length<=600/\(c::r).all (λc=>decide (48<=c)&&decide (c<=57))=true then Zz (T.int (fL (c::r)))else Zy)=_;exact Xy ⟨by simp,by omega,by rw[xV];exact q2⟩
    have h5:=ao (call:=cf n) (gv:=gv) (env:=[Zz (.t (.str (c::r)))]) (m:=m) (op:=.Gt) (aA (aa (i:=0) rfl) hb) (aD (ae (.int 10)) (ae (.int 9)) (show oO .Pow (.int 10) (.int 9)=Zz (.int 1000000000)from rfl)) (Hn _ _);have h4:ev (cf n) gv (.and (.cmp .Eq (.ix (.var 0) (.con (.int 0))) (.con (.str [48]))) (.cmp .NotEq (.var 0) (.con (.str [48])))) [Zz (.t (.str (c::r)))] m=.ok (.t (.bl (!(c::r==[48] || (c::r).head? != Zz 48)))) m:=by
     have a1:=ao (call:=cf n) (gv:=gv) (env:=[Zz (.t (.str (c::r)))]) (m:=m) (aS (x:=.str (c::r)) (aa (i:=0) rfl) (ae (.int 0)) (A8 hlm)) (ae (.str [48])) (cu _ _);by_cases e:c=48
     ·subst e
      rw[show([48]==[48])=true from rfl]at a1;refine(cM a1).trans ((ao (aa rfl) (ae _) (BI _ _)).trans ?_);simp
     ·rw[show([c]==[48])=false by simp[e]]at a1
      refine(fI a1).trans ?_;simp[e]
    cases q3:(c::r==[48] || (c::r).head? != Zz 48)with
    |false =>
     rw[q3]at h4;exact aE (dh h4) (aj (ae _))
    |true =>
     rw[q3]at h4;rw[SW,SW];by_cases q4:fL (c::r)<=1000000000
     ·rw[Y0 (by omega)]at h5
      rw[Y1 q4];exact(aB ((bn h4).trans h5)).trans (aj (aA (aa rfl) hb))
     ·rw[Y1 (by omega)]at h5
      rw[Y0 q4];exact aE ((bn h4).trans h5) (aj (ae _))
  ·rw[Y1 (by omega)]at h2
   rw[Y0 q1];exact aE ((bn h1).trans (dh h2)) (aj (ae _))
end
noncomputable def jz(w:List Nat):List (List Nat):=if(w==[45])=true then[]else az 44 w
noncomputable def Pa(sep s:List Nat):List Nat:=(Ve ⟨s.toArray⟩ ⟨sep.toArray⟩).1.cps.toList
noncomputable def Pb(sep s:List Nat):List Nat:=(Ve ⟨s.toArray⟩ ⟨sep.toArray⟩).2.2.cps.toList
theorem mS(sep s:List Nat):((∀c∈Pa sep s,c∈s)/\(Pa sep s).length<=s.length)/\(∀c∈Pb sep s,c∈s)/\(Pb sep s).length<=s.length:=by
 unfold Pa Pb;rcases PyProof.Rows.partition_whole ⟨s.toArray⟩ ⟨sep.toArray⟩with⟨hp,_⟩|⟨i,hp,_,_⟩
 ·rw[hp]
  simp[show PySem.Str.empty.cps=#[]from rfl]
 ·rw[hp]
  simp only[PySem.StrLaws.strSub_toList];refine⟨⟨λc hc=>?_,?_⟩,λc hc=>?_,?_⟩
  ·have:=UQ (UP hc)
   simpa using this
  ·rw[SD]
   refine Rn (Nat.min_le_right _ _) ?_;simp
  ·have:=UQ (UP hc)
   simpa using this
  ·rw[SD]
   refine Rn (Nat.min_le_right _ _) ?_;simp
noncomputable abbrev P1(s:List Nat):List Nat:=Pa [61] s
noncomputable abbrev P3(s:List Nat):List Nat:=Pb [61] s
theorem yW{sep s:List Nat}(h0:sep≠[])(hl:s.length<=900000):dR .partition (.str s) [.str sep]=Zz (.tup [.str (Pa sep s),.str (Ve ⟨s.toArray⟩ ⟨sep.toArray⟩).2.1.cps.toList,.str (Pb sep s)]):=by
 cases sep with
 |nil=>exact Y3 rfl h0
 |cons a r=>exact Xy hl
theorem vJ(w:List Nat):(jz w).length<=w.length+1/\∀u∈jz w,u.length<=w.length:=by
 unfold jz;split
 ·exact⟨Ut _,λ_ h=>Y3 h R8⟩
 ·exact split_len 44 w
section
variable{n:Nat}{m:Mem}{w:List Nat}
theorem yv(hl:w.length<=400000):cf (n+1) 26 [.t (.str w)] m=.ok (.t (.lst ((jz w).map .str))) m:=by
 refine aC (wy _ _ _) rfl ?_ (av (cell:=false) rfl);unfold gG jz;have h:=ao (call:=cf n) (gv:=gv) (env:=[Zz (.t (.str w))]) (m:=m) (op:=.Eq) (aa (i:=0) rfl) (ju u6) (cu _ _);cases q:w==[45]with
 |true =>
  rw[q]at h;exact aE h (aj (a9 aM rfl aR))
 |false =>
  rw[q]at h;exact(aB h).trans (aj (dG (.inl rfl) (aa rfl) (ae _) rfl (Xy (by omega))))
noncomputable def yM(s:List Nat):T:=.tup [.str (P1 s),nT (P3 s)]
theorem Ge(hl:w.length<=400000):cf (n+4) 28 [.t (.str w)] m=.ok (.t (yM w)) m:=by
 refine aC (AZ _ _ _) rfl ?_ (av (cell:=false) rfl);unfold km;have hp:=yW (sep:=[61]) (s:=w) (by simp) (by omega);refine(mK (dG (.inr rfl) (aa rfl) (ae _) rfl hp) rfl).trans ?_;exact aj (bf (aa rfl) ((ap (aa rfl)).trans (qt (show(Pb [61] w).length<=400000 by have:=(mS [61] w).2.2;omega))))
end
theorem Iq{call:Nat->List W->Mem->Res W}{gv:List T}{env env':Env}{m m1:Mem}{is:List Nat}{e:E}{k:S}{ts:List T}(h:ev call gv e env m=.ok (.t (.lst ts)) m1)(h2:bJ (.tp is) (.tup ts) env=Zz env'):ex call gv (.Gp is e k) env m=ex call gv k env' m1:=by
 rw[ex,h,ag];dsimp only;rw[h2]
theorem fR.fits{x:T}(h:fR x):My.fits x=true:=by
 induction h with
 |str h=>exact Y1 h
 |int i=>rfl
 |tup _ ih=>exact mE ih
theorem GB{ws:List (List Nat)}(hF:Fits ws){t:T}(h:oW ws=.ok t):My.fits t=true/\d6 t=true:=by
 unfold oW at h;split at h
 ·cases h
 ·rename_i p e
  split at h
  ·cases h
  ·rename_i q
   cases h;rw[Sm,not_or]at q;exact⟨(fO (by decide) (fO (by decide) (yh hF 12)) 0 p e).fits,by simpa using q.2⟩
noncomputable def j5(t:List Nat):T:=match oW (az 32 t)with
 |.ok t=>t
 |.error _=>.non
theorem Ah{x:List Nat}(h:x.length<=400000):Fits (az 32 x):=λw hw=>by
 have:=(split_len 32 x).2 w hw;unfold lim;omega
section
variable{n:Nat}{m:Mem}{x:List Nat}
theorem yT(hl:x.length<=400000):My.fits (j5 x)=true:=by
 unfold j5;split
 ·rename_i e
  exact(GB (Ah hl) e).1
 ·rfl
theorem CL(hl:x.length<=400000):cf (n+57) 29 [.t (.str x)] m=.ok (.t (j5 x)) m:=by
 have h:=yj (n:=n) (m:=m) (cs:=x) (by omega);unfold j5;cases q:oW (az 32 x)with
 |ok t =>
  rw[q]at h;have h:_=_:=h;refine aC (qZ _ _ _) rfl (show ex (cf (n+56)) gv d7 [Zz (.t (.str x))] m=.ok (.ret (.t t)) m from ?_) (av (cell:=false) rfl);unfold d7;rw[ex];have hb:ex (cf (n+56)) gv j4 [Zz (.t (.str x))] m=.ok (.ret (.t t)) m:=aj ((ap (aa rfl)).trans h);rw[hb]
 |error e =>
  rw[q]at h;obtain⟨y,h⟩:=h;refine aC (qZ _ _ _) rfl (show ex (cf (n+56)) gv d7 [Zz (.t (.str x))] m=.ok (.ret (.t .non)) (m++y)from ?_) ?_
  ·unfold d7
   rw[ex];have hb:ex (cf (n+56)) gv j4 [Zz (.t (.str x))] m=.exc (Dz e) (m++y):=kH ((ap (aa rfl)).trans h);rw[hb];rfl
  ·show Res.ok _ ((m++y).take m.length)=_
   rw[List.take_left]
noncomputable def iM(w0 w1 w2 w3 w4 w5 w6 w7 w8:List Nat)(wt:T):T:=.tup [.str w0,.tup [.str w1,.str w2,.tup ((jz w3).map .str),.tup ((jz w4).map yM)],wt,nT w5,nT w6,nT w7,nT w8]
theorem Bz(w:List Nat):My.fits (nT w)=true:=by
 unfold nT;split<;>rfl
theorem B3{w0 w1 w2 w3 w4 w5 w6 w7 w8:List Nat}{wt:T}(h:∀w∈[w0,w1,w2,w3,w4],w.length<=400000)(hw:My.fits wt=true):My.fits (iM w0 w1 w2 w3 w4 w5 w6 w7 w8 wt)=true:=by
 have f:∀{w:List Nat},w.length<=400000->My.fits (.str w)=true:=λh=>Y1 (by unfold lim;omega)
 have h3:eM ((jz w3).map .str)=true:=mE λt ht=>by
  obtain⟨u,hu,rfl⟩:=Rg.mp ht;have:=(vJ w3).2 u hu;have:=h w3 (by simp);exact f (by omega)
 have h4:eM ((jz w4).map yM)=true:=mE λt ht=>by
  obtain⟨u,hu,rfl⟩:=Rg.mp ht;have:=(vJ w4).2 u hu;have:=h w4 (by simp);have:=(mS [61] u).1.2;show eM [.str (Pa [61] u),nT (Pb [61] u)]=true;rw[eM,eM,eM,f (by omega),Bz];rfl
 have e0:=f (h w0 (by simp));have e1:=f (h w1 (by simp));have e2:=f (h w2 (by simp));simp only[iM,My.fits,eM]at e0 e1 e2 ⊢;simp only[e0,e1,e2,h3,h4,hw,Bz,Bool.and_self]
theorem nine{α:Type}{l:List α}(h:l.length=9):∃a b c d e f g i j,l=[a,b,c,d,e,f,g,i,j]:=by
 rcases l with _|⟨a,l⟩;· cases h
 rcases l with _|⟨b,l⟩;· cases h
 rcases l with _|⟨c,l⟩;· cases h
 rcases l with _|⟨d,l⟩;· cases h
 rcases l with _|⟨e,l⟩;· cases h
 rcases l with _|⟨f,l⟩;· cases h
 rcases l with _|⟨g,l⟩;· cases h
 rcases l with _|⟨i,l⟩;· cases h
 rcases l with _|⟨j,l⟩;· cases h
 rcases l with _|⟨k,l⟩
 ·exact⟨a,b,c,d,e,f,g,i,j,rfl⟩
 ·simp at h
noncomputable def bar:List Nat:=[32,124,32]
theorem tE(hl:x.length<=400000){w0 w1 w2 w3 w4 w5 w6 w7 w8:List Nat}(h9:az 32 (Pa bar x)=[w0,w1,w2,w3,w4,w5,w6,w7,w8]):
  cf (n+58) 30 [.t (.str x)] m=.ok (.t (if cL (iM w0 w1 w2 w3 w4 w5 w6 w7 w8 (j5 (Pb bar x)))=true then iM w0 w1 w2 w3 w4 w5 w6 w7 w8 (j5 (Pb bar x))else .non)) m:=by
 have hp:=mS bar x;have hs:=(split_len 32 (Pa bar x)).2;rw[h9]at hs;have hw:∀w∈[w0,w1,w2,w3,w4,w5,w6,w7,w8],w.length<=400000:=λw hw=>by have:=hs w hw;omega
 have hT:=yf (n:=n+51) (m:=m) (x:=iM w0 w1 w2 w3 w4 w5 w6 w7 w8 (j5 (Pb bar x))) (B3 (λw h=>hw w (by simp at h ⊢;rcases h with h|h|h|h|h<;>simp[h])) (yT (by omega)));have hwi:=CL (n:=n) (m:=m) (x:=Pb bar x) (by omega);have k1:∀env:Env,env[4]?=Zz (Zz (.t (.lst [.str w0,.str w1,.str w2,.str w3,.str w4,.str w5,.str w6,.str w7,.str w8])))->ev (cf (n+57)) gv nX env m=.ok (.t (.lst ((jz w4).map yM))) m:=λenv he=>by
  have hlf:=vJ w4;have hw4:=hw w4 (by simp);refine aX (x:=.t (.lst ((jz w4).map .str))) (m0:=m) ((ap (aS (aa he) (ae _) rfl)).trans (yv (n:=n+56) hw4)) rfl (cW (λu=>T.str u) yM (jz w4) λu hu=>⟨_,rfl,iT (show ev (cf (n+57)) gv mF _ _=_ from cp ((ap (aa rfl)).trans (Ge (n:=n+53) (by have:=hlf.2 u hu;omega))))⟩) (by rw[R2];unfold lim;omega)
 have k0:∀env:Env,env[4]?=Zz (Zz (.t (.lst [.str w0,.str w1,.str w2,.str w3,.str w4,.str w5,.str w6,.str w7,.str w8])))->ev (cf (n+57)) gv mH env m=.ok (.t (.lst ([w5,w6,w7,w8].map nT))) m:=λenv he=>by
  refine aX (x:=.t (.lst ([w5,w6,w7,w8].map .str))) (m0:=m) ?_ rfl (cW (λu=>T.str u) nT [w5,w6,w7,w8] λu hu=>⟨_,rfl,iT (show ev (cf (n+57)) gv nS _ _=_ from cp ((ap (aa rfl)).trans (qt (n:=n+54) (hw u (by simp at hu ⊢;rcases hu with h|h|h|h<;>simp[h])))))⟩) (by simp[lim]);rw[ev,aa he,ag,ae];rfl
 refine aC (pK _ _ _) rfl ?_ (av (cell:=false) rfl);unfold fQ;refine(mK (dG (.inr rfl) (aa rfl) (ae _) rfl (yW (sep:=bar) (by decide) (by omega))) rfl).trans ?_;have hsp:dR .split (.str (Pa bar x)) [.str [32]]=Zz (.lst [.str w0,.str w1,.str w2,.str w3,.str w4,.str w5,.str w6,.str w7,.str w8]):=by
  show(if(Pa bar x).length<=900000 then Zz (T.lst ((az 32 (Pa bar x)).map .str))else Zy)=_;rw[Xy (by omega),h9];rfl
 refine(aq (dG (.inl rfl) (aa rfl) (ae _) rfl hsp)).trans ?_;refine(aB (ao (k:=false) (aA (aa rfl) rfl) (ae _) rfl)).trans ?_;refine(aq (aA ((ap (aS (aa rfl) (ae _) rfl)).trans (yv (n:=n+56) (hw w3 (by simp)))) (ij _))).trans ?_;refine(aq (aA (k1 _ rfl) (ij _))).trans ?_;refine(Iq (k0 _ rfl) rfl).trans ?_;refine(aq (fh (al (aS (aa rfl) (ae _) rfl) (al (fh (al (aS (aa rfl) (ae _) rfl) (al (aS (aa rfl) (ae _) rfl) (al (aa rfl) (al (aa rfl) aM)))) rfl aR) (al ((ap (aa rfl)).trans hwi) (al (aa rfl) (al (aa rfl) (al (aa rfl) (al (aa rfl) aM))))))) rfl aR)).trans ?_;have hc:∀{E:Env},E[11]?=Zz (Zz (.t (iM w0 w1 w2 w3 w4 w5 w6 w7 w8 (j5 (Pb bar x)))))->ev (cf (n+57)) gv (.call 17 (.cons (.var 11) .nil)) E m=.ok (.t (.bl (cL (iM w0 w1 w2 w3 w4 w5 w6 w7 w8 (j5 (Pb bar x)))))) m:=λh=>(ap (aa h)).trans hT
 cases q:cL (iM w0 w1 w2 w3 w4 w5 w6 w7 w8 (j5 (Pb bar x)))with
 |true =>
  rw[Xy rfl];exact aE ((hc rfl).trans (by rw[q])) (aj (aa rfl))
 |false =>
  rw[Xz S4];exact(aB ((hc rfl).trans (by rw[q]))).trans (aj (ae _))
theorem om(hl:x.length<=400000)(h9:(az 32 (Pa bar x)).length≠9):cf (n+58) 30 [.t (.str x)] m=.ok (.t .non) m:=by
 have hp:=mS bar x;refine aC (pK _ _ _) rfl ?_ (av (cell:=false) rfl);unfold fQ;refine(mK (dG (.inr rfl) (aa rfl) (ae _) rfl (yW (sep:=bar) (by decide) (by omega))) rfl).trans ?_;have hsp:dR .split (.str (Pa bar x)) [.str [32]]=Zz (.lst ((az 32 (Pa bar x)).map .str)):=Xy (by omega);refine(aq (dG (.inl rfl) (aa rfl) (ae _) rfl hsp)).trans ?_;exact aE (ao (k:=true) (aA (aa rfl) (pM _)) (ae _) (by rw[Bm,R2,beq_false_of_ne (by omega)];rfl)) (aj (ae _))
end
noncomputable def nB(w:List Nat):Bool:=fK w&&decide (fL w<=1000000000)
theorem Jx(w:List Nat):k6 (nT w)=nB w:=by
 unfold nT nB;cases h:fK w&&decide (fL w<=1000000000)with
 |false=>rfl
 |true =>
  rw[R6]at h;have h0:0<=fL w:=Int.natCast_nonneg _;show(decide (0<=fL w)&&decide (fL w<=1000000000))=true;rw[Y1 h0,h.2];rfl
theorem FM(mk:List (List Nat)):jh (.tup (mk.map .str))=(mk.all aW&&(decide (mk.length<=6)&&dU mk)):=by
 show(decide ((mk.map T.str).length<=6)&&((mk.map T.str).all b8&&dU ((mk.map T.str).map vG)))=_;rw[R2,U2,Sh];have e1:(mk.all (b8 ∘ T.str))=mk.all aW:=rfl;have e2:mk.map (vG ∘ T.str)=mk:=WU mk;rw[e1,e2];cases mk.all aW<;>simp
theorem E1(sz:List (List Nat)):jM (.tup (sz.map yM))=(((sz.map P1).all aW&&(decide ((sz.map P1).length<=6)&&dU (sz.map P1)))&&sz.all λs=>nB (P3 s)):=by
 show(decide ((sz.map yM).length<=6)&&((sz.map yM).all eP&&dU (((sz.map yM).map vq).map vG)))=_;rw[R2,R2,U2,U2];have e1:sz.all (eP ∘ yM)=(sz.all (aW ∘ P1)&&sz.all λs=>nB (P3 s)):=by
  induction sz with
  |nil=>rfl
  |cons a r ih =>
   rw[TD,TD,TD,ih];have:(eP ∘ yM) a=(aW (P1 a)&&nB (P3 a)):=by
    show(b8 (.str (P1 a))&&k6 (nT (P3 a)))=_;rw[Jx];rfl
   rw[this];show(aW (P1 a)&&nB (P3 a)&&_)=((aW (P1 a)&&_)&&(nB (P3 a)&&_))
   cases aW (P1 a)<;>cases nB (P3 a)<;>simp
 rw[e1,show((sz.map yM).map vq).map vG=sz.map P1 by rw[Sh,Sh];rfl];cases sz.all (aW ∘ P1)<;>cases(sz.all λs=>nB (P3 s))<;>simp
theorem Lh{a b c d e f g i j k:Bool}:((a&&(b&&(c&&(d&&e))))&&(f&&(g&&(i&&(j&&k)))))=true↔a=true/\b=true/\c=true/\d=true/\e=true/\f=true/\g=true/\i=true/\j=true/\k=true:=by
 simp[and_assoc]
theorem xU(w0 w1 w2 w3 w4 w5 w6 w7 w8:List Nat)(wt:T):cL (iM w0 w1 w2 w3 w4 w5 w6 w7 w8 wt)=(oneOf (.str w0) sides&&((aW w1&&(aW w2&&(jh (.tup ((jz w3).map .str))&&jM (.tup ((jz w4).map yM)))))&&(d6 wt&&(oU (nT w5) 1 1000000&&(vT (nT w6) (nT w5)&&(oU (nT w7) 0 1000&&k6 (nT w8))))))):=rfl
theorem DV{c:Nat}{w:List Nat}(h:w.length<=900000):dR .split (.str w) [.str [c]]=Zz (.lst ((az c w).map .str)):=Xy h
theorem kM{a:T}{ws:List (List Nat)}(h:oneOf a ws=true)(hw:∀w∈ws,∀c∈w,c<1114112):∀k,ay k a=true:=by
 cases a with
 |str cs =>
  intro k;refine cD (hw cs ?_);obtain⟨b,hb,e⟩:=TQ.mp h;rw[<-eq_of_beq e];exact hb
 |_=>cases h
theorem uv{a:T}(h:b8 a=true):∀k,ay k a=true:=by
 cases a with
 |str cs=>exact λk=>gg h
 |_=>cases h
theorem E8{a:T}(h:k6 a=true):∀k,ay k a=true:=by
 cases a with
 |int i=>intro k;cases k<;>rfl
 |_=>cases h
theorem Db{x:T}{d:Nat}(h:eO x=true)(hk:∀y∈kids x,ay d y=true/\ay (d+1) y=true):ay (d+2) x=true:=by
 have up:∀{ts:List T},(∀t∈ts,ay (d+1) t=true)->ay (d+2) (.tup ts)=true:=λ{ts} h=>by rw[ay];exact bE h
 unfold eO at h;rw[Sm]at h;rcases h with h|h
 ·unfold dk at h
  split at h
  ·rename_i a
   refine up λt ht=>?_
   simp at ht;subst ht;exact kM h (by decide) _
  ·rename_i a b
   rw[R6]at h;refine up λt ht=>?_
   simp at ht;rcases ht with rfl|rfl
   ·exact kM h.1 (by decide) _
   ·exact uv h.2 _
  ·rename_i a b c
   rw[R6,R6]at h;refine up λt ht=>?_
   simp at ht;rcases ht with rfl|rfl|rfl
   ·exact kM h.1.1 (by decide) _
   ·exact uv h.1.2 _
   ·exact E8 h.2 _
  ·cases h
 ·unfold My.kids at h hk
  split at h
  ·rename_i a b
   dsimp only at hk;split at h
   ·rename_i q
    rw[Xy q]at hk;refine up λt ht=>?_
    simp at ht;rcases ht with rfl|rfl
    ·exact kM q (by decide) _
    ·exact(hk t (by simp)).2
   ·rename_i q
    rw[Xz q]at hk;split at h
    ·rename_i q2
     rw[Xy q2]at hk;rw[R6]at q2;refine up λt ht=>?_
     simp at ht;rcases ht with rfl|rfl
     ·exact kM q2.1 (by decide) _
     ·cases t with
      |tup ts=>rw[ay];exact bE λy hy=>(hk y hy).1
      |_=>cases q2.2
    ·simp at h
  ·simp at h
theorem rK:∀(k p:Nat) (l l':List T) (j:Nat),run k p l=Zz l'->l'=[]->∀y∈l,ay (j+2*k) y=true
 |0,p,l,l',j,h,e=>by
  rw[run]at h;cases h;subst e;intro y hy;cases hy
 |k+1,p,l,l',j,h,e=>by
  rw[run]at h;split at h
  ·cases h
  ·rename_i q
   intro y hy;have hf:eO y=true:=by
    cases z:l.all eO with
    |false=>exact Y3 (.inr z) q
    |true=>exact RX.mp z y hy
   refine Db hf λz hz=>?_
   have hz:=VI.mpr ⟨y,hy,hz⟩;have h2:=rK k _ _ _ (j+1) h e z hz;rw[show j+1+2*k=j+2*k+1 by omega]at h2;exact⟨rK k _ _ _ j h e z hz,h2⟩
theorem Dr{j:Nat}{t:T}(h:d6 t=true):ay (j+12) t=true:=by
 unfold d6 at h;split at h
 ·cases h
 ·rename_i l e
  exact rK 6 0 [t] l j e (List.isEmpty_iff.mp h) t (by simp)
section
variable{call:Nat->List W->Mem->Res W}{gv:List T}{env env':Env}{m m1 m2:Mem}{a bb k:S}{x:Exc}{yes:List Nat}{nm:Option Nat}
theorem Hf(h:ex call gv a env m=.ok (.next env') m1):ex call gv (.tri a yes nm bb k) env m=ex call gv k env' m1:=by
 rw[ex,h]
theorem Hw(h:ex call gv a env m=.exc x m1)(hy:x.cls∈yes)(h2:ex call gv bb (B5 env.length nm x) m1=.ok (.next env') m2):ex call gv (.tri a yes nm bb k) env m=ex call gv k (LM nm env') m2:=by
 rw[ex,h];dsimp only;rw[Xy hy,h2];rfl
end
theorem po(c:Nat):∀x:List Nat,aK [c] (az c x)=x
 |[]=>rfl
 |a::r=>by
  have ih:=po c r;rw[az];cases e:az c r with
  |nil=>exact Y3 e (iI c r)
  |cons y ys =>
   rw[e]at ih;split
   ·rename_i h
    subst h;show[]++[a]++aK [a] (y::ys)=_;rw[ih];rfl
   ·cases ys with
    |nil=>show a::y=_;rw[show y=r from ih]
    |cons z zs =>
     have ih:y++[c]++aK [c] (z::zs)=r:=ih;show(a::y)++[c]++aK [c] (z::zs)=_;rw[<-ih];rfl
section
variable{n:Nat}{m:Mem}
theorem aQ(w:List Nat):∀k,ay k (nT w)=true:=λk=>by
 unfold nT;split<;>cases k<;>rfl
theorem zc{j:Nat}{w0 w1 w2 w3 w4 w5 w6 w7 w8:List Nat}{wt:T}(h:cL (iM w0 w1 w2 w3 w4 w5 w6 w7 w8 wt)=true):ay (j+13) (iM w0 w1 w2 w3 w4 w5 w6 w7 w8 wt)=true:=by
 rw[xU,FM,E1,R6,Lh]at h;obtain⟨h0,a1,a2,a3,a4,a5,a6,_⟩:=h;rw[R6]at a3 a4;have h2:ay (j+11) (.tup ((jz w3).map .str))=true:=by
  rw[ay];refine bE λt ht=>?_
  obtain⟨w,hw,rfl⟩:=Rg.mp ht;exact gg (RX.mp a3.1 w hw)
 have h3:ay (j+11) (.tup ((jz w4).map yM))=true:=by
  rw[ay];refine bE λt ht=>?_
  obtain⟨u,hu,rfl⟩:=Rg.mp ht;rw[yM,ay,au,au,au,gg (RX.mp a4.1 (P1 u) (Vc hu)),aQ];rfl
 have h5:ay (j+12) (.tup [.str w1,.str w2,.tup ((jz w3).map .str),.tup ((jz w4).map yM)])=true:=by
  rw[ay,au,au,au,au,au,gg a1,gg a2,h2,h3];rfl
 rw[iM,ay,au,au,au,au,au,au,au,au,kM h0 (by decide),h5,Dr a6,aQ,aQ,aQ,aQ];rfl
theorem DO{x:List Nat}(h:cf (n+58) 30 [.t (.str x)] m=.ok (.t .non) m):cf (n+59) 35 [.t (.str x)] m=.exc (Dz 0) m:=
 lL (lw _ _ _) rfl ((aB (bc (k:=true) (mf (aa rfl) rfl))).trans ((aq ((ap (aa rfl)).trans h)).trans (dP (ao (aa rfl) (ae _) rfl) (fw (ae _)))))
theorem CU{x:List Nat}{ts:List T}(h:cf (n+58) 30 [.t (.str x)] m=.ok (.t (.tup ts)) m):cf (n+59) 35 [.t (.str x)] m=.ok (.t (.tup ts)) m:=
 aC (lw _ _ _) rfl ((aB (bc (k:=true) (mf (aa rfl) rfl))).trans ((aq ((ap (aa rfl)).trans h)).trans ((aB (ao (k:=false) (aa rfl) (ae _) rfl)).trans (aj (aa rfl))))) (av (cell:=false) rfl)
end
inductive At where
 |w (s:List Nat)|n (k:Int)
noncomputable def At.t:At->T
 |.w s=>.str s
 |.n k=>.int k
noncomputable def At.x:At->List Nat
 |.w s=>s
 |.n k=>cA k
def At.Ok:At->Prop
 |.w s=>aW s=true
 |.n k=>0<=k/\k<=1000000000
theorem Jc{a:At}(h:a.Ok):cv .str [a.t]=Zz (.str a.x)/\Vd a.x/\a.x.length<=10:=by
 cases a with
 |w s =>
  obtain⟨_,h2,_⟩:=pj h;exact⟨rfl,Vd.word h,by show s.length<=10;omega⟩
 |n k =>
  obtain⟨_,_,_,h4⟩:=bx h.1 (by have:=h.2;omega);exact⟨jF (by have:=h.1;have:=h.2;omega),Vd.dec h.1 h.2,h4⟩
theorem zV:∀{as:List At},(∀a∈as,a.Ok)->((as.map At.x).map Rf).sum+(as.map At.x).length*1<=as.length*11
 |[],_=>by simp
 |a::as,h=>by
  have h1:=(Jc (h a (by simp))).2.2;have:=zV λb hb=>h b (R5 _ hb)
  simp only[RQ,TE,RI,R2]at this ⊢;omega
theorem xz{n:Nat}{m:Mem}{env:Env}{it:E}{x:T}{as:List At}(h:∀a∈as,a.Ok)(hl:as.length<=100)(hi:ev (cf n) gv it env m=.ok (.t x) m)(hx:mi x=Zz (as.map At.t)):ev (cf n) gv (.comp 1 [] it (.nm 0) .nil (.emit (.blt .str (.cons (.var 0) .nil)))) env m=.ok (.t (.lst ((as.map At.x).map .str))) m:=by
 have hh:=cW (f:=bp (cf n) gv .nil (.emit (.blt .str (.cons (.var 0) .nil)))) (tg:=.nm 0) (env:=[Zy]) (m:=m) At.t (λa=>T.str a.x) as (λa ha=>⟨_,rfl,iT (cp (aA (aa rfl) (Jc (h a ha)).1))⟩);rw[Sh];exact aX (x:=.t x) (m0:=m) hi (by simp[ba,hx]) hh (by rw[R2];unfold lim;omega)
theorem F4{as:List At}(h:∀a∈as,a.Ok):∀w∈as.map At.x,Vd w:=λw hw=>by
 obtain⟨a,ha,rfl⟩:=Rg.mp hw;exact(Jc (h a ha)).2.1
def Cu(t:T)(cs:List Nat):Prop:=(cs.length<=6000/\Vd cs)/\∀n m,cf (n+42) 56 [.t t] m=.ok (.t (.str cs)) m
theorem nR{w:List Nat}{as:List At}(h:∀a∈At.w w::as,a.Ok)(hl:as.length<=10)(h1:([99,111,109,101]==w || [99,104,97,110,103,101]==w)=false)(h2:(w==[109,101,101,116])=false):
  Cu (.tup ((At.w w::as).map At.t)) (aK [32] ((At.w w::as).map At.x)):=by
 have hs:=zV h;have hz:(((At.w w::as).map At.x).map Rf).sum+((At.w w::as).map At.x).length*[32].length<=121:=Rn hs (by rw[RI];omega);refine⟨⟨Rn (du _ _) (Rn hz (by decide)),Vd.join uM (F4 h)⟩,λn m=>aC (i3 _ _ _) rfl ?_ (av (cell:=false) rfl)⟩;unfold dA;rw[zG (b7 (aa rfl)) h1,l0 (b7 (aa rfl)) h2];exact aj (kn (ae _) (xz h (by rw[RI];omega) (aa rfl) rfl) (Rn hz (by decide)))
theorem GX{a k:Int}{ns:List Int}(ha:0<=a/\a<=1000000000)(hk:0<=k/\k<=1000000000)(hn:∀x∈ns,0<=x/\x<=1000000000)(hl:ns.length<=10):
  Cu (.tup [.str [109,101,101,116],.int a,.tup (ns.map T.int),.int k]) (aK [32] ([109,101,101,116]::cA a::cA k::(ns.map At.n).map At.x)):=by
 have hok:∀b∈ns.map At.n,b.Ok:=λb hb=>by
  obtain⟨x,hx,rfl⟩:=Rg.mp hb;exact hn x hx
 have la:=(bx ha.1 (by omega)).2.2.2;have lk:=(bx hk.1 (by omega)).2.2.2;have hz:(((ns.map At.n).map At.x).map Rf).sum+((ns.map At.n).map At.x).length*[32].length<=110:=Rn (zV hok) (by rw[R2];omega);have hz2:(([109,101,101,116]::cA a::cA k::(ns.map At.n).map At.x).map Rf).sum+([109,101,101,116]::cA a::cA k::(ns.map At.n).map At.x).length*[32].length<=200:=by
  simp only[RQ,TE,RI,Rz,V7,Nat.mul_one]at hz ⊢;omega
 refine⟨⟨Rn (du _ _) (Rn hz2 (by decide)),Vd.join uM (R1.mpr ⟨by unfold Vd;decide,R1.mpr ⟨Vd.dec ha.1 ha.2,R1.mpr ⟨Vd.dec hk.1 hk.2,F4 hok⟩⟩⟩)⟩,λn m=>aC (i3 _ _ _) rfl ?_ (av (cell:=false) rfl)⟩;unfold dA;rw[zG (b7 (aa rfl)) rfl];refine Ct (b7 (aa rfl)) rfl (aj (kn (ys:=[109,101,101,116]::cA a::cA k::(ns.map At.n).map At.x) (ae _) (aD (a9 (al (ae _) (al (aA (aS (aa rfl) (ae _) rfl) (jF (by omega))) (al (aA (aS (aa rfl) (ae _) rfl) (jF (by omega))) aM))) rfl aR) (xz hok (by rw[R2];omega) (aS (aa rfl) (ae _) rfl) (by rw[Sh];rfl)) ?_) (Rn hz2 (by decide))));exact Xy (by simp[lim];omega)
noncomputable def ccs:List (List Nat):=[[99,111,109,101],[99,104,97,110,103,101]]
theorem La{w:List Nat}{a b:Int}{o:T}(hw:w∈ccs)(ha:0<=a/\a<=1000000000)(hb:0<=b/\b<=1000000000)(g:Bb o):∃cs,Cu (.tup [.str w,.int a,o,.int b]) cs:=by
 obtain⟨x,hl,hv,h2⟩:=sC g;have la:=(bx ha.1 (by omega)).2.2.2;have lb:=(bx hb.1 (by omega)).2.2.2;have hw1:(([99,111,109,101]==w || [99,104,97,110,103,101]==w)=true/\w.length<=6)/\∀c∈w,c<1114112:=by
  simp only[ccs,R7,R8,or_false]at hw;rcases hw with rfl|rfl<;>decide
 refine⟨aK [32] [w,cA a,cA b,x],⟨by simp[aK];omega,Vd.join uM (R1.mpr ⟨hw1.2,R1.mpr ⟨Vd.dec ha.1 ha.2,R1.mpr ⟨Vd.dec hb.1 hb.2,R1.mpr ⟨hv,λ_ h=>Y3 h R8⟩⟩⟩⟩)⟩,λn m=>aC (i3 _ _ _) rfl ?_ (av (cell:=false) rfl)⟩;unfold dA;refine K4 (b7 (aa rfl)) hw1.1.1 (aj (kn (ys:=[w,cA a,cA b,x]) (ae _) (a9 (al (b7 (aa rfl)) (al (aA (aS (aa rfl) (ae _) rfl) (jF (by omega))) (al (aA (aS (aa rfl) (ae _) rfl) (jF (by omega))) (al ((ap (aS (aa rfl) (ae _) rfl)).trans (h2 n m)) aM)))) rfl aR) ?_));simp[lim];omega
section
variable{n:Nat}{m:Mem}{i:Nat}{s:List T}
theorem qv(hi:i<m.length)(hs:bi s):∃(v:Int) (s':List T),cf (n+4) 54 [.c i] (put m i s)=.ok (.t (.int v)) (put m i s')/\bi s'/\0<=v/\v<=1000000000:=by
 obtain⟨r1,s1,h1,hs1,a0,a1⟩:=aH (n:=n) (many:=30) hi hs (by decide) (by decide);obtain⟨r2,s2,h2,hs2,b0,b1⟩:=aH (n:=n) (many:=1000000000) hi hs1 (by decide) (by decide);obtain⟨r3,s3,h3,hs3,c0,c1⟩:=aH (n:=n) (many:=4) hi hs2 (by decide) (by decide);obtain⟨v,hv,hb⟩:=lV (xs:=[0,1000000000,r1,r2]) (lo:=0) (hi:=1000000000) (by simp;omega) c0 (by simpa using c1);have key:ex (cf (n+3)) gv nQ [Zz (.c i)] (put m i s)=.ok (.ret (.t (.int v))) (put m i s3):=by
  unfold nQ;exact aj (aS (a9 (al (ae _) (al (aD (ae _) (ae _) rfl) (al ((am (aa rfl) (ae _)).trans h1) (al ((am (aa rfl) (aD (ae _) (ae _) rfl)).trans h2) aM)))) rfl aR) ((am (aa rfl) (ae _)).trans h3) hv)
 exact⟨v,s3,aC (Ft _ _ _) rfl key (av (cell:=false) (by rw[aG,aG])),hs3,hb⟩
theorem BF{env:Env}(h0:env[0]?=Zz (Zz (.c i)))(hi:i<m.length)(hs:bi s):∃(v:Int) (s':List T),ev (cf (n+3)) gv (.ix (.lst (.cons (.con (.int 1)) (.cons (.bin .Pow (.con (.int 10)) (.con (.int 9))) (.cons (.bin .Add (.con (.int 1)) (.call 41 (.cons (.var 0) (.cons (.con (.int 30)) .nil)))) .nil)))) (.call 41 (.cons (.var 0) (.cons (.con (.int 3)) .nil)))) env (put m i s)=.ok (.t (.int v)) (put m i s')/\bi s'/\1<=v/\v<=1000000000:=by
 obtain⟨r1,s1,h1,hs1,a0,a1⟩:=aH (n:=n) (many:=30) hi hs (by decide) (by decide);obtain⟨r3,s3,h3,hs3,c0,c1⟩:=aH (n:=n) (many:=3) hi hs1 (by decide) (by decide);obtain⟨v,hv,hb⟩:=lV (xs:=[1,1000000000,1+r1]) (lo:=1) (hi:=1000000000) (by simp;omega) c0 (by simpa using c1);exact⟨v,s3,aS (a9 (al (ae _) (al (aD (ae _) (ae _) rfl) (al (aD (ae _) ((am (aa h0) (ae _)).trans h1) (cR _ _)) aM))) rfl aR) ((am (aa h0) (ae _)).trans h3) hv,hs3,hb⟩
noncomputable def my:S:=match eZ with
 |.asg _ _ (.asg _ _ (.asg _ _ k))=>k
 |_=>.done
theorem CZ(hi:i<m.length)(hs:bi s):∃(t:T) (cs:List Nat) (s':List T),cf (n+15) 55 [.c i] (put m i s)=.ok (.t t) (put m i s')/\bi s'/\Cu t cs:=by
 obtain⟨q,s1,h1,hs1,q0,q1⟩:=aH (n:=n+11) (many:=7) hi hs (by decide) (by decide);obtain⟨a,s2,h2,hs2,ha⟩:=qv (n:=n+10) hi hs1;obtain⟨w,s3,h3,hs3,hw⟩:=kt (n:=n+9) (ws:=[[97,110,110],[122,122,122,122,122,122,122,122],[98],[112,114,105,99,101]]) hi hs2 (by decide) (by decide) (by decide);have pre:∀{r:Res Flow},ex (cf (n+14)) gv my [Zz (.c i),Zz (.t (.int q)),Zz (.t (.int a)),Zz (.t (.str w)),Zy] (put m i s3)=r->ex (cf (n+14)) gv eZ [Zz (.c i),Zy,Zy,Zy,Zy] (put m i s)=r:=λh=>by
  unfold eZ;exact(aq ((am (aa rfl) (ae _)).trans h1)).trans ((aq ((ap (aa rfl)).trans h2)).trans ((aq ((am (aa rfl) (a9 (al (ae _) (al (ae _) (al (ae _) (al (ae _) aM)))) rfl aR)).trans h3)).trans h))
 suffices key:∃(t:T) (cs:List Nat) (s':List T),ex (cf (n+14)) gv my [Zz (.c i),Zz (.t (.int q)),Zz (.t (.int a)),Zz (.t (.str w)),Zy] (put m i s3)=.ok (.ret (.t t)) (put m i s')/\bi s'/\Cu t cs by
  obtain⟨t,cs,s',hk,hs',hr⟩:=key;exact⟨t,cs,s',aC (HR _ _ _) rfl (pre hk) (av (cell:=false) (by rw[aG,aG])),hs',hr⟩
 have sk:∀{k:Int}{A K:S}{b:Int},(b==k)=false->ex (cf (n+14)) gv (.bk (.cmp .Eq (.var 1) (.con (.int k))) A .done K) [Zz (.c i),Zz (.t (.int b)),Zz (.t (.int a)),Zz (.t (.str w)),Zy] (put m i s3)=ex (cf (n+14)) gv K [Zz (.c i),Zz (.t (.int b)),Zz (.t (.int a)),Zz (.t (.str w)),Zy] (put m i s3):=λh=>aB (ao (aa rfl) (ae _) (by rw[dy,h]))
 obtain⟨b,s4,h4,hs4,hb⟩:=qv (n:=n+10) hi hs3;obtain⟨k,s5,h5,hs5,hk⟩:=BF (n:=n+11) (env:=[Zz (.c i),Zz (.t (.int q)),Zz (.t (.int a)),Zz (.t (.str w)),Zy]) rfl hi hs3;have two:∀c∈ccs,(q=0/\c=[99,111,109,101]∨q=1/\c=[99,104,97,110,103,101])->∃(t:T) (cs:List Nat) (s':List T),ex (cf (n+14)) gv my [Zz (.c i),Zz (.t (.int q)),Zz (.t (.int a)),Zz (.t (.str w)),Zy] (put m i s3)=.ok (.ret (.t t)) (put m i s')/\bi s'/\Cu t cs:=λc hc hq=>by
  obtain⟨o,s6,h6,hs6,gO⟩:=xh (n:=n) hi hs3;obtain⟨b,s7,h7,hs7,hb⟩:=qv (n:=n+10) hi hs6;obtain⟨cs,hX⟩:=La hc ha hb gO;refine⟨_,cs,s7,?_,hs7,hX⟩;unfold my eZ;rcases hq with⟨rfl,rfl⟩|⟨rfl,rfl⟩<;>exact aE (ao (k:=true) (aa rfl) (ae _) rfl) (aj (fh (al (aS (ci (ae _) (ae _)) (aa rfl) rfl) (al (aa rfl) (al ((ap (aa rfl)).trans h6) (al ((ap (aa rfl)).trans h7) aM)))) rfl aR))
 have hq:q=0∨q=1∨q=2∨q=3∨q=4∨q=5∨q=6:=by omega
 have hk0:(At.n k).Ok:=⟨by omega,hk.2⟩
 have A:∀(u:List Nat) (as:List At),(∀a∈as,a.Ok)->aW u=true->∀a∈At.w u::as,a.Ok:=λu as h hu=>R1.mpr ⟨hu,h⟩
 rcases hq with rfl|rfl|rfl|rfl|rfl|rfl|rfl
 ·exact two _ (by decide) (.inl ⟨rfl,rfl⟩)
 ·exact two _ (by decide) (.inr ⟨rfl,rfl⟩)
 ·refine⟨_,_,s3,?_,hs3,nR (w:=[111,102,102]) (as:=[.n a,.w w]) (A _ _ (R1.mpr ⟨ha,R1.mpr ⟨hw,λ_ h=>Y3 h R8⟩⟩) (by decide)) (show 2<=10 by decide) rfl rfl⟩
  unfold my eZ;exact(aB (ao (k:=false) (aa rfl) (ae _) rfl)).trans (aE (ao (k:=true) (aa rfl) (ae _) rfl) (aj (gX (ae _) (aa rfl) (aa rfl))))
 ·refine⟨_,_,s5,?_,hs5,nR (w:=[108,101,115,115]) (as:=[.n a,.w w,.n k]) (A _ _ (R1.mpr ⟨ha,R1.mpr ⟨hw,R1.mpr ⟨hk0,λ_ h=>Y3 h R8⟩⟩⟩) (by decide)) (show 3<=10 by decide) rfl rfl⟩
  unfold my eZ;exact(aB (ao (k:=false) (aa rfl) (ae _) rfl)).trans ((sk rfl).trans (aE (ao (k:=true) (aa rfl) (ae _) rfl) (aj (fh (al (ae _) (al (aa rfl) (al (aa rfl) (al h5 aM)))) rfl aR))))
 ·refine⟨_,_,s4,?_,hs4,nR (w:=[119,97,105,116]) (as:=[.n a,.w w,.n b]) (A _ _ (R1.mpr ⟨ha,R1.mpr ⟨hw,R1.mpr ⟨hb,λ_ h=>Y3 h R8⟩⟩⟩) (by decide)) (show 3<=10 by decide) rfl rfl⟩
  unfold my eZ;exact(aB (ao (k:=false) (aa rfl) (ae _) rfl)).trans ((sk rfl).trans ((sk rfl).trans (aE (ao (k:=true) (aa rfl) (ae _) rfl) (aj (fh (al (ae _) (al (aa rfl) (al (aa rfl) (al ((ap (aa rfl)).trans h4) aM)))) rfl aR)))))
 ·obtain⟨r,s6,h6,hs6,r0,r1⟩:=aH (n:=n+11) (many:=2) hi hs3 (by decide) (by decide)
  obtain⟨ns,s7,h7,hs7,hl,hn⟩:=drawn (n:=n+14) (f:=T.int) (P:=λv=>0<=v/\v<=1000000000) (i:=i) (m:=m) (env:=[Zz (.c i),Zz (.t (.int 5)),Zz (.t (.int a)),Zz (.t (.str w)),Zy]) (m0:=put m i s3) (x:=.lst (rangeT 0 (2+r).toNat)) (c:=yi) rfl rfl hs6 (aA (aD (ae _) ((am (aa rfl) (ae _)).trans h6) (cR _ _)) (nK ⟨by omega,by omega⟩)) rfl (by simp[rangeT,lim];omega) (λt ht s hs=>by
   obtain⟨v,s',hv,hs',hb⟩:=qv (n:=n+10) hi hs;exact⟨_,v,s',rfl,(ap (aa rfl)).trans hv,hs',hb⟩)
  obtain⟨k,s8,h8,hs8,hk⟩:=BF (n:=n+11) (env:=[Zz (.c i),Zz (.t (.int 5)),Zz (.t (.int a)),Zz (.t (.str w)),Zz (.t (.tup (ns.map T.int)))]) rfl hi hs7;have hl2:ns.length=(2+r).toNat:=by rw[hl];simp[rangeT]
  refine⟨_,_,s8,?_,hs8,GX (a:=a) (k:=k) (ns:=ns) ha ⟨by omega,hk.2⟩ hn (by omega)⟩;unfold my eZ;exact(aB (ao (k:=false) (aa rfl) (ae _) rfl)).trans ((sk rfl).trans ((sk rfl).trans ((sk rfl).trans (aE (ao (k:=true) (aa rfl) (ae _) rfl) ((aq (aA h7 (ij _))).trans (aj (fh (al (ae _) (al (aa rfl) (al (aa rfl) (al h8 aM)))) rfl aR)))))))
 ·refine⟨_,_,s4,?_,hs4,nR (w:=[111,117,116]) (as:=[.n a,.n b]) (A _ _ (R1.mpr ⟨ha,R1.mpr ⟨hb,λ_ h=>Y3 h R8⟩⟩) (by decide)) (show 2<=10 by decide) rfl rfl⟩
  unfold my eZ;exact(aB (ao (k:=false) (aa rfl) (ae _) rfl)).trans ((sk rfl).trans ((sk rfl).trans ((sk rfl).trans ((sk rfl).trans (aj (gX (ae _) (aa rfl) ((ap (aa rfl)).trans h4)))))))
end
section
variable{call:Nat->List W->Mem->Res W}{gv:List T}{env:Env}{m m1 m2:Mem}{a b c e:E}{x y r:T}
theorem Bj(h:ev call gv c env m=.ok (.t (.bl true)) m1):ev call gv (.ite c a b) env m=ev call gv a env m1:=by rw[ev,h];rfl
theorem vW(h:ev call gv c env m=.ok (.t (.bl false)) m1):ev call gv (.ite c a b) env m=ev call gv b env m1:=by rw[ev,h];rfl
theorem iA{cs p:List Nat}{k:Bool}(h:ev call gv a env m=.ok (.t (.str cs)) m)(hk:p.isPrefixOf cs=k):ev call gv (.cS .starts a (.cons (.con (.str p)) .nil)) env m=.ok (.t (.bl k)) m:=by
 subst hk;rw[ev,h,ag,Xy (by rfl),evs,ae,ag,evs,ag,ag];rfl
theorem uj{cs:List Nat}{c k:Nat}(h:ev call gv a env m=.ok (.t (.str cs)) m)(hl:cs.length<=900000)(h1:1<=k)(h2:k<=cs.length):ev call gv (.cS .ma a (.cons (.con (.str [c])) (.cons (.con (.int (k:Int))) .nil))) env m=.ok (.t (.lst ((jb c k cs).map .str))) m:=by
 rw[ev,h,ag,Xy (by rfl),evs,ae,ag,evs,ae,ag,evs,ag,ag,ag];show bX (if cs.length<=900000/\(1:Int)<=(k:Int)/\(k:Int)<=cs.length then Zz (T.lst ((jb c (k:Int).toNat cs).map .str))else Zy) m=_;rw[Xy ⟨hl,by omega,by omega⟩];rfl
theorem HI{ts:List T}(h:ev call gv a env m=.ok (.t (.lst (x::ts))) m):ev call gv (.qk a (.con (.int 1)) .hole) env m=.ok (.t (.lst ts)) m:=by
 rw[ev,h,ag,ae];show bX (Zz (T.lst (cut (x::ts) (Zz 1) Zy))) m=_;have:cut (x::ts) (Zz 1) Zy=ts:=by simp[cut,aT]
 rw[this];rfl
end
theorem sN{c:Nat}:∀{w r:List Nat},c∉w->az c (w++c::r)=w::az c r
 |[],r,_=>by rw[TJ,az,Xy rfl]
 |a::w,r,h=>by
  have ih:=sN (w:=w) (r:=r) λz=>h (R5 _ z)
  rw[VH,az,Xz λz=>h (by simp[z]),ih]
noncomputable def pJ(w:List Nat):Option T:=vo gv[19]? λks vs=>(pZ (.str w)).map λk=>(bR ks vs k).getD .non
noncomputable abbrev bV:T:=.str [110,117,109,98,101,114]
noncomputable abbrev n6:T:=.str [110,97,109,101]
noncomputable abbrev jZ:T:=.str [109,97,110,121]
theorem Ku{w:List Nat}(hw:w∈ccs):pJ w=Zz (.tup [bV,bV,.str [111,102,102,101,114]]):=by
 simp only[ccs,R7,R8,or_false]at hw;rcases hw with rfl|rfl<;>rfl
theorem Ej{n:Nat}{env:Env}{m:Mem}{e:E}{w:List Nat}{t:T}(h:ev (cf n) gv e env m=.ok (.t (.str w)) m)(hg:pJ w=Zz t):ev (cf n) gv (.Lp 19 e) env m=.ok (.t t) m:=by
 rw[ev,h,ag];show bX (pJ w) m=_;rw[hg];rfl
theorem dv{n:Nat}{m:Mem}{w:List Nat}{ts:List T}{f:T}(hg:pJ w=Zz f)(hm:(w==[109,101,101,116])=false∨(((.str w::ts:List T).length:Int)==6)=false):cf (n+1) 33 [.t (.lst (.str w::ts))] m=.ok (.t f) m:=by
 have e0:∀env:Env,env[0]?=Zz (Zz (.t (.lst (.str w::ts))))->ev (cf n) gv (.ix (.var 0) (.con (.int 0))) env m=.ok (.t (.str w)) m:=λenv he=>aS (aa he) (ae _) (at0 _ _)
 have key:ex (cf n) gv ek [Zz (.t (.lst (.str w::ts))),Zy] m=.ok (.ret (.t f)) m:=by
  unfold ek;refine(aq (Ej (e0 _ rfl) hg)).trans ((aB ?_).trans (aj (aa rfl)));cases q:(w==[109,101,101,116])with
  |false=>exact fI (ao (e0 _ rfl) (ae _) (by rw[cu,q]))
  |true =>
   rcases hm with hm|hm
   ·rw[q]at hm;cases hm
   ·exact(cM (ao (e0 _ rfl) (ae _) (by rw[cu,q]))).trans (ao (aA (aa rfl) rfl) (ae _) (by rw[dy,hm]))
 exact aC (sj _ _ _) rfl key (av (cell:=false) rfl)
theorem EH{n:Nat}{m:Mem}{a b c d e:T}:cf (n+1) 33 [.t (.lst [.str [109,101,101,116],a,b,c,d,e])] m=.ok (.t (.tup [bV,jZ,bV,bV,bV])) m:=by
 have e0:∀env:Env,env[0]?=Zz (Zz (.t (.lst [.str [109,101,101,116],a,b,c,d,e])))->ev (cf n) gv (.ix (.var 0) (.con (.int 0))) env m=.ok (.t (.str [109,101,101,116])) m:=λenv he=>aS (aa he) (ae _) (at0 _ _)
 have key:ex (cf n) gv ek [Zz (.t (.lst [.str [109,101,101,116],a,b,c,d,e])),Zy] m=.ok (.ret (.t (.tup [bV,jZ,bV,bV,bV]))) m:=by
  unfold ek;refine(aq (Ej (t:=.tup [bV,jZ,bV,bV]) (e0 _ rfl) rfl)).trans (aE ((cM (ao (e0 _ rfl) (ae _) (by rw[cu];rfl))).trans (ao (aA (aa rfl) rfl) (ae _) rfl)) (aj (aD (aa rfl) (qT (ae _)) rfl)))
 exact aC (sj _ _ _) rfl key (av (cell:=false) rfl)
noncomputable def Ix:S:=match fX with
 |.asg _ _ (.asg _ _ (.bk _ _ _ (.asg _ _ (.bk _ _ _ k))))=>k
 |_=>.done
theorem xQ{α:Type}(f g:α->T):∀ps:List α,wA (ps.map f) (ps.map g)=ps.map λp=>.tup [f p,g p]
 |[]=>rfl
 |p::ps=>by
  show T.tup [f p,g p]::wA (ps.map f) (ps.map g)=_;rw[xQ f g ps];rfl
noncomputable def lh(ts:List T):Bool:=ts.any bj
theorem Ai(t:T):eqT t .non=bj t:=by cases t<;>rfl
theorem nW{ts:List T}(h:au 59 ts=true):bD .In .non (.lst ts)=Zz (lh ts)/\bD .In .non (.tup ts)=Zz (lh ts):=by
 have h1:(ts.any λt=>eqT t .non)=lh ts:=by unfold lh;congr 1;funext t;exact Ai t
 constructor
 ·show(if flat .non&&ts.all flat then Zz (ts.any λt=>eqT t .non)else if ay 59 .non&&au 59 ts then Zz (ts.any λt=>eqT t .non)else Zy)=_
  rw[h1,h];split
  ·rfl
  ·exact Xy rfl
 ·show(if flat .non&&ts.all flat then Zz (ts.any λt=>eqT t .non)else if ay 59 .non&&au 59 ts then Zz (ts.any λt=>eqT t .non)else Zy)=_
  rw[h1,h];split
  ·rfl
  ·exact Xy rfl
noncomputable def k7(x:List Nat):List (List Nat):=if(Rs [99,111,109,101,32] x || Rs [99,104,97,110,103,101,32] x)=true then jb 32 3 x else az 32 x
section
variable{n:Nat}{m:Mem}{x w:List Nat}
theorem Dd(hl:x.length<=400000):cf (n+1) 32 [.t (.str x)] m=.ok (.t (.lst ((k7 x).map .str))) m:=by
 refine aC (xD _ _ _) rfl ?_ (av (cell:=false) rfl);have h5:∀p:List Nat,3<=p.length->Rs p x=true->3<=x.length:=λp hp h=>Rn hp (UM.mp h).length_le
 unfold jp k7;cases q1:Rs [99,111,109,101,32] x with
 |true=>exact aE (dh (iA (aa rfl) q1)) (aj (uj (k:=3) (aa rfl) (by omega) (by decide) (h5 _ (by decide) q1)))
 |false =>
  cases q2:Rs [99,104,97,110,103,101,32] x with
  |true=>exact aE ((bn (iA (aa rfl) q1)).trans (iA (aa rfl) q2)) (aj (uj (k:=3) (aa rfl) (by omega) (by decide) (h5 _ (by decide) q2)))
  |false=>exact(aB ((bn (iA (aa rfl) q1)).trans (iA (aa rfl) q2))).trans (aj (dG (.inl rfl) (aa rfl) (ae _) rfl (DV (by omega))))
theorem qD{p:List Nat}(hp:32∉p):Rs (p++[32]) x=true↔∃q r,az 32 x=p::q::r:=by
 rw[UM];constructor
 ·rintro ⟨t,rfl⟩
  rw[Sg,show[32]++t=32::t from rfl,sN hp];cases e:az 32 t with
  |nil=>exact Y3 e (iI 32 t)
  |cons q r=>exact⟨q,r,rfl⟩
 ·rintro ⟨q,r,h⟩
  have:=po 32 x;rw[h]at this;have this:p++[32]++aK [32] (q::r)=x:=this;exact⟨aK [32] (q::r),this⟩
theorem GN(h:az 32 x=[w]):k7 x=[w]:=by
 have no:∀p:List Nat,32∉p->Rs (p++[32]) x=false:=λp hp=>by
  cases q:Rs (p++[32]) x with
  |false=>rfl
  |true=>obtain⟨_,_,e⟩:=(qD hp).mp q;rw[h]at e;cases e
 unfold k7;have n1:Rs [99,111,109,101,32] x=false:=no [99,111,109,101] (by decide);have n2:Rs [99,104,97,110,103,101,32] x=false:=no [99,104,97,110,103,101] (by decide);rw[n1,n2];exact h
theorem zn{q:List Nat}{r:List (List Nat)}(h:az 32 x=w::q::r)(hw:w∈ccs):k7 x=if(w::q::r).length<=3 then w::q::r else(w::q::r).take 3++[aK [32] ((w::q::r).drop 3)]:=by
 have:(Rs [99,111,109,101,32] x || Rs [99,104,97,110,103,101,32] x)=true:=by
  simp only[ccs,R7,R8,or_false]at hw;rcases hw with rfl|rfl
  ·have n1:Rs [99,111,109,101,32] x=true:=(qD (p:=[99,111,109,101]) (by decide)).mpr ⟨q,r,h⟩
   rw[n1];rfl
  ·have n1:Rs [99,104,97,110,103,101,32] x=true:=(qD (p:=[99,104,97,110,103,101]) (by decide)).mpr ⟨q,r,h⟩
   rw[n1];exact UW _
 unfold k7;rw[Xy this];unfold jb;rw[h]
theorem yS{q:List Nat}{r:List (List Nat)}(h:az 32 x=w::q::r)(hw:w∉ccs):k7 x=w::q::r:=by
 have no:∀p∈ccs,32∉p->Rs (p++[32]) x=false:=λp hm hp=>by
  cases e:Rs (p++[32]) x with
  |false=>rfl
  |true =>
   obtain⟨_,_,e⟩:=(qD hp).mp e;rw[h]at e;exact Y3 ((List.cons.inj e).1▸hm) hw
 unfold k7;have n1:Rs [99,111,109,101,32] x=false:=no [99,111,109,101] (by decide) (by decide);have n2:Rs [99,104,97,110,103,101,32] x=false:=no [99,104,97,110,103,101] (by decide) (by decide);rw[n1,n2];exact h
noncomputable def mT(w:List Nat):T:=if eqT (nT w) (.int 0)=true then .non else nT w
theorem EC(w:List Nat):bD .Eq (nT w) (.int 0)=Zz (eqT (nT w) (.int 0)):=by
 unfold nT;split<;>rfl
theorem bq(hl:w.length<=400000):cf (n+59) 31 [.t bV,.t (.str w)] m=.ok (.t (nT w)) m:=by
 refine aC (gy _ _ _) rfl ?_ (av (cell:=false) rfl);unfold dm;rw[l0 (aa rfl) rfl,l0 (aa rfl) rfl,aq ((ap (aa rfl)).trans (qt (n:=n+55) hl))];exact aj ((vW (fI (ao (aa rfl) (ae _) (by rw[cu];rfl)))).trans (aa rfl))
theorem lN(hl:w.length<=400000):cf (n+59) 31 [.t jZ,.t (.str w)] m=.ok (.t (mT w)) m:=by
 refine aC (gy _ _ _) rfl ?_ (av (cell:=false) rfl);unfold dm;rw[l0 (aa rfl) rfl,l0 (aa rfl) rfl,aq ((ap (aa rfl)).trans (qt (n:=n+55) hl))];have e:=(cM (call:=cf (n+58)) (gv:=gv) (m:=m) (env:=[Zz (.t jZ),Zz (.t (.str w)),Zz (.t (nT w))]) (a:=.cmp .Eq (.var 0) (.con (.str [109,97,110,121]))) (b:=.cmp .Eq (.var 2) (.con (.int 0))) (ao (aa rfl) (ae _) (by rw[cu];rfl))).trans (ao (aa rfl) (ae _) (EC w));unfold mT;refine aj ?_;cases q:eqT (nT w) (.int 0)with
 |true=>rw[q]at e;exact(Bj e).trans (ae _)
 |false=>rw[q]at e;exact(vW e).trans (aa rfl)
theorem lX(hl:w.length<=400000):cf (n+59) 31 [.t n6,.t (.str w)] m=.ok (.t (wT w)) m:=by
 have hw:=pL (n:=n+56) (m:=m) (cs:=w) (by unfold lim;omega);refine aC (gy _ _ _) rfl ?_ (av (cell:=false) rfl);unfold dm wT;rw[l0 (aa rfl) rfl];refine Ct (aa rfl) rfl (aj ?_);cases q:aW w with
 |true=>rw[q]at hw;exact(Bj ((ap (aa rfl)).trans hw)).trans (aa rfl)
 |false=>rw[q]at hw;exact(vW ((ap (aa rfl)).trans hw)).trans (ae _)
theorem CE{o:T}(h:cf (n+58) 30 [.t (.str x)] m=.ok (.t o) m):cf (n+59) 31 [.t (.str [111,102,102,101,114]),.t (.str x)] m=.ok (.t o) m:=by
 refine aC (gy _ _ _) rfl ?_ (av (cell:=false) rfl);unfold dm;exact Ct (aa rfl) rfl (aj ((ap (aa rfl)).trans h))
end
noncomputable def nk:List (List Nat):=[[99,111,109,101],[111,102,102],[99,104,97,110,103,101],[108,101,115,115],[119,97,105,116],[109,101,101,116],[111,117,116]]
theorem LL{w:List Nat}(h:w∉nk):pJ w=Zz .non:=by
 have:∀vs:List T,bR (nk.map λk=>.inr ⟨k.toArray⟩) vs (.inr ⟨w.toArray⟩)=Zy:=λvs=>by
  unfold bR;rw[List.find?_eq_none.mpr λp hp=>?_]
  ·rfl
  ·obtain⟨k,hk,e⟩:=Rg.mp (Uo hp).1
   intro z;have z:=Y4 z;rw[<-e]at z;have z:=congrArg PySem.Str.cps (XD z);exact h ((List.toArray_inj z)▸hk)
 exact congrArg (λo=>Zz (Option.getD o T.non)) (this _)
section
variable{n:Nat}{m:Mem}{X w:List Nat}{us:List (List Nat)}
theorem GZ(hw:cf (n+59) 32 [.t (.str X)] m=.ok (.t (.lst (.str w::us.map .str))) m)(hf:cf (n+59) 33 [.t (.lst (.str w::us.map .str))] m=.ok (.t .non) m):cf (n+60) 34 [.t (.str X)] m=.ok (.t .non) m:=by
 refine aC (oZ _ _ _) rfl ?_ (av (cell:=false) rfl);unfold fX;exact(aq ((ap (aa rfl)).trans hw)).trans ((aq ((ap (aa rfl)).trans hf)).trans (aE (dh (ao (k:=true) (aa rfl) (ae _) rfl)) (aj (ae _))))
theorem Ih{fs:List T}(hw:cf (n+59) 32 [.t (.str X)] m=.ok (.t (.lst (.str w::us.map .str))) m)(hf:cf (n+59) 33 [.t (.lst (.str w::us.map .str))] m=.ok (.t (.tup fs)) m)(hl:us.length≠fs.length):cf (n+60) 34 [.t (.str X)] m=.ok (.t .non) m:=by
 refine aC (oZ _ _ _) rfl ?_ (av (cell:=false) rfl);unfold fX;refine(aq ((ap (aa rfl)).trans hw)).trans ((aq ((ap (aa rfl)).trans hf)).trans (aE ((bn (ao (k:=false) (aa rfl) (ae _) rfl)).trans (ao (k:=true) (aA (aa rfl) rfl) (aD (aA (aa rfl) rfl) (ae _) (cR _ _)) ?_)) (aj (ae _))));rw[Bm];simp;omega
end
theorem Fk{n:Nat}{m:Mem}{X w:List Nat}{ps:List (T×List Nat×T)}{r:T}(hw:cf (n+59) 32 [.t (.str X)] m=.ok (.t (.lst (.str w::ps.map λp=>.str p.2.1))) m)(hf:cf (n+59) 33 [.t (.lst (.str w::ps.map λp=>.str p.2.1))] m=.ok (.t (.tup (ps.map (·.1)))) m)(ht:∀p∈ps,cf (n+59) 31 [.t p.1,.t (.str p.2.1)] m=.ok (.t p.2.2) m/\ay 59 p.2.2=true)(hl:ps.length<=10)(hr:lh (ps.map (·.2.2))=false->ex (cf (n+59)) gv Ix [Zz (.t (.str X)),Zz (.t (.lst (.str w::ps.map λp=>.str p.2.1))),Zz (.t (.tup (ps.map (·.1)))),Zz (.t (.lst (ps.map (·.2.2)))),Zy] m=.ok (.ret (.t r)) m):cf (n+60) 34 [.t (.str X)] m=.ok (.t (if lh (ps.map (·.2.2))=true then .non else r)) m:=by
 have hz:=xQ (λp:T×List Nat×T=>p.1) (λp=>.str p.2.1) ps;have hit:∀env:Env,env[1]?=Zz (Zz (.t (.lst (.str w::ps.map λp=>.str p.2.1))))->env[2]?=Zz (Zz (.t (.tup (ps.map (·.1)))))->ev (cf (n+59)) gv sW env m=.ok (.t (.lst (ps.map (·.2.2)))) m:=λenv h1 h2=>by
  have hh:=cW (f:=bp (cf (n+59)) gv .nil mh) (tg:=.tp [0,1]) (env:=[Zy,Zy]) (m:=m) (λp:T×List Nat×T=>.tup [p.1,.str p.2.1]) (·.2.2) ps (λp hp=>⟨_,rfl,iT (show ev (cf (n+59)) gv mh _ _=_ from cp ((am (aa rfl) (aa rfl)).trans (ht p hp).1))⟩);refine aX (x:=.t (.lst (ps.map λp=>.tup [p.1,.str p.2.1]))) (m0:=m) ?_ rfl hh (by rw[R2];unfold lim;omega);rw[ev,al (aa h2) (al (HI (aa h1)) aM),ag];show(if _ then Res.ok (W.t (.lst (wA _ _))) m else .stuck)=_;rw[Xy (by simp[lim];omega),hz]
 refine aC (oZ _ _ _) rfl ?_ (av (cell:=false) rfl);unfold fX;refine(aq ((ap (aa rfl)).trans hw)).trans ((aq ((ap (aa rfl)).trans hf)).trans ((aB ?_).trans ((aq (hit _ rfl rfl)).trans ?_)))
 ·refine(bn (ao (k:=false) (aa rfl) (ae _) rfl)).trans (ao (k:=false) (aA (aa rfl) rfl) (aD (aA (aa rfl) rfl) (ae _) (cR _ _)) ?_)
  rw[Bm];simp
 ·have hd:au 59 (ps.map (·.2.2))=true:=bE λt ht'=>by
   obtain⟨p,hp,rfl⟩:=Rg.mp ht';exact(ht p hp).2
  have hc:=λ(env:Env) (he:env[3]?=Zz (Zz (.t (.lst (ps.map (·.2.2))))))=>ao (call:=cf (n+59)) (gv:=gv) (env:=env) (m:=m) (op:=.In) (ae .non) (aa he) (nW hd).1
  cases q:lh (ps.map (·.2.2))with
  |true=>rw[q]at hc;exact aE (hc _ rfl) (aj (ae _))
  |false=>rw[q]at hc;exact(aB (hc _ rfl)).trans (hr q)
section
variable{call:Nat->List W->Mem->Res W}{gv:List T}{env env':Env}{m m1 m2:Mem}{a b k s:S}{x:Exc}{yes:List Nat}{c e:E}{w:W}
theorem IQ{y:T}{ts:List T}(h:ev call gv e env m=.ok (.t (.lst (y::ts))) m):ev call gv (.ix e (.con (.int 0))) env m=.ok (.t y) m:=aS h (ae _) (at0 _ _)
theorem KP{y z:T}{ts:List T}(h:ev call gv e env m=.ok (.t (.lst (y::z::ts))) m):ev call gv (.ix e (.con (.int 1))) env m=.ok (.t z) m:=aS h (ae _) (at1 _ _ _)
theorem ua{y z u:T}{ts:List T}(h:ev call gv e env m=.ok (.t (.lst (y::z::u::ts))) m):ev call gv (.ix e (.con (.int 2))) env m=.ok (.t u) m:=aS h (ae _) (show atT _ 2=_ by rw[r7 (by decide) (by simp;omega)];rfl)
theorem HD(h:ex call gv a env m=.ok (.ret w) m1):ex call gv (.tri a yes Zy s k) env m=.ok (.ret w) m1:=by rw[ex,h]
theorem Ij(h:ex call gv a env m=.exc x m1)(hy:x.cls∈yes)(h2:ex call gv s (B5 env.length Zy x) m1=.ok (.ret w) m2):ex call gv (.tri a yes Zy s k) env m=.ok (.ret w) m2:=by
 rw[ex,h];show(if x.cls∈yes then(ex call gv s (B5 env.length Zy x) m1).only.bind _ else _)=_;rw[Xy hy,h2];rfl
theorem eB(h:ev call gv c env m=.ok (.t (.bl false)) m1)(h2:ex call gv b env m1=.ok (.ret w) m2):ex call gv (.bk c a b k) env m=.ok (.ret w) m2:=by
 rw[ex,h];show(ex call gv b env m1).bind _=_;rw[h2];rfl
theorem qs(h:ev call gv c env m=.ok (.t (.bl true)) m1)(h2:ex call gv a env m1=.ok (.ret w) m2):ex call gv (.bk c a b k) env m=.ok (.ret w) m2:=by
 rw[ex,h];show(ex call gv a env m1).bind _=_;rw[h2];rfl
theorem mI(h:ev call gv c env m=.ok (.t (.bl true)) m1)(h2:ex call gv a env m1=.ok (.next env') m2):ex call gv (.bk c a b .done) env m=.ok (.next env') m2:=(l7 h h2).trans bG
theorem de(h:ev call gv c env m=.ok (.t (.bl false)) m1)(h2:ex call gv b env m1=.ok (.next env') m2):ex call gv (.bk c a b .done) env m=.ok (.next env') m2:=(pA h h2).trans bG
end
section
variable{n:Nat}{m:Mem}{x:List Nat}
theorem Gv(hl:x.length<=400000):∃D:T,(∀n m,cf (n+58) 30 [.t (.str x)] m=.ok (.t D) m)/\(D=.non∨∃ts,D=.tup ts)/\∀j,ay (j+13) D=true:=by
 by_cases h9:(az 32 (Pa bar x)).length=9
 ·obtain⟨w0,w1,w2,w3,w4,w5,w6,w7,w8,e⟩:=nine h9
  refine⟨_,λn m=>tE hl e,?_⟩;cases q:cL (iM w0 w1 w2 w3 w4 w5 w6 w7 w8 (j5 (Pb bar x)))with
  |true=>exact⟨.inr ⟨_,rfl⟩,λj=>zc q⟩
  |false=>exact⟨.inl rfl,λj=>rfl⟩
 ·exact⟨.non,λn m=>om hl h9,.inl rfl,λj=>rfl⟩
theorem Dc{D:T}(h:∀n m,cf (n+58) 30 [.t (.str x)] m=.ok (.t D) m)(hD:D=.non∨∃ts,D=.tup ts):cf (n+60) 61 [.t (.str x)] m=.ok (.t D) m:=by
 refine aC (Cq _ _ _) rfl ?_ (av (cell:=false) rfl);unfold nP rq rE;rcases hD with rfl|⟨ts,rfl⟩
 ·exact Ij (by rw[ex,(ap (aa rfl)).trans (DO (h n m))];rfl) (by decide) (aj (ae _))
 ·exact HD (aj ((ap (aa rfl)).trans (CU (h n m))))
end
noncomputable def eY(ts:List T):T:=if lh ts=true then .non else .tup ts
noncomputable def Gm:S:=match a8 with
 |.asg _ _ (.asg _ _ (.bk _ _ _ (.asg _ _ k)))=>k
 |_=>.done
noncomputable def IJ:S:=match Gm with
 |.bk _ _ _ k=>k
 |_=>.done
section
variable{n:Nat}{m:Mem}{x w a b:List Nat}{r:List (List Nat)}
theorem law_done{env:Env}{ts:List T}(he:env[4]?=Zz (Zz (.t (.tup ts))))(hd:au 59 ts=true):ex (cf n) gv IJ env m=.ok (.ret (.t (eY ts))) m:=by
 unfold IJ Gm a8;refine aj (aS (ci (aa he) (ae _)) (aA (ao (ae _) (aa he) (nW hd).2) (tY _)) ?_);unfold eY;cases lh ts<;>rfl
theorem law_pre(hl:x.length<=400000)(hv:Vd a)(ha:a.length<=400000)(h:az 32 x=w::a::b::r){R:Res Flow}(hr:ex (cf (n+60)) gv Gm [Zz (.t (.str x)),Zz (.t (.lst (.str w::.str a::.str b::r.map .str))),Zz (.t (.str w)),Zz (.t (nT a)),Zy,Zy] m=R):ex (cf (n+60)) gv a8 [Zz (.t (.str x)),Zy,Zy,Zy,Zy,Zy] m=R:=by
 have hs:dR .split (.str x) [.str [32]]=Zz (.lst (.str w::.str a::.str b::r.map .str)):=(DV (by omega)).trans (by rw[h];rfl);unfold a8;refine(aq (dG (.inl rfl) (aa rfl) (ae _) rfl hs)).trans ((aq (IQ (aa rfl))).trans ((aB (ao (aA (aa rfl) rfl) (ae _) ?_)).trans ((aq ((ap (KP (aa rfl))).trans (i6 (n:=n+59) ha hv))).trans hr)));exact(k9 _ _).trans (congrArg Zz (Y0 (by simp;omega)))
theorem law_short(hl:x.length<=400000)(h:az 32 x=w::r)(h2:r.length<2):cf (n+61) 62 [.t (.str x)] m=.ok (.t .non) m:=by
 have hs:dR .split (.str x) [.str [32]]=Zz (.lst (.str w::r.map .str)):=(DV (by omega)).trans (by rw[h];rfl);refine aC (bM _ _ _) rfl ?_ (av (cell:=false) rfl);unfold a8;refine(aq (dG (.inl rfl) (aa rfl) (ae _) rfl hs)).trans ((aq (IQ (aa rfl))).trans (aE (ao (aA (aa rfl) rfl) (ae _) ?_) (aj (ae _))));exact(k9 _ _).trans (congrArg Zz (Y1 (by simp;omega)))
theorem Gi{env:Env}{s:List Nat}{k:Int}{ts:List T}(h1:env[1]?=Zz (Zz (.t (.lst ts))))(h2:env[2]?=Zz (Zz (.t (.str w)))):ev (cf n) gv (.and (.cmp .Eq (.var 2) (.con (.str s))) (.cmp .Eq (.blt .len (.cons (.var 1) .nil)) (.con (.int k)))) env m=.ok (.t (.bl (w==s&&(ts.length:Int)==k))) m:=by
 have e1:=ao (call:=cf n) (gv:=gv) (m:=m) (op:=.Eq) (aa h2) (ae (.str s)) (cu w s);cases q:w==s with
 |true=>rw[q]at e1;exact(cM e1).trans (ao (aA (aa h1) rfl) (ae _) (dy _ _))
 |false=>rw[q]at e1;exact fI e1
theorem vF{env:Env}{s t:List Nat}(h2:env[2]?=Zz (Zz (.t (.str w)))):ev (cf n) gv (.cmp .In (.var 2) (.lst (.cons (.con (.str s)) (.cons (.con (.str t)) .nil)))) env m=.ok (.t (.bl ([s,t].any λa=>a==w))) m:=ao (aa h2) (ci (ae _) (ae _)) (yP w [s,t]).2
theorem Eg{env:Env}{s t:List Nat}{k:Int}{ts:List T}(h1:env[1]?=Zz (Zz (.t (.lst ts))))(h2:env[2]?=Zz (Zz (.t (.str w)))):ev (cf n) gv (.and (.cmp .In (.var 2) (.lst (.cons (.con (.str s)) (.cons (.con (.str t)) .nil)))) (.cmp .Eq (.blt .len (.cons (.var 1) .nil)) (.con (.int k)))) env m=.ok (.t (.bl ([s,t].any (λa=>a==w)&&(ts.length:Int)==k))) m:=by
 have e1:=vF (n:=n) (m:=m) (s:=s) (t:=t) h2;cases q:[s,t].any λa=>a==w with
 |true=>rw[q]at e1;exact(cM e1).trans (ao (aA (aa h1) rfl) (ae _) (dy _ _))
 |false=>rw[q]at e1;exact fI e1
theorem IM{env:Env}{ts:List T}(h1:env[1]?=Zz (Zz (.t (.lst ts))))(h2:env[2]?=Zz (Zz (.t (.str w)))):ev (cf n) gv (.and (.cmp .Eq (.var 2) (.con (.str [109,101,101,116]))) (.cmp .In (.blt .len (.cons (.var 1) .nil)) (.lst (.cons (.con (.int 5)) (.cons (.con (.int 6)) .nil))))) env m=.ok (.t (.bl (w==[109,101,101,116]&&((5:Int)==(ts.length:Int) || (6:Int)==(ts.length:Int))))) m:=by
 have e1:=ao (call:=cf n) (gv:=gv) (m:=m) (op:=.Eq) (aa h2) (ae (.str [109,101,101,116])) (cu w _);cases q:w==[109,101,101,116]with
 |true=>rw[q]at e1;exact(cM e1).trans (ao (aA (aa h1) rfl) (ci (ae _) (ae _)) (by simp[bD,A4,jL,flat,eqT]))
 |false=>rw[q]at e1;exact fI e1
end
structure jc (x:List Nat) (r:T):Prop where
 p:∀n m,cf (n+60) 34 [.t (.str x)] m=.ok (.t r) m
 l:∀n m,cf (n+61) 62 [.t (.str x)] m=.ok (.t r) m
 d:ay 59 r=true
theorem kz(w:List Nat)(k:Nat):ay k (wT w)=true:=by
 unfold wT;split
 ·rename_i h;exact gg h
 ·cases k<;>rfl
theorem u4(w:List Nat)(k:Nat):ay k (mT w)=true:=by
 unfold mT;split
 ·cases k<;>rfl
 ·exact aQ w k
theorem K6{w:List Nat}(h:w∈nk):∃ks,pJ w=Zz (.tup ks)/\2<=ks.length:=by
 simp only[nk,R7,R8,or_false]at h;rcases h with rfl|rfl|rfl|rfl|rfl|rfl|rfl<;>exact⟨_,rfl,by decide⟩
section
variable{n:Nat}{m:Mem}{x w a b c:List Nat}{r us:List (List Nat)}
theorem words_of(hl:x.length<=400000)(h:k7 x=w::us):cf (n+59) 32 [.t (.str x)] m=.ok (.t (.lst (.str w::us.map .str))) m:=by
 have:=Dd (n:=n+58) (m:=m) hl;rw[h]at this;exact this
theorem Bh(hl:x.length<=400000)(h:k7 x=w::us)(h1:w∉nk):cf (n+60) 34 [.t (.str x)] m=.ok (.t .non) m:=
 GZ (words_of hl h) (dv (n:=n+58) (LL h1) (.inl (Y2.mpr λe=>h1 (by rw[e];decide))))
theorem sV{ks:List T}(hl:x.length<=400000)(h:k7 x=w::us)(h1:pJ w=Zz (.tup ks))(h2:us.length≠ks.length)(h3:us.length≠5∨w≠[109,101,101,116]):cf (n+60) 34 [.t (.str x)] m=.ok (.t .non) m:=
 Ih (words_of hl h) (dv (n:=n+58) h1 (h3.elim (λh=>.inr (Y2.mpr (by simp;omega))) λh=>.inl (Y2.mpr h))) h2
theorem law_els(hl:x.length<=400000)(hv:Vd a)(ha:a.length<=400000)(h:az 32 x=w::a::b::r)(h1:w∉ccs)(h2:w=[109,101,101,116]->r.length≠2/\r.length≠3)(h3:w=[111,102,102]->r.length≠0)(h4:w=[111,117,116]->r.length≠0)(h5:w=[108,101,115,115]∨w=[119,97,105,116]->r.length≠1):cf (n+61) 62 [.t (.str x)] m=.ok (.t .non) m:=by
 refine aC (bM _ _ _) rfl (law_pre hl hv ha h ?_) (av (cell:=false) rfl);have hL:((T.str w::.str a::.str b::r.map .str).length:Int)=(r.length:Int)+3:=by simp;omega
 have tt:∀{s:List Nat}{k:Int},(w=s->(r.length:Int)+3≠k)->(w==s&&((T.str w::.str a::.str b::r.map .str).length:Int)==k)=false:=λ{s k} hh=>by
  rw[hL];cases q:w==s with
  |false=>rfl
  |true=>rw[SW];exact Y2.mpr (hh (eq_of_beq q))
 have b1:([[99,111,109,101],[99,104,97,110,103,101]].any λa=>a==w)=false:=V4.mpr λq hq e=>h1 ((eq_of_beq e)▸hq)
 have b2:(w==[109,101,101,116]&&((5:Int)==((T.str w::.str a::.str b::r.map .str).length:Int) || (6:Int)==((T.str w::.str a::.str b::r.map .str).length:Int)))=false:=by
  rw[hL];cases q:w==[109,101,101,116]with
  |false=>rfl
  |true =>
   have:=h2 (eq_of_beq q);rw[SW,Y2.mpr (by omega),Y2.mpr (by omega)];rfl
 have b5:([[108,101,115,115],[119,97,105,116]].any (λa=>a==w)&&((T.str w::.str a::.str b::r.map .str).length:Int)==4)=false:=by
  rw[hL];cases q:[[108,101,115,115],[119,97,105,116]].any λa=>a==w with
  |false=>rfl
  |true =>
   have:w=[108,101,115,115]∨w=[119,97,105,116]:=by
    simp at q;exact q.imp Eq.symm Eq.symm
   have:=h5 this;rw[SW];exact Y2.mpr (by omega)
 unfold Gm a8;exact eB ((vF rfl).trans (by rw[b1])) (eB ((IM rfl rfl).trans (by rw[b2])) (eB ((Gi rfl rfl).trans (by rw[tt λe=>by have:=h3 e;omega])) (eB ((Gi rfl rfl).trans (by rw[tt λe=>by have:=h4 e;omega])) (eB ((Eg rfl rfl).trans (by rw[b5])) (aj (ae _))))))
end
section
variable{x w a b c:List Nat}{r us:List (List Nat)}
theorem Kz{p q s t:T}(h1:ay 59 p=true)(h2:ay 59 q=true)(h3:ay 59 s=true)(h4:ay 59 t=true):au 59 [p,q,s,t]=true:=by rw[au,au,au,au,au,h1,h2,h3,h4];rfl
theorem fW{ts:List T}(h:au 58 ts=true):ay 59 (eY ts)=true:=by
 unfold eY;split
 ·rfl
 ·rw[ay];exact h
theorem rZ(hl:x.length<=400000)(h:az 32 x=w::us)(h2:us.length<2):jc x .non:=by
 have hw:k7 x=w::us:=by
  rcases us with _|⟨q,r⟩
  ·exact GN h
  ·by_cases hc:w∈ccs
   ·rw[zn h hc,Xy (by simp at h2 ⊢;omega)]
   ·exact yS h hc
 refine⟨λn m=>?_,λn m=>law_short hl h h2,rfl⟩;by_cases h7:w∈nk
 ·obtain⟨ks,hg,hk⟩:=K6 h7
  exact sV hl hw hg (by omega) (.inl (by omega))
 ·exact Bh hl hw h7
theorem G6(hl:x.length<=400000)(hW:∀u∈az 32 x,u.length<=400000/\Vd u)(h:az 32 x=w::a::b::r)(hc:w∈ccs):∃t,jc x t:=by
 rw[h]at hW;have ha:=hW a (by simp);have hb:=hW b (by simp);have hx:(aK [32] r).length<=400000:=by
  have:=po 32 x;rw[h]at this;cases r with
  |nil=>simp[aK]
  |cons c r =>
   have:=congrArg Rf this;simp[aK]at this;omega
 have hw1:([[99,111,109,101],[99,104,97,110,103,101]].any λa=>a==w)=true/\∀k,ay k (.str w)=true:=by
  simp only[ccs,R7,R8,or_false]at hc;rcases hc with rfl|rfl<;>exact⟨rfl,λk=>cD (by decide)⟩
 obtain⟨D,hD,hN,hd⟩:=Gv hx;have hd4:au 58 [.str w,nT a,D,nT b]=true:=by rw[au,au,au,au,au,hw1.2,aQ,hd 45,aQ];rfl
 have law:∀n m,cf (n+61) 62 [.t (.str x)] m=.ok (.t (eY [.str w,nT a,D,nT b])) m:=λn m=>by
  refine aC (bM _ _ _) rfl (law_pre hl ha.2 ha.1 h ?_) (av (cell:=false) rfl);have hj:ev (cf (n+60)) gv (.cS .join (.con (.str [32])) (.cons (.qk (.var 1) (.con (.int 3)) .hole) .nil)) [Zz (.t (.str x)),Zz (.t (.lst (.str w::.str a::.str b::r.map .str))),Zz (.t (.str w)),Zz (.t (nT a)),Zy,Zy] m=.ok (.t (.str (aK [32] r))) m:=by
   refine kn (ae _) (ys:=r) ?_ ?_
   ·rw[ev,aa rfl,ag,ae]
    show bX (Zz (T.lst (cut (T.str w::.str a::.str b::r.map .str) (Zz 3) Zy))) m=_;have:cut (T.str w::.str a::.str b::r.map .str) (Zz 3) Zy=r.map .str:=by
     simp[cut,aT];exact Sy (by simp)
    rw[this];rfl
   ·have:=og 32 x
    rw[h,hU,hU,hU]at this;have e:(r.map Rf).sum+r.length*[32].length=tl r:=by simp[tl]
    rw[e];unfold lim;omega
  unfold Gm a8;refine(l7 ((vF rfl).trans (by rw[hw1.1])) ((aq (fh (al (aa rfl) (al (aa rfl) (al ((ap hj).trans (Dc hD hN)) (al ((ap (ua (aa rfl))).trans (i6 (n:=n+59) hb.1 hb.2)) aM)))) rfl aR)).trans bG)).trans (law_done (n:=n+60) rfl ?_);exact Kz (hw1.2 _) (aQ _ _) (hd 46) (aQ _ _)
 cases r with
 |nil =>
  have hD0:D=.non:=by
   have h1:=hD 0 [];rw[om (x:=aK [32] []) (by simp[aK]) (by decide +kernel)]at h1;cases h1;rfl
  refine⟨_,λn m=>?_,law,fW hd4⟩;have e:eY [.str w,nT a,D,nT b]=.non:=by
   rw[hD0];unfold eY;rw[Xy];simp[lh,bj]
  rw[e];have hw:k7 x=w::[a,b]:=by rw[zn h hc,Xy (by simp)]
  exact sV hl hw (Ku hc) (by simp) (.inl (by simp))
 |cons c r =>
  refine⟨_,λn m=>?_,law,fW hd4⟩;have hw:k7 x=w::[a,b,aK [32] (c::r)]:=by rw[zn h hc,Xz (by simp)];rfl
  have:=Fk (n:=n) (m:=m) (X:=x) (w:=w) (ps:=[(bV,a,nT a),(bV,b,nT b),(.str [111,102,102,101,114],aK [32] (c::r),D)]) (r:=.tup [.str w,nT a,D,nT b]) (words_of hl hw) (dv (n:=n+58) (Ku hc) (.inr rfl)) (R1.mpr ⟨⟨bq ha.1,aQ _ _⟩,R1.mpr ⟨⟨bq hb.1,aQ _ _⟩,R1.mpr ⟨⟨CE (hD n m),hd 46⟩,λ_ h=>Y3 h R8⟩⟩⟩) (show 3<=10 by decide) (λ_=>by
   simp only[ccs,R7,R8,or_false]at hc;rcases hc with rfl|rfl<;>rfl)
  rw[this];unfold eY;have e:lh [nT a,nT b,D]=lh [.str w,nT a,D,nT b]:=by
   show(bj (nT a) || (bj (nT b) || (bj D || false)))=(false || (bj (nT a) || (bj D || (bj (nT b) || false))))
   cases bj (nT a)<;>cases bj (nT b)<;>cases bj D<;>rfl
  show Res.ok (W.t (if lh [nT a,nT b,D]=true then .non else .tup [.str w,nT a,D,nT b])) m=_;rw[e]
end
section
variable{n:Nat}{m:Mem}{w:List Nat}
theorem vn{env:Env}{s:List Nat}{k:Int}{ts:List T}{v:Bool}(h1:env[1]?=Zz (Zz (.t (.lst ts))))(h2:env[2]?=Zz (Zz (.t (.str w))))(hk:(w==s&&(ts.length:Int)==k)=v):ev (cf n) gv (.and (.cmp .Eq (.var 2) (.con (.str s))) (.cmp .Eq (.blt .len (.cons (.var 1) .nil)) (.con (.int k)))) env m=.ok (.t (.bl v)) m:=(Gi h1 h2).trans (by rw[hk])
theorem sS{env:Env}{s t:List Nat}{v:Bool}(h2:env[2]?=Zz (Zz (.t (.str w))))(hk:([s,t].any λa=>a==w)=v):ev (cf n) gv (.cmp .In (.var 2) (.lst (.cons (.con (.str s)) (.cons (.con (.str t)) .nil)))) env m=.ok (.t (.bl v)) m:=(vF h2).trans (by rw[hk])
theorem ES{env:Env}{s t:List Nat}{k:Int}{ts:List T}{v:Bool}(h1:env[1]?=Zz (Zz (.t (.lst ts))))(h2:env[2]?=Zz (Zz (.t (.str w))))(hk:([s,t].any (λa=>a==w)&&(ts.length:Int)==k)=v):ev (cf n) gv (.and (.cmp .In (.var 2) (.lst (.cons (.con (.str s)) (.cons (.con (.str t)) .nil)))) (.cmp .Eq (.blt .len (.cons (.var 1) .nil)) (.con (.int k)))) env m=.ok (.t (.bl v)) m:=(Eg h1 h2).trans (by rw[hk])
theorem zq{env:Env}{ts:List T}{v:Bool}(h1:env[1]?=Zz (Zz (.t (.lst ts))))(h2:env[2]?=Zz (Zz (.t (.str w))))(hk:(w==[109,101,101,116]&&((5:Int)==(ts.length:Int) || (6:Int)==(ts.length:Int)))=v):ev (cf n) gv (.and (.cmp .Eq (.var 2) (.con (.str [109,101,101,116]))) (.cmp .In (.blt .len (.cons (.var 1) .nil)) (.lst (.cons (.con (.int 5)) (.cons (.con (.int 6)) .nil))))) env m=.ok (.t (.bl v)) m:=(IM h1 h2).trans (by rw[hk])
end
section
variable{x w a b c d e:List Nat}{r us:List (List Nat)}
theorem ke{n:Nat}{m:Mem}{ps:List (T×List Nat×T)}{t:T}(hl:x.length<=400000)(h:az 32 x=w::ps.map (·.2.1))(h0:2<=ps.length)(hc:w∉ccs)(hf:∀n m,cf (n+59) 33 [.t (.lst (.str w::ps.map λp=>.str p.2.1))] m=.ok (.t (.tup (ps.map (·.1)))) m)(ht:∀p∈ps,(∀n m,cf (n+59) 31 [.t p.1,.t (.str p.2.1)] m=.ok (.t p.2.2) m)/\ay 59 p.2.2=true)(h1:ps.length<=10)(hr:∀n m,ex (cf (n+59)) gv Ix [Zz (.t (.str x)),Zz (.t (.lst (.str w::ps.map λp=>.str p.2.1))),Zz (.t (.tup (ps.map (·.1)))),Zz (.t (.lst (ps.map (·.2.2)))),Zy] m=.ok (.ret (.t t)) m):cf (n+60) 34 [.t (.str x)] m=.ok (.t (if lh (ps.map (·.2.2))=true then .non else t)) m:=by
 have hw:k7 x=w::ps.map (·.2.1):=by
  rcases ps with _|⟨p,ps⟩
  ·simp at h0
  ·exact yS h hc
 have hw':=words_of (n:=n) (m:=m) hl hw;rw[Sh]at hw';exact Fk hw' (hf n m) (λp hp=>⟨(ht p hp).1 n m,(ht p hp).2⟩) h1 λ_=>hr n m
theorem Gd(hl:x.length<=400000)(hW:∀u∈az 32 x,u.length<=400000/\Vd u)(h:az 32 x=[[111,102,102],a,b]):∃t,jc x t:=by
 rw[h]at hW;have ha:=hW a (by simp);have hb:=hW b (by simp);have hd:∀k,au k [.str [111,102,102],nT a,wT b]=true:=λk=>by rw[au,au,au,au,cD (by decide),aQ,kz];rfl
 refine⟨_,λn m=>?_,λn m=>?_,fW (hd 58)⟩
 ·exact ke (n:=n) (m:=m) (w:=[111,102,102]) (ps:=[(bV,a,nT a),(n6,b,wT b)]) (t:=.tup [.str [111,102,102],nT a,wT b]) hl h (show 2<=2 by decide) (by decide) (λn m=>dv (n:=n+58) rfl (.inl rfl)) (R1.mpr ⟨⟨λn m=>bq ha.1,aQ _ _⟩,R1.mpr ⟨⟨λn m=>lX hb.1,kz _ _⟩,λ_ h=>Y3 h R8⟩⟩) (show 2<=10 by decide) (λn m=>rfl)
 ·refine aC (bM _ _ _) rfl (law_pre hl ha.2 ha.1 h ?_) (av (cell:=false) rfl)
  unfold Gm a8;exact(pA (sS rfl rfl) (de (zq rfl rfl rfl) (mI (vn rfl rfl rfl) ((aq (gX (aa rfl) (aa rfl) ((ap (ua (aa rfl))).trans (rJ (n:=n+59) hb.1 hb.2)))).trans bG)))).trans (law_done (n:=n+60) rfl (hd 59))
theorem Eb(hl:x.length<=400000)(hW:∀u∈az 32 x,u.length<=400000/\Vd u)(h:az 32 x=[[111,117,116],a,b]):∃t,jc x t:=by
 rw[h]at hW;have ha:=hW a (by simp);have hb:=hW b (by simp);have hd:∀k,au k [.str [111,117,116],nT a,nT b]=true:=λk=>by rw[au,au,au,au,cD (by decide),aQ,aQ];rfl
 refine⟨_,λn m=>?_,λn m=>?_,fW (hd 58)⟩
 ·exact ke (n:=n) (m:=m) (w:=[111,117,116]) (ps:=[(bV,a,nT a),(bV,b,nT b)]) (t:=.tup [.str [111,117,116],nT a,nT b]) hl h (show 2<=2 by decide) (by decide) (λn m=>dv (n:=n+58) rfl (.inl rfl)) (R1.mpr ⟨⟨λn m=>bq ha.1,aQ _ _⟩,R1.mpr ⟨⟨λn m=>bq hb.1,aQ _ _⟩,λ_ h=>Y3 h R8⟩⟩) (show 2<=10 by decide) (λn m=>rfl)
 ·refine aC (bM _ _ _) rfl (law_pre hl ha.2 ha.1 h ?_) (av (cell:=false) rfl)
  unfold Gm a8;exact(pA (sS rfl rfl) (de (zq rfl rfl rfl) (de (vn rfl rfl rfl) (mI (vn rfl rfl rfl) ((aq (gX (aa rfl) (aa rfl) ((ap (ua (aa rfl))).trans (i6 (n:=n+59) hb.1 hb.2)))).trans bG))))).trans (law_done (n:=n+60) rfl (hd 59))
theorem LP(s:List Nat)(p q r:T):lh [.str s,p,q,r]=lh [p,q,r]:=rfl
theorem Iy{call:Nat->List W->Mem->Res W}{gv:List T}{env:Env}{m:Mem}{e:E}{y z u v:T}{ts:List T}(h:ev call gv e env m=.ok (.t (.lst (y::z::u::v::ts))) m):ev call gv (.ix e (.con (.int 3))) env m=.ok (.t v) m:=aS h (ae _) (show atT _ 3=_ by rw[r7 (by decide) (by simp;omega)];rfl)
theorem Dt(hl:x.length<=400000)(hW:∀u∈az 32 x,u.length<=400000/\Vd u)(h:az 32 x=[[108,101,115,115],a,b,c]):∃t,jc x t:=by
 rw[h]at hW;have ha:=hW a (by simp);have hb:=hW b (by simp);have hc:=hW c (by simp);have hd:∀k,au k [.str [108,101,115,115],nT a,wT b,nT c]=true:=λk=>by rw[au,au,au,au,au,cD (by decide),aQ,kz,aQ];rfl
 have key:∀n m,cf (n+60) 34 [.t (.str x)] m=.ok (.t (if eqT (nT c) (.int 0)=true then .non else eY [.str [108,101,115,115],nT a,wT b,nT c])) m:=λn m=>by
  have:=ke (n:=n) (m:=m) (w:=[108,101,115,115]) (ps:=[(bV,a,nT a),(n6,b,wT b),(jZ,c,mT c)]) (t:=.tup [.str [108,101,115,115],nT a,wT b,mT c]) hl h (show 2<=3 by decide) (by decide) (λn m=>dv (n:=n+58) rfl (.inl rfl)) (R1.mpr ⟨⟨λn m=>bq ha.1,aQ _ _⟩,R1.mpr ⟨⟨λn m=>lX hb.1,kz _ _⟩,R1.mpr ⟨⟨λn m=>lN hc.1,u4 _ _⟩,λ_ h=>Y3 h R8⟩⟩⟩) (show 3<=10 by decide) (λn m=>rfl);rw[this];show Res.ok (W.t (if lh [nT a,wT b,mT c]=true then .non else .tup [.str [108,101,115,115],nT a,wT b,mT c])) m=_;unfold eY mT;rw[LP];cases eqT (nT c) (.int 0)with
  |true=>simp[lh,bj]
  |false=>rfl
 refine⟨_,key,λn m=>?_,?_⟩
 ·refine aC (bM _ _ _) rfl (law_pre hl ha.2 ha.1 h ?_) (av (cell:=false) rfl)
  have e4:∀env:Env,env[4]?=Zz (Zz (.t (.tup [.str [108,101,115,115],nT a,wT b,nT c])))->env[2]?=Zz (Zz (.t (.str [108,101,115,115])))->ev (cf (n+60)) gv (.and (.cmp .Eq (.var 2) (.con (.str [108,101,115,115]))) (.cmp .Eq (.ix (.var 4) (.con (.int 3))) (.con (.int 0)))) env m=.ok (.t (.bl (eqT (nT c) (.int 0)))) m:=λenv h4 h2=>(cM (ao (aa h2) (ae _) (by rw[cu];rfl))).trans (ao (aS (aa h4) (ae _) rfl) (ae _) (EC c))
  have ht:ev (cf (n+60)) gv (.tup (.cons (.var 2) (.cons (.var 3) (.cons (.call 60 (.cons (.ix (.var 1) (.con (.int 2))) .nil)) (.cons (.call 59 (.cons (.ix (.var 1) (.con (.int 3))) .nil)) .nil))))) [Zz (.t (.str x)),Zz (.t (.lst [.str [108,101,115,115],.str a,.str b,.str c])),Zz (.t (.str [108,101,115,115])),Zz (.t (nT a)),Zy,Zy] m=.ok (.t (.tup [.str [108,101,115,115],nT a,wT b,nT c])) m:=fh (al (aa rfl) (al (aa rfl) (al ((ap (ua (aa rfl))).trans (rJ (n:=n+59) hb.1 hb.2)) (al ((ap (Iy (aa rfl))).trans (i6 (n:=n+59) hc.1 hc.2)) aM)))) rfl aR;unfold Gm a8;cases q:eqT (nT c) (.int 0)with
  |true=>exact eB (sS rfl rfl) (eB (zq rfl rfl rfl) (eB (vn rfl rfl rfl) (eB (vn rfl rfl rfl) (qs (ES rfl rfl rfl) ((aq ht).trans (qs ((e4 _ rfl rfl).trans (by rw[q])) (aj (ae _))))))))
  |false=>exact(pA (sS rfl rfl) (de (zq rfl rfl rfl) (de (vn rfl rfl rfl) (de (vn rfl rfl rfl) (mI (ES rfl rfl rfl) ((aq ht).trans (de ((e4 _ rfl rfl).trans (by rw[q])) bG))))))).trans (law_done (n:=n+60) rfl (hd 59))
 ·split
  ·rfl
  ·exact fW (hd 58)
theorem CS(hl:x.length<=400000)(hW:∀u∈az 32 x,u.length<=400000/\Vd u)(h:az 32 x=[[119,97,105,116],a,b,c]):∃t,jc x t:=by
 rw[h]at hW;have ha:=hW a (by simp);have hb:=hW b (by simp);have hc:=hW c (by simp);have hd:∀k,au k [.str [119,97,105,116],nT a,wT b,nT c]=true:=λk=>by rw[au,au,au,au,au,cD (by decide),aQ,kz,aQ];rfl
 refine⟨_,λn m=>?_,λn m=>?_,fW (hd 58)⟩
 ·exact ke (n:=n) (m:=m) (w:=[119,97,105,116]) (ps:=[(bV,a,nT a),(n6,b,wT b),(bV,c,nT c)]) (t:=.tup [.str [119,97,105,116],nT a,wT b,nT c]) hl h (show 2<=3 by decide) (by decide) (λn m=>dv (n:=n+58) rfl (.inl rfl)) (R1.mpr ⟨⟨λn m=>bq ha.1,aQ _ _⟩,R1.mpr ⟨⟨λn m=>lX hb.1,kz _ _⟩,R1.mpr ⟨⟨λn m=>bq hc.1,aQ _ _⟩,λ_ h=>Y3 h R8⟩⟩⟩) (show 3<=10 by decide) (λn m=>rfl)
 ·refine aC (bM _ _ _) rfl (law_pre hl ha.2 ha.1 h ?_) (av (cell:=false) rfl)
  unfold Gm a8;exact(pA (sS rfl rfl) (de (zq rfl rfl rfl) (de (vn rfl rfl rfl) (de (vn rfl rfl rfl) (mI (ES rfl rfl rfl) ((aq (fh (al (aa rfl) (al (aa rfl) (al ((ap (ua (aa rfl))).trans (rJ (n:=n+59) hb.1 hb.2)) (al ((ap (Iy (aa rfl))).trans (i6 (n:=n+59) hc.1 hc.2)) aM)))) rfl aR)).trans (de (fI (ao (k:=false) (aa rfl) (ae _) (by rw[cu];rfl))) bG))))))).trans (law_done (n:=n+60) rfl (hd 59))
theorem Cy(hl:x.length<=400000)(hW:∀u∈az 32 x,u.length<=400000/\Vd u)(h:az 32 x=[109,101,101,116]::a::b::r)(h2:r.length=2∨r.length=3):∃t,jc x t:=by
 rw[h]at hW;have ha:=hW a (by simp);have hb:=hW b (by simp);have hr:∀u∈r,u.length<=400000/\Vd u:=λu hu=>hW u (by simp[hu])
 have hrd:au 59 (r.map nT)=true/\au 57 (r.map nT)=true/\au 58 (r.map nT)=true:=⟨bE λt ht=>by obtain⟨u,_,rfl⟩:=Rg.mp ht;exact aQ _ _,bE λt ht=>by obtain⟨u,_,rfl⟩:=Rg.mp ht;exact aQ _ _,bE λt ht=>by obtain⟨u,_,rfl⟩:=Rg.mp ht;exact aQ _ _⟩
 have d59:au 59 [.str [109,101,101,116],nT a,.tup (r.map nT),nT b]=true:=by rw[au,au,au,au,au,cD (by decide),aQ,ay,hrd.2.2,aQ];rfl
 have d58:au 58 [.str [109,101,101,116],nT a,.tup (r.map nT),nT b]=true:=by rw[au,au,au,au,au,cD (by decide),aQ,ay,hrd.2.1,aQ];rfl
 have hp:∀n m,cf (n+60) 34 [.t (.str x)] m=.ok (.t (if lh (nT a::mT b::r.map nT)=true then .non else .tup [.str [109,101,101,116],nT a,.tup (r.map nT),mT b])) m:=λn m=>by
  rcases r with _|⟨c,_|⟨d,_|⟨e,_|⟨f,r⟩⟩⟩⟩
  ·simp at h2
  ·simp at h2
  ·exact ke (n:=n) (m:=m) (w:=[109,101,101,116]) (ps:=[(bV,a,nT a),(jZ,b,mT b),(bV,c,nT c),(bV,d,nT d)]) hl h (show 2<=4 by decide) (by decide) (λn m=>dv (n:=n+58) rfl (.inr rfl)) (R1.mpr ⟨⟨λn m=>bq ha.1,aQ _ _⟩,R1.mpr ⟨⟨λn m=>lN hb.1,u4 _ _⟩,R1.mpr ⟨⟨λn m=>bq (hr c (by simp)).1,aQ _ _⟩,R1.mpr ⟨⟨λn m=>bq (hr d (by simp)).1,aQ _ _⟩,λ_ h=>Y3 h R8⟩⟩⟩⟩) (show 4<=10 by decide) (λn m=>rfl)
  ·exact ke (n:=n) (m:=m) (w:=[109,101,101,116]) (ps:=[(bV,a,nT a),(jZ,b,mT b),(bV,c,nT c),(bV,d,nT d),(bV,e,nT e)]) hl h (show 2<=5 by decide) (by decide) (λn m=>EH) (R1.mpr ⟨⟨λn m=>bq ha.1,aQ _ _⟩,R1.mpr ⟨⟨λn m=>lN hb.1,u4 _ _⟩,R1.mpr ⟨⟨λn m=>bq (hr c (by simp)).1,aQ _ _⟩,R1.mpr ⟨⟨λn m=>bq (hr d (by simp)).1,aQ _ _⟩,R1.mpr ⟨⟨λn m=>bq (hr e (by simp)).1,aQ _ _⟩,λ_ h=>Y3 h R8⟩⟩⟩⟩⟩) (show 5<=10 by decide) (λn m=>rfl)
  ·simp at h2
 have key:(if lh (nT a::mT b::r.map nT)=true then .non else .tup [.str [109,101,101,116],nT a,.tup (r.map nT),mT b])=if(lh (r.map nT) || eqT (nT b) (.int 0))=true then T.non else eY [.str [109,101,101,116],nT a,.tup (r.map nT),nT b]:=by
  have e1:lh (nT a::mT b::r.map nT)=(bj (nT a) || (bj (mT b) || lh (r.map nT))):=rfl;have e2:lh [.str [109,101,101,116],nT a,.tup (r.map nT),nT b]=(false || (bj (nT a) || (false || (bj (nT b) || false)))):=rfl;unfold eY;rw[e1,e2];unfold mT;cases eqT (nT b) (.int 0)
  ·cases q:bj (nT b)<;>cases lh (r.map nT)<;>cases bj (nT a)<;>simp[q]
  ·cases bj (nT a)<;>simp[bj]
 refine⟨_,λn m=>(hp n m).trans (by rw[key]),λn m=>?_,?_⟩
 ·refine aC (bM _ _ _) rfl (law_pre hl ha.2 ha.1 h ?_) (av (cell:=false) rfl)
  have hcp:ev (cf (n+60)) gv lj [Zz (.t (.str x)),Zz (.t (.lst (.str [109,101,101,116]::.str a::.str b::r.map .str))),Zz (.t (.str [109,101,101,116])),Zz (.t (nT a)),Zy,Zy] m=.ok (.t (.lst (r.map nT))) m:=by
   refine aX (x:=.t (.lst (r.map .str))) (m0:=m) ?_ rfl (cW (λu=>T.str u) nT r λu hu=>⟨_,rfl,iT (show ev (cf (n+60)) gv lF _ _=_ from cp ((ap (aa rfl)).trans (i6 (n:=n+59) (hr u hu).1 (hr u hu).2)))⟩) (by rw[R2];unfold lim;omega);rw[ev,aa rfl,ag,ae];show bX (Zz (T.lst (cut (T.str [109,101,101,116]::.str a::.str b::r.map .str) (Zz 3) Zy))) m=_;have:cut (T.str [109,101,101,116]::.str a::.str b::r.map .str) (Zz 3) Zy=r.map .str:=by
    simp[cut,aT];exact Sy (by simp)
   rw[this];rfl
  have hml:(([109,101,101,116]:List Nat)==[109,101,101,116]&&((5:Int)==((T.str [109,101,101,116]::.str a::.str b::r.map .str).length:Int) || (6:Int)==((T.str [109,101,101,116]::.str a::.str b::r.map .str).length:Int)))=true:=by
   rw[show((T.str [109,101,101,116]::.str a::.str b::r.map .str).length:Int)=(r.length:Int)+3 by simp;omega];rcases h2 with h2|h2<;>(rw[h2];rfl)
  have ht:∀E5:Option W,ev (cf (n+60)) gv (.tup (.cons (.var 2) (.cons (.var 3) (.cons (.var 5) (.cons (.call 59 (.cons (.ix (.var 1) (.con (.int 2))) .nil)) .nil))))) [Zz (.t (.str x)),Zz (.t (.lst (.str [109,101,101,116]::.str a::.str b::r.map .str))),Zz (.t (.str [109,101,101,116])),Zz (.t (nT a)),Zy,Zz (.t (.tup (r.map nT)))] m=.ok (.t (.tup [.str [109,101,101,116],nT a,.tup (r.map nT),nT b])) m:=λ_=>fh (al (aa rfl) (al (aa rfl) (al (aa rfl) (al ((ap (ua (aa rfl))).trans (i6 (n:=n+59) hb.1 hb.2)) aM)))) rfl aR
  have hor:∀env:Env,env[5]?=Zz (Zz (.t (.tup (r.map nT))))->env[4]?=Zz (Zz (.t (.tup [.str [109,101,101,116],nT a,.tup (r.map nT),nT b])))->ev (cf (n+60)) gv (.or (.cmp .In (.con .non) (.var 5)) (.cmp .Eq (.ix (.var 4) (.con (.int 3))) (.con (.int 0)))) env m=.ok (.t (.bl (lh (r.map nT) || eqT (nT b) (.int 0)))) m:=λenv h5 h4=>by
   have e1:=ao (call:=cf (n+60)) (gv:=gv) (m:=m) (op:=.In) (ae .non) (aa h5) (nW hrd.1).2;cases q:lh (r.map nT)with
   |true=>rw[q]at e1;exact dh e1
   |false=>rw[q]at e1;exact(bn e1).trans (ao (aS (aa h4) (ae _) rfl) (ae _) (EC b))
  unfold Gm a8;cases q:(lh (r.map nT) || eqT (nT b) (.int 0))with
  |true=>exact eB (sS rfl rfl) (qs (zq rfl rfl hml) ((aq (aA hcp (ij _))).trans ((aq (ht Zy)).trans (qs ((hor _ rfl rfl).trans (by rw[q])) (aj (ae _))))))
  |false=>exact(pA (sS rfl rfl) (mI (zq rfl rfl hml) ((aq (aA hcp (ij _))).trans ((aq (ht Zy)).trans (de ((hor _ rfl rfl).trans (by rw[q])) bG))))).trans (law_done (n:=n+60) rfl d59)
 ·split
  ·rfl
  ·exact fW d58
end
theorem F8{x:List Nat}(hl:x.length<=400000)(hv:Vd x):∃t,jc x t:=by
 have hW:∀u∈az 32 x,u.length<=400000/\Vd u:=λu hu=>⟨by have:=(split_len 32 x).2 u hu;omega,nN 32 hv u hu⟩
 rcases h:az 32 x with _|⟨w,_|⟨a,_|⟨b,r⟩⟩⟩
 ·have:=og 32 x
  rw[h]at this;simp[tl]at this
 ·exact⟨_,rZ hl h (by simp)⟩
 ·exact⟨_,rZ hl h (by simp)⟩
 ·by_cases hc:w∈ccs
  ·exact G6 hl hW h hc
  have ha:=hW a (by rw[h];simp);have hw:k7 x=w::a::b::r:=yS h hc;have els:∀{ks:List T},pJ w=Zz (.tup ks)->r.length+2≠ks.length->(r.length≠3∨w≠[109,101,101,116])->(w=[109,101,101,116]->r.length≠2/\r.length≠3)->(w=[111,102,102]->r.length≠0)->(w=[111,117,116]->r.length≠0)->(w=[108,101,115,115]∨w=[119,97,105,116]->r.length≠1)->∃t,jc x t:=λhg h1 h0 h2 h3 h4 h5=>⟨.non,λn m=>sV hl hw hg h1 (h0.imp (λh=>by simp;omega) id),λn m=>law_els hl ha.2 ha.1 h hc h2 h3 h4 h5,rfl⟩
  by_cases h7:w∈nk
  ·simp only[nk,R7,R8,or_false]at h7
   rcases h7 with rfl|rfl|rfl|rfl|rfl|rfl|rfl
   ·exact Y3 (by decide) hc
   ·rcases r with _|⟨c,r⟩
    ·exact Gd hl hW h
    ·exact els (ks:=[bV,n6]) rfl (by simp) (.inr (by decide)) (λe=>Y3 e (by decide)) (λ_=>by simp) (λe=>Y3 e (by decide)) (λe=>Y3 e (by decide))
   ·exact Y3 (by decide) hc
   ·rcases r with _|⟨c,_|⟨d,r⟩⟩
    ·exact els (ks:=[bV,n6,jZ]) rfl (by simp) (.inr (by decide)) (λe=>Y3 e (by decide)) (λe=>Y3 e (by decide)) (λe=>Y3 e (by decide)) (λ_=>by simp)
    ·exact Dt hl hW h
    ·exact els (ks:=[bV,n6,jZ]) rfl (by simp) (.inr (by decide)) (λe=>Y3 e (by decide)) (λe=>Y3 e (by decide)) (λe=>Y3 e (by decide)) (λ_=>by simp)
   ·rcases r with _|⟨c,_|⟨d,r⟩⟩
    ·exact els (ks:=[bV,n6,bV]) rfl (by simp) (.inr (by decide)) (λe=>Y3 e (by decide)) (λe=>Y3 e (by decide)) (λe=>Y3 e (by decide)) (λ_=>by simp)
    ·exact CS hl hW h
    ·exact els (ks:=[bV,n6,bV]) rfl (by simp) (.inr (by decide)) (λe=>Y3 e (by decide)) (λe=>Y3 e (by decide)) (λe=>Y3 e (by decide)) (λ_=>by simp)
   ·by_cases h2:r.length=2∨r.length=3
    ·exact Cy hl hW h h2
    ·exact els (ks:=[bV,jZ,bV,bV]) rfl (by simp;omega) (.inl (by omega)) (λ_=>by omega) (λe=>Y3 e (by decide)) (λe=>Y3 e (by decide)) (λe=>Y3 e (by decide))
   ·rcases r with _|⟨c,r⟩
    ·exact Eb hl hW h
    ·exact els (ks:=[bV,bV]) rfl (by simp) (.inr (by decide)) (λe=>Y3 e (by decide)) (λe=>Y3 e (by decide)) (λ_=>by simp) (λe=>Y3 e (by decide))
  ·have no:∀{s:List Nat},s∈nk->w≠s:=λhs e=>h7 (e▸hs)
   exact⟨.non,λn m=>Bh hl hw h7,λn m=>law_els hl ha.2 ha.1 h hc (λe=>Y3 e (no (by decide))) (λe=>Y3 e (no (by decide))) (λe=>Y3 e (no (by decide))) (λe=>Y3 e (λe=>e.elim (no (by decide)) (no (by decide)))),rfl⟩
theorem mX{f:Env->Mem->Res Flow}{tg:Tg}{env env1 env2:Env}{m m2:Mem}{t:T}{ts:List T}(h1:bJ tg t env=Zz env1)(h2:f env1 m=.ok (.next env2) m2):bF f tg (t::ts) env m=bF f tg ts env2 m2:=by
 rw[bF,h1];show(f env1 m).bind _=_;rw[h2];rfl
section
variable{n:Nat}{m:Mem}{x:List Nat}{f:List Nat->T}{ls:List (List Nat)}
theorem CC{call:Nat->List W->Mem->Res W}{gv:List T}{env:Env}{ts:List T}{j k:Nat}(h:env[j]?=Zz (Zz (.t (.lst ts))))(hd:au 59 ts=true)(hl:ts.length<=lim)(hk:ts.findIdx? bj=Zz k):ev call gv (.cS .jO (.var j) (.cons (.con .non) .nil)) env m=.ok (.t (.int (k:Int))) m:=by
 rw[ev,aa h,ag,Xy (by rfl),evs,ae,ag,evs,ag,ag];show bX (if au 59 ts=true/\ts.length<=lim then(ts.findIdx? bj).map λk=>T.int (k:Int)else Zy) m=_;rw[Xy ⟨hd,hl⟩,hk];rfl
theorem Bu(hx:az 10 x=ls)(hl:x.length<=400000)(hr:∀l∈ls,jc l (f l)):ev (cf (n+60)) gv ly [Zz (.t (.str x)),Zy] m=.ok (.t (.lst (ls.map f))) m:=by
 have:=(split_len 10 x).1;rw[hx]at this;have hm:dR .split (.str x) [.str [10]]=Zz (.lst ((az 10 x).map .str)):=Xy (by omega);rw[hx]at hm;exact aX (x:=.t (.lst (ls.map .str))) (m0:=m) (dG (.inl rfl) (aa rfl) (ae _) rfl hm) rfl (cW (λu=>T.str u) f ls λu hu=>⟨_,rfl,iT (show ev (cf (n+60)) gv lC _ _=_ from cp ((ap (aa rfl)).trans ((hr u hu).p n m)))⟩) (by rw[R2];unfold lim;omega)
theorem kW(hr:∀l∈ls,jc l (f l)):au 59 (ls.map f)=true:=bE λt ht=>by
 obtain⟨u,hu,rfl⟩:=Rg.mp ht;exact(hr u hu).d
theorem Ig(h0:x≠[])(hx:az 10 x=ls)(hl:x.length<=400000)(hr:∀l∈ls,jc l (f l))(hn:lh (ls.map f)=false):cf (n+61) 36 [.t (.str x)] m=.ok (.t (.lst (ls.map f))) m:=
 aC (fq _ _ _) rfl ((aB (bc (k:=true) (mf (aa rfl) rfl))).trans ((aB ((ao (aa rfl) (ae _) (cu _ _)).trans (by rw[Y2.mpr h0]))).trans ((aq (Bu hx hl hr)).trans ((aB ((ao (ae _) (aa rfl) (nW (kW hr)).1).trans (by rw[hn]))).trans (aj (aa rfl)))))) (av (cell:=false) rfl)
theorem Ic{k:Nat}(h0:x≠[])(hx:az 10 x=ls)(hl:x.length<=400000)(hr:∀l∈ls,jc l (f l))(hn:lh (ls.map f)=true)(hk:(ls.map f).findIdx? bj=Zz k):cf (n+61) 36 [.t (.str x)] m=.exc (Dz k) m:=by
 have:=(split_len 10 x).1;rw[hx]at this;exact lL (fq _ _ _) rfl ((aB (bc (k:=true) (mf (aa rfl) rfl))).trans ((aB ((ao (aa rfl) (ae _) (cu _ _)).trans (by rw[Y2.mpr h0]))).trans ((aq (Bu hx hl hr)).trans (dP ((ao (ae _) (aa rfl) (nW (kW hr)).1).trans (by rw[hn])) (fw (CC rfl (kW hr) (by rw[R2];unfold lim;omega) hk))))))
theorem DE:cf (n+61) 36 [.t (.str [])] m=.ok (.t (.lst [])) m:=aC (fq _ _ _) rfl ((aB (bc (k:=true) (mf (aa rfl) rfl))).trans (aE (ao (aa rfl) (ae _) (cu _ _)) (aj (a9 aM rfl aR)))) (av (cell:=false) rfl)
theorem Ex{t:T}(h:cz t .str=false):cf (n+61) 36 [.t t] m=.exc (Dz 0) m:=lL (fq _ _ _) rfl (dP (bc (mf (aa rfl) h)) (fw (ae _)))
noncomputable abbrev tn(k:Nat):T:=.tup [.str [114,101,102,117,115,101,100],.int (k:Int)]
theorem Hs{call:Nat->List W->Mem->Res W}{gv:List T}{env:Env}{m:Mem}{i:Nat}{e:E}{ts:List T}{t:T}(hi:env[i]?=Zz (Zz (.c m.length)))(hj:ev call gv e env (m++[Zz (false,ts)])=.ok (.t t) (m++[Zz (false,ts)]))(hl:ts.length<lim):ev call gv (.cS .append (.var i) (.cons e .nil)) env (m++[Zz (false,ts)])=.ok (.t .non) (m++[Zz (false,ts++[t])]):=by
 rw[ev,aa hi,ag];rw[show oY .append (.c m.length) (m++[Zz (false,ts)])=true by unfold oY;dsimp only;rw[sR]];rw[Xy rfl,evs,hj,ag,evs,ag,ag];exact vd hl
theorem BC{call:Nat->List W->Mem->Res W}{gv:List T}{env:Env}{ts:List T}{t:T}(h:env[1]?=Zz (Zz (.c m.length))):ev call gv (.cmp .Is (.ix (.var 1) (.neg (.con (.int 1)))) (.con .non)) env (m++[Zz (false,ts++[t])])=.ok (.t (.bl (bj t))) (m++[Zz (false,ts++[t])]):=by
 refine ao (x:=t) ?_ (ae _) (by cases t<;>rfl);rw[ev,aa h,ag];show bX ((view (.c m.length) (m++[Zz (false,ts++[t])])).bind λx=>rn x (.int (-1))) _=_;rw[show view (.c m.length) (m++[Zz (false,ts++[t])])=Zz (.lst (ts++[t])) by simp[view]];show bX (atT (ts++[t]) (-1)) _=_;have e:atT (ts++[t]) (-1)=Zz t:=by
  simp[atT,ie];rw[Xy (by omega)];show(ts++[t])[(-1+((ts.length:Int)+1)).toNat]?=_;rw[show(-1+((ts.length:Int)+1)).toNat=ts.length by omega];simp
 rw[e];rfl
noncomputable abbrev LD(k:Nat)(x:T):T:=.tup [.int (k:Int),x]
theorem yt{l:List Nat}{t:T}{ts:List T}{a:Option W}{k:Int}(hr:jc l t)(hl:ts.length<lim):ex (cf (n+61)) gv fU [a,Zz (.c m.length),Zz (.t (.int k)),Zz (.t (.str l))] (m++[Zz (false,ts)])=.ok (if bj t=true then .ret (.t (.tup [.str [114,101,102,117,115,101,100],.int k]))else .next [a,Zz (.c m.length),Zz (.t (.int k)),Zz (.t (.str l))]) (m++[Zz (false,ts++[t])]):=by
 unfold fU;refine(kb (Hs rfl ((ap (aa rfl)).trans (hr.l n _)) hl)).trans ?_;cases q:bj t with
 |true=>exact aE ((BC rfl).trans (by rw[q])) (aj (bf (ae _) (aa rfl)))
 |false=>exact(aB ((BC rfl).trans (by rw[q]))).trans bG
theorem BV{a:Option W}:∀(ls:List (List Nat)) (k:Nat) (ts:List T) (e2 e3:Option W),(∀l∈ls,jc l (f l))->ts.length+ls.length<=lim->(∀l∈ls,bj (f l)=false)->∃f2 f3:Option W,bF (ex (cf (n+61)) gv fU) (.tp [2,3]) (Vf LD (XJ k ls.length) (ls.map .str)) [a,Zz (.c m.length),e2,e3] (m++[Zz (false,ts)])=.ok (.next [a,Zz (.c m.length),f2,f3]) (m++[Zz (false,ts++ls.map f)])
 |[],k,ts,e2,e3,_,_,_=>⟨e2,e3,by rw[TC,TC,Rm];rfl⟩
 |l::ls,k,ts,e2,e3,hr,hl,hn=>by
  rw[RI]at hl;obtain⟨f2,f3,h⟩:=BV ls (k+1) (ts++[f l]) (Zz (.t (.int (k:Int)))) (Zz (.t (.str l))) (λl h=>hr l (R5 _ h)) (by simp;omega) (λl h=>hn l (R5 _ h));refine⟨f2,f3,?_⟩;have hs:=yt (n:=n) (m:=m) (a:=a) (k:=(k:Int)) (ts:=ts) (hr l RD) (by omega);rw[hn l RD,Xz (by decide)]at hs;refine(mX (env1:=[a,Zz (.c m.length),Zz (.t (.int (k:Int))),Zz (.t (.str l))]) rfl hs).trans ?_;rw[Sg]at h;exact h
theorem xl{a:Option W}:∀(ls:List (List Nat)) (k j:Nat) (ts:List T) (e2 e3:Option W),(∀l∈ls,jc l (f l))->ts.length+ls.length<=lim->(ls.map f).findIdx? bj=Zz j->∃ts':List T,bF (ex (cf (n+61)) gv fU) (.tp [2,3]) (Vf LD (XJ k ls.length) (ls.map .str)) [a,Zz (.c m.length),e2,e3] (m++[Zz (false,ts)])=.ok (.ret (.t (tn (k+j)))) (m++[Zz (false,ts')])
 |[],k,j,ts,e2,e3,_,_,h=>by simp at h
 |l::ls,k,j,ts,e2,e3,hr,hl,h=>by
  rw[RI]at hl;have hs:=yt (n:=n) (m:=m) (a:=a) (k:=(k:Int)) (ts:=ts) (hr l RD) (by omega);rw[RQ,List.findIdx?_cons]at h;cases q:bj (f l)with
  |true =>
   rw[q,Xy rfl]at h hs;cases h;refine⟨ts++[f l],?_⟩;rw[RQ,RI,List.range'_succ,List.zipWith_cons_cons,bF];show(ex (cf (n+61)) gv fU [a,Zz (.c m.length),Zz (.t (.int (k:Int))),Zz (.t (.str l))] _).bind _=_;rw[hs];rfl
  |false =>
   rw[q,Xz (by decide)]at h hs;obtain⟨j',hj,rfl⟩:=RY.mp h;obtain⟨ts',h⟩:=xl ls (k+1) j' (ts++[f l]) (Zz (.t (.int (k:Int)))) (Zz (.t (.str l))) (λl h=>hr l (R5 _ h)) (by simp;omega) hj;refine⟨ts',(mX (env1:=[a,Zz (.c m.length),Zz (.t (.int (k:Int))),Zz (.t (.str l))]) rfl hs).trans ?_⟩;rw[show k+(j'+1)=k+1+j' by omega];exact h
theorem H9{call:Nat->List W->Mem->Res W}{gv:List T}{it:E}{env:Env}{m m0 m1 m2:Mem}{x w:W}{ts:List T}{tg:Tg}{body k:S}(h1:ev call gv it env m=.ok x m0)(h2:ba x m0=.ok ts m1)(h3:bF (ex call gv body) tg ts env m1=.ok (.ret w) m2):ex call gv (.sF tg it body k) env m=.ok (.ret w) (giveBack x m0 m2):=by
 rw[ex,h1];show(ba x m0).bind _=_;rw[h2];show(bF (ex call gv body) tg ts env m1).bind _=_;rw[h3];rfl
theorem A5{env:Env}(h:env[0]?=Zz (Zz (.t (.str x))))(hx:az 10 x=ls)(hl:x.length<=400000):ev (cf (n+61)) gv (.blt .enum (.cons (.tr (.cS .split (.var 0) (.cons (.con (.str [10])) .nil))) .nil)) env m=.ok (.t (.lst (Vf LD (XJ 0 ls.length) (ls.map .str)))) m:=by
 have h1:=(split_len 10 x).1;rw[hx]at h1;have hm:dR .split (.str x) [.str [10]]=Zz (.lst ((az 10 x).map .str)):=Xy (by omega);rw[hx]at hm;refine aA (x:=.lst (ls.map .str)) ?_ ?_
 ·rw[ev,dG (.inl rfl) (aa h) (ae _) rfl hm]
  rfl
 ·show(if(ls.map T.str).length<=lim then Zz (T.lst (pG (ls.map .str)))else Zy)=_
  rw[Xy (by rw[R2];unfold lim;omega)];unfold pG;rw[R2,List.range_eq_range']
theorem BR{fl:Res Flow}(h0:x≠[])(h:ex (cf (n+61)) gv (.sF (.tp [2,3]) (.blt .enum (.cons (.tr (.cS .split (.var 0) (.cons (.con (.str [10])) .nil))) .nil)) fU (.ret (.var 1) .done)) [Zz (.t (.str x)),Zz (.c m.length),Zy,Zy] (m++[Zz (false,[])])=fl):ex (cf (n+61)) gv rY [Zz (.t (.str x)),Zy,Zy,Zy] m=fl:=by
 unfold rY;exact(aB ((ao (aa rfl) (ae _) (cu _ _)).trans (by rw[Y2.mpr h0]))).trans ((aq (w:=.c m.length) (m1:=m++[Zz (false,[])]) rfl).trans h)
theorem JM(h0:x≠[])(hx:az 10 x=ls)(hl:x.length<=400000)(hr:∀l∈ls,jc l (f l))(hn:lh (ls.map f)=false):cf (n+62) 63 [.t (.str x)] m=.ok (.t (.lst (ls.map f))) m:=by
 have h1:=(split_len 10 x).1;rw[hx]at h1;obtain⟨f2,f3,h⟩:=BV (n:=n) (m:=m) (a:=Zz (.t (.str x))) ls 0 [] Zy Zy hr (by unfold lim;simp;omega) (λl hl=>by
  have:=V4.mp hn (f l) (Vc hl);simpa using this)
 refine aC (w:=.c m.length) (wa _ _ _) rfl (BR h0 ((iz (A5 rfl hx hl) rfl h).trans (aj (aa rfl)))) ?_;show fin m.length false (.ret (.c m.length)) (m++[Zz (false,[]++ls.map f)])=_;simp[fin]
theorem JX{k:Nat}(h0:x≠[])(hx:az 10 x=ls)(hl:x.length<=400000)(hr:∀l∈ls,jc l (f l))(hk:(ls.map f).findIdx? bj=Zz k):cf (n+62) 63 [.t (.str x)] m=.ok (.t (tn k)) m:=by
 have h1:=(split_len 10 x).1;rw[hx]at h1;obtain⟨ts',h⟩:=xl (n:=n) (m:=m) (a:=Zz (.t (.str x))) ls 0 k [] Zy Zy hr (by unfold lim;simp;omega) hk;rw[V7]at h;refine aC (w:=.t (tn k)) (wa _ _ _) rfl (BR h0 (H9 (A5 rfl hx hl) rfl h)) ?_;show fin m.length false (.ret (.t (tn k))) (m++[Zz (false,ts')])=_;simp[fin]
theorem Hx:cf (n+62) 63 [.t (.str [])] m=.ok (.t (.lst [])) m:=aC (wa _ _ _) rfl (aE (ao (aa rfl) (ae _) (cu _ _)) (aj (a9 aM rfl aR))) (av (cell:=false) rfl)
theorem xe{t:T}{k:Nat}(h:cf (n+61) 36 [.t t] m=.exc (Dz k) m):cf (n+62) 64 [.t t] m=.ok (.t (tn k)) m:=by
 refine aC (m1:=m) (w:=.t (tn k)) (wI _ _ _) rfl ?_ (av (cell:=false) rfl);unfold nh;refine(aq (ae _)).trans ((Hw (BA ((ap (aa rfl)).trans h)) (show(107:Nat)∈[107] by decide) (show ex (cf (n+61)) gv pq _ _=.ok (.next [Zy,Zz (.t (tn k)),Zz (.x 107 ["at"] [.int (k:Int)]),Zz (.t (.lst (RL 11 (.bl false))))]) m from ?_)).trans (aj (aa rfl)));have hx:∀{env:Env}{yes no:List Nat}{b:Bool},env[2]?=Zz (Zz (.x 107 ["at"] [.int (k:Int)]))->Le yes no (.x 107 ["at"] [.int (k:Int)])=Zz (.bl b)->ev (cf (n+61)) gv (.qf (.var 2) yes no) env m=.ok (.t (.bl b)) m:=λ{env yes no b} h0 h=>by
  rw[ev,aa h0,ag,h];rfl
 have hx0:∀{env:Env},env[2]?=Zz (Zz (.x 107 ["at"] [.int (k:Int)]))->ev (cf (n+61)) gv (.qf (.var 2) [] [107]) env m=.ok (.t (.bl false)) m:=λh0=>hx h0 rfl
 have hx1:∀{env:Env},env[2]?=Zz (Zz (.x 107 ["at"] [.int (k:Int)]))->ev (cf (n+61)) gv (.qf (.var 2) [107] []) env m=.ok (.t (.bl true)) m:=λh0=>hx h0 rfl
 have ha:∀{env:Env},env[2]?=Zz (Zz (.x 107 ["at"] [.int (k:Int)]))->ev (cf (n+61)) gv (.Lk (.var 2) [107] "at") env m=.ok (.t (.int (k:Int))) m:=λh0=>by
  rw[ev,aa h0,ag];rfl
 have l4:∀{env:Env},env[2]?=Zz (Zz (.x 107 ["at"] [.int (k:Int)]))->ev (cf (n+61)) gv (.lst (.cons (.qf (.var 2) [] [107]) (.cons (.qf (.var 2) [] [107]) (.cons (.qf (.var 2) [] [107]) (.cons (.qf (.var 2) [] [107]) .nil))))) env m=.ok (.t (.lst (RL 4 (.bl false)))) m:=λh0=>a9 (al (hx0 h0) (al (hx0 h0) (al (hx0 h0) (al (hx0 h0) aM)))) rfl aR
 have l3:∀{env:Env},env[2]?=Zz (Zz (.x 107 ["at"] [.int (k:Int)]))->ev (cf (n+61)) gv (.lst (.cons (.qf (.var 2) [] [107]) (.cons (.qf (.var 2) [] [107]) (.cons (.qf (.var 2) [] [107]) .nil)))) env m=.ok (.t (.lst (RL 3 (.bl false)))) m:=λh0=>a9 (al (hx0 h0) (al (hx0 h0) (al (hx0 h0) aM))) rfl aR
 unfold pq;exact(aq (l4 rfl)).trans ((aq (aD (r:=.lst (RL 8 (.bl false))) (aa rfl) (l4 rfl) rfl)).trans ((aq (aD (r:=.lst (RL 11 (.bl false))) (aa rfl) (l3 rfl) rfl)).trans ((aq (ae _)).trans ((l7 ((cM (hx1 rfl)).trans ((cM (hx1 rfl)).trans (ao (k:=true) (ae _) (aa rfl) rfl))) ((aq (bf (ae _) (ha rfl))).trans bG)).trans bG))))
theorem By{t D:T}(h:cf (n+61) 36 [.t t] m=.ok (.t D) m):cf (n+62) 64 [.t t] m=.ok (.t D) m:=by
 refine aC (m1:=m) (w:=.t D) (wI _ _ _) rfl ?_ (av (cell:=false) rfl);unfold nh;exact(aq (ae _)).trans ((Hf ((aq ((ap (aa rfl)).trans h)).trans bG)).trans (aj (aa rfl)))
theorem xI(k:Nat):ay 60 (tn k)=true:=by
 rw[ay,au,au,au,cD (by decide)];rfl
theorem both(hl:x.length<=400000)(hv:Vd x):∃D,(∀n m,cf (n+62) 64 [.t (.str x)] m=.ok (.t D) m)/\(∀n m,cf (n+62) 63 [.t (.str x)] m=.ok (.t D) m)/\ay 60 D=true:=by
 by_cases h0:x=[]
 ·subst h0
  exact⟨_,λn m=>By DE,λn m=>Hx,rfl⟩
 have h1:∀l,∃t,l∈az 10 x->jc l t:=λl=>by
  by_cases hm:l∈az 10 x
  ·obtain⟨t,ht⟩:=F8 (x:=l) (by have:=(split_len 10 x).2 l hm;omega) (nN 10 hv l hm)
   exact⟨t,λ_=>ht⟩
  ·exact⟨.non,λh=>Y3 h hm⟩
 obtain⟨f,hf⟩:=Classical.axiomOfChoice h1;cases hn:lh ((az 10 x).map f)with
 |false=>exact⟨_,λn m=>By (Ig h0 rfl hl hf hn),λn m=>JM h0 rfl hl hf hn,by rw[ay];exact kW hf⟩
 |true =>
  obtain⟨k,hk⟩:∃k,((az 10 x).map f).findIdx? bj=Zz k:=by
   cases q:((az 10 x).map f).findIdx? bj with
   |some k=>exact⟨k,rfl⟩
   |none =>
    obtain⟨t,ht,e⟩:=TQ.mp hn;rw[List.findIdx?_eq_none_iff.mp q t ht]at e;exact Y3 e (by decide)
  exact⟨_,λn m=>xe (Ic h0 rfl hl hf hn hk),λn m=>JX h0 rfl hl hf hk,xI k⟩
end
section
variable{n:Nat}{m:Mem}{i:Nat}{s:List T}{rs:List (List Nat)}
theorem xT{call:Nat->List W->Mem->Res W}{gv:List T}{env:Env}{m:Mem}{e:E}{k:Nat}(h1:env[1]?=Zz (Zz (.t (.lst (rs.map .str)))))(he:ev call gv e env m=.ok (.t (.int (k:Int))) m)(hh:aF e=false)(hk:k<=rs.length):ev call gv (.qk (.var 1) e .hole) env m=.ok (.t (.lst ((rs.drop k).map .str))) m:=by
 rw[ev,aa h1,ag,hh,he];show bX (Zz (T.lst (cut (rs.map .str) (Zz (k:Int)) Zy))) m=_;have:cut (rs.map T.str) (Zz (k:Int)) Zy=(rs.drop k).map .str:=by
  simp[cut,aT];rw[Xz (by omega),Ul hk];exact Sy (by simp)
 rw[this];rfl
theorem xM{call:Nat->List W->Mem->Res W}{gv:List T}{env:Env}{m:Mem}{e:E}{k:Nat}(h1:env[1]?=Zz (Zz (.t (.lst (rs.map .str)))))(he:ev call gv e env m=.ok (.t (.int (k:Int))) m)(hh:aF e=false)(hk:k<=rs.length):ev call gv (.qk (.var 1) .hole e) env m=.ok (.t (.lst ((rs.take k).map .str))) m:=by
 rw[ev,aa h1,ag];show((if aF e=true then Res.ok Zy m else(ev call gv e env m).bind zX).bind λh m=>bX ((view (W.t (T.lst (rs.map .str))) m).bind λx=>GM x Zy h) m)=_;rw[hh,he];show bX (Zz (T.lst (cut (rs.map .str) Zy (Zz (k:Int))))) m=_;have:cut (rs.map T.str) Zy (Zz (k:Int))=(rs.take k).map .str:=by
  simp[cut,aT];rw[Xz (by omega),Ul hk];exact Ul hk
 rw[this];rfl
theorem hY{call:Nat->List W->Mem->Res W}{gv:List T}{env:Env}{m m1 m2:Mem}{a b:E}{xs ys:List (List Nat)}(h1:ev call gv a env m=.ok (.t (.lst (xs.map .str))) m1)(h2:ev call gv b env m1=.ok (.t (.lst (ys.map .str))) m2)(h:xs.length+ys.length<=lim):ev call gv (.bin .Add a b) env m=.ok (.t (.lst ((xs++ys).map .str))) m2:=aD h1 h2 (by
 rw[U7];exact Xy (by simpa using h))
theorem C7{L:Nat}(hi:i<m.length)(hs:bi s)(h0:rs≠[])(h8:rs.length<=20)(hL:∀r∈rs,r.length+40<=L/\Vd r)(h1:L<=100000):∃(ys:List (List Nat)) (s':List T),cf (n+5) 58 [.c i,.t (.lst (rs.map .str))] (put m i s)=.ok (.t (.lst (ys.map .str))) (put m i s')/\bi s'/\ys≠[]/\ys.length<=rs.length+1/\∀r∈ys,r.length+40<=2*L/\Vd r:=by
 have hp:0<rs.length:=List.length_pos_iff.mpr h0;obtain⟨r,s1,g1,hs1,r0,r1⟩:=aH (n:=n+1) (many:=((rs.map T.str).length:Int)) hi hs (by simp;omega) (by simp;omega);obtain⟨y,s2,g2,hs2,y0,y1⟩:=aH (n:=n+1) (many:=8) hi hs1 (by decide) (by decide);obtain⟨k,rfl⟩:=Uy r0;rw[R2]at r1;have hk:k<rs.length:=by omega
 have hLm:∀r∈rs,r.length+40<=2*L/\Vd r:=λr hr=>⟨by have:=(hL r hr).1;omega,(hL r hr).2⟩
 have hE:([]:List Nat).length+40<=2*L/\Vd []:=⟨by
  have:=(hL rs[k] (TN hk)).1;simp;omega,λ_ h=>Y3 h R8⟩
 have hT:∀j,∀r∈rs.take j,r.length+40<=2*L/\Vd r:=λj r hr=>hLm r (UP hr)
 have hD:∀j,∀r∈rs.drop j,r.length+40<=2*L/\Vd r:=λj r hr=>hLm r (UQ hr)
 have hA:∀{a b:List (List Nat)},(∀r∈a,r.length+40<=2*L/\Vd r)->(∀r∈b,r.length+40<=2*L/\Vd r)->∀r∈a++b,r.length+40<=2*L/\Vd r:=λha hb r hr=>(SP.mp hr).elim (ha r) (hb r)
 have lim8:100<=lim:=by decide
 suffices key:∃(ys:List (List Nat)) (s':List T),ex (cf (n+4)) gv iR [Zz (.c i),Zz (.t (.lst (rs.map .str))),Zy,Zy] (put m i s)=.ok (.ret (.t (.lst (ys.map .str)))) (put m i s')/\bi s'/\ys≠[]/\ys.length<=rs.length+1/\∀r∈ys,r.length+40<=2*L/\Vd r by
  obtain⟨ys,s',h,r⟩:=key;exact⟨ys,s',aC (zu _ _ _) rfl h (av (cell:=false) (by rw[aG,aG])),r⟩
 have v1:∀m,ev (cf (n+4)) gv (.bin .Add (.var 2) (.con (.int 1))) [Zz (.c i),Zz (.t (.lst (rs.map .str))),Zz (.t (.int (k:Int))),Zz (.t (.int y))] m=.ok (.t (.int ((k+1:Nat):Int))) m:=λm=>aD (aa rfl) (ae _) rfl
 have no:∀{z:Int}{a b:S}{m:Mem},y≠z->ex (cf (n+4)) gv (.bk (.cmp .Eq (.var 3) (.con (.int z))) a .done b) [Zz (.c i),Zz (.t (.lst (rs.map .str))),Zz (.t (.int (k:Int))),Zz (.t (.int y))] m=ex (cf (n+4)) gv b [Zz (.c i),Zz (.t (.lst (rs.map .str))),Zz (.t (.int (k:Int))),Zz (.t (.int y))] m:=λh=>aB ((ao (aa rfl) (ae _) (dy _ _)).trans (by rw[Y2.mpr h]))
 have yes:∀{z:Int}{a b:S}{w:W}{m m2:Mem},y=z->ex (cf (n+4)) gv a [Zz (.c i),Zz (.t (.lst (rs.map .str))),Zz (.t (.int (k:Int))),Zz (.t (.int y))] m=.ok (.ret w) m2->ex (cf (n+4)) gv (.bk (.cmp .Eq (.var 3) (.con (.int z))) a .done b) [Zz (.c i),Zz (.t (.lst (rs.map .str))),Zz (.t (.int (k:Int))),Zz (.t (.int y))] m=.ok (.ret w) m2:=λh h'=>aE ((ao (aa rfl) (ae _) (dy _ _)).trans (by rw[beq_iff_eq.mpr h])) h'
 have pre:∀{K:S}{fl:Res Flow},ex (cf (n+4)) gv K [Zz (.c i),Zz (.t (.lst (rs.map .str))),Zz (.t (.int (k:Int))),Zz (.t (.int y))] (put m i s2)=fl->ex (cf (n+4)) gv (.asg 2 (.call 41 (.cons (.var 0) (.cons (.blt .len (.cons (.var 1) .nil)) .nil))) (.asg 3 (.call 41 (.cons (.var 0) (.cons (.con (.int 8)) .nil))) K)) [Zz (.c i),Zz (.t (.lst (rs.map .str))),Zy,Zy] (put m i s)=fl:=λh=>(aq ((am (aa rfl) (aA (aa rfl) rfl)).trans g1)).trans ((aq ((am (aa rfl) (ae _)).trans g2)).trans h)
 unfold iR;by_cases c0:y=0
 ·refine⟨rs.take k++rs.drop (k+1)++RL (if rs.length=1 then 1 else 0) [],s2,pre (yes c0 (aj (hY (hY (xM rfl (aa rfl) rfl (by omega)) (xT rfl (v1 _) rfl (by omega)) (by simp;omega)) ?_ ?_))),hs2,?_,?_,?_⟩
  ·have hb:ev (cf (n+4)) gv (.cmp .Eq (.blt .len (.cons (.var 1) .nil)) (.con (.int 1))) [Zz (.c i),Zz (.t (.lst (rs.map .str))),Zz (.t (.int (k:Int))),Zz (.t (.int y))] (put m i s2)=.ok (.t (.bl (decide (rs.length=1)))) (put m i s2):=(ao (aA (aa rfl) rfl) (ae _) (dy _ _)).trans (by
    rw[R2];by_cases q:rs.length=1
    ·rw[q];rfl
    ·rw[Y0 q,Y2.mpr (by omega)])
   by_cases q:rs.length=1
   ·rw[Y1 q]at hb
    rw[Xy q];exact aD (a9 (al (ae _) aM) rfl aR) (aA hb rfl) rfl
   ·rw[Y0 q]at hb
    rw[Xz q];exact aD (a9 (al (ae _) aM) rfl aR) (aA hb rfl) rfl
  ·simp
   split<;>omega
  ·intro e
   have:=congrArg Rf e;simp at this;have h:=this.1.resolve_right h0;omega
  ·simp
   split<;>omega
  ·exact hA (hA (hT _) (hD _)) λr hr=>by rw[List.eq_of_mem_replicate hr];exact hE
 by_cases c1:y=1
 ·exact⟨rs.take (k+1)++rs.drop k,s2,pre ((no c0).trans (yes c1 (aj (hY (xM rfl (v1 _) rfl (by omega)) (xT rfl (aa rfl) rfl (by omega)) (by simp;omega))))),hs2,λe=>by have:=congrArg Rf e;simp at this;omega,by simp;omega,hA (hT _) (hD _)⟩
 by_cases c2:y=2
 ·exact⟨rs.drop k++rs.take k,s2,pre ((no c0).trans ((no c1).trans (yes c2 (aj (hY (xT rfl (aa rfl) rfl (by omega)) (xM rfl (aa rfl) rfl (by omega)) (by simp;omega)))))),hs2,λe=>by have:=congrArg Rf e;simp at this;omega,by simp;omega,hA (hD _) (hT _)⟩
 by_cases c3:y=3
 ·exact⟨rs.take k++[[]]++rs.drop k,s2,pre ((no c0).trans ((no c1).trans ((no c2).trans (yes c3 (aj (hY (hY (xM rfl (aa rfl) rfl (by omega)) (a9 (al (ae _) aM) rfl aR) (by simp;omega)) (xT rfl (aa rfl) rfl (by omega)) (by simp;omega))))))),hs2,λe=>by have:=congrArg Rf e;simp at this,by simp;omega,hA (hA (hT _) (λr hr=>by rw[RN.mp hr];exact hE)) (hD _)⟩
 have ixk:rn (.lst (rs.map T.str)) (.int (k:Int))=Zz (.str rs[k]):=by
  show atT (rs.map T.str) (k:Int)=_;rw[r7 (by omega) (by simp;omega)];simp
 have hw:=hL rs[k] (TN hk);obtain⟨w,s3,g3,hs3,w1,wv⟩:=zQ (n:=n) hi hs2 (x:=rs[k]) (by omega) hw.2;exact⟨rs.take k++[w]++rs.drop (k+1),s3,pre ((no c0).trans ((no c1).trans ((no c2).trans ((no c3).trans (aj (hY (hY (xM rfl (aa rfl) rfl (by omega)) (a9 (al ((am (aa rfl) (aS (aa rfl) (aa rfl) ixk)).trans g3) aM) rfl aR) (by simp;omega)) (xT rfl (v1 _) rfl (by omega)) (by simp;omega))))))),hs3,λe=>by have:=congrArg Rf e;simp at this,by simp;omega,hA (hA (hT _) (λr hr=>by rw[RN.mp hr];exact⟨by omega,wv⟩)) (hD _)⟩
end
theorem Et{B:Nat}:∀(ys:List (List Nat)),(∀r∈ys,r.length+40<=B)->(ys.map Rf).sum<=ys.length*B
 |[],_=>by simp
 |r::ys,h=>by
  have h1:=Et ys λr hr=>h r (R5 _ hr)
  have h2:=h r RD;simp[Nat.add_mul]at h1 ⊢;omega
theorem Ee{n i:Nat}{m:Mem}{a0 a1 e5 e6 e7:Option W}(hi:i<m.length):∀(ts:List T) (rs:List (List Nat)) (L:Nat) (s:List T) (e4:Option W),bi s->rs≠[]->rs.length+ts.length<=8->(∀r∈rs,r.length+40<=L/\Vd r)->L*2^ts.length<=48320->∃(ys:List (List Nat)) (s':List T) (f4:Option W),bF (ex (cf (n+62)) gv A6) (.nm 4) ts [a0,a1,Zz (.c i),Zz (.t (.lst (rs.map .str))),e4,e5,e6,e7] (put m i s)=.ok (.next [a0,a1,Zz (.c i),Zz (.t (.lst (ys.map .str))),f4,e5,e6,e7]) (put m i s')/\bi s'/\ys.length<=8/\∀r∈ys,r.length+40<=48320/\Vd r
 |[],rs,L,s,e4,hs,h0,h8,hr,hl=>⟨rs,s,e4,rfl,hs,h8,λr h=>⟨Rn (hr r h).1 (by simpa using hl),(hr r h).2⟩⟩
 |t::ts,rs,L,s,e4,hs,h0,h8,hr,hl=>by
  have hp:1<=2^ts.length:=Nat.one_le_two_pow;rw[RI]at h8;rw[RI,Nat.pow_succ,X6 _ 2,<-Nat.mul_assoc,X6 _ 2]at hl;have h1:=Nat.le_mul_of_pos_right (2*L) hp;obtain⟨y,s1,h2,hs1,hy,hl1,hv1⟩:=C7 (n:=n+57) hi hs h0 (by omega) hr (by omega);obtain⟨z,s2,f4,h3,r⟩:=Ee (n:=n) (a0:=a0) (a1:=a1) (e5:=e5) (e6:=e6) (e7:=e7) hi ts y (2*L) s1 (Zz (.t t)) hs1 hy (by omega) hv1 hl;refine⟨z,s2,f4,(mX (env1:=[a0,a1,Zz (.c i),Zz (.t (.lst (rs.map .str))),Zz (.t t),e5,e6,e7]) rfl ?_).trans h3,r⟩;exact(aq ((am (aa rfl) (aa rfl)).trans h2)).trans bG
theorem pw{j:Int}(h0:0<=j)(h1:j<3):∃e:List Nat,rn (.lst [.str [],.str [32],.str [10]]) (.int j)=Zz (.str e)/\e.length<=1/\Vd e:=by
 rcases(by omega:j=0∨j=1∨j=2)with rfl|rfl|rfl
 ·exact⟨_,rfl,by decide,by unfold Vd;decide⟩
 ·exact⟨_,rfl,by decide,by unfold Vd;decide⟩
 ·exact⟨_,rfl,by decide,by unfold Vd;decide⟩
theorem law_turn{n:Nat}{m:Mem}{ns:List Int}{k:Int}{e2 e3 e4 e5 e6 e7:Option W}(hk:0<=k):∃(m':Mem) (f2 f3 f4 f5 f6 f7:Option W),ex (cf (n+62)) gv qu [Zz (.t (.db ns)),Zz (.t (.int k)),e2,e3,e4,e5,e6,e7] m=.ok (.next [Zz (.t (.db ns)),Zz (.t (.int k)),f2,f3,f4,f5,f6,f7]) m':=by
 obtain⟨s,h1,hs⟩:=G8 (n:=n+60) (m:=m) (ns:=ns) hk;have hi:m.length<(m++[Zy]).length:=by simp
 generalize hM:m++[Zy]=M at h1 hi;generalize hI:m.length=i at h1 hi;obtain⟨q,s1,h2,hs1,q0,q1⟩:=aH (n:=n+59) (many:=5) hi hs (by decide) (by decide);obtain⟨rs,s2,h3,hs2,hrl,hrs⟩:=drawn (n:=n+62) (m:=M) (i:=i) (s:=s1) (m0:=put M i s) (env:=[Zz (.t (.db ns)),Zz (.t (.int k)),Zz (.c i),e3,e4,e5,e6,e7]) (c:=Bg) (f:=T.str) (P:=λcs=>cs.length+40<=6040/\Vd cs) (x:=.lst (rangeT 0 (1+q).toNat)) rfl rfl hs1 (aA (aD (r:=.int (1+q)) (ae _) ((am (aa rfl) (ae _)).trans h2) rfl) (nK (i:=1+q) ⟨by omega,by omega⟩)) rfl (by simp[rangeT];unfold lim;omega) (λt ht s hs=>by
  obtain⟨u,cs,s',hu,hs',hx⟩:=CZ (n:=n+47) hi hs;exact⟨_,cs,s',rfl,(ap ((ap (aa rfl)).trans hu)).trans (hx.2 (n+20) _),hs',by have:=hx.1.1;omega,hx.1.2⟩)
 have hr5:rs.length<=5/\rs≠[]:=by
  have e:rs.length=(1+q).toNat:=by rw[hrl];simp[rangeT]
  refine⟨by omega,λh=>?_⟩;rw[h]at e;simp at e;omega
 obtain⟨r,s3,h4,hs3,r0,r1⟩:=aH (n:=n+59) (many:=4) hi hs2 (by decide) (by decide);have hr:(rangeT 0 r.toNat).length<=3:=by
  unfold rangeT;simp;omega
 obtain⟨ys,s4,f4,h5,hs4,hy8,hys⟩:=Ee (n:=n) (a0:=Zz (.t (.db ns))) (a1:=Zz (.t (.int k))) (e5:=e5) (e6:=e6) (e7:=e7) hi (rangeT 0 r.toNat) rs 6040 s3 e4 hs3 hr5.2 (by omega) hrs (Rn (Nat.mul_le_mul (RU 6040) (Nat.pow_le_pow_right (by decide) hr)) (by decide));have hsum:(ys.map Rf).sum+ys.length*[10].length<=386568:=by
  have:=Et ys λr hr=>(hys r hr).1
  have:=Nat.mul_le_mul_right 48320 hy8;simp;omega
 have hxl:(aK [10] ys).length<=386568:=Rn (du _ _) hsum;have hxv:Vd (aK [10] ys):=Vd.join (by unfold Vd;decide) λr hr=>(hys r hr).2
 generalize hX:aK [10] ys=x at hxl hxv;obtain⟨u,s5,h6,hs5,u0,u1⟩:=aH (n:=n+59) (many:=3) hi hs4 (by decide) (by decide);obtain⟨v,s6,h7,hs6,v0,v1⟩:=aH (n:=n+59) (many:=3) hi hs5 (by decide) (by decide);obtain⟨a,ha,la,va⟩:=pw u0 u1;obtain⟨b,hb,lb,vb⟩:=pw v0 v1;obtain⟨j,s7,h8,hs7,j0,j1⟩:=aH (n:=n+59) (many:=5) hi hs6 (by decide) (by decide);have turn:∀{y:List Nat}{t7:Option W}{M:Mem},y.length<=400000->Vd y->ex (cf (n+62)) gv wc [Zz (.t (.db ns)),Zz (.t (.int k)),Zz (.c i),Zz (.t (.lst (ys.map .str))),f4,Zz (.t (.str x)),Zz (.t (.lst [.str a,.str b])),Zz (.t (.str y))] M=.ok (.next [Zz (.t (.db ns)),Zz (.t (.int k)),Zz (.c i),Zz (.t (.lst (ys.map .str))),f4,Zz (.t (.str x)),Zz (.t (.lst [.str a,.str b])),Zz (.t (.str y))]) M:=λ{y t7 M} hl hv=>by
  obtain⟨D,d1,d2,d3⟩:=both hl hv;unfold wc;exact(aB (ao ((ap (aa rfl)).trans (d1 n M)) ((ap (aa rfl)).trans (d2 n M)) (BD d3))).trans bG
 have hlim:400000<=lim:=by decide
 have hadd:ev (cf (n+62)) gv (.bin .Add (.bin .Add (.ix (.var 6) (.con (.int 0))) (.var 5)) (.ix (.var 6) (.con (.int 1)))) [Zz (.t (.db ns)),Zz (.t (.int k)),Zz (.c i),Zz (.t (.lst (ys.map .str))),f4,Zz (.t (.str x)),Zz (.t (.lst [.str a,.str b])),e7] (put M i s6)=.ok (.t (.str (a++x++b))) (put M i s6):=aD (aD (aS (aa rfl) (ae _) rfl) (aa rfl) (Xy (show a.length+x.length<=lim by omega))) (aS (aa rfl) (ae _) rfl) (Xy (show(a++x).length+b.length<=lim by rw[RV];omega));have hmenu:∀t7:Option W,ev (cf (n+62)) gv (.cmp .NotEq (.call 64 (.cons (.ix (.lst (.cons (.con .non) (.cons (.con (.int 7)) (.cons (.var 3) (.cons (.tup (.cons (.con (.str [111,117,116])) (.cons (.con (.int 1)) (.cons (.con (.int 0)) .nil)))) (.cons (.con (.bl true)) .nil)))))) (.call 41 (.cons (.var 2) (.cons (.con (.int 5)) .nil)))) .nil)) (.tup (.cons (.con (.str [114,101,102,117,115,101,100])) (.cons (.con (.int 0)) .nil)))) [Zz (.t (.db ns)),Zz (.t (.int k)),Zz (.c i),Zz (.t (.lst (ys.map .str))),f4,Zz (.t (.str x)),Zz (.t (.lst [.str a,.str b])),t7] (put M i s6)=.ok (.t (.bl false)) (put M i s7):=λt7=>by
  obtain⟨c,hc,hn⟩:∃c,rn (.lst [.non,.int 7,.lst (ys.map .str),.tup [.str [111,117,116],.int 1,.int 0],.bl true]) (.int j)=Zz c/\cz c .str=false:=by
   rcases(by omega:j=0∨j=1∨j=2∨j=3∨j=4)with rfl|rfl|rfl|rfl|rfl
   ·exact⟨_,rfl,rfl⟩
   ·exact⟨_,rfl,rfl⟩
   ·exact⟨_,rfl,rfl⟩
   ·exact⟨_,rfl,rfl⟩
   ·exact⟨_,rfl,rfl⟩
  exact ao (x:=tn 0) (y:=tn 0) (k:=false) ((ap (aS (a9 (al (ae _) (al (ae _) (al (aa rfl) (al (gX (ae _) (ae _) (ae _)) (al (ae _) aM))))) rfl aR) ((am (aa rfl) (ae _)).trans h8) hc)).trans (xe (Ex hn))) (bf (ae _) (ae _)) (BD (xI 0))
 refine⟨put M i s7,Zz (.c i),Zz (.t (.lst (ys.map .str))),f4,Zz (.t (.str x)),Zz (.t (.lst [.str a,.str b])),Zz (.t (.str (a++x++b))),?_⟩;unfold qu;refine(aq ((am (aa rfl) (aa rfl)).trans h1)).trans ?_;refine(aq h3).trans ?_;refine(iz (aA ((am (aa rfl) (ae _)).trans h4) (nK (i:=r) ⟨by omega,by omega⟩)) rfl h5).trans ?_;refine(aq (kn (ae _) (aa rfl) (by omega))).trans ?_;rw[hX];refine(aq (ci (aS (a9 (al (ae _) (al (ae _) (al (ae _) aM))) rfl aR) ((am (aa rfl) (ae _)).trans h6) ha) (aS (a9 (al (ae _) (al (ae _) (al (ae _) aM))) rfl aR) ((am (aa rfl) (ae _)).trans h7) hb))).trans ?_;refine(iz (ci (aa rfl) hadd) rfl ((mX rfl (turn (t7:=Zy) (by omega) hxv)).trans ((mX rfl (turn (t7:=Zy) (by rw[RV,RV];omega) ((va.app hxv).app vb))).trans rfl))).trans ?_;exact(aB (hmenu _)).trans bG
theorem law_true(ns:List Int)(hl:ns.length<=63):∃m,dS fns gv 64 65 [.t (.db ns)] []=.ok (.t (.bl true)) m:=by
 obtain⟨env1,m1,e1,a1,a2,a3,a4,a5,a6,a7,rfl⟩:=r8 (f:=ex (cf 63) gv qu) (tg:=.nm 1) (P:=λenv m=>∃a b c d e f g,env=[Zz (.t (.db ns)),a,b,c,d,e,f,g]) (rangeT 0 5) [Zz (.t (.db ns)),Zy,Zy,Zy,Zy,Zy,Zy,Zy] [] ⟨_,_,_,_,_,_,_,rfl⟩ (by
  rintro t ht env m ⟨a,b,c,d,e,f,g,rfl⟩;obtain⟨x,rfl,hx⟩:∃x:Int,t=.int x/\0<=x:=by
   simp[rangeT]at ht;obtain⟨k,_,rfl⟩:=ht;exact⟨_,rfl,by omega⟩
  obtain⟨m',f2,f3,f4,f5,f6,f7,h1⟩:=law_turn (n:=1) (ns:=ns) (m:=m) (e2:=b) (e3:=c) (e4:=d) (e5:=e) (e6:=f) (e7:=g) hx;exact⟨_,_,m',rfl,h1,_,_,_,_,_,_,_,rfl⟩)
 refine⟨[],?_⟩;have key:ex (cf 63) gv wQ [Zz (.t (.db ns)),Zy,Zy,Zy,Zy,Zy,Zy,Zy] []=.ok (.ret (.t (.bl true))) m1:=by
  unfold wQ;exact(iz (aA (ae _) rfl) rfl e1).trans (aj (ae _))
 show cf 64 65 [.t (.db ns)] []=_;rw[Js];simp[key,ag,fin]
end My
end
section
set_option maxHeartbeats 1000000
namespace My
open PySem PySem.Spec PyProof.Rows Mi
noncomputable def top(i:Nat):S6:=PySem.Challenge.pw_matepoint_k74_no_book_text.main.body.getD i (.Pass ⟨0,0,0,0⟩)
noncomputable abbrev dC:S6:=top 7
noncomputable abbrev kF:S6:=top 8
noncomputable abbrev iW:S6:=top 9
noncomputable abbrev gA:S6:=top 10
noncomputable abbrev kT:S6:=top 11
noncomputable abbrev vV:S6:=top 12
noncomputable abbrev gV:S6:=top 13
noncomputable abbrev kQ:S6:=top 14
noncomputable abbrev gF:S6:=top 15
noncomputable abbrev kI:S6:=top 16
noncomputable abbrev gU:S6:=top 36
noncomputable abbrev c6:S6:=top 37
noncomputable abbrev fD:S6:=top 38
noncomputable abbrev ia:S6:=top 39
noncomputable abbrev iV:S6:=top 40
noncomputable abbrev kO:S6:=top 41
noncomputable abbrev fJ:S6:=top 46
noncomputable abbrev i5:S6:=top 47
noncomputable abbrev cP:S6:=top 54
noncomputable abbrev kr:S6:=top 55
noncomputable abbrev kf:S6:=top 56
noncomputable abbrev gY:S6:=top 57
noncomputable abbrev fx:S6:=top 58
noncomputable abbrev ji:S6:=top 59
noncomputable abbrev eC:S6:=top 60
noncomputable abbrev gC:S6:=top 61
noncomputable abbrev gN:S6:=top 65
noncomputable abbrev hZ:S6:=top 66
noncomputable abbrev kj:S6:=top 67
noncomputable abbrev kN:S6:=top 68
noncomputable abbrev iX:S6:=top 69
noncomputable abbrev jd:S6:=top 70
noncomputable abbrev je:S6:=top 71
noncomputable abbrev kP:S6:=top 72
noncomputable abbrev nY:S6:=top 73
noncomputable abbrev fC:S6:=top 74
noncomputable abbrev gR:S6:=top 75
noncomputable abbrev qW:S6:=top 77
noncomputable abbrev mR:S6:=top 78
noncomputable abbrev mj:S6:=top 79
noncomputable abbrev qX:S6:=top 80
noncomputable abbrev qH:S6:=top 81
noncomputable abbrev qN:S6:=top 82
noncomputable abbrev kS:S6:=top 83
noncomputable abbrev qJ:S6:=top 84
noncomputable abbrev qU:S6:=top 85
noncomputable abbrev qw:S6:=top 86
noncomputable abbrev qo:S6:=top 87
noncomputable abbrev qS:S6:=top 88
noncomputable abbrev dF:S6:=top 89
noncomputable abbrev kU:S6:=top 90
noncomputable abbrev fA:S6:=top 91
noncomputable abbrev kJ:S6:=top 92
noncomputable abbrev eF:S6:=top 93
noncomputable abbrev qO:S6:=top 94
noncomputable abbrev vR:S6:=top 95
noncomputable abbrev gP:S6:=top 96
noncomputable abbrev dD:S6:=top 97
noncomputable abbrev kX:S6:=top 98
noncomputable abbrev fH:S6:=top 99
noncomputable abbrev qG:S6:=top 100
noncomputable abbrev mL:S6:=top 101
noncomputable abbrev gB:S6:=top 102
noncomputable abbrev u7:S6:=top 103
noncomputable abbrev qK:S6:=top 104
noncomputable abbrev pV:S6:=top 105
noncomputable abbrev dW:S6:=inBody (top 19) 0
set_option hygiene false
local macro_rules
 | `(tactic| wtm_at $s:str)=>do
  let q ←`(?_)
  let mut r:Array (Lean.TSyntax `tactic):=#[]
  for c in s.getString.toList do
   let t ← match c with
    | '0'=>`(tactic| exact rfl)
    | '5'=>`(tactic| exact (Hj (by decide +kernel)))
    | 'a'=>`(tactic| exact (by with_unfolding_all rfl))
    | 'd'=>`(tactic| exact (fun _ _=>rfl))
    | 'j'=>`(tactic| exact ⟨rfl,rfl,rfl,by decide +kernel,rfl,by decide +kernel,by decide +kernel⟩)
    | 'k'=>`(tactic| intro B k f cdv A sk fs z T0 T1 hr)
    | 'l'=>`(tactic| refine ⟨?_⟩)
    | 'm'=>`(tactic| exact (by decide))
    | 'p'=>`(tactic| exact (fun _=>rfl))
    | 'r'=>`(tactic| exact (by kernel_rfl))
    | 'z'=>`(tactic| intro _ _ _)
    | 'A'=>`(tactic| refine ⟨?_,?_,?_⟩)
    | 'B'=>`(tactic| refine .emit ?_ ?_)
    | 'U'=>`(tactic| exact (by decide +kernel))
    | '#'=>`(tactic| exact (fun _ h=>Y3 h R8))
    | '*'=>`(tactic| refine Cm (k:=k) ?_ ?_ ?_ ?_ ?_ ?_)
    | 'Ã'=>`(tactic| exact (.inl rfl))
    | 'Ó'=>`(tactic| refine ck (N':=["size"]) ?_ ?_)
    | 'Ô'=>`(tactic| exact (aZ 0 (show SR (["size"]:List Str) from by decide +kernel)))
    | 'Ù'=>`(tactic| intro A2 hu2)
    | 'Þ'=>`(tactic| refine ck (N':=["_law_one"]) ?_ ?_)
    | 'ß'=>`(tactic| exact (aZ 0 (show SR (["_law_one"]:List Str) from by decide +kernel)))
    | 'à'=>`(tactic| refine ck (N':=["sign"]) ?_ ?_)
    | 'á'=>`(tactic| exact (aZ 0 (show SR (["sign"]:List Str) from by decide +kernel)))
    | 'ä'=>`(tactic| exact (eE [4,5] rfl jG.nd))
    | 'å'=>`(tactic| exact (cB rfl rfl T0.Gq (by decide)))
    | 'æ'=>`(tactic| exact (eE [4,5] rfl fS.nd))
    | 'ç'=>`(tactic| refine wU (D:=107) ?_ ?_ ?_ ?_ ?_ ?_ ?_ ?_)
    | 'è'=>`(tactic| exact (R1.mpr ⟨T0.oF,(fun _ h=>Y3 h R8)⟩))
    | 'ë'=>`(tactic| refine ck (N':=["_law_k","_law_well_here"]) ?_ ?_)
    | 'ì'=>`(tactic| exact (aZ 0 (show SR (["_law_k","_law_well_here"]:List Str) from by decide +kernel)))
    | 'ò'=>`(tactic| refine ck (N':=["_law_number_here"]) ?_ ?_)
    | 'ó'=>`(tactic| exact (aZ 0 (show SR (["_law_number_here"]:List Str) from by decide +kernel)))
    | 'ö'=>`(tactic| refine ck (N':=["_law_sign"]) ?_ ?_)
    | 'ø'=>`(tactic| exact (aZ 0 (show SR (["_law_sign"]:List Str) from by decide +kernel)))
    |_=>match("13yg 20Bl 30Hy 4v0 60hr 74D5 81Fh 9v1 b0hr.units c0Ey e3Jd fv2 g2Hr h4G5 i4Ip n1Ie ov3 q1Gx s0T1.qY t5H1 u0T0.KZ vv4 w2KI x0Uq y7E3 C0T0.wp D1PW.pt E0Ii F1HU G1Kr H2Gy Is2 Jv5 K2JJ L0T0.GP M4GY N1Jy Os1 P3GL Q2DR R0En S1Jb T6Ha V0JS W0T0.Km Xs3 Ys4 Z0T0.wP !0T0.xk $2He %2Fy &0T0.KF (0T0.Hd )1H4 +0T0.um ,3AI -5Gb .5zd /3Fp :v6 ;5Gg <0ni.nd =0yc.nd >0T1.ka ?0T1.kh @2Du [2CY ]5FY ^0T0.KD _0T1.gK `5Ga {1Hu |s5 }0wW.nd ~0T1.qz À0jw.nd Á0jv.nd Â0T1.fG Äv7 Å0T1.qp Æ0o7.nd Ç0T1.hV È0lU.nd É5GI Ê0T1.eG Ës6 Ì2zm Í0gW.nd Îv8 Ï0uQ.nd Ð4FA Ñ0A7.nd Ò5Ht Õ0T1.fz Ö0lp.nd Ø0T1.gH Ú5Fu Û0T0.Kl Ü0T1.qP Ý0T1.kB â0T1.dK ã0T1.cQ é3Ik ê2zO í0T1.kA î0T1.fy ïs8 ð0gi.nd ñ0T1.kD ô2zJ õ0rc.nd".splitOn " ").find? (λe=>e.toList.head?==some c) with
     |some e=>
      let d:=e.toList.tail.headD c
      let x:=String.ofList (e.toList.drop 2)
      if d=='v' then `(tactic| exact (vr $(Lean.quote x.toNat!)))
      else if d=='s' then `(tactic| refine sg (i:=$(Lean.quote x.toNat!)) ?_ ?_ ?_)
      else if d=='0' then `(tactic| exact $(Lean.mkIdent x.toName))
      else `(tactic| refine $(Lean.mkIdent x.toName) $((List.replicate (d.toNat-48) q).toArray)*)
     |_=>Lean.Macro.throwUnsupported
   r:=r.push t
  `(tactic| ($[$r:tactic];*))
theorem xN:ax ["self","at"] ["self","at"] (ai dW):=by
 wtm_at "j"
theorem qc:ax ["text"] ["text"] (ai dC):=by
 wtm_at "j"
theorem zI:ax ["thing"] ["thing"] (ai kF):=by
 wtm_at "j"
theorem xG:ax ["thing"] ["thing"] (ai iW):=by
 wtm_at "j"
theorem vI:ax ["thing"] ["thing"] (ai gA):=by
 wtm_at "j"
theorem zy:ax ["thing"] ["thing"] (ai kT):=by
 wtm_at "j"
theorem HE:ax ["words"] ["words"] (ai vV):=by
 wtm_at "j"
theorem vi:ax ["thing"] ["thing"] (ai gV):=by
 wtm_at "j"
theorem AE:ax ["thing"] ["thing"] (ai kQ):=by
 wtm_at "j"
theorem vk:ax ["thing"] ["thing"] (ai gF):=by
 wtm_at "j"
theorem ze:ax ["thing"] ["thing"] (ai kI):=by
 wtm_at "j"
theorem vx:ax ["thing","texts"] ["thing","texts"] (ai gU):=by
 wtm_at "j"
theorem oX:ax ["thing"] ["thing"] (ai c6):=by
 wtm_at "j"
theorem tq:ax ["thing"] ["thing"] (ai fD):=by
 wtm_at "j"
theorem u9:ax ["thing"] ["thing"] (ai ia):=by
 wtm_at "j"
theorem yA:ax ["thing"] ["thing"] (ai iV):=by
 wtm_at "j"
theorem lU:ax ["thing","layer","parts","depth"] ["thing"] (ai kO):=by
 wtm_at "j"
theorem tN:ax ["thing","low","high"] ["thing","low","high"] (ai fJ):=by
 wtm_at "j"
theorem pR:ax ["thing","side","card","wish","many","least","weight","till"] ["thing"] (ai i5):=by
 wtm_at "j"
theorem nL:ax ["word"] ["word"] (ai cP):=by
 wtm_at "j"
theorem AT:ax ["words","at"] ["words","at"] (ai kr):=by
 wtm_at "j"
theorem rf:ax ["words","at","word"] ["words","at"] (ai kf):=by
 wtm_at "j"
theorem nz:ax ["words","at","word"] ["words","at"] (ai gY):=by
 wtm_at "j"
theorem lp:ax ["words","at","word","size","sign"] ["words","at"] (ai fx):=by
 wtm_at "j"
theorem jG:ax ["words","at","within","word","wish","behind"] ["words","at","within"] (ai ji):=by
 wtm_at "j"
theorem fS:ax ["words","at","within","joins","wish","behind","wishes"] ["words","at","within","joins"] (ai eC):=by
 wtm_at "j"
theorem jk:ax ["text","words","wish","behind"] ["text"] (ai gC):=by
 wtm_at "j"
theorem vc:ax ["text"] ["text"] (ai gN):=by
 wtm_at "j"
theorem u3:ax ["word"] ["word"] (ai hZ):=by
 wtm_at "j"
theorem rX:ax ["text","name","sign","number"] ["text"] (ai kj):=by
 wtm_at "j"
theorem rQ:ax ["text"] ["text"] (ai kN):=by
 wtm_at "j"
theorem gW:ax ["text","head","bar","wish","words","marks","sizes","many","least","weight","till","offer"] ["text"] (ai iX):=by
 wtm_at "j"
theorem pC:ax ["kind","word","number"] ["kind","word"] (ai jd):=by
 wtm_at "j"
theorem yB:ax ["text"] ["text"] (ai je):=by
 wtm_at "j"
theorem rb:ax ["words","form"] ["words"] (ai kP):=by
 wtm_at "j"
theorem uQ:ax ["text","words","form","told","word"] ["text"] (ai nY):=by
 wtm_at "j"
theorem lq:ax ["text","offer"] ["text"] (ai fC):=by
 wtm_at "j"
theorem nZ:ax ["text","rows"] ["text"] (ai gR):=by
 wtm_at "j"
theorem FR:ax ["_law_script","_law_k"] ["_law_script","_law_k"] (ai qW):=by
 wtm_at "j"
theorem uw:ax ["_law_cell_here","_law_k","_law_number_here"] ["_law_cell_here","_law_k"] (ai mR):=by
 wtm_at "j"
theorem uk:ax ["_law_cell_here","_law_k","_law_number_here"] ["_law_cell_here","_law_k"] (ai mj):=by
 wtm_at "j"
theorem xq:ax ["_law_script","_law_k","_law_cell_here"] ["_law_script","_law_k"] (ai qX):=by
 wtm_at "j"
theorem wK:ax ["_law_well_here","_law_most","_law_number_here"] ["_law_well_here","_law_most"] (ai qH):=by
 wtm_at "j"
theorem mV:ax ["_law_well_here","_law_words","_law_most","_law_left","_law_found","_law_k"] ["_law_well_here","_law_words","_law_most"] (ai qN):=by
 wtm_at "j"
theorem Aa:ax ["_law_well_here"] ["_law_well_here"] (ai kS):=by
 wtm_at "j"
theorem sK:ax ["_law_well_here","_law_letters","_law_word_here"] ["_law_well_here"] (ai qJ):=by
 wtm_at "j"
theorem D4:ax ["_law_well_here","_law_some_here"] ["_law_well_here","_law_some_here"] (ai qU):=by
 wtm_at "j"
theorem wW:ax ["_law_well_here","_law_name_here","_law_kind","_law_some_here","_law_marks","_law_sizes"] ["_law_well_here"] (ai qw):=by
 wtm_at "j"
theorem xO:ax ["_law_well_here","_law_way"] ["_law_well_here"] (ai qo):=by
 wtm_at "j"
theorem rI:ax ["_law_well_here","_law_deep","_law_room","_law_way","_law_many"] ["_law_well_here","_law_deep","_law_room"] (ai qS):=by
 wtm_at "j"
theorem jw:ax ["_law_well_here","_law_many","_law_least","_law_weight","_law_till","_law_card_here","_law_wish_here"] ["_law_well_here"] (ai dF):=by
 wtm_at "j"
theorem rV:ax ["_law_wish_here","_law_kinds","_law_text"] ["_law_wish_here","_law_kinds"] (ai kU):=by
 wtm_at "j"
theorem lA:ax ["_law_wish_here","_law_word_here"] ["_law_wish_here"] (ai fA):=by
 wtm_at "j"
theorem yY:ax ["_law_words"] ["_law_words"] (ai kJ):=by
 wtm_at "j"
theorem gi:ax ["_law_offer_here","_law_side","_law_card_here","_law_wish_here","_law_many","_law_least","_law_weight","_law_till","_law_words"] ["_law_offer_here"] (ai eF):=by
 wtm_at "j"
theorem ED:ax ["_law_well_here"] ["_law_well_here"] (ai qO):=by
 wtm_at "j"
theorem A7:ax ["_law_well_here","_law_way","_law_time_here","_law_name_here","_law_numbers"] ["_law_well_here"] (ai vR):=by
 wtm_at "j"
theorem vw:ax ["_law_row_here"] ["_law_row_here"] (ai gP):=by
 wtm_at "j"
theorem jv:ax ["_law_well_here","_law_text","_law_some_here","_law_words","_law_at","_law_way"] ["_law_well_here","_law_text"] (ai dD):=by
 wtm_at "j"
theorem rc:ax ["_law_well_here","_law_rows","_law_at","_law_way"] ["_law_well_here","_law_rows"] (ai kX):=by
 wtm_at "j"
theorem tL:ax ["_law_word_here"] ["_law_word_here"] (ai fH):=by
 wtm_at "j"
theorem DA:ax ["_law_word_here"] ["_law_word_here"] (ai qG):=by
 wtm_at "j"
theorem ur:ax ["_law_text"] ["_law_text"] (ai mL):=by
 wtm_at "j"
theorem ni:ax ["_law_text","_law_words","_law_word_here","_law_time_here","_law_row_here","_law_numbers"] ["_law_text"] (ai gB):=by
 wtm_at "j"
theorem wh:ax ["_law_text","_law_rows","_law_number_here","_law_line"] ["_law_text"] (ai u7):=by
 wtm_at "j"
theorem yc:ax ["_law_text","_law_found","e","_law_others"] ["_law_text"] (ai qK):=by
 wtm_at "j"
theorem o7:ax ["_law_script","_law_k","_law_well_here","_law_rows","_law_turn","_law_text","_law_ends","_law_one"] ["_law_script"] (ai pV):=by
 wtm_at "j"
structure HC (B:Bs):Prop where
 vQ:B.mg "ValueError" = Zy
 KD:B.mg "all" = Zy
 Jf:B.mg "bool" = Zy
 xA:B.mg "enumerate" = Zy
 KF:B.mg "int" = Zy
 wp:B.mg "isinstance" = Zy
 KZ:B.mg "len" = Zy
 EY:B.mg "list" = Zy
 Kl:B.mg "min" = Zy
 Hd:B.mg "range" = Zy
 KN:B.mg "set" = Zy
 ye:B.mg "sorted" = Zy
 Km:B.mg "str" = Zy
 GP:B.mg "tuple" = Zy
 Kv:B.mg "zip" = Zy
 Do:bI B "LETTERS" (.str [97,98,99,100,101,102,103,104,105,106,107,108,109,110,111,112,113,114,115,116,117,118,119,120,121,122])
 rG:bI B "LONGEST_WORD" (.int 8)
 wf:bI B "WISH_WORDS" (.tup [(.str [97,110,121]),(.str [105,115]),(.str [98,121]),(.str [110,111,116]),(.str [97,110,100]),(.str [111,114])])
 mQ:bI B "GREATEST_NUMBER" (.int 1000000000)
 vL:bI B "MOST_MARKS" (.int 6)
 vj:bI B "MOST_SIZES" (.int 6)
 Cr:bI B "DEEPEST" (.int 6)
 wg:bI B "MOST_PARTS" (.int 40)
 qh:bI B "FEWEST_JOINED" (.int 2)
 tj:bI B "MOST_JOINED" (.int 6)
 HB:bI B "SIDES" (.tup [(.str [103,105,118,101]),(.str [116,97,107,101]),(.str [98,101,97,114])])
 pY:bI B "GREATEST_MANY" (.int 1000000)
 mq:bI B "GREATEST_WEIGHT" (.int 1000)
 Cd:bI B "FIGURES" (.str [48,49,50,51,52,53,54,55,56,57])
 sB:bI B "MOST_FIGURES" (.int 10)
 tC:bI B "MOST_WITHIN" (.int 12)
 Bx:uN B "SIGNS" (WL (λk=>.inr ⟨k.toArray⟩) [[62,61],[60,61]]) [(.str [108,101,97,115,116]),(.str [109,111,115,116])]
 Gq:bI B "JOINS" (.tup [(.str [111,114]),(.str [97,110,100])])
 wC:bI B "NONE_TEXT" (.str [45])
 Ho:uN B "FORMS" (WL (λk=>.inr ⟨k.toArray⟩) [[99,111,109,101],[111,102,102],[99,104,97,110,103,101],[108,101,115,115],[119,97,105,116],[109,101,101,116],[111,117,116]]) [(.tup [(.str [110,117,109,98,101,114]),(.str [110,117,109,98,101,114]),(.str [111,102,102,101,114])]),(.tup [(.str [110,117,109,98,101,114]),(.str [110,97,109,101])]),(.tup [(.str [110,117,109,98,101,114]),(.str [110,117,109,98,101,114]),(.str [111,102,102,101,114])]),(.tup [(.str [110,117,109,98,101,114]),(.str [110,97,109,101]),(.str [109,97,110,121])]),(.tup [(.str [110,117,109,98,101,114]),(.str [110,97,109,101]),(.str [110,117,109,98,101,114])]),(.tup [(.str [110,117,109,98,101,114]),(.str [109,97,110,121]),(.str [110,117,109,98,101,114]),(.str [110,117,109,98,101,114])]),(.tup [(.str [110,117,109,98,101,114]),(.str [110,117,109,98,101,114])])]
 wP:B.mg "NoText" = Zz (.ref 107)
 Cz:B.mg "TooLate" = Zz (.ref 186)
 AG:B.mg "NoNumber" = Zz (.ref 222)
 FW:B.mg "NoName" = Zz (.ref 174)
 Ez:B.mg "NoLine" = Zz (.ref 246)
 B9:B.mg "HasName" = Zz (.ref 162)
 JR:B.mg "Full" = Zz (.ref 198)
 C8:B.mg "BadTime" = Zz (.ref 150)
 De:B.mg "BadRule" = Zz (.ref 119)
 Ap:B.mg "BadOffer" = Zz (.ref 131)
 Dw:B.mg "BadMany" = Zz (.ref 210)
 Ci:B.mg "BadBook" = Zz (.ref 234)
 wY:B.mg "MateError" = Zz (.ref 87)
 um:yD B.K 107 "at"
 oF:exmOne B.K (.ref 107) (.ref 107)=Zz true
 xk:DS B.K
 bw:v7 B.K 107
 j8:kitOne B.K (.ref 107) (.type "ValueError")=Zz true
 oS:kitOne B.K (.ref 107) (.ref 107)=Zz true
 nO:kitOne B.K (.ref 107) (.ref 186)=Zz false
 lS:kitOne B.K (.ref 107) (.ref 222)=Zz false
 pv:kitOne B.K (.ref 107) (.ref 174)=Zz false
 oB:kitOne B.K (.ref 107) (.ref 246)=Zz false
 mv:kitOne B.K (.ref 107) (.ref 162)=Zz false
 rB:kitOne B.K (.ref 107) (.ref 198)=Zz false
 mN:kitOne B.K (.ref 107) (.ref 150)=Zz false
 ow:kitOne B.K (.ref 107) (.ref 119)=Zz false
 lY:kitOne B.K (.ref 107) (.ref 131)=Zz false
 oq:kitOne B.K (.ref 107) (.ref 210)=Zz false
 mB:kitOne B.K (.ref 107) (.ref 234)=Zz false
 lg:exmOne B.K (.ref 107) (.ref 87)=Zz true
structure IX (B:Bs) (k:Nat):Prop where
 dK:cK B fns gv k "is_long_word" 0
 ka:cK B fns gv k "is_word" 1
 fT:cK B fns gv k "is_whole" 2
 hV:cK B fns gv k "is_number" 3
 kE:cK B fns gv k "is_time" 4
 rW:cK B fns gv k "rise" 5
 gS:cK B fns gv k "are_marks" 6
 ki:cK B fns gv k "is_size" 7
 gD:cK B fns gv k "are_sizes" 8
 kY:cK B fns gv k "is_card" 9
 gK:cK B fns gv k "is_one_of" 10
 cY:cK B fns gv k "is_plain_wish" 11
 fk:cK B fns gv k "are_joined" 12
 eH:cK B fns gv k "things_in" 13
 i4:cK B fns gv k "has_form" 14
 iw:cK B fns gv k "is_wish" 15
 fz:cK B fns gv k "is_between" 16
 jm:cK B fns gv k "is_offer" 17
 cQ:cK B fns gv k "is_number_text" 18
 kh:cK B fns gv k "word_at" 19
 iy:cK B fns gv k "name_at" 20
 gE:cK B fns gv k "number_at" 21
 fB:cK B fns gv k "read_plain" 22
 f8:cK B fns gv k "read_one" 23
 eG:cK B fns gv k "read_joined" 24
 gZ:cK B fns gv k "read_wish" 25
 eV:cK B fns gv k "read_list" 26
 gH:cK B fns gv k "number_in" 27
 kR:cK B fns gv k "size_in" 28
 kG:cK B fns gv k "wish_in" 29
 gk:cK B fns gv k "offer_in" 30
 i8:cK B fns gv k "thing_in" 31
 iZ:cK B fns gv k "words_in" 32
 ko:cK B fns gv k "form_of" 33
 nJ:cK B fns gv k "row_in" 34
 fM:cK B fns gv k "read_offer" 35
 gT:cK B fns gv k "read_book" 36
 qM:cK B fns gv k "_law_cell" 37
 nV:cK B fns gv k "_law_mixed" 38
 mG:cK B fns gv k "_law_twice" 39
 qL:cK B fns gv k "_law_well" 40
 qY:cK B fns gv k "_law_draw" 41
 nI:cK B fns gv k "_law_some" 42
 kA:cK B fns gv k "_law_number" 43
 nM:cK B fns gv k "_law_free" 44
 qz:cK B fns gv k "_law_word" 45
 qx:cK B fns gv k "_law_card" 46
 qr:cK B fns gv k "_law_leaf" 47
 qP:cK B fns gv k "_law_wish" 48
 dH:cK B fns gv k "_law_great_offer" 49
 kB:cK B fns gv k "_law_closed" 50
 fy:cK B fns gv k "_law_wish_text" 51
 kD:cK B fns gv k "_law_listed" 52
 eu:cK B fns gv k "_law_offer_text" 53
 qp:cK B fns gv k "_law_time" 54
 vN:cK B fns gv k "_law_row" 55
 g6:cK B fns gv k "_law_row_text" 56
 dE:cK B fns gv k "_law_word_spoilt" 57
 kq:cK B fns gv k "_law_spoilt" 58
 fG:cK B fns gv k "_law_number_of" 59
 m9:cK B fns gv k "_law_name" 60
 nG:cK B fns gv k "_law_offer" 61
 gM:cK B fns gv k "_law_read_row" 62
 vH:cK B fns gv k "_law_due" 63
 mW:cK B fns gv k "_law_told" 64
 DJ:cK B fns gv k "law" 65
abbrev cT(ns:List Str)(x:Str)(st:S6)(b:S):Prop:=∀{B:Bs}{k:Nat}{f:RC}{cdv:R4}{A:Sb}{sk:List Sn}{fs:List RC}{z:Nat},HC B->IX B k->lR k (A.deeper (envOfC x (ai st) z f cdv))->Bd (dS fns gv k) gv (IW B ns x (ai st) f cdv A sk fs z) (cC st) b
section
variable{B:Bs}{k:Nat}{f:RC}{cdv:R4}{A:Sb}{sk:List Sn}{fs:List RC}{z:Nat}
theorem qg:cT ["text"] "is_long_word" dC cG:=by
 wtm_at "kl8HMt0u1420003abHM4";exact(cB rfl rfl T0.wf (by decide));wtm_at "abS]0^1à0yrrG4pzAáxB0M4";exact(cB rfl rfl T0.Do (by decide));wtm_at "abmm2000"
theorem A0:cT ["thing"] "is_word" kF dX:=by
 wtm_at "kl8HT40C0WUHMt0u142000";exact(cB rfl rfl T0.rG (by decide));wtm_at "abS7â601420"
theorem yl:cT ["thing"] "is_whole" iW i7:=by
 wtm_at "kl8HT40C0&US";refine Hc ?_;wtm_at "T40C0";exact T0.Jf;wtm_at "U"
theorem vf:cT ["thing"] "is_number" gA eJ:=by
 wtm_at "kl8H7";exact T1.fT;wtm_at "601420SÒ34";exact(cB rfl rfl T0.mQ (by decide));wtm_at "ab"
theorem AQ:cT ["thing"] "is_time" kT ky:=by
 wtm_at "kl87Ç601420"
theorem Hg:cT ["words"] "rise" vV sv:=by
 wtm_at "kl8]0^1";refine ck (N':=["at","words"]) ?_ ?_;wtm_at "0yrr";refine AW ?_ ?_ ?_;wtm_at "0(131t0u142000200pzA";exact(aZ 0 (show SR (["at","words"]:List Str)from by decide +kernel));wtm_at "xB0Me9g43de94dabmm2000"
theorem wo:cT ["thing"] "are_marks" gV eW:=by
 wtm_at "kliDKFwT40C0LUpNht0u142000";exact(cB rfl rfl T0.vL (by decide));wtm_at "ab8Vc8H]0^1";refine ck (N':=["mark"]) ?_ ?_;wtm_at "0yrrG4pzA";exact(aZ 0 (show SR (["mark"]:List Str)from by decide +kernel));wtm_at "xB07>601420mm2000S7";exact T1.rW;wtm_at "601420"
theorem AX:cT ["thing"] "is_size" kQ iS:=by
 wtm_at "kl8HT40C0LUHMt0u1420003abH7>601e43d20S7Ç601e43d20"
theorem wj:cT ["thing"] "are_sizes" gF eQ:=by
 wtm_at "kliDKFwT40C0LUpNht0u142000";exact(cB rfl rfl T0.vj (by decide));wtm_at "ab8Vc8H]0^1Ó0yrrG4pzAÔxB07";exact T1.ki;wtm_at "601420mm2000S7";exact T1.rW;wtm_at "601Ó0yrrG4pzAÔxB0e43dmm20"
theorem AM:cT ["thing"] "is_card" kI iH:=by
 wtm_at "kliDKFwT40C0LUpNht0u1420003ab8Vc8H7>601e43d20H7>601e43d20H7";exact T1.gS;wtm_at "601e43d20S7";exact T1.gD;wtm_at "601e43d20"
theorem wm:cT ["thing","texts"] "is_one_of" gU gz:=by
 wtm_at "kl8HT40C0WUSM49ab"
theorem py:cT ["thing"] "is_plain_wish" c6 cq:=by
 wtm_at "kliFwT40C0LUp8Vciht0u1420003ab87_601e43d1n1520200ciht0u1420003ab8H7_601e43d1n1515200200S7>601e43d20ciht0u1420003ab8H7_601e43d1n1515200200H7>601e43d20S7Ç601e43d20c8V"
theorem tA:cT ["thing"] "are_joined" fD dI:=by
 wtm_at "kl8HT40C0LUSÒ";exact(cB rfl rfl T0.qh (by decide));wtm_at "t0u142000";exact(cB rfl rfl T0.tj (by decide));wtm_at "ab"
theorem vE:cT ["thing"] "things_in" ia eR:=by
 wtm_at "kliDKFwT40C0LUpNht0u1420003ab8n2ciw7_601e43d1n1520200p8n1e43d20ciD$w7_601e43d1n1515200200p)w7";exact T1.fk;wtm_at "601e43d20p8e43dc8n2"
theorem xC:cT ["thing"] "has_form" iV fY:=by
 wtm_at "kl8";refine Fc ?_ ?_;wtm_at "7";exact T1.cY;wtm_at "601420SMt0u17";exact T1.eH;wtm_at "60142020003ab"
theorem AA:cT ["thing","layer","parts","depth"] "is_wish" kO iQ:=by
 wtm_at "klOÈq1420IÈ3`0,0(1";exact(cB rfl rfl T0.Cr (by decide));wtm_at "20";exact(aZ 3 lU.nd);refine F5 (i:=2) ?_ ?_ ?_;wtm_at "Èt0u192000iDKhf";exact(cB rfl rfl T0.wg (by decide));wtm_at "abNFw]0^1";refine ck (N':=["one"]) ?_ ?_;wtm_at "0yrrG9pzA";exact(aZ 0 (show SR (["one"]:List Str)from by decide +kernel));wtm_at "xB07";exact T1.i4;wtm_at "601420mm2000p8Vc";refine jJ (N':=["one","below"]) ?_ ?_ ?_ ?_ ?_ ?_;wtm_at "0yrrG9pzA";exact(aZ 0 (show SR (["one","below"]:List Str)from by decide +kernel));wtm_at "x";refine .more rfl ?_ (λ_=>rfl) ?_ ?_ (by decide) (show ∀i∈yL (.nm 1)++mc (.emit (.var 1)),i<2 from by decide) ?_;wtm_at "G7";exact T1.eH;wtm_at "601420";exact(aZ 1 (show SR (["one","below"]:List Str)from by decide +kernel));wtm_at "xB09mmÈ0Ãc8Mt0u1920003ab"
theorem tS:cT ["thing","low","high"] "is_between" fJ dM:=by
 wtm_at "kl8H7";exact T1.fT;wtm_at "601420SÒ94fab"
theorem ya:cT ["thing","side","card","wish","many","least","weight","till"] "is_offer" i5 gm:=by
 wtm_at "kliDKFwT40C0LUpNht0u1420003ab8Vc/4";exact(eE [1,2,3,4,5,6,7] rfl pR.nd);wtm_at "iDKFw7_60191";exact(cB rfl rfl T0.HB (by decide));wtm_at "200pKFw7";exact T1.kY;wtm_at "601f20pNFw7";exact T1.iw;wtm_at "601o20p8VciDKFw7Õ601v131";exact(cB rfl rfl T0.pY (by decide));wtm_at "2000pNFw7Õ601J131v2000p8Vc8H7Õ601:131";exact(cB rfl rfl T0.mq (by decide));wtm_at "2000S7";exact T1.kE;wtm_at "601Ä20"
theorem oA:cT ["word"] "is_number_text" cP bY:=by
 wtm_at "kliDKFÉ3t0u142000";exact(cB rfl rfl T0.sB (by decide));wtm_at "abNFw]0^1à0yrrG4pzAáxB0M4";exact(cB rfl rfl T0.Cd (by decide));wtm_at "abmm2000p8Vc8";refine Fc ?_ ?_;wtm_at "M45abSMe43d5ab"
theorem AK:cT ["words","at"] "word_at" kr iG:=by
 wtm_at "klih9t0u142000ab8e49dc85"
theorem Aw:cT ["words","at","word"] "name_at" kf er:=by
 wtm_at "klI";exact rf.nd;wtm_at "7?601419200iFw7â601f20p*+Z0069c8f"
theorem we:cT ["words","at","word"] "number_at" gY cE:=by
 wtm_at "klI";exact nz.nd;wtm_at "7?601419200iFw7ã601f20p*+Z0069c8-0&1f2000"
theorem td:cT ["words","at","word","size","sign"] "read_plain" fx fo:=by
 wtm_at "klIÖ7?601419200ihf5ab8n1n1f201g93200cihfn1515200ab8n1n1f17";exact T1.iy;wtm_at "60141g932002001g93200cXÖ7";exact T1.iy;wtm_at "601419200YÖ7?60141g93200i";refine HG (neg:=true) (ok:=T0.Bx) ?_ ?_ ?_ ?_ ?_;wtm_at "00vma*+Z006g93c8n1n1";refine GA (ok:=T0.Bx) ?_ ?_ ?_ ?_ ?_;wtm_at "00vdm1o17";exact T1.gE;wtm_at "60141g9320020001g93200"
theorem wN:cT ["words","at","within","word","wish","behind"] "read_one" ji f9:=by
 wtm_at "klX";exact jG.nd;wtm_at "7?601419200ihon1515200ab87";exact T1.fB;wtm_at "601419200cihf";exact(cB rfl rfl T0.tC (by decide));wtm_at "ab*+Z0069ciho5ab/7";exact T1.f8;wtm_at "60141g931gf32000ä8n1n151v2001J200c/7Ê60141g931gf31å20000äih7?60141J2005ab*+Z006Jc8n1v1gJ3200"
theorem sT:cT ["words","at","within","joins","wish","behind","wishes"] "read_joined" eC cU:=by
 wtm_at "kliht0u1o20003ab87";exact T1.f8;wtm_at "6014191f2000c/7Ê6014191f1PoQ30R20000æË";exact fS.nd;wtm_at "{1v20";refine AR ?_ ?_ ?_;wtm_at "h7?60141J200eo3dab/7Ê60141gJ31f1PoQ30R20000æ@Ì:1v20ciht0u1:20003ab8n1v1J200c8n1n1eo3d1.0L1:20002001J200"
theorem vh:cT ["text","words","wish","behind"] "read_wish" gC cg:=by
 wtm_at "kliFwT40C0WUp*+Z0063cO";exact jk.nd;wtm_at "[41520/7Ê601913131å20000";exact(eE [2,3] rfl jk.nd);wtm_at "iDKhot0u192000abNFw7";exact T1.iw;wtm_at "601f20p*+Z006oc8f"
theorem wn:cT ["text"] "read_list" gN gG:=by
 wtm_at "klih4";exact(cB rfl rfl T0.wC (by decide));wtm_at "ab8q2c8[41520"
theorem uZ:cT ["word"] "number_in" hZ gJ:=by
 wtm_at "kliD$w7ã601420p)w7Ç601-0&14200020p8-0&142000c8E"
theorem AP:cT ["text","name","sign","number"] "size_in" kj km:=by
 wtm_at "kl/";refine yd ?_ ?_;wtm_at "41520";exact(eE [1,2,3] rfl rX.nd);wtm_at "8n1917Ø601o20200"
theorem AV:cT ["text"] "wish_in" kN d7:=by
 wtm_at "klç";exact rQ.nd;exact trivial;wtm_at "0Zè87";exact T1.gZ;wtm_at "601420Ù8Ec"
theorem wX:cT ["text","head","bar","wish","words","marks","sizes","many","least","weight","till","offer"] "offer_in" iX fQ:=by
 wtm_at "kl/";refine yd ?_ ?_;wtm_at "41520";exact(eE [1,2,3] rfl gW.nd);wtm_at "YÍ[91520iht0u1v20003ab8Ec|Í.0L17";exact T1.eV;wtm_at "601ev3d202000ËÍ.0L1Ó0yrrG7";exact T1.eV;wtm_at "601ev3d20pzAÔxB07";exact T1.kR;wtm_at "601420mm2000";refine Dk ?_ ?_ ?_;refine ck (N':=["word"]) ?_ ?_;wtm_at "0yrrGPvQ30RpzA";exact(aZ 0 (show SR (["word"]:List Str)from by decide +kernel));wtm_at "xB07Ø601420mm";exact(Gz [7,8,9,10] rfl gW.nd);refine sg (i:=11) ?_ ?_ ?_;wtm_at "Ín1ev3d1n1ev3d1ev3d1J1:2000017";exact T1.kG;wtm_at "601o201Ä1Î1";exact(vr 9);wtm_at "1";exact(vr 10);wtm_at "20000000iw7";exact T1.jm;wtm_at "601";exact(vr 11);wtm_at "20p8";exact(vr 11);wtm_at "c8E"
theorem wL:cT ["kind","word","number"] "thing_in" jd dm:=by
 wtm_at "klih45ab87";exact T1.gk;wtm_at "601920cih45ab8éw7>601920p9EcI";exact pC.nd;wtm_at "7Ø6019208éD$h45ab)hf3abEf"
theorem wJ:cT ["text"] "words_in" je jp:=by
 wtm_at "kliDKwê41520pNwê41520p8";refine zF ?_ ?_;wtm_at "41513200c8[41520"
theorem Ak:cT ["words","form"] "form_of" kP ek:=by
 wtm_at "klO";exact rb.nd;refine Gw (ok:=T0.Ho) ?_ ?_ ?_ ?_;wtm_at "00e43dmiD$he43d5ab)ht0u1420003ab8g9n1520c89"
theorem CW:cT ["text","words","form","told","word"] "row_in" nY fX:=by
 wtm_at "klOÏ7";exact T1.iZ;wtm_at "601420IÏ7";exact T1.ko;wtm_at "601920iDKhfEabNht0u192000gt0u1f20003ab8Ec";refine jJ (N':=["kind","word"]) ?_ ?_ ?_ ?_ ?_ ?_;wtm_at "0yrr";refine HJ ?_ ?_ ?_;wtm_at "0";exact T0.Kv;wtm_at "1f1P9Q30R200pzA";exact(eE [0,1] rfl (show SR (["kind","word"]:List Str)from by decide +kernel));wtm_at "xB07";exact T1.i8;wtm_at "601419200mmÏ0ÃihEoab8EcYÏe93dihvn1515200ab8n1v1eo3d1eo3d1eo3d20000cihv5ab8n1v1eo3d1.0L1PoQ30R20001eo3d20000c8.0L1gq1v20o2000"
theorem tF:cT ["text","offer"] "read_offer" fC iY:=by
 wtm_at "kliFwT40C0WUp*+Z0063cO";exact lq.nd;wtm_at "7";exact T1.gk;wtm_at "601420ih9Eab*+Z0063c89"
theorem vB:cT ["text","rows"] "read_book" gR jN:=by
 wtm_at "kliFwT40C0WUp*+Z0063cih45ab8q2c";refine jJ (N':=["line"]) ?_ ?_ ?_ ?_ ?_ ?_;wtm_at "0yrrG[41520pzA";exact(aZ 0 (show SR (["line"]:List Str)from by decide +kernel));wtm_at "xB07";exact T1.nJ;wtm_at "601420mm";exact nZ.nd;wtm_at "0ÃihE9ab*+Z006";refine zb ?_ ?_ ?_;wtm_at "91E20bc89"
theorem FL:cT ["_law_script","_law_k"] "_law_cell" qW nu:=by
 wtm_at "klih9t0u142000ab8e49dc83"
theorem CJ:cT ["_law_cell_here","_law_k","_law_number_here"] "_law_mixed" mR j3:=by
 wtm_at "klI";exact uw.nd;wtm_at "gggg4g393338ggfggf333"
theorem C0:cT ["_law_cell_here","_law_k","_law_number_here"] "_law_twice" mj jP:=by
 wtm_at "klI";exact uk.nd;wtm_at "gggg7";exact T1.nV;wtm_at "601419200g393338ggfggf333"
theorem DN:cT ["_law_script","_law_k","_law_cell_here"] "_law_well" qX oz:=by
 wtm_at "klI";exact xq.nd;wtm_at "7";exact T1.qM;wtm_at "6014192008{1eq131f200-0&1Mfg33ab2000d131gf92000"
theorem EO:cT ["_law_well_here","_law_most","_law_number_here"] "_law_draw" qH mu:=by
 wtm_at "klihe43d3abI";exact wK.nd;wtm_at "ge43d9Ðge43d9438fcÐge43d3438g7";exact T1.mG;wtm_at "601e43d1e43d2009"
theorem Gh:cT ["_law_well_here","_law_words","_law_most","_law_left","_law_found","_law_k"] "_law_some" qN n8:=by
 wtm_at "klX";exact mV.nd;refine DX ?_ ?_ ?_ ?_;wtm_at "0";exact T0.EY;wtm_at "19200Y";exact mV.nd;wtm_at "{2`0,0(17s60141gf320020";exact(aZ 5 mV.nd);wtm_at "@Ìv1";refine BU ?_ ?_;wtm_at "o17s60141t0u1o20002002020c8.0L1";refine yn ?_ ?_ ?_ ?_ ?_;wtm_at "0";exact T0.ye;wtm_at "1v20002000"
theorem Ad:cT ["_law_well_here"] "_law_number" kS iL:=by
 wtm_at "kl8eq17s60141320017s6014132001gg337s6014132002000gg7s60141320033d"
theorem D1:cT ["_law_well_here","_law_letters","_law_word_here"] "_law_free" qJ ms:=by
 wtm_at "klO";exact sK.nd;wtm_at "5I";exact sK.nd;wtm_at "%51";refine ck (N':=["_law_k","_law_letters","_law_well_here"]) ?_ ?_;wtm_at "0yrr,0(1g37s60141320020pzA";exact(aZ 0 (show SR (["_law_k","_law_letters","_law_well_here"]:List Str)from by decide +kernel));wtm_at "xB0e97s601f13200dmm20ihfn1515151515152000000ab8gf5c8f"
theorem FZ:cT ["_law_well_here","_law_some_here"] "_law_word" qU mx:=by
 wtm_at "klih7s6014132003ab87";exact T1.nM;wtm_at "601420c8e97s60141t0u192000200d"
theorem E7:cT ["_law_well_here","_law_name_here","_law_kind","_law_some_here","_law_marks","_law_sizes"] "_law_card" qw mD:=by
 wtm_at "klO}7~60141q1515151515200000200I}7~60141q1515152000200X}q1q15151515151520000001q1515151520000200ih7s6014132003ab";refine jJ (N':=["_law_turn","_law_well_here"]) ?_ ?_ ?_ ?_ ?_ ?_;wtm_at "0yrr,0(1320pzA";exact(aZ 0 (show SR (["_law_turn","_law_well_here"]:List Str)from by decide +kernel));wtm_at "xB0";refine yq ?_ ?_ ?_ ?_ ?_ ?_;wtm_at "00";exact T0.ye;wtm_at "0";exact T0.KN;wtm_at "1gë0yrr,0(1320pzAìxB07";exact T1.nM;wtm_at "601920mmq152020mm}0ÃccY}7";exact T1.nI;wtm_at "60141eo3d1Ú0Û131t0u1eo3d2000200002000|}.0L1";refine ck (N':=["_law_word_here","_law_well_here"]) ?_ ?_;wtm_at "0yrrG7";exact T1.nI;wtm_at "60141eo3d1Ú0Û131t0u1eo3d2000200002000pzA";exact(aZ 0 (show SR (["_law_word_here","_law_well_here"]:List Str)from by decide +kernel));wtm_at "xB0n1417í601920200mm20008n191f1v1J20000"
theorem D3:cT ["_law_well_here","_law_way"] "_law_leaf" qo ny:=by
 wtm_at "klO";exact xO.nd;wtm_at "7s601413200ih93ab8n1520cih93ab8n1517~60141q1515151520000200200cih93ab8n1eq1515200g93d17~60141q151515152000020017í6014202000c8n1517~60141q1515151515152000000200200"
theorem D8:cT ["_law_well_here","_law_deep","_law_room","_law_way","_law_many"] "_law_wish" qS jf:=by
 wtm_at "klÐgef3d3f3X";exact rI.nd;wtm_at "7s601413200iDKh93abKho3abNhef3d3ab87";exact T1.qr;wtm_at "601420ciho3ab8n1517Ü60141g931f2000200cY";exact rI.nd;wtm_at "g37s60141eq1313200g7s6014132003d2008n1eq1515200go3d1.0L1";refine ck (N':=["_law_k","_law_well_here","_law_room","_law_deep"]) ?_ ?_;wtm_at "0yrr,0(1v20pzA";exact(aZ 0 (show SR (["_law_k","_law_well_here","_law_room","_law_deep"]:List Str)from by decide +kernel));wtm_at "xB07Ü60191go31f2000mm2000200"
theorem pX:cT ["_law_well_here","_law_many","_law_least","_law_weight","_law_till","_law_card_here","_law_wish_here"] "_law_great_offer" dF cJ:=by
 wtm_at "klOÀeq1g37s6014132001g37s60141g332001g3320007s601413200dIÀeq131g37s6014192001920007s601413200dXÀeq131317s60141320020007s601413200dYÀeq131g3317s60141gg33320017s601413200200007s601413200d|À7";exact T1.qx;wtm_at "601420ËÀ7Ü60141g37s6014132001{132020008n1eq15151520007s601413200d1J1:191f1o1v20000000"
theorem Af:cT ["_law_wish_here","_law_kinds","_law_text"] "_law_closed" kU ph:=by
 wtm_at "klI";exact rV.nd;wtm_at "7î601420ihe43d9ab8gg5f5c8f"
theorem tK:cT ["_law_wish_here","_law_word_here"] "_law_wish_text" fA bB:=by
 wtm_at "klO";exact lA.nd;wtm_at "e43dih9n1515200ab8gge43deq1515200-0&1M95ab2000d;0W1e43d2000cih95ab8g57Ý601e43d1n1515200200cih95ab8%51Þ0yrrGe43dpzAßxB07Ý60141n1515200200mm20cih95ab8%51Þ0yrrGe43dpzAßxB07Ý60141n1520200mm20c8%51420"
theorem Ac:cT ["_law_words"] "_law_listed" kJ iC:=by
 wtm_at "kl8eq1%5142015200-0&1M4q2ab2000d"
theorem sA:cT ["_law_offer_here","_law_side","_law_card_here","_law_wish_here","_law_many","_law_least","_law_weight","_law_till","_law_words"] "_law_offer_text" eF cX:=by
 wtm_at "kl/4";exact(eE [1,2,3,4,5,6,7] rfl gi.nd);wtm_at "ïð{191ef3d1ef3d17ñ601";refine B1 ?_ ?_ ?_ ?_ ?_;wtm_at "0";exact T0.EY;wtm_at "1ef3d20002020000@ÌÎ17ñ601";refine ck (N':=["_law_size","_law_number_here"]) ?_ ?_;wtm_at "0yrrGef3dpzA";exact(eE [0,1] rfl (show SR (["_law_size","_law_number_here"]:List Str)from by decide +kernel));wtm_at "xB0gg45;0W192000mm2020ïð";refine E6 ?_ ?_;wtm_at "Îò0yrrGq1v1J1:1Ä20000pzAóxB0;0W142000mm8gg%51Î2057î601o20"
theorem DT:cT ["_law_well_here"] "_law_time" qO nQ:=by
 wtm_at "kl8eq131g3317s60141320017s60141g33200200007s601413200d"
theorem HF:cT ["_law_well_here","_law_way","_law_time_here","_law_name_here","_law_numbers"] "_law_row" vR eZ:=by
 wtm_at "klOÑ7s601413200IÑ7Å601420XÑ7~60141q1515151520000200ih93ab8n1eq15152009d1f17";exact T1.dH;wtm_at "60142017Å60142020000cih93ab8n151f1o2000cih93ab8n151f1o1eq131g331g37s60141320020007s601413200d20000cih93ab8n151f1o17Å60142020000cih93abYÑ.0L1ë0yrr,0(1g37s60141320020pzAìxB07Å601920mm20008n151f1v1eq131g331g37s60141320020007s601413200d20000c8n151f17Å6014202000"
theorem vM:cT ["_law_row_here"] "_law_row_text" gP dA:=by
 wtm_at "klihe43dn1515200ab8%51q1e43d1;0W1e43d20001;0W1e43d200017";exact T1.eu;wtm_at "601e43d202000020cihe43d5ab8%51gq151;0W1e43d20001;0W1e43d20002000ò0yrrGe43dpzAóxB0;0W142000mm20c8%51";refine ck (N':=["_law_thing"]) ?_ ?_;wtm_at "0yrrG4pzA";exact(aZ 0 (show SR (["_law_thing"]:List Str)from by decide +kernel));wtm_at "xB0;0W142000mm20"
theorem qa:cT ["_law_well_here","_law_text","_law_some_here","_law_words","_law_at","_law_way"] "_law_word_spoilt" dD cH:=by
 wtm_at "klIÁq1515151515151515151515151515151520000000000000000IÁgfq1515151515151515151515152000000000000IÁgfq1515151515151520000000XÁ";refine zi ?_ ?_;wtm_at "91520YÁ7s60141Ú0Û1t0u1o20001eq13131320007s601413200d20000200|Á7s601413200ihJ3abÐef7s60141t0u1f2000200dovccihJ3ab@";refine BU ?_ ?_;wtm_at "o1v20ccihJ3ab@ôo1v1eovd200ccihJ3ab@ôo1v1ef7s60141t0u1f2000200d200cc8%51o20"
theorem yZ:cT ["_law_well_here","_law_rows","_law_at","_law_way"] "_law_spoilt" kX iR:=by
 wtm_at "klIõ7s60141t0u192000200Xõ7s601413200iho3ab8ggP9RQf0P9Qgf30Rgq1520-0&1Mt0u1920003ab2000ciho3ab8gP9RQgf30P9Qf0Rciho3ab8gP9Qf0RP9RQf0ciho3ab8ggP9RQf0q1520P9Qf0Rc8ggP9RQf0q17";exact T1.dE;wtm_at "60141e9fd20020P9Qgf30R"
theorem th:cT ["_law_word_here"] "_law_number_of" fH fj:=by
 wtm_at "kliDKh45abKht0u1420003abNhö0yrrG4pzAø";refine⟨?_,?_⟩;wtm_at "FÉ545abxB04mmq2ab8EciDKD$he43d5ab)h45abNh-0&142000g33ab8Ec8-0&142000"
theorem Fj:cT ["_law_word_here"] "_law_name" qG qR:=by
 wtm_at "kliDKFÉ3t0u1420003abNh4q1515151515152000000ab8Ecihö0yrrG4pzAø";refine⟨?_,?_⟩;wtm_at "FÉ545abxB04mmq2ab8Ec84"
theorem Da:cT ["_law_text"] "_law_offer" mL nP:=by
 wtm_at "klç";exact ur.nd;exact trivial;wtm_at "0Zè87";exact T1.fM;wtm_at "601420Ù8Ec"
theorem vD:cT ["_law_text","_law_words","_law_word_here","_law_time_here","_law_row_here","_law_numbers"] "_law_read_row" gB a8:=by
 wtm_at "klO<[41520I<e93diht0u1920003ab8EcX<7Â601e93d20ihfq1515200abY<n1f1o17";exact T1.nG;wtm_at "601%51P9Q30R202017Â601e93d2020000ciD$hf5ab)ht0u192000q1313200ab|<.0L1Þ0yrrGP9Q30RpzAßxB07Â601420mm2000Y<n1f1o1J17Â601e93d2020000iDKhEJabNhev3d3ab8EcciD$hf5ab)ht0u1920003abY<n1f1o17";exact T1.m9;wtm_at "601e93d202000ciD$hf5ab)ht0u1920003abY<n1f1o17Â601e93d202000ciD$hfq1515200ab)ht0u1920003abY<n1f1o17";exact T1.m9;wtm_at "601e93d2017Â601e93d2020000iD$hf5ab)hev3d3ab8Ecc8Ecccc8eq1v1E200-0&1MEvab2000d"
theorem Hb:cT ["_law_text","_law_rows","_law_number_here","_law_line"] "_law_due" u7 rY:=by
 wtm_at "klih45ab8q2cO";exact wh.nd;wtm_at "{2`0";refine Eh ?_ ?_ ?_;wtm_at "0";exact T0.xA;wtm_at "1";refine PE.tree ?_;wtm_at "[4152020";exact(eE [2,3] rfl wh.nd);wtm_at "@Ì917";exact T1.gM;wtm_at "601o2020ihe9";refine Im ?_;wtm_at "3dEab8n151f200cc89"
theorem EI:cT ["_law_text","_law_found","e","_law_others"] "_law_told" qK nh:=by
 wtm_at "klO=E";refine wU (D:=87) ?_ ?_ ?_ ?_ ?_ ?_ ?_ ?_;wtm_at "=";exact⟨rfl,rfl⟩;wtm_at "0";exact T0.wY;exact(R1.mpr ⟨T0.lg,(λ_ h=>Y3 h R8)⟩);wtm_at "O=7";exact T1.gT;wtm_at "601420cÙX=q1";refine bW (c:=(.ref 234)) ?_ ?_ ?_ ?_ ?_ ?_ ?_;wtm_at "f0C";exact(cZ rfl T0.Ci rfl);wtm_at "!#";exact(R1.mpr ⟨⟨T0.bw,T0.mB⟩,(λ_ h=>Y3 h R8)⟩);wtm_at "1";refine bW (c:=(.ref 210)) ?_ ?_ ?_ ?_ ?_ ?_ ?_;wtm_at "f0C";exact(cZ rfl T0.Dw rfl);wtm_at "!#";exact(R1.mpr ⟨⟨T0.bw,T0.oq⟩,(λ_ h=>Y3 h R8)⟩);wtm_at "1";refine bW (c:=(.ref 131)) ?_ ?_ ?_ ?_ ?_ ?_ ?_;wtm_at "f0C";exact(cZ rfl T0.Ap rfl);wtm_at "!#";exact(R1.mpr ⟨⟨T0.bw,T0.lY⟩,(λ_ h=>Y3 h R8)⟩);wtm_at "1";refine bW (c:=(.ref 119)) ?_ ?_ ?_ ?_ ?_ ?_ ?_;wtm_at "f0C";exact(cZ rfl T0.De rfl);wtm_at "!#";exact(R1.mpr ⟨⟨T0.bw,T0.ow⟩,(λ_ h=>Y3 h R8)⟩);wtm_at "20000X=goq1";refine bW (c:=(.ref 150)) ?_ ?_ ?_ ?_ ?_ ?_ ?_;wtm_at "f0C";exact(cZ rfl T0.C8 rfl);wtm_at "!#";exact(R1.mpr ⟨⟨T0.bw,T0.mN⟩,(λ_ h=>Y3 h R8)⟩);wtm_at "1";refine bW (c:=(.ref 198)) ?_ ?_ ?_ ?_ ?_ ?_ ?_;wtm_at "f0C";exact(cZ rfl T0.JR rfl);wtm_at "!#";exact(R1.mpr ⟨⟨T0.bw,T0.rB⟩,(λ_ h=>Y3 h R8)⟩);wtm_at "1";refine bW (c:=(.ref 162)) ?_ ?_ ?_ ?_ ?_ ?_ ?_;wtm_at "f0C";exact(cZ rfl T0.B9 rfl);wtm_at "!#";exact(R1.mpr ⟨⟨T0.bw,T0.mv⟩,(λ_ h=>Y3 h R8)⟩);wtm_at "1";refine bW (c:=(.ref 246)) ?_ ?_ ?_ ?_ ?_ ?_ ?_;wtm_at "f0C";exact(cZ rfl T0.Ez rfl);wtm_at "!#";exact(R1.mpr ⟨⟨T0.bw,T0.oB⟩,(λ_ h=>Y3 h R8)⟩);wtm_at "20000X=goq1";refine bW (c:=(.ref 174)) ?_ ?_ ?_ ?_ ?_ ?_ ?_;wtm_at "f0C";exact(cZ rfl T0.FW rfl);wtm_at "!#";exact(R1.mpr ⟨⟨T0.bw,T0.pv⟩,(λ_ h=>Y3 h R8)⟩);wtm_at "1";refine bW (c:=(.ref 222)) ?_ ?_ ?_ ?_ ?_ ?_ ?_;wtm_at "f0C";exact(cZ rfl T0.AG rfl);wtm_at "!#";exact(R1.mpr ⟨⟨T0.bw,T0.lS⟩,(λ_ h=>Y3 h R8)⟩);wtm_at "1";refine bW (c:=(.ref 186)) ?_ ?_ ?_ ?_ ?_ ?_ ?_;wtm_at "f0C";exact(cZ rfl T0.Cz rfl);wtm_at "!#";exact(R1.mpr ⟨⟨T0.bw,T0.nO⟩,(λ_ h=>Y3 h R8)⟩);wtm_at "2000O=5iD$w";refine bW (c:=(.ref 107)) ?_ ?_ ?_ ?_ ?_ ?_ ?_;wtm_at "f0C";exact(cZ rfl T0.wP rfl);wtm_at "!";exact(R1.mpr ⟨⟨T0.bw,T0.oS⟩,(λ_ h=>Y3 h R8)⟩);wtm_at "#p$w";refine bW (c:=(.type "ValueError")) ?_ ?_ ?_ ?_ ?_ ?_ ?_;wtm_at "f0C";exact(Hz rfl T0.vQ (by decide +kernel));wtm_at "!";exact(R1.mpr ⟨⟨T0.bw,T0.j8⟩,(λ_ h=>Y3 h R8)⟩);wtm_at "#p)hVoa";exact(Nat.lt_of_le_of_lt (X9 (congrArg (·+64) hu2)) hr.units);wtm_at "O=n151";refine H2 ?_ ?_;wtm_at "f";exact(R1.mpr ⟨⟨T0.bw,T0.um.xs.na⟩,(λ_ h=>Y3 h R8)⟩);wtm_at "200ccc89"
theorem Eo:cT ["_law_script","_law_k","_law_well_here","_law_rows","_law_turn","_law_text","_law_ends","_law_one"] "law" pV wQ:=by
 wtm_at "kl`0,0(1320";exact(aZ 1 o7.nd);wtm_at "IÆ7";exact T1.qL;wtm_at "601419200";refine jJ (N':=["_law_j","_law_well_here"]) ?_ ?_ ?_ ?_ ?_ ?_;wtm_at "0yrr,0(1g37s601f1320020pzA";exact(aZ 0 (show SR (["_law_j","_law_well_here"]:List Str)from by decide +kernel));wtm_at "xB07";exact T1.g6;wtm_at "6017";exact T1.vN;wtm_at "60192020mmÆ0Ã`0,0(17s601f1320020";exact(aZ 4 o7.nd);wtm_at "XÆ7";exact T1.kq;wtm_at "601f1o200c|Æ%51o20ËÆq1eq15151520007s601f13200d1eq15151520007s601f13200d200`0Gq1J1gge:3dJe:3d200";exact(aZ 7 o7.nd);wtm_at "ih7";exact T1.mW;wtm_at "601Ä207";exact T1.vH;wtm_at "601Ä20ab8Vccih7";exact T1.mW;wtm_at "601eq1E131o1n15131320001V2000007s601f13200d20n1513200ab8Vcc8V"
end
abbrev FB(B:Bs)(x:Str)(st:S6)(ps:List Str):Prop:=∃f fd,HQ B.K x x st f fd/\B.mg x=Zz (.ref f)/\Binds B.K fd ps []
structure Kw (B:Bs):Prop where
 dK:FB B "is_long_word" dC ["text"]
 ka:FB B "is_word" kF ["thing"]
 fT:FB B "is_whole" iW ["thing"]
 hV:FB B "is_number" gA ["thing"]
 kE:FB B "is_time" kT ["thing"]
 rW:FB B "rise" vV ["words"]
 gS:FB B "are_marks" gV ["thing"]
 ki:FB B "is_size" kQ ["thing"]
 gD:FB B "are_sizes" gF ["thing"]
 kY:FB B "is_card" kI ["thing"]
 gK:FB B "is_one_of" gU ["thing","texts"]
 cY:FB B "is_plain_wish" c6 ["thing"]
 fk:FB B "are_joined" fD ["thing"]
 eH:FB B "things_in" ia ["thing"]
 i4:FB B "has_form" iV ["thing"]
 iw:FB B "is_wish" kO ["thing"]
 fz:FB B "is_between" fJ ["thing","low","high"]
 jm:FB B "is_offer" i5 ["thing"]
 cQ:FB B "is_number_text" cP ["word"]
 kh:FB B "word_at" kr ["words","at"]
 iy:FB B "name_at" kf ["words","at"]
 gE:FB B "number_at" gY ["words","at"]
 fB:FB B "read_plain" fx ["words","at"]
 f8:FB B "read_one" ji ["words","at","within"]
 eG:FB B "read_joined" eC ["words","at","within","joins"]
 gZ:FB B "read_wish" gC ["text"]
 eV:FB B "read_list" gN ["text"]
 gH:FB B "number_in" hZ ["word"]
 kR:FB B "size_in" kj ["text"]
 kG:FB B "wish_in" kN ["text"]
 gk:FB B "offer_in" iX ["text"]
 i8:FB B "thing_in" jd ["kind","word"]
 iZ:FB B "words_in" je ["text"]
 ko:FB B "form_of" kP ["words"]
 nJ:FB B "row_in" nY ["text"]
 fM:FB B "read_offer" fC ["text"]
 gT:FB B "read_book" gR ["text"]
 qM:FB B "_law_cell" qW ["_law_script","_law_k"]
 nV:FB B "_law_mixed" mR ["_law_cell_here","_law_k"]
 mG:FB B "_law_twice" mj ["_law_cell_here","_law_k"]
 qL:FB B "_law_well" qX ["_law_script","_law_k"]
 qY:FB B "_law_draw" qH ["_law_well_here","_law_most"]
 nI:FB B "_law_some" qN ["_law_well_here","_law_words","_law_most"]
 kA:FB B "_law_number" kS ["_law_well_here"]
 nM:FB B "_law_free" qJ ["_law_well_here"]
 qz:FB B "_law_word" qU ["_law_well_here","_law_some_here"]
 qx:FB B "_law_card" qw ["_law_well_here"]
 qr:FB B "_law_leaf" qo ["_law_well_here"]
 qP:FB B "_law_wish" qS ["_law_well_here","_law_deep","_law_room"]
 dH:FB B "_law_great_offer" dF ["_law_well_here"]
 kB:FB B "_law_closed" kU ["_law_wish_here","_law_kinds"]
 fy:FB B "_law_wish_text" fA ["_law_wish_here"]
 kD:FB B "_law_listed" kJ ["_law_words"]
 eu:FB B "_law_offer_text" eF ["_law_offer_here"]
 qp:FB B "_law_time" qO ["_law_well_here"]
 vN:FB B "_law_row" vR ["_law_well_here"]
 g6:FB B "_law_row_text" gP ["_law_row_here"]
 dE:FB B "_law_word_spoilt" dD ["_law_well_here","_law_text"]
 kq:FB B "_law_spoilt" kX ["_law_well_here","_law_rows"]
 fG:FB B "_law_number_of" fH ["_law_word_here"]
 m9:FB B "_law_name" qG ["_law_word_here"]
 nG:FB B "_law_offer" mL ["_law_text"]
 gM:FB B "_law_read_row" gB ["_law_text"]
 vH:FB B "_law_due" u7 ["_law_text"]
 mW:FB B "_law_told" qK ["_law_text"]
 DJ:FB B "law" pV ["_law_script"]
theorem aN{x:Str}{st:S6}{N ps:List Str}{fi np n:Nat}{b:S}{cell:Bool}(sc:ax N ps (ai st))(p:cT N x st b)(hd:fns[fi]?=Zz ⟨np,n,b,cell⟩)(hps:np=ps.length)(hn:N.length=n){B:Bs}{k:Nat}(T0:HC B)(ih:IX B k)(F:FB B x st ps):cK B fns gv (k+1) x fi:=
 let⟨_,_,F,m,bb⟩:=F
 J7 F m bb sc hd hps hn λ_ _ _ _ _ hr=>p T0 ih hr
theorem aO{x:Str}{st:S6}{ps:List Str}{i:Nat}{B:Bs}(F:FB B x st ps):cK B fns gv 0 x i:=
 let⟨_,_,F,m,b⟩:=F
 HV F m b
theorem Fx{B:Bs}(T0:HC B)(TF:Kw B):∀k:Nat,IX B k
 |0=>⟨aO TF.dK,aO TF.ka,aO TF.fT,aO TF.hV,aO TF.kE,aO TF.rW,aO TF.gS,aO TF.ki,aO TF.gD,aO TF.kY,aO TF.gK,aO TF.cY,aO TF.fk,aO TF.eH,aO TF.i4,aO TF.iw,aO TF.fz,aO TF.jm,aO TF.cQ,aO TF.kh,aO TF.iy,aO TF.gE,aO TF.fB,aO TF.f8,aO TF.eG,aO TF.gZ,aO TF.eV,aO TF.gH,aO TF.kR,aO TF.kG,aO TF.gk,aO TF.i8,aO TF.iZ,aO TF.ko,aO TF.nJ,aO TF.fM,aO TF.gT,aO TF.qM,aO TF.nV,aO TF.mG,aO TF.qL,aO TF.qY,aO TF.nI,aO TF.kA,aO TF.nM,aO TF.qz,aO TF.qx,aO TF.qr,aO TF.qP,aO TF.dH,aO TF.kB,aO TF.fy,aO TF.kD,aO TF.eu,aO TF.qp,aO TF.vN,aO TF.g6,aO TF.dE,aO TF.kq,aO TF.fG,aO TF.m9,aO TF.nG,aO TF.gM,aO TF.vH,aO TF.mW,aO TF.DJ⟩
 |k+1 =>
  have ih:=Fx T0 TF k
  ⟨aN qc qg rfl rfl rfl T0 ih TF.dK,aN zI A0 rfl rfl rfl T0 ih TF.ka,aN xG yl rfl rfl rfl T0 ih TF.fT,aN vI vf rfl rfl rfl T0 ih TF.hV,aN zy AQ rfl rfl rfl T0 ih TF.kE,aN HE Hg rfl rfl rfl T0 ih TF.rW,aN vi wo rfl rfl rfl T0 ih TF.gS,aN AE AX rfl rfl rfl T0 ih TF.ki,aN vk wj rfl rfl rfl T0 ih TF.gD,aN ze AM rfl rfl rfl T0 ih TF.kY,aN vx wm rfl rfl rfl T0 ih TF.gK,aN oX py rfl rfl rfl T0 ih TF.cY,aN tq tA rfl rfl rfl T0 ih TF.fk,aN u9 vE rfl rfl rfl T0 ih TF.eH,aN yA xC rfl rfl rfl T0 ih TF.i4,aN lU AA rfl rfl rfl T0 ih TF.iw,aN tN tS rfl rfl rfl T0 ih TF.fz,aN pR ya rfl rfl rfl T0 ih TF.jm,aN nL oA rfl rfl rfl T0 ih TF.cQ,aN AT AK rfl rfl rfl T0 ih TF.kh,aN rf Aw rfl rfl rfl T0 ih TF.iy,aN nz we rfl rfl rfl T0 ih TF.gE,aN lp td rfl rfl rfl T0 ih TF.fB,aN jG wN rfl rfl rfl T0 ih TF.f8,aN fS sT rfl rfl rfl T0 ih TF.eG,aN jk vh rfl rfl rfl T0 ih TF.gZ,aN vc wn rfl rfl rfl T0 ih TF.eV,aN u3 uZ rfl rfl rfl T0 ih TF.gH,aN rX AP rfl rfl rfl T0 ih TF.kR,aN rQ AV rfl rfl rfl T0 ih TF.kG,aN gW wX rfl rfl rfl T0 ih TF.gk,aN pC wL rfl rfl rfl T0 ih TF.i8,aN yB wJ rfl rfl rfl T0 ih TF.iZ,aN rb Ak rfl rfl rfl T0 ih TF.ko,aN uQ CW rfl rfl rfl T0 ih TF.nJ,aN lq tF rfl rfl rfl T0 ih TF.fM,aN nZ vB rfl rfl rfl T0 ih TF.gT,aN FR FL rfl rfl rfl T0 ih TF.qM,aN uw CJ rfl rfl rfl T0 ih TF.nV,aN uk C0 rfl rfl rfl T0 ih TF.mG,aN xq DN rfl rfl rfl T0 ih TF.qL,aN wK EO rfl rfl rfl T0 ih TF.qY,aN mV Gh rfl rfl rfl T0 ih TF.nI,aN Aa Ad rfl rfl rfl T0 ih TF.kA,aN sK D1 rfl rfl rfl T0 ih TF.nM,aN D4 FZ rfl rfl rfl T0 ih TF.qz,aN wW E7 rfl rfl rfl T0 ih TF.qx,aN xO D3 rfl rfl rfl T0 ih TF.qr,aN rI D8 rfl rfl rfl T0 ih TF.qP,aN jw pX rfl rfl rfl T0 ih TF.dH,aN rV Af rfl rfl rfl T0 ih TF.kB,aN lA tK rfl rfl rfl T0 ih TF.fy,aN yY Ac rfl rfl rfl T0 ih TF.kD,aN gi sA rfl rfl rfl T0 ih TF.eu,aN ED DT rfl rfl rfl T0 ih TF.qp,aN A7 HF rfl rfl rfl T0 ih TF.vN,aN vw vM rfl rfl rfl T0 ih TF.g6,aN jv qa rfl rfl rfl T0 ih TF.dE,aN rc yZ rfl rfl rfl T0 ih TF.kq,aN tL th rfl rfl rfl T0 ih TF.fG,aN DA Fj rfl rfl rfl T0 ih TF.m9,aN ur Da rfl rfl rfl T0 ih TF.nG,aN ni vD rfl rfl rfl T0 ih TF.gM,aN wh Hb rfl rfl rfl T0 ih TF.vH,aN yc EI rfl rfl rfl T0 ih TF.mW,aN o7 Eo rfl rfl rfl T0 ih TF.DJ⟩
end My
namespace My
open PySem PySem.Spec PyProof.Rows Mi
theorem LH{α:Type}{P:List α->Prop}{us:List α}(hl:us.length=1)(h:∀x0:α,P [x0]):P us:=by
 rcases us with _|⟨x0,us⟩
 ·simp at hl
 rcases us with _|⟨y,us⟩
 ·exact h x0
 ·simp at hl
theorem KH{α:Type}{P:List α->Prop}{us:List α}(hl:us.length=2)(h:∀x0 x1:α,P [x0,x1]):P us:=by
 rcases us with _|⟨x0,us⟩
 ·simp at hl
 rcases us with _|⟨x1,us⟩
 ·simp at hl
 rcases us with _|⟨y,us⟩
 ·exact h x0 x1
 ·simp at hl
theorem LF{α:Type}{P:List α->Prop}{us:List α}(hl:us.length=3)(h:∀x0 x1 x2:α,P [x0,x1,x2]):P us:=by
 rcases us with _|⟨x0,us⟩
 ·simp at hl
 rcases us with _|⟨x1,us⟩
 ·simp at hl
 rcases us with _|⟨x2,us⟩
 ·simp at hl
 rcases us with _|⟨y,us⟩
 ·exact h x0 x1 x2
 ·simp at hl
theorem LV{α:Type}{P:List α->Prop}{us:List α}(hl:us.length=4)(h:∀x0 x1 x2 x3:α,P [x0,x1,x2,x3]):P us:=by
 rcases us with _|⟨x0,us⟩
 ·simp at hl
 rcases us with _|⟨x1,us⟩
 ·simp at hl
 rcases us with _|⟨x2,us⟩
 ·simp at hl
 rcases us with _|⟨x3,us⟩
 ·simp at hl
 rcases us with _|⟨y,us⟩
 ·exact h x0 x1 x2 x3
 ·simp at hl
abbrev FE(K:V9)(x:Str)(st:S6):Prop:=∃(f:RC) (oc kV dc pm cd ct:R4) (od an:Option RC) (sl:Array (Option R4)),nsIn K RH x=Zz (Zz (.ref f))/\K.lookup f=Zz ⟨oc,od,.func (fnOf x x (fE st) (cC st) (ai st) .none kV dc pm an cd ct),sl⟩/\codeIn K cd x=true
theorem aP{B:Bs}{h:Rq}{x:Str}{st:S6}{ps:List Str}(X:B.K.In h)(G:h.Ns RH B.mg)(e:FE B.K x st)(hb:∀(kV doc pm:R4) (an:Option RC) (cdv ct:R4) (us:List R4),us.length=ps.length->TW (fnOf x x (fE st) (cC st) (ai st) .none kV doc pm an cdv ct) ⟨us,[]⟩=pure (ps.zip us)):FB B x st ps:=by
 obtain⟨f,oc,kV,dc,pm,cd,ct,od,an,sl,a,l,c⟩:=e;have F:=zH (st:=st) l c (BP l);exact⟨_,_,F,mg_of X G a,F.binds (ps:=ps) hb⟩
theorem fe_in{K:V9}{x:Str}{st:S6}{f:RC}{oc kV dc pm cd ct:R4}{od an:Option RC}{sl:Array (Option R4)}(a:nsIn K RH x=Zz (Zz (.ref f)))(l:K.lookup f=Zz ⟨oc,od,.func (fnOf x x (fE st) (cC st) (ai st) .none kV dc pm an cd ct),sl⟩)(c:codeIn K cd x=true):FE K x st:=
 ⟨_,_,_,_,_,_,_,_,_,_,a,l,c⟩
theorem bH{fd:TV}{ps:List Str}(h:∀x0:R4,TW fd ⟨[x0],[]⟩=pure (U9 ps [x0]))(us:List R4)(hl:us.length=1):TW fd ⟨us,[]⟩=pure (U9 ps us):=LH (P:=λus=>TW fd ⟨us,[]⟩=pure (U9 ps us)) hl h
theorem l6{fd:TV}{ps:List Str}(h:∀x0 x1:R4,TW fd ⟨[x0,x1],[]⟩=pure (U9 ps [x0,x1]))(us:List R4)(hl:us.length=2):TW fd ⟨us,[]⟩=pure (U9 ps us):=KH (P:=λus=>TW fd ⟨us,[]⟩=pure (U9 ps us)) hl h
theorem GC{fd:TV}{ps:List Str}(h:∀x0 x1 x2:R4,TW fd ⟨[x0,x1,x2],[]⟩=pure (U9 ps [x0,x1,x2]))(us:List R4)(hl:us.length=3):TW fd ⟨us,[]⟩=pure (U9 ps us):=LF (P:=λus=>TW fd ⟨us,[]⟩=pure (U9 ps us)) hl h
theorem Lv{fd:TV}{ps:List Str}(h:∀x0 x1 x2 x3:R4,TW fd ⟨[x0,x1,x2,x3],[]⟩=pure (U9 ps [x0,x1,x2,x3]))(us:List R4)(hl:us.length=4):TW fd ⟨us,[]⟩=pure (U9 ps us):=LV (P:=λus=>TW fd ⟨us,[]⟩=pure (U9 ps us)) hl h
theorem all_mk{l:X1}{w:TB}{K:V9}{h:Rq}{mg:Str->Option R4}{fa:RC}(X:K.In h)(G:h.Ns RH mg)(hfa:mg "law" = Zz (.ref fa))(h0:FE K "is_long_word" dC)(h1:FE K "is_word" kF)(h2:FE K "is_whole" iW)(h3:FE K "is_number" gA)(h4:FE K "is_time" kT)(h5:FE K "rise" vV)(h6:FE K "are_marks" gV)(h7:FE K "is_size" kQ)(h8:FE K "are_sizes" gF)(h9:FE K "is_card" kI)(h10:FE K "is_one_of" gU)(h11:FE K "is_plain_wish" c6)(h12:FE K "are_joined" fD)(h13:FE K "things_in" ia)(h14:FE K "has_form" iV)(h15:FE K "is_wish" kO)(h16:FE K "is_between" fJ)(h17:FE K "is_offer" i5)(h18:FE K "is_number_text" cP)(h19:FE K "word_at" kr)(h20:FE K "name_at" kf)(h21:FE K "number_at" gY)(h22:FE K "read_plain" fx)(h23:FE K "read_one" ji)(h24:FE K "read_joined" eC)(h25:FE K "read_wish" gC)(h26:FE K "read_list" gN)(h27:FE K "number_in" hZ)(h28:FE K "size_in" kj)(h29:FE K "wish_in" kN)(h30:FE K "offer_in" iX)(h31:FE K "thing_in" jd)(h32:FE K "words_in" je)(h33:FE K "form_of" kP)(h34:FE K "row_in" nY)(h35:FE K "read_offer" fC)(h36:FE K "read_book" gR)(h37:FE K "_law_cell" qW)(h38:FE K "_law_mixed" mR)(h39:FE K "_law_twice" mj)(h40:FE K "_law_well" qX)(h41:FE K "_law_draw" qH)(h42:FE K "_law_some" qN)(h43:FE K "_law_number" kS)(h44:FE K "_law_free" qJ)(h45:FE K "_law_word" qU)(h46:FE K "_law_card" qw)(h47:FE K "_law_leaf" qo)(h48:FE K "_law_wish" qS)(h49:FE K "_law_great_offer" dF)(h50:FE K "_law_closed" kU)(h51:FE K "_law_wish_text" fA)(h52:FE K "_law_listed" kJ)(h53:FE K "_law_offer_text" eF)(h54:FE K "_law_time" qO)(h55:FE K "_law_row" vR)(h56:FE K "_law_row_text" gP)(h57:FE K "_law_word_spoilt" dD)(h58:FE K "_law_spoilt" kX)(h59:FE K "_law_number_of" fH)(h60:FE K "_law_name" qG)(h61:FE K "_law_offer" mL)(h62:FE K "_law_read_row" gB)(h63:FE K "_law_due" u7)(h64:FE K "_law_told" qK)(h65:FE K "law" pV){t0:Tok}(gv0:nsIn K RH "LETTERS" = Zz (Zz (.str "abcdefghijklmnopqrstuvwxyz" t0))){t1:Tok}(gv1:nsIn K RH "LONGEST_WORD" = Zz (Zz (.int 8 t1))){ga2:RC}{its2:Array R4}{gn2:Nat}{gsl2:Array (Option R4)}(gv2:nsIn K RH "WISH_WORDS" = Zz (Zz (.ref ga2)))(gl2:K.lookup ga2=Zz ⟨.type "tuple",Zy,.seq its2 gn2,gsl2⟩)(gz2:its2.size<=Ri)(gs2:mU [[97,110,121],[105,115],[98,121],[110,111,116],[97,110,100],[111,114]] its2.toList){t3:Tok}(gv3:nsIn K RH "GREATEST_NUMBER" = Zz (Zz (.int 1000000000 t3))){t4:Tok}(gv4:nsIn K RH "MOST_MARKS" = Zz (Zz (.int 6 t4))){t5:Tok}(gv5:nsIn K RH "MOST_SIZES" = Zz (Zz (.int 6 t5))){t6:Tok}(gv6:nsIn K RH "DEEPEST" = Zz (Zz (.int 6 t6))){t7:Tok}(gv7:nsIn K RH "MOST_PARTS" = Zz (Zz (.int 40 t7))){t8:Tok}(gv8:nsIn K RH "FEWEST_JOINED" = Zz (Zz (.int 2 t8))){t9:Tok}(gv9:nsIn K RH "MOST_JOINED" = Zz (Zz (.int 6 t9))){ga10:RC}{its10:Array R4}{gn10:Nat}{gsl10:Array (Option R4)}(gv10:nsIn K RH "SIDES" = Zz (Zz (.ref ga10)))(gl10:K.lookup ga10=Zz ⟨.type "tuple",Zy,.seq its10 gn10,gsl10⟩)(gz10:its10.size<=Ri)(gs10:mU [[103,105,118,101],[116,97,107,101],[98,101,97,114]] its10.toList){t11:Tok}(gv11:nsIn K RH "GREATEST_MANY" = Zz (Zz (.int 1000000 t11))){t12:Tok}(gv12:nsIn K RH "GREATEST_WEIGHT" = Zz (Zz (.int 1000 t12))){t13:Tok}(gv13:nsIn K RH "FIGURES" = Zz (Zz (.str "0123456789" t13))){t14:Tok}(gv14:nsIn K RH "MOST_FIGURES" = Zz (Zz (.int 10 t14))){t15:Tok}(gv15:nsIn K RH "MOST_WITHIN" = Zz (Zz (.int 12 t15))){ga16:RC}{des16:Array WJ}{gn16:Nat}{dus16:List R4}(gv16:nsIn K RH "SIGNS" = Zz (Zz (.ref ga16)))(gl16:K.lookup ga16=Zz ⟨.type "dict",Zy,.dict des16 gn16,#[]⟩)(gz16:(ga16==WQ)=false)(ge16:gt w [[62,61],[60,61]] dus16 des16.toList)(gx16:fF K dus16 [(.str [108,101,97,115,116]),(.str [109,111,115,116])]){ga17:RC}{its17:Array R4}{gn17:Nat}{gsl17:Array (Option R4)}(gv17:nsIn K RH "JOINS" = Zz (Zz (.ref ga17)))(gl17:K.lookup ga17=Zz ⟨.type "tuple",Zy,.seq its17 gn17,gsl17⟩)(gz17:its17.size<=Ri)(gs17:mU [[111,114],[97,110,100]] its17.toList){t18:Tok}(gv18:nsIn K RH "NONE_TEXT" = Zz (Zz (.str "-" t18))){ga19:RC}{des19:Array WJ}{gn19:Nat}{dus19:List R4}(gv19:nsIn K RH "FORMS" = Zz (Zz (.ref ga19)))(gl19:K.lookup ga19=Zz ⟨.type "dict",Zy,.dict des19 gn19,#[]⟩)(gz19:(ga19==WQ)=false)(ge19:gt w [[99,111,109,101],[111,102,102],[99,104,97,110,103,101],[108,101,115,115],[119,97,105,116],[109,101,101,116],[111,117,116]] dus19 des19.toList)(gx19:fF K dus19 [(.tup [(.str [110,117,109,98,101,114]),(.str [110,117,109,98,101,114]),(.str [111,102,102,101,114])]),(.tup [(.str [110,117,109,98,101,114]),(.str [110,97,109,101])]),(.tup [(.str [110,117,109,98,101,114]),(.str [110,117,109,98,101,114]),(.str [111,102,102,101,114])]),(.tup [(.str [110,117,109,98,101,114]),(.str [110,97,109,101]),(.str [109,97,110,121])]),(.tup [(.str [110,117,109,98,101,114]),(.str [110,97,109,101]),(.str [110,117,109,98,101,114])]),(.tup [(.str [110,117,109,98,101,114]),(.str [109,97,110,121]),(.str [110,117,109,98,101,114]),(.str [110,117,109,98,101,114])]),(.tup [(.str [110,117,109,98,101,114]),(.str [110,117,109,98,101,114])])])(z0:nsIn K RH "ValueError" = Zz Zy)(z1:nsIn K RH "all" = Zz Zy)(z2:nsIn K RH "bool" = Zz Zy)(z3:nsIn K RH "enumerate" = Zz Zy)(z4:nsIn K RH "int" = Zz Zy)(z5:nsIn K RH "isinstance" = Zz Zy)(z6:nsIn K RH "len" = Zz Zy)(z7:nsIn K RH "list" = Zz Zy)(z8:nsIn K RH "min" = Zz Zy)(z9:nsIn K RH "range" = Zz Zy)(z10:nsIn K RH "set" = Zz Zy)(z11:nsIn K RH "sorted" = Zz Zy)(z12:nsIn K RH "str" = Zz Zy)(z13:nsIn K RH "tuple" = Zz Zy)(z14:nsIn K RH "zip" = Zz Zy)(cx0:nsIn K RH "NoText" = Zz (Zz (.ref 107)))(cx1:nsIn K RH "TooLate" = Zz (Zz (.ref 186)))(cx2:nsIn K RH "NoNumber" = Zz (Zz (.ref 222)))(cx3:nsIn K RH "NoName" = Zz (Zz (.ref 174)))(cx4:nsIn K RH "NoLine" = Zz (Zz (.ref 246)))(cx5:nsIn K RH "HasName" = Zz (Zz (.ref 162)))(cx6:nsIn K RH "Full" = Zz (Zz (.ref 198)))(cx7:nsIn K RH "BadTime" = Zz (Zz (.ref 150)))(cx8:nsIn K RH "BadRule" = Zz (Zz (.ref 119)))(cx9:nsIn K RH "BadOffer" = Zz (Zz (.ref 131)))(cx10:nsIn K RH "BadMany" = Zz (Zz (.ref 210)))(cx11:nsIn K RH "BadBook" = Zz (Zz (.ref 234)))(cx12:nsIn K RH "MateError" = Zz (Zz (.ref 87))){qf0:RC}{qod0 qan0:Option RC}{qsl0:Array (Option R4)}{qoc0 qkV0 qdc0 qpm0 qcd0 qct0:R4}(q0a:E4 K 107=true)(q0b:keepIn K (.ref 107)=true)(q0c:findIn K (.ref 107) "__setattr__" = Zz (Zz (.builtin "object.__setattr__")))(q0d:FH K 107=true)(q0e:findIn K (.ref 107) "at" = Zz Zy)(q0f:PySem.W.hasDictIn K 107=true)(q0g:findIn K (.ref 107) "__init__" = Zz (Zz (.ref qf0)))(q0h:PySem.W.typeIn K (.ref qf0)=Zz (.type "function"))(q0i:K.lookup qf0=Zz ⟨qoc0,qod0,.func (fnOf "__init__" "NoText.__init__" (fE dW) (cC dW) (ai dW) .none qkV0 qdc0 qpm0 qan0 qcd0 qct0),qsl0⟩)(q0j:codeIn K qcd0 "NoText.__init__" = true)(q0k:keepIn K (.ref qf0)=true)(q1:exmOne K (.ref 107) (.ref 107)=Zz true)(q2a:PySem.W.specialIn K (.builtin "object.__class__") "__get__" = Zz (Zz (.builtin "getset_descriptor.__get__")))(q2b:PySem.W.takesIn K (.builtin "object.__class__")=Zz true)(q3a:findIn K (.ref 107) "__getattribute__" = Zz (Zz (.builtin "BaseException.__getattribute__")))(q3b:findIn K (.ref 107) "__getattr__" = Zz Zy)(q3c:PySem.W.mroIn K 107 (.type "BaseException")=Zz true)(q3d:PySem.W.hasDictIn K 107=true)(q3e:findIn K (.ref 107) "__class__" = Zz (Zz (.builtin "object.__class__")))(q3f:PySem.W.mroIn K 107 (.type "object")=Zz true)(q4:kitOne K (.ref 107) (.type "ValueError")=Zz true)(q5:kitOne K (.ref 107) (.ref 107)=Zz true)(q6:kitOne K (.ref 107) (.ref 186)=Zz false)(q7:kitOne K (.ref 107) (.ref 222)=Zz false)(q8:kitOne K (.ref 107) (.ref 174)=Zz false)(q9:kitOne K (.ref 107) (.ref 246)=Zz false)(q10:kitOne K (.ref 107) (.ref 162)=Zz false)(q11:kitOne K (.ref 107) (.ref 198)=Zz false)(q12:kitOne K (.ref 107) (.ref 150)=Zz false)(q13:kitOne K (.ref 107) (.ref 119)=Zz false)(q14:kitOne K (.ref 107) (.ref 131)=Zz false)(q15:kitOne K (.ref 107) (.ref 210)=Zz false)(q16:kitOne K (.ref 107) (.ref 234)=Zz false)(q17:exmOne K (.ref 107) (.ref 87)=Zz true): ∃fd:TV,(∀(s:RA) (v:R4),XB s fd ⟨[v],[]⟩ [("_law_script",v)])/\∀base:Rq,B6 ⟨l.prog,w,K,mg,base,[],λ_=>True⟩ (dS fns gv 64 65) 64 fa fd ["_law_script"]:=by
 have G0:=zH (st:=dW) q0i q0j q0k;have H0:=G0.binds (ps:=["self","at"]) λ_ _ _ _ _ _ us hl=>KH (us:=us) (P:=λus=>TW _ ⟨us,[]⟩=pure (U9 _ us)) hl λ_ _=>rfl
 have xi0:yD K 107 "at":=⟨q0a,q0b,⟨q0c,q0d,q0e,q0f⟩,⟨_,_,_,_,dW,"self","at",_,_,_,_,q0g,q0h,G0,xN,rfl,H0,by decide,by decide,by decide,by decide⟩⟩
 have y0:yD K 107 "at":=xi0;have y1:exmOne K (.ref 107) (.ref 107)=Zz true:=q1;have y2:DS K:=⟨q2a,q2b⟩
 have y3:v7 K 107:=⟨q3a,q3b,q3c,q3d,q3e,q3f⟩
 have y4:kitOne K (.ref 107) (.type "ValueError")=Zz true:=q4;have y5:kitOne K (.ref 107) (.ref 107)=Zz true:=q5;have y6:kitOne K (.ref 107) (.ref 186)=Zz false:=q6;have y7:kitOne K (.ref 107) (.ref 222)=Zz false:=q7;have y8:kitOne K (.ref 107) (.ref 174)=Zz false:=q8;have y9:kitOne K (.ref 107) (.ref 246)=Zz false:=q9;have y10:kitOne K (.ref 107) (.ref 162)=Zz false:=q10;have y11:kitOne K (.ref 107) (.ref 198)=Zz false:=q11;have y12:kitOne K (.ref 107) (.ref 150)=Zz false:=q12;have y13:kitOne K (.ref 107) (.ref 119)=Zz false:=q13;have y14:kitOne K (.ref 107) (.ref 131)=Zz false:=q14;have y15:kitOne K (.ref 107) (.ref 210)=Zz false:=q15;have y16:kitOne K (.ref 107) (.ref 234)=Zz false:=q16;have y17:exmOne K (.ref 107) (.ref 87)=Zz true:=q17;have T0:∀base:Rq,HC ⟨l.prog,w,K,mg,base,[],λ_=>True⟩:=λbase=>⟨T3 X G z0,T3 X G z1,T3 X G z2,T3 X G z3,T3 X G z4,T3 X G z5,T3 X G z6,T3 X G z7,T3 X G z8,T3 X G z9,T3 X G z10,T3 X G z11,T3 X G z12,T3 X G z13,T3 X G z14,rd (mg_of X G gv0) (by decide +kernel),cw (mg_of X G gv1),pr (mg_of X G gv2) gl2 gz2 gs2,cw (mg_of X G gv3),cw (mg_of X G gv4),cw (mg_of X G gv5),cw (mg_of X G gv6),cw (mg_of X G gv7),cw (mg_of X G gv8),cw (mg_of X G gv9),pr (mg_of X G gv10) gl10 gz10 gs10,cw (mg_of X G gv11),cw (mg_of X G gv12),rd (mg_of X G gv13) (by decide +kernel),cw (mg_of X G gv14),cw (mg_of X G gv15),uP (mg_of X G gv16) gl16 gz16 ge16 (by decide) gx16,pr (mg_of X G gv17) gl17 gz17 gs17,rd (mg_of X G gv18) (by decide +kernel),uP (mg_of X G gv19) gl19 gz19 ge19 (by decide) gx19,mg_of X G cx0,mg_of X G cx1,mg_of X G cx2,mg_of X G cx3,mg_of X G cx4,mg_of X G cx5,mg_of X G cx6,mg_of X G cx7,mg_of X G cx8,mg_of X G cx9,mg_of X G cx10,mg_of X G cx11,mg_of X G cx12,(y0),(y1),(y2),(y3),(y4),(y5),(y6),(y7),(y8),(y9),(y10),(y11),(y12),(y13),(y14),(y15),(y16),(y17)⟩
 have TF:∀base:Rq,Kw ⟨l.prog,w,K,mg,base,[],λ_=>True⟩:=λbase=>⟨aP X G h0 λ_ _ _ _ _ _ us hl=>bH (λ_=>rfl) us hl,aP X G h1 λ_ _ _ _ _ _ us hl=>bH (λ_=>rfl) us hl,aP X G h2 λ_ _ _ _ _ _ us hl=>bH (λ_=>rfl) us hl,aP X G h3 λ_ _ _ _ _ _ us hl=>bH (λ_=>rfl) us hl,aP X G h4 λ_ _ _ _ _ _ us hl=>bH (λ_=>rfl) us hl,aP X G h5 λ_ _ _ _ _ _ us hl=>bH (λ_=>rfl) us hl,aP X G h6 λ_ _ _ _ _ _ us hl=>bH (λ_=>rfl) us hl,aP X G h7 λ_ _ _ _ _ _ us hl=>bH (λ_=>rfl) us hl,aP X G h8 λ_ _ _ _ _ _ us hl=>bH (λ_=>rfl) us hl,aP X G h9 λ_ _ _ _ _ _ us hl=>bH (λ_=>rfl) us hl,aP X G h10 λ_ _ _ _ _ _ us hl=>l6 (λ_ _=>rfl) us hl,aP X G h11 λ_ _ _ _ _ _ us hl=>bH (λ_=>rfl) us hl,aP X G h12 λ_ _ _ _ _ _ us hl=>bH (λ_=>rfl) us hl,aP X G h13 λ_ _ _ _ _ _ us hl=>bH (λ_=>rfl) us hl,aP X G h14 λ_ _ _ _ _ _ us hl=>bH (λ_=>rfl) us hl,aP X G h15 λ_ _ _ _ _ _ us hl=>bH (λ_=>rfl) us hl,aP X G h16 λ_ _ _ _ _ _ us hl=>GC (λ_ _ _=>rfl) us hl,aP X G h17 λ_ _ _ _ _ _ us hl=>bH (λ_=>rfl) us hl,aP X G h18 λ_ _ _ _ _ _ us hl=>bH (λ_=>rfl) us hl,aP X G h19 λ_ _ _ _ _ _ us hl=>l6 (λ_ _=>rfl) us hl,aP X G h20 λ_ _ _ _ _ _ us hl=>l6 (λ_ _=>rfl) us hl,aP X G h21 λ_ _ _ _ _ _ us hl=>l6 (λ_ _=>rfl) us hl,aP X G h22 λ_ _ _ _ _ _ us hl=>l6 (λ_ _=>rfl) us hl,aP X G h23 λ_ _ _ _ _ _ us hl=>GC (λ_ _ _=>rfl) us hl,aP X G h24 λ_ _ _ _ _ _ us hl=>Lv (λ_ _ _ _=>rfl) us hl,aP X G h25 λ_ _ _ _ _ _ us hl=>bH (λ_=>rfl) us hl,aP X G h26 λ_ _ _ _ _ _ us hl=>bH (λ_=>rfl) us hl,aP X G h27 λ_ _ _ _ _ _ us hl=>bH (λ_=>rfl) us hl,aP X G h28 λ_ _ _ _ _ _ us hl=>bH (λ_=>rfl) us hl,aP X G h29 λ_ _ _ _ _ _ us hl=>bH (λ_=>rfl) us hl,aP X G h30 λ_ _ _ _ _ _ us hl=>bH (λ_=>rfl) us hl,aP X G h31 λ_ _ _ _ _ _ us hl=>l6 (λ_ _=>rfl) us hl,aP X G h32 λ_ _ _ _ _ _ us hl=>bH (λ_=>rfl) us hl,aP X G h33 λ_ _ _ _ _ _ us hl=>bH (λ_=>rfl) us hl,aP X G h34 λ_ _ _ _ _ _ us hl=>bH (λ_=>rfl) us hl,aP X G h35 λ_ _ _ _ _ _ us hl=>bH (λ_=>rfl) us hl,aP X G h36 λ_ _ _ _ _ _ us hl=>bH (λ_=>rfl) us hl,aP X G h37 λ_ _ _ _ _ _ us hl=>l6 (λ_ _=>rfl) us hl,aP X G h38 λ_ _ _ _ _ _ us hl=>l6 (λ_ _=>rfl) us hl,aP X G h39 λ_ _ _ _ _ _ us hl=>l6 (λ_ _=>rfl) us hl,aP X G h40 λ_ _ _ _ _ _ us hl=>l6 (λ_ _=>rfl) us hl,aP X G h41 λ_ _ _ _ _ _ us hl=>l6 (λ_ _=>rfl) us hl,aP X G h42 λ_ _ _ _ _ _ us hl=>GC (λ_ _ _=>rfl) us hl,aP X G h43 λ_ _ _ _ _ _ us hl=>bH (λ_=>rfl) us hl,aP X G h44 λ_ _ _ _ _ _ us hl=>bH (λ_=>rfl) us hl,aP X G h45 λ_ _ _ _ _ _ us hl=>l6 (λ_ _=>rfl) us hl,aP X G h46 λ_ _ _ _ _ _ us hl=>bH (λ_=>rfl) us hl,aP X G h47 λ_ _ _ _ _ _ us hl=>bH (λ_=>rfl) us hl,aP X G h48 λ_ _ _ _ _ _ us hl=>GC (λ_ _ _=>rfl) us hl,aP X G h49 λ_ _ _ _ _ _ us hl=>bH (λ_=>rfl) us hl,aP X G h50 λ_ _ _ _ _ _ us hl=>l6 (λ_ _=>rfl) us hl,aP X G h51 λ_ _ _ _ _ _ us hl=>bH (λ_=>rfl) us hl,aP X G h52 λ_ _ _ _ _ _ us hl=>bH (λ_=>rfl) us hl,aP X G h53 λ_ _ _ _ _ _ us hl=>bH (λ_=>rfl) us hl,aP X G h54 λ_ _ _ _ _ _ us hl=>bH (λ_=>rfl) us hl,aP X G h55 λ_ _ _ _ _ _ us hl=>bH (λ_=>rfl) us hl,aP X G h56 λ_ _ _ _ _ _ us hl=>bH (λ_=>rfl) us hl,aP X G h57 λ_ _ _ _ _ _ us hl=>l6 (λ_ _=>rfl) us hl,aP X G h58 λ_ _ _ _ _ _ us hl=>l6 (λ_ _=>rfl) us hl,aP X G h59 λ_ _ _ _ _ _ us hl=>bH (λ_=>rfl) us hl,aP X G h60 λ_ _ _ _ _ _ us hl=>bH (λ_=>rfl) us hl,aP X G h61 λ_ _ _ _ _ _ us hl=>bH (λ_=>rfl) us hl,aP X G h62 λ_ _ _ _ _ _ us hl=>bH (λ_=>rfl) us hl,aP X G h63 λ_ _ _ _ _ _ us hl=>bH (λ_=>rfl) us hl,aP X G h64 λ_ _ _ _ _ _ us hl=>bH (λ_=>rfl) us hl,aP X G h65 λ_ _ _ _ _ _ us hl=>bH (λ_=>rfl) us hl⟩
 obtain⟨f65,oc65,kV65,dc65,pm65,cd65,ct65,od65,an65,sl65,a65,l65,c65⟩:=h65;have e:=hfa.symm.trans (mg_of X G a65);cases e;have F65:=zH (st:=pV) l65 c65 (BP l65);refine⟨fnOf "law" "law" (fE pV) (cC pV) (ai pV) .none kV65 dc65 pm65 an65 cd65 ct65,λs v=>.of_eq rfl,λbase=>(FC (B:=⟨l.prog,w,K,mg,base,[],λ_=>True⟩) F65 o7 rfl rfl rfl λ_ _ _ _ _ hr=>(Eo (T0 base) (Fx (T0 base) (TF base) 63) hr).h).2⟩
theorem Lf{l:X1}{q:Sf}{loose:List Str}{XP:(Str->Option R4)->Rq->Prop}{d:DefRec}{K:Xv->V9}{as:List RC}{n t:Nat}(hn:l.most=Zz 63)(hdf:d.params.defaults=[])(he:∀P,as=(K P).map (·.1))(F:∀(w:TB) (mg:Str->Option R4) (fa:RC) (h:Rq),(K w.params).In h->h.Ns RH mg->mg d.name=Zz (.ref fa) ->
   ∃fd:TV,(∀(s:RA) (u:R4),XB s fd ⟨[u],[]⟩ [("_law_script",u)])/\∀base:Rq,B6 ⟨l.prog,w,K w.params,mg,base,[],λ_=>True⟩ (dS fns gv 64 65) 64 fa fd ["_law_script"]):
  PySem.W.WalkX q loose XP (PySem.W.X.obsZ as) (PySem.W.X.valZ K n t) l.row.toRowW d [] (λf vs=>T7 f vs):=by
 intro w s₀ s₁ mg mb G y fa o pm cd doc dV kV ho hd hcd hD hmg hg args vals as' L;exact Mi.DU (n:=63) (k:=64) (x:="_law_script") (YP:=λw h=>(K w.params).In h) hn (by decide) hdf ⟨rfl,by decide,by decide⟩ (λ_ _ h=>h) F (λns hl=>law_true ns hl) w s₀ s₁ mg mb G (PySem.W.InK.keeps w _ _ (PySem.W.X.z_facts he y).2.1 (PySem.W.Laid.keeps L)) fa o pm cd doc dV kV ho hd hcd hD hmg hg args vals as'
end My
set_option Elab.async false
namespace PySem.W.Fast
def tw379424557299081273:=()
def tw4893358687795644317:=()
def tw2140243518854836520:=()
def tw2102919415136684113:=()
def tw1625708917298968908:=()
def tw11076010412239433016:=()
def tw16224289070419841908:=()
def tw4011214359311252984:=()
def tw15999210030710176425:=()
def tw11263914859445834911:=()
def tw11441439250005695550:=()
def tw619829661131016938:=()
def tw13387146648018665586:=()
def tw12368814539380053147:=()
def tw16927879046798535270:=()
def tw17372302856387150273:=()
def tw2772880801461570588:=()
def tw11698320264920498672:=()
def tw1036828599593607508:=()
def tw16051178161938762783:=()
def tw6316337764620060819:=()
def tw11118427217425961610:=()
def tw127376586113732285:=()
def tw11954485624304315926:=()
def tw16003149457595955211:=()
def tw13932558680624476129:=()
def tw15822512660404519192:=()
def tw18429575051707687212:=()
def tw4378839438443015446:=()
def tw9881793944730023870:=()
def tw11171758081338353151:=()
def tw11462798656159336379:=()
def tw6686600750198351299:=()
def tw6136284846562024261:=()
def tw13586527075047197017:=()
def tw143797657329016638:=()
def tw7561196639995195917:=()
def tw14675606626791210322:=()
def tw5498614740429273885:=()
def tw10826640688101435311:=()
def tw4439441648191834762:=()
def tw527366757527669605:=()
def tw12677631212907531311:=()
def tw1879351979718784858:=()
def tw15738442364320673062:=()
def tw17134175408986277759:=()
def tw6490222008369731432:=()
def tw13870900969956723814:=()
def tw15428540526045404848:=()
def tw10481594117588057797:=()
def tw12376885483220647077:=()
def tw14154920729539316677:=()
def tw17022412683537661022:=()
def tw14642497956499050681:=()
def tw1663717011984683805:=()
def tw17591514625660201846:=()
def tw12676332214155325639:=()
def tw3719725900964181715:=()
def tw9711138684098750541:=()
def tw12008187709447525385:=()
def tw14638633785696019681:=()
def tw7108761897162053698:=()
def tw3304119973931054938:=()
def tw13258102130664743708:=()
def tw18397959199674509943:=()
def tw7086199362726763490:=()
def tw16919655885809498619:=()
def tw8432035579532914991:=()
def tw3653228365845724886:=()
def tw93770403679113639:=()
def tw4083622638416968150:=()
def tw15448727066656970886:=()
def tw891380616598332858:=()
def tw5698868913418514749:=()
def tw6086429212490870500:=()
def tw10354833376427791748:=()
def tw17246781176758693761:=()
def tw18046685269634570373:=()
def tw6573846501493214928:=()
def tw3287283029448974615:=()
def tw2492181052795885797:=()
def tw7952937549387439350:=()
def tw8099480172361511395:=()
def tw13683379376118113843:=()
def tw15278185812261034240:=()
def tw10605883723382891310:=()
def tw16373960960707430461:=()
def tw5398091440241209618:=()
def tw10711498317252180126:=()
def tw10737859407276086403:=()
def tw9487598436774237149:=()
def tw16554851519955901073:=()
def tw11852440483926627003:=()
def tw11615725959795628334:=()
def tw15708432863212592042:=()
def tw16082509213920333523:=()
def tw2977615264093143586:=()
def tw435254286757066632:=()
def tw4049097456990494889:=()
def tw8146293959565788769:=()
def tw2602843435831209203:=()
def tw1301516269267119487:=()
def tw9357075821307020083:=()
def tw7883580406311293551:=()
def tw5100991452265867044:=()
def tw7942579695836422531:=()
def tw8133387318597201119:=()
def tw13477973414823303864:=()
def tw3883935757229267100:=()
def tw15029385707324214441:=()
def tw15362697647880425706:=()
def tw5453196204002340944:=()
def tw2116663321671220875:=()
def tw15600841737470890666:=()
def tw11936408240384389563:=()
def tw3241786100243789031:=()
def tw5151697884414512744:=()
def tw4124287143351065339:=()
def tw6621234343419237632:=()
def tw11678260806452698997:=()
def tw6207002363768023120:=()
def tw13487089509526286634:=()
def tw17194039069352207598:=()
def tw3495060981601724388:=()
def tw7935196584164168198:=()
def tw8483046024709774812:=()
def tw5817993487754021719:=()
def tw6589885826641737059:=()
def tw10331453394226357401:=()
def tw8643096905521212553:=()
def tw11536534672035910915:=()
def tw3096675916849799879:=()
def tw2686556189439143788:=()
def tw13846154938961682007:=()
def tw13986613594066586660:=()
def tw18066262908841997959:=()
def tw17825735261453558836:=()
def tw3804894806036078067:=()
def tw15896143888584270047:=()
def tw2812788744242422931:=()
def tw6057167165469604979:=()
def tw7191919748280955258:=()
def tw9863896797379098636:=()
def tw18223796308976013378:=()
def tw16245386762443197760:=()
def tw18020511670640698689:=()
def tw16251967022432776952:=()
def tw3775323285563068846:=()
def tw14395553137139637475:=()
def tw3495774299287581805:=()
def tw8064280164034027597:=()
def tw4256013906453753717:=()
def tw16085927894946051913:=()
def tw3574958538334009746:=()
def tw12274819190489106431:=()
def tw18423982523311794019:=()
def tw6752879199790626527:=()
def tw8361848989620029946:=()
def tw16361851826758636267:=()
def tw13170882919565365229:=()
def tw12539426263624496869:=()
def tw2918347644462835773:=()
def tw17256279407830591931:=()
def tw5248789162439294363:=()
def tw3485430526331046665:=()
def tw3101260442973639921:=()
def tw6593849134090993998:=()
def tw10120841088572891892:=()
def tw9133771253170913800:=()
def tw2913866278498226617:=()
def tw16862175846527752959:=()
def tw8576431338418095236:=()
def tw261549489981626157:=()
def tw4103639785030596717:=()
def tw1216659500031614919:=()
def tw16795101987581387802:=()
def tw11482355547425897448:=()
def tw604882958051388108:=()
def tw15867384745434634585:=()
def tw3772699354153606658:=()
def tw3985196451981248450:=()
def tw6591363966576991560:=()
def tw12530497130919421682:=()
def tw12338879702401293650:=()
def tw17498276256301685965:=()
def tw10701220496258959649:=()
def tw9491318406109054559:=()
def tw3267145145367325857:=()
def tw7444059955672230303:=()
def tw18430032156193488853:=()
def tw17343741999777238456:=()
def tw15903422834706837669:=()
def tw9821996418928829356:=()
def tw6418102922669366550:=()
def tw6118261489697175138:=()
def tw5778708553965077229:=()
def tw8662907662393185841:=()
def tw7886750548549039679:=()
def tw16131411508005135887:=()
def tw8504499856899573270:=()
def tw4728975841190911770:=()
def tw14191621461094709969:=()
def tw14535032417979820922:=()
def tw16356932221960326459:=()
def tw15431461147056330549:=()
def tw4268891241188380716:=()
def tw7379787905382232477:=()
def tw4150901110503972816:=()
def tw6422453580554694429:=()
def tw6693144362810751377:=()
def tw12585010261839416620:=()
def tw7201920273753992949:=()
def tw10618163819053794275:=()
def tw17503113094664504962:=()
def tw10532861896694716078:=()
def tw17502159646603719532:=()
def tw13582704780261144366:=()
def tw17148761626037675724:=()
def tw13873113206253575672:=()
def tw2969772025547809991:=()
def tw13192746366739490874:=()
def tw10598953424124204606:=()
def tw6517788270701365841:=()
def tw4938130712289664105:=()
def tw5376605437220356660:=()
def tw10372775944836909706:=()
def tw1084571326969068265:=()
def tw7610286315047742296:=()
def tw11354412471116048410:=()
def tw1967935411933006008:=()
def tw795942489909819028:=()
def tw15361732606724083396:=()
def tw13565879695053474267:=()
def tw8168589127318133531:=()
def tw16633333431565649123:=()
def tw286877096230656001:=()
def tw6158366139422874359:=()
def tw10134268783871113517:=()
def tw555430999279825292:=()
def tw7935653456596894524:=()
def tw10242687019255929378:=()
def tw15790428583864825467:=()
def tw5550890996481088638:=()
def tw18435817167889661496:=()
def tw14048207675448626182:=()
def tw13960522685151920266:=()
def tw6822885666679024046:=()
def tw14129941406893273914:=()
def tw10310358332959316568:=()
def tw6305670567922719260:=()
def tw17889194656411235385:=()
def tw2837696057835761906:=()
def tw10626786586696439126:=()
def tw10262854905499588681:=()
def tw2602464854307477631:=()
def tw1678427486769569060:=()
def tw14685115939427218487:=()
def tw11007332086079469936:=()
def tw248310598362013647:=()
def tw11199440965064242321:=()
def tw1300167971506320732:=()
def tw3210728019369419966:=()
def tw6520716290696071368:=()
def tw17183048937152428242:=()
def tw606753721932633361:=()
def tw9646362103659298933:=()
def tw6595051898433974644:=()
def tw3994320088094783852:=()
def tw17352842069728998684:=()
def tw15870242337219105756:=()
def tw9901480744721021248:=()
def tw5434063151182368072:=()
def tw7531687933392250957:=()
def tw1430376226808443734:=()
def tw13699032144818133566:=()
def tw4834163606478704691:=()
def tw14597091502945688953:=()
def tw6167255594409780607:=()
def tw555675200846223226:=()
def tw8662308270924560889:=()
def tw15281315648184652160:=()
def tw5830524230415135407:=()
def tw4871121292267879349:=()
def tw13793407609863225935:=()
def tw14375260016816139094:=()
def tw17153464317870706854:=()
def tw5937508402249496289:=()
def tw13310247416044243914:=()
def tw6796301391208823267:=()
def tw8748693316344687671:=()
def tw2583362432772675105:=()
def tw6760639778313499958:=()
def tw8140315639049145011:=()
def tw3197586926455139159:=()
def tw13289345262338818129:=()
def tw1379949671256877381:=()
def tw1856240595226736633:=()
def tw18340550477143301727:=()
def tw7615212954503787783:=()
def tw3705148368536701157:=()
def tw7350421991211974901:=()
def tw11527775068498365102:=()
def tw6628224707345396794:=()
def tw9981478159248513466:=()
def tw7200688805321817342:=()
def tw12703960235075539921:=()
def tw11037861983246255773:=()
def tw8348428582546581477:=()
def tw2971376390634234861:=()
def tw14515838110100581513:=()
def tw470702902675417290:=()
def tw8464604046333997208:=()
def tw12515622067906959799:=()
def tw1747463149992528921:=()
def tw16906538532531836247:=()
def tw2725835318805849765:=()
def tw6242404465512515458:=()
def tw8941718555145033403:=()
def tw8212907122079027129:=()
def tw17647432375254459726:=()
def tw9993670958824528057:=()
def tw10511830301772096403:=()
def tw10537184384568649000:=()
def tw2129963035374560992:=()
def tw15891349607000802443:=()
def tw11831583251327311621:=()
def tw2994790217057589198:=()
def tw10056523864460377341:=()
def tw11284015948897357172:=()
def tw5634708076619703565:=()
def tw753443542539428033:=()
def tw7044146662831440299:=()
def tw12214452864999810097:=()
def tw11156692924811444133:=()
def tw11713715655912927270:=()
def tw8855150027533074402:=()
def tw15170613031504445185:=()
def tw11146453298186391463:=()
def tw18392517643381301465:=()
def tw3865473976040144191:=()
def tw16551384434663547606:=()
def tw10049950551015034890:=()
def tw8402564172991633505:=()
def tw12737231443807777202:=()
def tw14357976765232833490:=()
def tw3757306238973117766:=()
def tw13902009472812500040:=()
def tw104856852925975316:=()
def tw1103404755509847104:=()
def tw17253079982978146697:=()
def tw9757214966381615299:=()
def tw3664041031267678763:=()
def tw10885269188551622549:=()
def tw10542819927715831087:=()
def tw3249742370008851938:=()
def tw4474789996556073543:=()
def tw12591294654300626759:=()
def tw6398258675142419765:=()
def tw11856852160128664851:=()
def tw2375053063108014163:=()
def tw17260575490722202281:=()
def tw879796733125815369:=()
def tw11466832120260576789:=()
def tw12242743452803743619:=()
def tw1147487491308490576:=()
def tw6175002034214691025:=()
def tw4519277267711493617:=()
def tw7813726979592615160:=()
def tw5090739443474146110:=()
def tw17222283659869200906:=()
def tw14539289643124069963:=()
def tw5297863948891965592:=()
def tw4417897617796237189:=()
def tw13481843354927089733:=()
def tw16549573320158123014:=()
def tw11240503471549560450:=()
def tw12675792801124438045:=()
def tw10986552644088939136:=()
def tw8048318494083416167:=()
def tw1057637088807109175:=()
def tw13340182280045259128:=()
def tw13997697783941861978:=()
def tw13909125582966783889:=()
def tw1440143412751533892:=()
def tw6061252733844057052:=()
def tw15227321108634482132:=()
def tw9609781432791968201:=()
def tw1827864597324387277:=()
def tw13749225190659756334:=()
def tw2369413887676282489:=()
def tw16517365271519642123:=()
def tw14195459617284341555:=()
def tw2207230647252085176:=()
def tw5260434974012120971:=()
def tw16592636031092134273:=()
def tw14772504849358738372:=()
def tw1967136245588170154:=()
def tw586647915155141967:=()
end PySem.W.Fast
noncomputable def PySem.W.Fast.tw2731263419569460429:PySem.Program:=PySem.Challenge.pw_matepoint_k74_no_book_text
theorem PySem.W.Fast.te2731263419569460429:PySem.Challenge.pw_matepoint_k74_no_book_text=PySem.W.Fast.tw2731263419569460429:=rfl
open PySem PySem.W PyProof.Rows
set_option maxRecDepth 100000 in
set_option maxHeartbeats 0 in
theorem PySem.Challenge.cw_matepoint_k74_no_book_text_holds : PySem.Challenge.rw_matepoint_k74_no_book_text.Holds := by
 w_on;o_law;z_head;(case hw=>w_witness2)
 k_fill
 refine My.Lf (l:=PySem.Challenge.rw_matepoint_k74_no_book_text) rfl rfl (λ_=>rfl) ?F
 case F =>
  intro w mg fa h KX G hmg
  refine' My.all_mk KX G hmg ?h0 ?h1 ?h2 ?h3 ?h4 ?h5 ?h6 ?h7 ?h8 ?h9 ?h10 ?h11 ?h12 ?h13 ?h14 ?h15 ?h16 ?h17 ?h18 ?h19 ?h20 ?h21 ?h22 ?h23 ?h24 ?h25 ?h26 ?h27 ?h28 ?h29 ?h30 ?h31 ?h32 ?h33 ?h34 ?h35 ?h36 ?h37 ?h38 ?h39 ?h40 ?h41 ?h42 ?h43 ?h44 ?h45 ?h46 ?h47 ?h48 ?h49 ?h50 ?h51 ?h52 ?h53 ?h54 ?h55 ?h56 ?h57 ?h58 ?h59 ?h60 ?h61 ?h62 ?h63 ?h64 ?h65 ?gv0 ?gv1 ?gv2 ?gl2 ?gz2 ?gs2 ?gv3 ?gv4 ?gv5 ?gv6 ?gv7 ?gv8 ?gv9 ?gv10 ?gl10 ?gz10 ?gs10 ?gv11 ?gv12 ?gv13 ?gv14 ?gv15 ?gv16 ?gl16 ?gz16 ?ge16 ?gx16 ?gv17 ?gl17 ?gz17 ?gs17 ?gv18 ?gv19 ?gl19 ?gz19 ?ge19 ?gx19 ?z0 ?z1 ?z2 ?z3 ?z4 ?z5 ?z6 ?z7 ?z8 ?z9 ?z10 ?z11 ?z12 ?z13 ?z14 ?cx0 ?cx1 ?cx2 ?cx3 ?cx4 ?cx5 ?cx6 ?cx7 ?cx8 ?cx9 ?cx10 ?cx11 ?cx12 ?q0a ?q0b ?q0c ?q0d ?q0e ?q0f ?q0g ?q0h ?q0i ?q0j ?q0k ?q1 ?q2a ?q2b ?q3a ?q3b ?q3c ?q3d ?q3e ?q3f ?q4 ?q5 ?q6 ?q7 ?q8 ?q9 ?q10 ?q11 ?q12 ?q13 ?q14 ?q15 ?q16 ?q17
  (case h0|h1|h2|h3|h4|h5|h6|h7|h8|h9|h10|h11|h12|h13|h14|h15|h16|h17|h18|h19|h20|h21|h22|h23|h24|h25|h26|h27|h28|h29|h30|h31|h32|h33|h34|h35|h36|h37|h38|h39|h40|h41|h42|h43|h44|h45|h46|h47|h48|h49|h50|h51|h52|h53|h54|h55|h56|h57|h58|h59|h60|h61|h62|h63|h64|h65=>refine' My.fe_in ?a ?l ?c;(case a=>k_is);(case l=>k_is);(case c=>k_is))
  (case gv0|gv1|gv2|gl2=>k_is)
  (case gz2=>decide)
  (case gs2=>exact(.cons (by decide +kernel) (.cons (by decide +kernel) (.cons (by decide +kernel) (.cons (by decide +kernel) (.cons (by decide +kernel) (.cons (by decide +kernel) .nil)))))))
  (case gv3|gv4|gv5|gv6|gv7|gv8|gv9|gv10|gl10=>k_is)
  (case gz10=>decide)
  (case gs10=>exact(.cons (by decide +kernel) (.cons (by decide +kernel) (.cons (by decide +kernel) .nil))))
  (case gv11|gv12|gv13|gv14|gv15|gv16|gl16=>k_is)
  (case gz16=>decide)
  (case ge16=>exact(Mi.gt.cons (by decide +kernel) (by with_unfolding_all rfl) (Mi.gt.cons (by decide +kernel) (by with_unfolding_all rfl) Mi.gt.nil)))
  (case gx16=>exact(Mi.fF.cons (Mi.bC (by decide +kernel)) (Mi.fF.cons (Mi.bC (by decide +kernel)) Mi.fF.nil)))
  (case gv17|gl17=>k_is)
  (case gz17=>decide)
  (case gs17=>exact(.cons (by decide +kernel) (.cons (by decide +kernel) .nil)))
  (case gv18|gv19|gl19=>k_is)
  (case gz19=>decide)
  (case ge19=>exact(Mi.gt.cons (by decide +kernel) (by with_unfolding_all rfl) (Mi.gt.cons (by decide +kernel) (by with_unfolding_all rfl) (Mi.gt.cons (by decide +kernel) (by with_unfolding_all rfl) (Mi.gt.cons (by decide +kernel) (by with_unfolding_all rfl) (Mi.gt.cons (by decide +kernel) (by with_unfolding_all rfl) (Mi.gt.cons (by decide +kernel) (by with_unfolding_all rfl) (Mi.gt.cons (by decide +kernel) (by with_unfolding_all rfl) Mi.gt.nil))))))))
  (case gx19=>exact(Mi.fF.cons (Mi.jV (by k_is) (by decide) (Mi.fF.cons (Mi.bC (by decide +kernel)) (Mi.fF.cons (Mi.bC (by decide +kernel)) (Mi.fF.cons (Mi.bC (by decide +kernel)) Mi.fF.nil)))) (Mi.fF.cons (Mi.jV (by k_is) (by decide) (Mi.fF.cons (Mi.bC (by decide +kernel)) (Mi.fF.cons (Mi.bC (by decide +kernel)) Mi.fF.nil))) (Mi.fF.cons (Mi.jV (by k_is) (by decide) (Mi.fF.cons (Mi.bC (by decide +kernel)) (Mi.fF.cons (Mi.bC (by decide +kernel)) (Mi.fF.cons (Mi.bC (by decide +kernel)) Mi.fF.nil)))) (Mi.fF.cons (Mi.jV (by k_is) (by decide) (Mi.fF.cons (Mi.bC (by decide +kernel)) (Mi.fF.cons (Mi.bC (by decide +kernel)) (Mi.fF.cons (Mi.bC (by decide +kernel)) Mi.fF.nil)))) (Mi.fF.cons (Mi.jV (by k_is) (by decide) (Mi.fF.cons (Mi.bC (by decide +kernel)) (Mi.fF.cons (Mi.bC (by decide +kernel)) (Mi.fF.cons (Mi.bC (by decide +kernel)) Mi.fF.nil)))) (Mi.fF.cons (Mi.jV (by k_is) (by decide) (Mi.fF.cons (Mi.bC (by decide +kernel)) (Mi.fF.cons (Mi.bC (by decide +kernel)) (Mi.fF.cons (Mi.bC (by decide +kernel)) (Mi.fF.cons (Mi.bC (by decide +kernel)) Mi.fF.nil))))) (Mi.fF.cons (Mi.jV (by k_is) (by decide) (Mi.fF.cons (Mi.bC (by decide +kernel)) (Mi.fF.cons (Mi.bC (by decide +kernel)) Mi.fF.nil))) Mi.fF.nil))))))))
  (case z0|z1|z2|z3|z4|z5|z6|z7|z8|z9|z10|z11|z12|z13|z14|cx0|cx1|cx2|cx3|cx4|cx5|cx6|cx7|cx8|cx9|cx10|cx11|cx12=>k_is)
  (case q0a=>kernel_rfl)
  (case q0b|q0c=>k_is)
  (case q0d=>kernel_rfl)
  (case q0e|q0f|q0g|q0h|q0i|q0j|q0k=>k_is)
  (case q1=>kts_exm)
  (case q2a|q2b|q3a|q3b|q3c|q3d|q3e|q3f=>k_is)
  (case q4|q5|q6|q7|q8|q9|q10|q11|q12|q13|q14|q15|q16=>kit_is)
  (case q17=>kts_exm)
end
