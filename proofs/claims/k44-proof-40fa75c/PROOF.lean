import PyProof.Rows.All
import Wide.All
import OpenK.AllK
import Wide.FinOn
import Lean
import PyProof.EqAt
import PyProof.EqKinds
import PyProof.TupleCall
import PyProof.ToksMono
import PyProof.StrCalls6
import PyProof.StrLawsReplace
import PyProof.DictUpdate
import PyProof.AutoListH
import PyProof.PassesOwn
import PyProof.Rows.StrSplitMax
import PyProof.Rows.SortWalk
import PyProof.Rows.SortShellK
import PyProof.Rows.SortRunsK
import PyProof.NeKinds
import KE.KSortTup
import KE.KNestM
import KE.KLam
import PySem.Challenge.RW_matepoint_k44_who_meets_first
set_option Elab.async false
set_option linter.all false
set_option maxRecDepth 100000
noncomputable section
theorem Yq{c:Prop}{h:Decidable c}(hc:c){α:Sort u}{t e:α}:ite c t e=t:=if_pos hc
theorem Yr{c:Prop}{h:Decidable c}(hc:¬c){α:Sort u}{t e:α}:ite c t e=e:=if_neg hc
theorem Ys{p:Prop}[Decidable p](h:¬p):decide p=false:=decide_eq_false h
theorem Yt{p:Prop}[Decidable p](h:p):decide p=true:=decide_eq_true h
theorem Yu{α}[BEq α][LawfulBEq α]{a b:α}:(a==b)=false↔a≠b:=beq_eq_false_iff_ne
theorem Yv{a b:Prop}(h:a)(k:¬a):b:=absurd h k
theorem Yw{p:Prop}[i:Decidable p](h:decide p=true):p:=of_decide_eq_true h
open Option renaming some->Zz,none->Zy,ite_none_right_eq_some->RE,bind_eq_some_iff->RF,map_eq_some_iff->RY,isSome_iff_exists->Tr,bind_some->X2
open PySem renaming wpAny_bind->R0,Value->R3,wpAny_pure->R4,Shared->R9,Addr->RB,wpAny->RJ,model->Rn,sizeLine->Ru,mainGlobals->Rz,Program->S9,Heap->SA,wpAny_holding->SH,Expr->SL,wpAny_loadPart'->SP,Around->SV,wpAny_call_entry->SW,World->SY,wpAny_callSpecial?_slot->Sc,wpAny_newObj_type->So,strKind->Sv,wpAny_Call_Name_kw->Sy,mem_of_lookup->T6,sizeLine_eq->TB,wpAny_execs_cons->TD,call->TE,wpAny_rule->TG,wpAny_setEntries_of->TJ,wpAny_setState_of->TK,wpAny_field->TL,Stmt->TM,codeAny_builtin->TQ,wpAny_mono->Ta,wpAny_seqItems->Tb,Env->Td,letOwnedTupleGo->Te,bindArgs->Tf,call_meets->Tl,wpAny_standAt->Tq,wpAny_setField->Tv,wpAny_truthy_bool->Tz,wpAny_passesOwn->UL,starEach->US,foldedSetIterable->UV,FuncData->UW,wpAny_attempt->UX,plainId_quiet->UY,Comprehension->Ub,wpAny_askSetting->Uf,Scope->Uk,codeAny_mono->Ul,assignEach->Uq,wpAny_setField_rec->Ur,SetTable->Ut,codeAny->Ux,wpAny_pyIter_list->V0,wpAny_fieldsOf->V3,NameKind->V6,bootBuiltins->VC,attributeBase->VN,standAt->VR,builtinsNs->VX,scanBound->VZ,pickOrder->Va,sliceBounds->Ve,cellsFrom->Vf,wpAny_typeOf->Vm,compTurn->Vo,recursionLimit->Vp,builtinLookup_eq_fast->Vs,compareOp->Vx,wpAny_newList->W3,wpAny_ite_false->WA,wpAny_Assign_stores->WG,merged_nil_of_nodup->WH,getItem->WL,wpAny_newTuple->WM,relayAll->WO,wpAny_pyIter_tuple->WT,fits_of_scanBound->Wb,subscripted->Wh,wpAny_assign_Name->Wi,call_list_seq->Wk,IsPart->Wl,wpAny_eqBool_int->Wo,slotArgs->Wu,wpAny_isInstance->Wv,binaryOp->Wx,noFill_tuple_add->Wy,codeAmong->X0,typeLookup->X7,valueAt->X8,codeAny_of_tree->XD,typeLookup_type->XE,wpAny_execs_nil->XH,wpAny_of_eq->XO,isSubtype_type->XQ,fitsIndex_both->XR,slicePicked->XS,Fin->XX,holding->XY,Arguments->Xa,TriplesOk->Xb,seq_tuple_add->Xd,behindInMarks->Xe,swapsWithSole->Xg,swappedStores->Xh,wpAny_onRaise->Xi,typeIs_int->Xm,setAddHashed->Xv,concat_meets->Xy,Keyword->Y0,BindsTo->Y2,swapsWith->Y8,wpAny_letGo->YB,wpAny_alloc->YC,keywordEach->YD,callerA->YG,wpAny_call->YJ,entryFor->YK,setsByText->YL,Operator->YM,wpAny_Name->YN,Flow->YQ,closureFor->YR,defaultsOf->YS,drawOrder->YV,IsZip->YW,compStart->YX,noteFrame->YY,setNext->YZ,spliced->Ya,PlainL->Yb,operate->Yc,IsPair->Ye,raiseNew->Yf,Meets->Yh,IntMulOk->Yi,backToKw->Yj,ZipApart->Yk,Params->Ym,Model->Yo,Drawn->Yp
open List renaming length_map->R1,mem_cons_of_mem->R2,mem_cons->R5,mem_cons_self->R6,getElem?_eq_getElem->R8,getElem?_eq_some_iff->RA,map_cons->RG,length_append->RI,mem_append->RN,set_cons_zero->RP,mem_singleton->RQ,length_eq_zero_iff->RR,mem_map->RS,set_cons_succ->RU,not_mem_nil->RV,range->Rf,append_assoc->Rg,getElem?_map->Rj,length_cons->Rp,map_map->Rq,getElem?_set_ne->Rs,pairwise_cons->Rv,replicate->Rx,length_singleton->S3,getElem?_append_right->S4,getElem?_set_self->S6,getElem?_append_left->S7,take_of_length_le->SC,drop_eq_nil_of_le->SD,size_toArray->SE,Nodup->SF,pairwise_append->SJ,take_append_of_le_length->SK,pairwise_map->SN,length_filter_le->SO,drop_eq_getElem_cons->SQ,mem_of_getElem?->SS,all_eq_true->SX,append_nil->SZ,mem_append_right->Sa,pairwise_singleton->Sb,getElem_of_mem->Sf,length_take->Sh,map_append->Si,lookup_cons->Sk,mem_iff_getElem->Sl,mem_append_left->Sn,exists_of_findSome?_eq_some->Sp,nodup_cons->Ss,mem_range->Su,nil_append->Sz,length_nil->T2,length_drop->T4,flatMap_cons->T9,length_zip->TP,mem_flatMap->TS,getElem?_take->Th,getElem_mem->Ti,isEmpty_nil->Tj,filter_cons->Tn,drop_zero->Tt,nodup_nil->Tu,forall_mem_cons->Tx,length_set->U1,replicate_succ->U5,getElem?_drop->U9,length_eraseIdx_of_lt->UB,mem_filterMap->UC,set_append_right->UE,foldl_cons->UI,forIn_cons->UK,mem_filter->UM,length_range->UR,flatten_cons->UU,map_congr_left->Ud,drop_drop->Ue,drop_append_of_le_length->Ui,eq_nil_of_length_eq_zero->Uj,zip_cons_cons->Us,take_append_drop->Uv,contains_iff_mem->Uw,ext_getElem?->Uy,nodup_append->Uz,perm_ext_iff_of_nodup->V7,set_append_left->V8,zip->V9,take_length->VE,map_fst_zip->VF,pairwise_iff_getElem->VG,take_set_of_le->VI,of_mem_zip->VS,getElem?_replicate->Vg,perm_append_comm->Vr,getElem?_eq_none->Vt,getElem_inj->Vu,any_eq_true->Vy,getElem_zip->W0,take_add->W2,length->W7,take_left'->WD,filterMap_cons->WF,filter_sublist->WI,forIn_nil->WN,foldl->WR,getElem_range->WU,take_add_one->WZ,foldl_append->Wj,zipIdx_cons->Wq,cons_append->Wr,ext_getElem->X1,flatMap_nil->X3,getD->Xc,all_cons->Xf,set_comm->Xl,map_nil->Xo,set_set->Y5,Sublist->Y6,map->Yl
open PySem.Heap renaming get?_push_of_some->R7,get?_push_size->RM,lt_size->Rm,get?_none_of_le->Rt,size_push->T3,get?_update_ne->T5,get?_update_self->TN,get?_push_ne->TY,get?_update_other->Tc,SameBut->Up,ExtBut->Vb,size_update->Vv
open Nat renaming le_refl->RC,le_trans->Ro,ne_of_lt->Rr,lt_succ_of_lt->SG,zero_le->SI,add_sub_cancel_left->SM,lt_irrefl->SU,le_of_lt->T7,lt_of_lt_of_le->TA,le_add_right->U7,min_eq_left->UJ,sub_self->UP,le_succ->UQ,lt_or_ge->Um,lt_succ_self->VB,eq_or_lt_of_le->VU,le_of_eq->Vj,mul_le_mul_right->W9,sub_zero->X4,ne_of_gt->X6,zero_add->X9,min_self->Xu,lt_trans->Y1,not_lt->YI
open Array renaming length_toList->RD,getElem?_toList->RZ,toList_append->SR,toList_setIfInBounds->U8,toList_push->UO,getElem?_eq_none_iff->V4,isEmpty_toList->W6,toList_map->Ws,size_map->XM
open PyProof.Rows renaming wpS_bind->RH,wpS_pure->RO,Keyed->RX,pendingOf->Rk,SortSt->S5,wpS_forRange->Sr,callWith_builtin1->TC,IntsAre->TU,callWith_type1->TV,SortKind->TX,failedOf->U3,listUpdate_at->U6,wpS_mono->UN,pairsOf_toList->Uh,pairsOf->Uo,wpS_modify->V2,get?_update_seq->VP,wpS_get->Vh,slot_tuple_getitem->Vq,minRun'->WJ,seqEpoch_at->Wa,StrsAre->Wc,subscriptTail->Wm,wpS_lift->Wp,size_push'->X5,entry_list_sort->XC,gallopOf->XJ,keyKind'->XK,slot_list_sort->XN,AllBare->XW,listItems_at->Xq,pairsOf_size->Xr,plain_sorted->Xs,entry_sorted->Xt,oneType'->Y3,mem_zip_self->Y4,sortedAll->Y7,kind_sorted->YA,Subscript_->YO,IsTup->Yg
open Bool renaming and_eq_true->RK,false_ne_true->RL,false_eq_true->Ri,not_true->TW,or_eq_true->U2,true_and->VO,eq_false_iff->Wd,or_true->XA,eq_iff_iff->XG,false_or->Xk
open PySem.Obj renaming mapSeq->Rh,data_mapFields->Sx,isFreed_of_fields->UF,mapFields->VJ,cls_mapFields->Vl,putSet->WP
open And renaming intro->Rw
open PySem.NameKind renaming free->Ry,cell->Wn
open PySem.Heap.SameBut renaming update->Se
open Option.some renaming inj->Sj
open PySem.PyData renaming eqv->Sq,canLay0->Ug,depth->VD,eqvAll->W5,canLayAll0->Wf,depthAll->XF
open PySem.Around renaming under_plainId->Sw
open Int renaming toNat_natCast->T8,emod_lt_of_pos->WY,emod_nonneg->XI
open ForInStep renaming yield->TR
open List.Perm renaming refl->TZ,eq_of_pairwise->Uc,append_left->Uu,append_right->Vi,swap->WQ,trans->XB
open PySem.Calls renaming spliced_cons->Tk,spliced_nil->UT
open PySem.W renaming mg_none_of->To,Frag->V5,codeHdIn->WX,cellsFrom_some->XU,kia_one->XZ,OpenLaw->Xp,hideAll->YH,Looks->YT
open PySem.Value renaming isStrOf->Tp,type->VV,none->VW,ref->VY,bool->Vz,isStrOf_shape->WE,int->XV,str->YU
open PySem.SetTable renaming below->Tw,grown->UA
open PySem.F renaming plainAttrs_list->U0,slot_tuple_iterator_next->UD,args_tuple_add_2->VM,entry_tuple_add->Vd,slot_tuple_add->Vn,slot_list_lt->W8,slot_int_rmul->WB,slot_zip_next->WC,args_tuple_mul_2->WS,entry_tuple_mul->We,slot_tuple_mul->Wz
open PyProof.Rows.F renaming plain_set_update_loop->U4
open PySem.Builtin.Slice renaming slicePlaces->UG,sliceAdjust->VH
open PySem.Builtin.SmallTypes renaming nextOf->UH
open PySem.Builtin.List renaming listTooLong->UZ
open PySem.Builtin.Tuple renaming tupleExact->Ua
open PyProof.Rows.SortSt renaming mk'->Un
open Sum renaming inl->VA,inr->W1
open PySem.AutoSeq1 renaming sub_tuple_tuple->VL,idx_int->Ww
open Ne renaming symm->VQ
open PySem.Builtin.Str renaming occurrences->Vc
open PySem.Str renaming ofString->Vk
open PySem.Walks renaming list->Vw,tuple->Wg,strAscii->XT,strWide->Xj,range->YE
open PySem.Shared renaming TypeIs->W4
open True renaming intro->WV
open False renaming elim->WW
open PySem.SeqAt renaming EqAt->Xn
open PySem.pickOrder renaming go->Xw
open Nat.succ renaming inj->Xx
open Prod renaming ext->Xz
open Sum.inl renaming inj->Y9
open Prod.mk renaming inj->YF
open Or renaming inr->Yd,inl->Yn
open PySem.W (Frag OpenLaw cellsFrom_some codeHdIn codeIn envX fnOf hideAll keepIn kia_one kla_fn mg_none_of mg_of nsIn tabObj)
section
set_option Elab.async false
namespace L2
open PySem PySem.Spec PyProof.Rows
noncomputable abbrev Key:=Sum Int Str
noncomputable def mH:Key->R3->Bool
 |.inl k,v=>Value.isInt k v
 |.inr x,v=>Tp x v
noncomputable def IP(w:SY):Key->Int
 |.inl k=>hashInt k
 |.inr x=>hashStr w x
theorem bH:∀{k:Key}{v:R3},mH k v=true->(∃i t,k=VA i/\v=XV i t)∨(∃x t,k=W1 x/\v=YU x t)
 |.inl i,v,h=>by
  obtain⟨t,e⟩:=Value.isInt_shape (k:=i) (v:=v) h;exact .inl ⟨i,t,rfl,e⟩
 |.inr x,v,h=>by
  obtain⟨t,e⟩:=WE (x:=x) (v:=v) h;exact .inr ⟨x,t,rfl,e⟩
theorem zn(i:Int)(t:Tok):mH (.inl i) (.int i t)=true:=by simp[mH,Value.isInt]
theorem zm(x:Str)(t:Tok):mH (.inr x) (.str x t)=true:=by simp[mH,Tp]
theorem F5(a b:Int):decide ((VA a:Key)=VA b)=(a==b):=by
 by_cases e:a=b
 ·subst e;simp
 ·have h:¬(VA a:Key)=VA b:=λq=>e (Y9 q)
  rw[Ys h];exact(Yu.mpr e).symm
theorem FX(a b:Str):decide ((W1 a:Key)=W1 b)=decide (a=b):=by
 by_cases e:a=b
 ·subst e;simp
 ·have h:¬(W1 a:Key)=W1 b:=λq=>e (Sum.inr.inj q)
  rw[Ys h,Ys e]
theorem FY(a:Int)(b:Str):decide ((VA a:Key)=W1 b)=false:=Ys (λq=>nomatch q)
theorem Gr(a:Str)(b:Int):decide ((W1 a:Key)=VA b)=false:=Ys (λq=>nomatch q)
noncomputable def bx(prog:S9)(w:SY):PySem.KeyKind prog w Key where
 is:=mH
 hash:=IP w
 inj:=λv a b ha hb=>by
  rcases bH ha with⟨i,t,rfl,rfl⟩|⟨x,t,rfl,rfl⟩
  ·rcases bH hb with⟨j,u,rfl,e⟩|⟨y,u,rfl,e⟩
   ·injection e with e1 _;rw[e1]
   ·exact nomatch e
  ·rcases bH hb with⟨j,u,rfl,e⟩|⟨y,u,rfl,e⟩
   ·exact nomatch e
   ·injection e with e1 _;rw[e1]
 byValue:=λk v h=>by
  rcases bH h with⟨i,t,rfl,rfl⟩|⟨x,t,rfl,rfl⟩<;>rfl
 pyHash:=λhv h=>by
  rcases bH hv with⟨i,t,rfl,rfl⟩|⟨x,t,rfl,rfl⟩
  ·exact wpAny_pyHash_int h
  ·exact wpAny_pyHash_str h
 eqBool:=λhu hv h=>by
  rcases bH hu with⟨i,t,rfl,rfl⟩|⟨x,t,rfl,rfl⟩
  ·rcases bH hv with⟨j,u,rfl,rfl⟩|⟨y,u,rfl,rfl⟩
   ·rw[F5]at h;exact Wo h
   ·rw[FY]at h;exact SeqAt.EqAt.int_str i t y u _ _ _ _ h
  ·rcases bH hv with⟨j,u,rfl,rfl⟩|⟨y,u,rfl,rfl⟩
   ·rw[Gr]at h;exact SeqAt.EqAt.str_int x t j u _ _ _ _ h
   ·rw[FX]at h;exact wpAny_eqBool_str h
 «strs»:=λk x t v h=>by
  rcases bH h with⟨i,u,rfl,e⟩|⟨y,u,rfl,e⟩
  ·exact nomatch e
  ·injection e with e1 _
   subst e1;cases v<;>rfl
theorem uh(prog:S9)(w:SY)(i:Int)(t:Tok):(bx prog w).is (.inl i) (.int i t)=true:=zn i t
theorem mY(prog:S9)(w:SY)(x:Str)(t:Tok):(bx prog w).is (.inr x) (.str x t)=true:=zm x t
end L2
namespace Att
open PySem PySem.W PySem.Calls PyProof.Rows
theorem ni{P:Ym}{h:SA}:∀(ns:List Int) (vs:List R3),WellAll P h vs (ns.map WData.int)->TU vs ns:=by
 intro ns
 induction ns with
 |nil =>
  intro vs w;rw[Xo]at w;cases w;exact .nil
 |cons n ns ih =>
  intro vs w;rw[RG]at w;cases w with
  |cons a b =>
   cases a;exact .cons _ _ (ih _ b)
theorem yL{l:Xp}{n:Nat}(hn:l.most=Zz n){P:Ym}{h:SA}{args:List WData}{vals:List R3}(hpre:l.row.toRowW.claim.pre args=true)(hwl:WellAll P h vals args):
  ∃a vs ns,vals=[VY a]/\args=[WData.list (ns.map WData.int)]/\h.get? a=Zz { cls:=.type "list",data:=.seq vs.toArray }/\TU vs ns/\ns.length<=n:=by
 have hsh:WShape.hasAll [] args [.list .int]=true:=(pre_splitW hpre).1;have hc:l.pre.holds [] { args:=args }=true:=(pre_splitW hpre).2;obtain⟨d,r,rfl,h1,h2⟩:=hasAllW_cons hsh;obtain rfl:=hasAllW_nil h2;obtain⟨xs,rfl,h3⟩:=hasW_list h1;obtain⟨ns,rfl⟩:=items_int h3;have hlen:ns.length<=n:=by
  unfold OpenLaw.pre at hc;have h4:(WTm.not (.lt (.lit (.int (n:Int))) (.len (.arg 0)))).holds [] { args:=[.list (ns.map .int)] }=true:=by
   have h4:=(holds_andW hc).1;rw[hn]at h4;exact h4
  have h5:=condW_of h4 (w_not (w_lt w_lit (w_len_list (w_arg rfl))));rw[R1]at h5;refine Nat.le_of_not_lt λq=>?_
  have q':(n:Int)<((ns.length:Nat):Int):=by omega
  first
   |(rw[Yt q']at h5;exact Yv h5 (by decide))
   |(simp at h5;omega)
 cases hwl with
 |cons w1 w2 =>
  cases w2;cases w1 with
  |list ho hall=>exact⟨_,_,ns,rfl,rfl,ho,ni ns _ hall,hlen⟩
theorem zp(l:Xp)(args:List WData):l.row.toRowW.claim.post args (.bool true) args=true:=
 postW_of (r:=l.row.toRowW) (X:=(true==true))
  (show WShape.has [] (.bool true) .bool=true by first|rfl|decide|simp[WShape.has,WShape.arms,WShape.armsAll])
  (show(WTm.eq .res (.lit (.bool true))).value [] { args:=args,res:=Zz (.bool true),after:=args }=Zz (.bool (true==true))from w_eq_bool (w_res rfl) w_lit) rfl
theorem tU{l:Xp}{n:Nat}{q:S9}{loose:List Str}{XP:(Str->Option R3)->SA->Prop}{YP:SY->SA->Prop}{d:DefRec}(hn:l.most=Zz n)(hdf:d.params.defaults=[])(call:∀(w:SY) (s₀ s₁:R9) (mg mb:Str->Option R3) (fa:RB) (o:Obj) (pm cd doc:R3) (a:RB) (vs:List R3) (ns:List Int),
   Ground q loose [] XP w s₀ mg mb s₁.heap->YP w s₁.heap ->
   s₁.heap.get? fa=Zz o->o.data=.func (docDef d.name d.params d.body d.scope pm cd doc)->s₁.heap.CodeRec cd d.name->mg d.name=Zz (.ref fa) ->
   s₁.heap.get? a=Zz { cls:=.type "list",data:=.seq vs.toArray }->TU vs ns->ns.length<=n->s₁.gens=#[] ->
   Ux (Rn l.prog w) YG (.call (.ref fa) ⟨[.ref a],[]⟩) (λr s'=>r=.ok (.ret (.bool true))/\OldK s₁.heap s'.heap/\s'.os=s₁.os/\XW s'.gens) s₁):
  WalkO q loose XP YP l.row.toRowW d [] (λf vs=>TE f vs):=by
 intro w s₀ s₁ mg mb G Y fa o pm cd doc dV kV ho hd hcd hD hmg hg args vals as hpre hlay hrd hwl hlo;obtain rfl:dV=.none:=Dflts.none hD hdf;obtain rfl:kV=.none:=Dflts.noKw hD;obtain⟨a,vs,ns,rfl,rfl,hobj,hints,hlen⟩:=yL hn hpre hwl;refine enter_call (Ul (call w s₀ s₁ mg mb fa o pm cd doc a vs ns G Y ho (fd_plain hd) hcd hmg hobj hints hlen hg) λr s' hq=>?_);obtain⟨rfl,h2,h3,h4⟩:=hq;exact⟨.inl ⟨.bool true,.bool true,[],rfl,λ_=>rfl,.bool true,zp l _,λ_=>⟨List.Pairwise.nil,λ_ hm=>(nomatch hm)⟩⟩,h2,h3,h4⟩
end Att
end
section
set_option backward.eqns.nonrecursive false
set_option backward.eqns.deepRecursiveSplit false
namespace Ts
open PySem PyProof.Rows
noncomputable def IG:Bool->RX->Array RX->Nat->Nat->Nat->StateT S5 Sem (Option Nat):=sortPriv% PySem.Builtin.gallop
noncomputable def Jo:Array RX->Array RX->StateT S5 Sem (Array RX):=sortPriv% PySem.Builtin.mergeLo
noncomputable def Jh:Array RX->Array RX->StateT S5 Sem (Array RX):=sortPriv% PySem.Builtin.mergeHi
noncomputable def Iy:Nat->Nat->StateT S5 Sem (Option Nat):=sortPriv% PySem.Builtin.countRun
noncomputable def H5:Nat->Nat->Nat->StateT S5 Sem Bool:=sortPriv% PySem.Builtin.binarySort
structure gH (prog:S9) (w:SY) (A:SV) (s:R9) (κ:TX) (U:RX->Prop) (B:RX->RX->Bool):Prop where
 lt:∀x y,U x->U y->∀(E:R3->R9->Prop) (Q:Bool->R9->Prop),Q (B x y) s->RJ (Rn prog w) A (keyLt' κ x.1 y.1) Q E s
 tr:∀x y z,U x->U y->U z->B y x=false->B z y=false->B z x=false
 Ik:∀x y,U x->U y->B x y=true->B y x=false
 tot:∀x y,U x->U y->B x y=false->B y x=false->x=y
section
variable{prog:S9}{w:SY}{A:SV}{E:R3->R9->Prop}{s:R9}{κ:TX}{U:RX->Prop}{B:RX->RX->Bool}
theorem Bw(C:gH prog w A s κ U B){st:S5}(hx:U x)(hy:U y)(hk:kindOf st=κ)(h:Q (Zz (B x y)) st):wpS (Rn prog w) A E s (lt' x y) Q st:=by
 rw[lt'_eq];refine RH (Vh ?_);rw[hk];exact RH (Wp (UX (C.lt x y hx hy _ _ ⟨rfl,RO h⟩)))
theorem eR{st:S5}(hp:arr[i]?=Zz p)(h:Q p st):wpS (Rn prog w) A E s (elem' arr i) Q st:=by
 rw[elem'_eq,hp];exact RO h
noncomputable def jv(B:RX->RX->Bool)(left:Bool)(key x:RX):Bool:=if left then B x key else !B key x
theorem Ha(C:gH prog w A s κ U B){st:S5}(hp:arr[i]?=Zz x)(hx:U x)(hy:U key)(hk:kindOf st=κ)(h:Q (Zz (jv B left key x)) st):
  wpS (Rn prog w) A E s (elem' arr i >>= λx=>if left=true then lt' x key else lt' key x >>= λr=>pure (Option.map (λx=>!x) r)) Q st:=by
 refine RH (eR hp ?_);cases left with
 |true=>rw[Yq rfl];exact Bw C hx hy hk h
 |false =>
  rw[Yr RL];exact RH (Bw C hy hx hk (RO h))
theorem Fb(C:gH prog w A s κ U B){f:Nat->RX}{st:S5}(hf:∀i,i<n->arr[base+i]?=Zz (f i)/\U (f i))(hy:U key)(hk:kindOf st=κ)(hh:hint<n)(mono:∀i j,i<=j->j<n->jv B left key (f j)=true->jv B left key (f i)=true)(h:∀k,k<=n->(∀i,i<k->jv B left key (f i)=true)->(∀i,k<=i->i<n->jv B left key (f i)=false)->Q (Zz k) st):wpS (Rn prog w) A E s (IG left key arr base n hint) Q st:=by
 have bb:∀{i:Nat}{Q':Option Bool->S5->Prop},i<n->Q' (Zz (jv B left key (f i))) st->wpS (Rn prog w) A E s (elem' arr (base+i) >>= λx=>if left=true then lt' x key else lt' key x >>= λr=>pure (Option.map (λx=>!x) r)) Q' st:=λ{i Q'} hi hq=>Ha C (hf i hi).1 (hf i hi).2 hy hk hq
 -- the last part: between lo and hi
 have last:∀{R:Type}(F:Nat->Option R×Nat×Nat->StateT S5 Sem (ForInStep (Option R×Nat×Nat))) (Q':Option R×Nat×Nat->S5->Prop) (lo hi:Nat),lo<=hi->hi<=n->(∀i,i<lo->jv B left key (f i)=true)->(∀i,hi<=i->i<n->jv B left key (f i)=false) ->
   (∀x lo hi Q',hi<=lo->Q' (.done (Zy,lo,hi)) st->wpS (Rn prog w) A E s (F x (Zy,lo,hi)) Q' st) ->
   (∀x lo hi Q',lo<hi->hi<=n->Q' (.yield (if jv B left key (f (lo+(hi-lo) / 2))=true then(Zy,lo+(hi-lo) / 2+1,hi)else(Zy,lo,lo+(hi-lo) / 2))) st->wpS (Rn prog w) A E s (F x (Zy,lo,hi)) Q' st) ->
   (∀lo hi,hi<=n->(∀i,i<hi->jv B left key (f i)=true)->(∀i,hi<=i->i<n->jv B left key (f i)=false)->Q' (Zy,lo,hi) st)->wpS (Rn prog w) A E s (forIn [0:n] (Zy,lo,hi) F) Q' st:=by
  intro R F Q' lo hi h1 h2 h3 h4 f0 f1 fq;refine Sr (I:=λi sx st'=>st'=st/\sx.1=Zy/\sx.2.1<=sx.2.2/\sx.2.2<=n/\sx.2.2-sx.2.1<=n-i/\(∀i,i<sx.2.1->jv B left key (f i)=true)/\∀i,sx.2.2<=i->i<n->jv B left key (f i)=false) ?_ ?_ ⟨rfl,rfl,h1,h2,(by show hi-lo<=n-0;omega),h3,h4⟩
  ·rintro i ⟨r,lo,hi⟩ st' _ hi2 ⟨rfl,rfl,a1,a2,a3,a4,a5⟩
   dsimp only at a1 a2 a3 a4 a5 ⊢;by_cases hc:hi<=lo
   ·exact f0 _ _ _ _ hc (fq lo hi a2 (λj hj=>a4 j (by omega)) a5)
   ·refine f1 _ _ _ _ (by omega) a2 ?_
    cases q:jv B left key (f (lo+(hi-lo) / 2))with
    |true =>
     rw[Yq rfl];exact⟨rfl,rfl,by dsimp only;omega,a2,by dsimp only;omega,λj hj=>mono j _ (by dsimp only at hj;omega) (by omega) q,a5⟩
    |false =>
     rw[Yr RL];refine⟨rfl,rfl,by dsimp only;omega,by dsimp only;omega,by dsimp only;omega,a4,λj hj hjn=>?_⟩;cases z:jv B left key (f j)with
     |false=>rfl
     |true=>rw[mono _ j hj hjn z]at q;cases q
  ·rintro ⟨r,lo,hi⟩ st' ⟨rfl,rfl,a1,a2,a3,a4,a5⟩
   dsimp only at a1 a2 a3 a4 a5 ⊢;exact fq lo hi a2 (λj hj=>a4 j (by omega)) a5
 refine RH (bb hh ?_);cases q:jv B left key (f hint)with
 |true =>
  refine RH (UN (Sr (I:=λ(i:Nat) (sx:Option (Option Nat)×Nat×Nat) st'=>st'=st/\sx.1=Zy/\sx.2.1<sx.2.2/\i<=sx.2.1/\hint+sx.2.1<n/\jv B left key (f (hint+sx.2.1))=true) (Q:=λsx st'=>st'=st/\sx.1=Zy/\sx.2.1<sx.2.2/\hint+sx.2.1<n/\jv B left key (f (hint+sx.2.1))=true/\(∀i,hint+sx.2.2<=i->i<n->jv B left key (f i)=false)) ?_ ?_ ⟨rfl,rfl,Nat.zero_lt_one,SI _,hh,q⟩) ?_)
  ·rintro i ⟨r,la,of⟩ st' _ hi2 ⟨rfl,rfl,a1,a2,a3,a4⟩
   dsimp only at a1 a2 a3 a4 ⊢;by_cases hc:of ≥ n-hint
   ·rw[Yq hc]
    exact RO ⟨rfl,rfl,a1,a3,a4,λj hj hjn=>by dsimp only at hj;omega⟩
   ·rw[Yr hc]
    refine RH (bb (by omega) ?_);cases z:jv B left key (f (hint+of))with
    |true =>
     dsimp only;rw[Yr (by simp)];exact RO ⟨rfl,rfl,(by show of<2*of+1;omega),(by show i+1<=of;omega),(by show hint+of<n;omega),z⟩
    |false =>
     dsimp only;rw[Yq (by simp)];refine RO ⟨rfl,rfl,a1,a3,a4,λj hj hjn=>?_⟩;cases y:jv B left key (f j)with
     |false=>rfl
     |true=>rw[mono _ j hj hjn y]at z;cases z
  ·rintro ⟨r,la,of⟩ st' ⟨rfl,rfl,a1,a2,a3,a4⟩
   dsimp only at a1 a2 a3 a4 ⊢;exact⟨rfl,rfl,a1,a3,a4,λj hj hjn=>by omega⟩
  ·rintro ⟨r,la,of⟩ st' ⟨rfl,rfl,a1,a3,a4,a5⟩
   dsimp only at a1 a3 a4 a5 ⊢;refine RH (last _ _ (hint+la+1) (hint+min of (n-hint)) (by omega) (by omega) (λj hj=>mono j (hint+la) (by omega) a3 a4) (λj hj hjn=>a5 j (by omega) hjn) ?_ ?_ ?_)
   ·intro x lo hi Q' hc hq
    dsimp only;rw[Yq hc];exact RO hq
   ·intro x lo hi Q' hc hn hq
    dsimp only;rw[Yr (by omega)];refine RH (bb (by omega) ?_);cases q:jv B left key (f (lo+(hi-lo) / 2))with
    |true =>
     rw[q,Yq rfl]at hq;exact RO hq
    |false =>
     rw[q,Yr RL]at hq;exact RO hq
   ·intro lo hi h1 h2 h3
    exact RO (h hi h1 h2 h3)
 |false =>
  refine RH (UN (Sr (I:=λ(i:Nat) (sx:Option (Option Nat)×Nat×Nat) st'=>st'=st/\sx.1=Zy/\sx.2.1<sx.2.2/\i<=sx.2.1/\sx.2.1<=hint/\jv B left key (f (hint-sx.2.1))=false) (Q:=λsx st'=>st'=st/\sx.1=Zy/\sx.2.1<sx.2.2/\sx.2.1<=hint/\jv B left key (f (hint-sx.2.1))=false/\(∀i,i+sx.2.2<=hint->jv B left key (f i)=true)) ?_ ?_ ⟨rfl,rfl,Nat.zero_lt_one,SI _,SI _,q⟩) ?_)
  ·rintro i ⟨r,la,of⟩ st' _ hi2 ⟨rfl,rfl,a1,a2,a3,a4⟩
   dsimp only at a1 a2 a3 a4 ⊢;by_cases hc:of ≥ hint+1
   ·rw[Yq hc]
    exact RO ⟨rfl,rfl,a1,a3,a4,λj hj=>by dsimp only at hj;omega⟩
   ·rw[Yr hc]
    refine RH (bb (by omega) ?_);cases z:jv B left key (f (hint-of))with
    |true =>
     dsimp only;rw[Yq rfl];exact RO ⟨rfl,rfl,a1,a3,a4,λj hj=>mono j _ (by dsimp only at hj;omega) (by omega) z⟩
    |false =>
     dsimp only;rw[Yr RL];exact RO ⟨rfl,rfl,(by show of<2*of+1;omega),(by show i+1<=of;omega),(by show of<=hint;omega),z⟩
  ·rintro ⟨r,la,of⟩ st' ⟨rfl,rfl,a1,a2,a3,a4⟩
   dsimp only at a1 a2 a3 a4 ⊢;exact⟨rfl,rfl,a1,a3,a4,λj hj=>by omega⟩
  ·rintro ⟨r,la,of⟩ st' ⟨rfl,rfl,a1,a3,a4,a5⟩
   dsimp only at a1 a3 a4 a5 ⊢;refine RH (last _ _ (hint+1-min of (hint+1)) (hint-la) (by omega) (by omega) (λj hj=>a5 j (by omega)) (λj hj hjn=>by
    cases y:jv B left key (f j)with
    |false=>rfl
    |true=>rw[mono _ j hj hjn y]at a4;cases a4) ?_ ?_ ?_)
   ·intro x lo hi Q' hc hq
    dsimp only;rw[Yq hc];exact RO hq
   ·intro x lo hi Q' hc hn hq
    dsimp only;rw[Yr (by omega)];refine RH (bb (by omega) ?_);cases q:jv B left key (f (lo+(hi-lo) / 2))with
    |true =>
     rw[q,Yq rfl]at hq;exact RO hq
    |false =>
     rw[q,Yr RL]at hq;exact RO hq
   ·intro lo hi h1 h2 h3
    exact RO (h hi h1 h2 h3)
end
def cJ(B:RX->RX->Bool)(l:List RX):Prop:=l.Pairwise λx y=>B y x=false
structure MJ (B:RX->RX->Bool) (W o la lb:List RX):Prop where
 perm:(o++(la++lb)).Perm W
 so:cJ B o
 sa:cJ B la
 sb:cJ B lb
 le:∀x∈o,∀y∈la++lb,B y x=false
section
variable{prog:S9}{w:SY}{A:SV}{E:R3->R9->Prop}{s:R9}{κ:TX}{U:RX->Prop}{B:RX->RX->Bool}{W o la lb p:List RX}{x y z:RX}
theorem MJ.mem(m:MJ B W o la lb)(hU:∀x∈W,U x){x:RX}(h:x∈o++(la++lb)):U x:=hU x (m.perm.mem_iff.mp h)
theorem MJ.ua(m:MJ B W o la lb)(hU:∀x∈W,U x){x:RX}(h:x∈la):U x:=m.mem hU (by simp[h])
theorem MJ.ub(m:MJ B W o la lb)(hU:∀x∈W,U x){x:RX}(h:x∈lb):U x:=m.mem hU (by simp[h])
theorem cJ.app{l r:List RX}(h1:cJ B l)(h2:cJ B r)(h3:∀x∈l,∀y∈r,B y x=false):cJ B (l++r):=SJ.mpr ⟨h1,h2,h3⟩
theorem cJ.head(h:cJ B (x::la)):∀y∈la,B y x=false:=(Rv.mp h).1
theorem MJ.zK(C:gH prog w A s κ U B)(hU:∀x∈W,U x)(m:MJ B W o (p++la) (y::lb))(h:∀x∈p,B y x=false):MJ B W (o++p) la (y::lb):=by
 have sp:=SJ.mp m.sa;refine⟨by simpa[Rg]using m.perm,m.so.app sp.1 λa ha b hb=>m.le a ha b (by simp[hb]),sp.2.1,m.sb,λa ha b hb=>?_⟩;rcases RN.mp ha with ha|ha
 ·exact m.le a ha b (RN.mpr ((RN.mp hb).imp (Sa _) id))
 ·rcases RN.mp hb with hb|hb
  ·exact sp.2.2 a ha b hb
  ·rcases R5.mp hb with rfl|hb'
   ·exact h a ha
   ·exact C.tr a y b (m.ua hU (by simp[ha])) (m.ub hU (by simp)) (m.ub hU (by simp[hb'])) (h a ha) (m.sb.head b hb')
theorem MJ.yE(C:gH prog w A s κ U B)(hU:∀x∈W,U x)(m:MJ B W o (x::la) (p++lb))(h:∀y∈p,B y x=true):MJ B W (o++p) (x::la) lb:=by
 have sp:=SJ.mp m.sb;have ux:=m.ua hU (show x∈x::la by simp);refine⟨?_,m.so.app sp.1 λa ha b hb=>m.le a ha b (by simp[hb]),m.sa,sp.2.1,λa ha b hb=>?_⟩
 ·refine XB ?_ m.perm
  rw[Rg];refine Uu o ?_;rw[<-Rg,<-Rg];exact Vi lb Vr
 ·rcases RN.mp ha with ha|ha
  ·exact m.le a ha b (RN.mpr ((RN.mp hb).imp id (Sa _)))
  ·rcases RN.mp hb with hb|hb
   ·have ua:=m.ub hU (show a∈p++lb by simp[ha])
    have hax:=C.Ik a x ua ux (h a ha);rcases R5.mp hb with rfl|hb'
    ·exact hax
    ·exact C.tr a x b ua ux (m.ua hU (by simp[hb'])) hax (m.sa.head b hb')
   ·exact sp.2.2 a ha b hb
theorem MJ.Hx(C:gH prog w A s κ U B)(hU:∀x∈W,U x)(m:MJ B W o (x::la) (y::lb))(h:B y x=false):MJ B W (o++[x]) la (y::lb):=MJ.zK (p:=[x]) C hU m λz hz=>by simp at hz;subst hz;exact h
theorem MJ.E9(C:gH prog w A s κ U B)(hU:∀x∈W,U x)(m:MJ B W o (x::la) (y::lb))(h:B y x=true):MJ B W (o++[y]) (x::la) lb:=MJ.yE (p:=[y]) C hU m λz hz=>by simp at hz;subst hz;exact h
def Gd(B:RX->RX->Bool)(W:List RX)(r:List RX):Prop:=r.Perm W/\cJ B r
theorem MJ.done(m:MJ B W o la []):Gd B W (o++la):=⟨by simpa using m.perm,m.so.app m.sa λa ha b hb=>m.le a ha b (by simp[hb])⟩
theorem MJ.H0(C:gH prog w A s κ U B)(hU:∀x∈W,U x)(m:MJ B W o [z] lb)(h:∀y∈lb,B y z=true):Gd B W (o++lb++[z]):=by
 have k:=MJ.yE (p:=lb) (lb:=[]) C hU (by simpa using m) h;exact k.done
end
def Sm(st st':S5):Prop:=kindOf st'=kindOf st/\arrOf st'=arrOf st/\Rk st'=Rk st/\U3 st'=U3 st
theorem Sm.refl(st:S5):Sm st st:=⟨rfl,rfl,rfl,rfl⟩
noncomputable def IK:Nat->StateT S5 Sem Unit:=sortPriv% PySem.Builtin.setMinGallop
section
variable{prog:S9}{w:SY}{A:SV}{E:R3->R9->Prop}{s:R9}{κ:TX}{U:RX->Prop}{B:RX->RX->Bool}{st st':S5}
theorem xF{g:Nat}{Q:Unit->S5->Prop}(hs:Sm st st')(h:∀st'',Sm st st''->Q () st''):wpS (Rn prog w) A E s (IK g) Q st':=
 V2 (h _ ⟨hs.1,hs.2.1,hs.2.2.1,hs.2.2.2⟩)
theorem aQ{c:Prop}[Decidable c]{α:Type}{x y:StateT S5 Sem α}{Q:α->S5->Prop}(h1:c->wpS (Rn prog w) A E s x Q st)(h2:¬c->wpS (Rn prog w) A E s y Q st):wpS (Rn prog w) A E s (if c then x else y) Q st:=by
 by_cases h:c
 ·rw[Yq h];exact h1 h
 ·rw[Yr h];exact h2 h
theorem DE{α:Type}{t:StateT S5 Sem α}{Q:α->S5->Prop}(h:∀Q':α->S5->Prop,(∀r st,Q r st->Q' r st)->wpS (Rn prog w) A E s t Q' st):wpS (Rn prog w) A E s t Q st:=h Q λ_ _ x=>x
theorem mB{α β:Type}{t:StateT S5 Sem α}{Q:α->S5->Prop}(f:β->StateT S5 Sem α)(P:β->Prop)(h:∀x,P x->wpS (Rn prog w) A E s (f x) Q st)(k:(∀x,P x->wpS (Rn prog w) A E s (f x) Q st)->wpS (Rn prog w) A E s t Q st):wpS (Rn prog w) A E s t Q st:=k h
theorem cI{l:Array RX}{i:Nat}(h:i<l.size):l.toList.drop i=l[i]::l.toList.drop (i+1):=by
 rw[SQ (by simpa using h)];simp
theorem bM{l:Array RX}{i:Nat}(h:i<l.size):l[i]?=Zz l[i]:=by simp[h]
theorem FC{l:Array RX}{d i:Nat}(h:d<=i)(hi:i<l.size):l[i]∈l.toList.drop d:=by
 rw[Sl];exact⟨i-d,by simp;omega,by simp[show d+(i-d)=i by omega]⟩
theorem jM{l:Array RX}{i j:Nat}:(l.extract i j).toList=(l.toList.drop i).take (j-i):=by simp[List.take_drop,List.extract_eq_drop_take]
theorem wX{l:Array RX}{i:Nat}:(l.extract i l.size).toList=l.toList.drop i:=by rw[jM,SC (by simp)]
section
variable{W:List RX}{a b out:Array RX}{ia ib k:Nat}
theorem MJ.uA(m:MJ B W out.toList (a.toList.drop ia) (b.toList.drop ib))(hU:∀x∈W,U x)(h:ia<a.size):U a[ia]:=m.ua hU (by rw[cI h];simp)
theorem MJ.uB(m:MJ B W out.toList (a.toList.drop ia) (b.toList.drop ib))(hU:∀x∈W,U x)(h:ib<b.size):U b[ib]:=m.ub hU (by rw[cI h];simp)
theorem MJ.Hn(C:gH prog w A s κ U B)(hU:∀x∈W,U x)(m:MJ B W out.toList (a.toList.drop ia) (b.toList.drop ib))(h1:ia<a.size)(h2:ib<b.size)(h:B b[ib] a[ia]=true):MJ B W (out.push b[ib]).toList (a.toList.drop ia) (b.toList.drop (ib+1)):=by
 rw[cI h1,cI h2]at m;rw[cI h1,UO];exact m.E9 C hU h
theorem MJ.G7(C:gH prog w A s κ U B)(hU:∀x∈W,U x)(m:MJ B W out.toList (a.toList.drop ia) (b.toList.drop ib))(h1:ia<a.size)(h2:ib<b.size)(h:B b[ib] a[ia]=false):MJ B W (out.push a[ia]).toList (a.toList.drop (ia+1)) (b.toList.drop ib):=by
 rw[cI h1,cI h2]at m;rw[cI h2,UO];exact m.Hx C hU h
theorem CK{l:Array RX}{i k:Nat}(h:i+k<=l.size):l.toList.drop i=(l.extract i (i+k)).toList++l.toList.drop (i+k)/\∀x∈(l.extract i (i+k)).toList,∃j,∃hj:i+j<l.size,j<k/\x=l[i+j]:=by
 refine⟨by rw[jM,SM,<-Ue,Uv],λx hx=>?_⟩;rw[jM,SM]at hx;obtain⟨j,hj,rfl⟩:=Sl.mp hx;have hj':j<k:=by simp at hj;omega
 exact⟨j,by omega,hj',by simp⟩
theorem MJ.IY(C:gH prog w A s κ U B)(hU:∀x∈W,U x)(m:MJ B W out.toList (a.toList.drop ia) (b.toList.drop ib))(h1:ia+k<=a.size)(h2:ib<b.size)(h:∀j (hj:ia+j<a.size),j<k->B b[ib] a[ia+j]=false):MJ B W (out++a.extract ia (ia+k)).toList (a.toList.drop (ia+k)) (b.toList.drop ib):=by
 obtain⟨e,hm⟩:=CK h1;rw[e,cI h2]at m;rw[cI h2,SR];exact m.zK C hU λx hx=>by
  obtain⟨j,hj,hjk,rfl⟩:=hm x hx;exact h j hj hjk
theorem MJ.IM(C:gH prog w A s κ U B)(hU:∀x∈W,U x)(m:MJ B W out.toList (a.toList.drop ia) (b.toList.drop ib))(h1:ia<a.size)(h2:ib+k<=b.size)(h:∀j (hj:ib+j<b.size),j<k->B b[ib+j] a[ia]=true):MJ B W (out++b.extract ib (ib+k)).toList (a.toList.drop ia) (b.toList.drop (ib+k)):=by
 obtain⟨e,hm⟩:=CK h2;rw[e,cI h1]at m;rw[cI h1,SR];exact m.yE C hU λx hx=>by
  obtain⟨j,hj,hjk,rfl⟩:=hm x hx;exact h j hj hjk
theorem cJ.at{l:Array RX}{d i j:Nat}(h:cJ B (l.toList.drop d))(hd:d<=i)(hij:i<j)(hj:j<l.size):B l[j] l[i]=false:=by
 have:=VG.mp h (i-d) (j-d) (by simp;omega) (by simp;omega) (by omega);simpa[show d+(j-d)=j by omega,show d+(i-d)=i by omega]using this
end
theorem vA(C:gH prog w A s κ U B){key:RX}{arr:Array RX}{base n hint:Nat}{Q:Option Nat->S5->Prop}(hn:base+n<=arr.size)(hu:∀i (h:i<arr.size),base<=i->i<base+n->U arr[i])(hy:U key)(so:∀i j (hj:j<arr.size) (hij:i<j),base<=i->j<base+n->B arr[j] arr[i]=false)(hh:hint<n)(hk:kindOf st=κ)(h:∀k,k<=n->(∀i (hi:i<arr.size),base<=i->i<base+k->B key arr[i]=false)->(∀i (hi:i<arr.size),base+k<=i->i<base+n->B key arr[i]=true)->Q (Zz k) st):wpS (Rn prog w) A E s (IG false key arr base n hint) Q st:=by
 have ff:∀i (hi:i<n),(arr[base+i]?).getD key=arr[base+i]'(by omega):=λi hi=>by rw[bM (by omega)];rfl
 refine Fb C (f:=λi=>(arr[base+i]?).getD key) (λi hi=>?_) hy hk hh (λi j hij hj q=>?_) λk k1 k2 k3=>h k k1 (λi hi h1 h2=>?_) λi hi h1 h2=>?_
 ·rw[ff i hi]
  exact⟨bM _,hu _ _ (by omega) (by omega)⟩
 ·dsimp only[jv]at q ⊢
  rw[ff _ hj]at q;rw[ff i (by omega)];rcases VU hij with e|e
  ·subst e;exact q
  ·have q:B key arr[base+j]=false:=by simpa using q
   have:=C.tr _ _ _ (hu (base+i) (by omega) (by omega) (by omega)) (hu (base+j) (by omega) (by omega) (by omega)) hy (so _ _ _ (by omega) (by omega) (by omega)) q;simpa using this
 ·have:=k2 (i-base) (by omega)
  dsimp only[jv]at this;rw[ff _ (by omega)]at this;simpa[show base+(i-base)=i by omega]using this
 ·have:=k3 (i-base) (by omega) (by omega)
  dsimp only[jv]at this;rw[ff _ (by omega)]at this;simpa[show base+(i-base)=i by omega]using this
theorem vg(C:gH prog w A s κ U B){key:RX}{arr:Array RX}{base n hint:Nat}{Q:Option Nat->S5->Prop}(hn:base+n<=arr.size)(hu:∀i (h:i<arr.size),base<=i->i<base+n->U arr[i])(hy:U key)(so:∀i j (hj:j<arr.size) (hij:i<j),base<=i->j<base+n->B arr[j] arr[i]=false)(hh:hint<n)(hk:kindOf st=κ)(h:∀k,k<=n->(∀i (hi:i<arr.size),base<=i->i<base+k->B arr[i] key=true)->(∀i (hi:i<arr.size),base+k<=i->i<base+n->B arr[i] key=false)->Q (Zz k) st):wpS (Rn prog w) A E s (IG true key arr base n hint) Q st:=by
 have ff:∀i (hi:i<n),(arr[base+i]?).getD key=arr[base+i]'(by omega):=λi hi=>by rw[bM (by omega)];rfl
 refine Fb C (f:=λi=>(arr[base+i]?).getD key) (λi hi=>?_) hy hk hh (λi j hij hj q=>?_) λk k1 k2 k3=>h k k1 (λi hi h1 h2=>?_) λi hi h1 h2=>?_
 ·rw[ff i hi]
  exact⟨bM _,hu _ _ (by omega) (by omega)⟩
 ·dsimp only[jv]at q ⊢
  rw[ff _ hj,Yq rfl]at q;rw[ff i (by omega),Yq rfl];rcases VU hij with e|e
  ·subst e;exact q
  ·cases z:B arr[base+i] key with
   |true=>rfl
   |false =>
    have:=C.tr _ _ _ hy (hu (base+i) (by omega) (by omega) (by omega)) (hu (base+j) (by omega) (by omega) (by omega)) z (so _ _ _ (by omega) (by omega) (by omega));rw[this]at q;cases q
 ·have:=k2 (i-base) (by omega)
  dsimp only[jv]at this;rw[ff _ (by omega),Yq rfl]at this;simpa[show base+(i-base)=i by omega]using this
 ·have:=k3 (i-base) (by omega) (by omega)
  dsimp only[jv]at this;rw[ff _ (by omega),Yq rfl]at this;simpa[show base+(i-base)=i by omega]using this
theorem HT(C:gH prog w A s κ U B){a b:Array RX}{Q:Array RX->S5->Prop}(hU:∀x∈a.toList++b.toList,U x)(ha:0<a.size)(hb:0<b.size)(sa:cJ B a.toList)(sb:cJ B b.toList)(hk:kindOf st=κ)(h0:B b[0] a[0]=true)(h1:∀y∈b.toList,B y a[a.size-1]=true)(h:∀r st',Sm st st'->Gd B (a.toList++b.toList) r.toList->Q r st'):wpS (Rn prog w) A E s (Jo a b) Q st:=by
 generalize hW:a.toList++b.toList=W at hU h;have lb:∀{i:Nat},∀y∈b.toList.drop i,B y a[a.size-1]=true:=λy hy=>h1 y (List.mem_of_mem_drop hy)
 -- what the ends give
 have eB:∀{out:Array RX}{ia ib:Nat},MJ B W out.toList (a.toList.drop ia) (b.toList.drop ib)->(ib==b.size)=true->Gd B W (out++a.extract ia a.size++b.extract ib b.size).toList:=λ{out ia ib} m e=>by
  have e:ib=b.size:=by simpa using e
  subst e;have hd:b.toList.drop b.size=[]:=SD (by simp);rw[hd]at m;rw[SR,SR,wX,wX,hd,SZ];exact m.done
 have eA:∀{out:Array RX}{ia ib:Nat},MJ B W out.toList (a.toList.drop ia) (b.toList.drop ib)->(ia+1==a.size)=true->Gd B W (out++b.extract ib b.size++a.extract ia a.size).toList:=λ{out ia ib} m e=>by
  have e:ia+1=a.size:=by simpa using e
  have ez:a.toList.drop ia=[a[a.size-1]]:=by
   rw[cI (by omega),SD (by simp;omega)]
   congr 2
   omega
  rw[ez]at m;rw[SR,SR,wX,wX,ez];exact m.H0 C hU lb
 have start:MJ B W [b[0]] (a.toList.drop 0) (b.toList.drop 1):=by
  have m0:MJ B W [] (a.toList.drop 0) (b.toList.drop 0):=⟨by simp[hW],.nil,by simpa using sa,by simpa using sb,λx hx=>by simp at hx⟩
  rw[cI ha,cI hb]at m0;rw[cI ha];exact m0.E9 C hU h0
 refine RH (Wp (TG ⟨rfl,?_⟩));refine RH (eR (bM hb) ?_);dsimp (zeta:=false) only;refine aQ (λc1=>RO (h _ _ (Sm.refl _) (eB start c1))) λc1=>?_
 refine aQ (λc2=>RO (h _ _ (Sm.refl _) (eA start c2))) λc2=>?_
 have c1:1≠b.size:=by simpa using c1
 have c2:0+1≠a.size:=by simpa using c2
 refine RH (Vh ?_);refine RH (UN (Sr (I:=λ(i:Nat) (sx:Option (Array RX)×Array RX×Nat×Nat×Nat) st'=>Sm st st'/\sx.1=Zy/\MJ B W sx.2.1.toList (a.toList.drop sx.2.2.1) (b.toList.drop sx.2.2.2.1)/\sx.2.2.1+1<a.size/\sx.2.2.2.1<b.size/\i+1<=sx.2.2.1+sx.2.2.2.1)
  (Q:=λsx st'=>Sm st st'/\∃r,sx.1=Zz r/\Gd B W r.toList) ?_ ?_ ⟨Sm.refl _,rfl,start,(by show 0+1<a.size;omega),(by show 1<b.size;omega),(by show 0+1<=0+1;omega)⟩) ?_)
 ·rintro i ⟨r,out,ia,ib,mg⟩ st1 _ hi ⟨hs,rfl,m,q1,q2,q3⟩
  (dsimp only at m q1 q2 q3;dsimp (zeta:=false) only)
  refine RH (UN (Sr (I:=λ(j:Nat) (sx:Option (Array RX)×Array RX×Nat×Nat×Nat×Nat) st'=>Sm st st'/\sx.1=Zy/\MJ B W sx.2.1.toList (a.toList.drop sx.2.2.1) (b.toList.drop sx.2.2.2.1)/\sx.2.2.1+1<a.size/\sx.2.2.2.1<b.size/\ia+ib+j<=sx.2.2.1+sx.2.2.2.1)
   (Q:=λsx st'=>Sm st st'/\((∃r,sx.1=Zz r/\Gd B W r.toList)∨(sx.1=Zy/\MJ B W sx.2.1.toList (a.toList.drop sx.2.2.1) (b.toList.drop sx.2.2.2.1)/\sx.2.2.1+1<a.size/\sx.2.2.2.1<b.size/\ia+ib+1<=sx.2.2.1+sx.2.2.2.1))) ?_ ?_ ⟨hs,rfl,m,q1,q2,RC _⟩) ?_)
  ·rintro j ⟨r,out,ja,jb,ac,bc⟩ st2 _ hj ⟨hs,rfl,m,p1,p2,p3⟩
   (dsimp only at m p1 p2 p3;dsimp (zeta:=false) only)
   refine DE λQ' hQ=>?_
   have p0:ja<a.size:=by omega
   refine RH (eR (bM p2) (RH (eR (bM p0) (RH (Bw C (m.uB hU p2) (m.uA hU p0) (hs.1.trans hk) ?_)))));cases q:B b[jb] a[ja]with
   |true =>
    have m2:=m.Hn C hU p0 p2 q;refine aQ (λ_=>?_) λz=>Yv rfl z
    refine RH (eR (bM p2) (aQ (λz=>RO (hQ _ _ ⟨hs,.inl ⟨_,rfl,eB m2 z⟩⟩)) λz=>?_))
    ·have z:jb+1≠b.size:=by simpa using z
     refine aQ (λ_=>?_) λ_=>?_
     ·exact RO (hQ _ _ ⟨hs,.inr ⟨rfl,m2,p1,(by show jb+1<b.size;omega),(by show ia+ib+1<=ja+(jb+1);omega)⟩⟩)
     ·exact RO (hQ _ _ ⟨hs,rfl,m2,p1,(by show jb+1<b.size;omega),(by show ia+ib+(j+1)<=ja+(jb+1);omega)⟩)
   |false =>
    have m2:=m.G7 C hU p0 p2 q;refine aQ (λz=>Yv z RL) λ_=>?_
    refine RH (eR (bM p0) (aQ (λz=>RO (hQ _ _ ⟨hs,.inl ⟨_,rfl,eA m2 z⟩⟩)) λz=>?_))
    ·have z:ja+1+1≠a.size:=by simpa using z
     refine aQ (λ_=>?_) λ_=>?_
     ·exact RO (hQ _ _ ⟨hs,.inr ⟨rfl,m2,(by show ja+1+1<a.size;omega),p2,(by show ia+ib+1<=ja+1+jb;omega)⟩⟩)
     ·exact RO (hQ _ _ ⟨hs,rfl,m2,(by show ja+1+1<a.size;omega),p2,(by show ia+ib+(j+1)<=ja+1+jb;omega)⟩)
  ·rintro ⟨r,out,ja,jb,ac,bc⟩ st2 ⟨_,_,_,p1,p2,p3⟩
   dsimp only at p1 p2 p3;omega
  ·rintro ⟨r,out,ja,jb,ac,bc⟩ st2 ⟨hs,⟨r',rfl,g⟩|⟨rfl,m,p1,p2,p3⟩⟩
   ·exact RO ⟨hs,r',rfl,g⟩
   ·(dsimp only at m p1 p2 p3;dsimp (zeta:=false) only)
    refine RH (Wp (TG ⟨rfl,?_⟩));refine RH (UN (Sr (I:=λ(j:Nat) (sx:Option (Array RX)×Array RX×Nat×Nat×Nat×Nat×Nat) st'=>Sm st st'/\sx.1=Zy/\MJ B W sx.2.1.toList (a.toList.drop sx.2.2.1) (b.toList.drop sx.2.2.2.1)/\sx.2.2.1+1<a.size/\sx.2.2.2.1<b.size/\ja+jb+j<=sx.2.2.1+sx.2.2.2.1)
     (Q:=λsx st'=>Sm st st'/\((∃r,sx.1=Zz r/\Gd B W r.toList)∨(sx.1=Zy/\MJ B W sx.2.1.toList (a.toList.drop sx.2.2.1) (b.toList.drop sx.2.2.2.1)/\sx.2.2.1+1<a.size/\sx.2.2.2.1<b.size/\ja+jb<=sx.2.2.1+sx.2.2.2.1))) ?_ ?_ ⟨hs,rfl,m,p1,p2,RC _⟩) ?_)
    ·rintro j ⟨r,out,ka,kb,mg,ac,bc⟩ st2 _ hj ⟨hs,rfl,m,t1,t2,t3⟩
     dsimp only at m t1 t2 t3
     extract_lets _ _ _ _ _ _ _ _ _ _ _ _ jp
     refine DE λQ' hQ=>?_
     refine mB (jp ()) (λ_=>True) (λg _=>?_) λhj=>aQ (λ_=>hj _ trivial) λ_=>hj _ trivial
     refine RH (xF hs λst3 hs=>RH (eR (bM t2) (RH (vA C (key:=b[kb]) (arr:=a) (base:=ka) (n:=a.size-ka) (hint:=0) (by omega) (λi hi z _=>m.ua hU (FC z hi)) (m.uB hU t2) (λi j hj hij h1 h2=>m.sa.at h1 hij hj) (by omega) (hs.1.trans hk) λk k1 k2 k3=>?_))));have nz:ka+k+1<=a.size:=by
      rcases Um (ka+k) a.size with z|z
      ·exact z
      ·have e1:=k2 (a.size-1) (by omega) (by omega) (by omega)
       have e2:=h1 b[kb] (by simp);rw[e1]at e2;cases e2
     have m2:=m.IY C hU (k:=k) (by omega) t2 λj hj hjk=>k2 _ _ (by omega) (by omega)
     have lt:=k3 (ka+k) (by omega) (by omega) (by omega);dsimp (zeta:=false) only
     extract_lets _ jp2
     refine mB (λq:Array RX×Nat=>jp2 () q.1 q.2) (λq=>ka<=q.2/\MJ B W q.1.toList (a.toList.drop q.2) (b.toList.drop kb)/\∃h:q.2+1<a.size,B b[kb] a[q.2]=true) ?_ λhj2=>aQ (λ_=>aQ (λz=>RO (hQ _ _ ⟨hs,.inl ⟨_,rfl,eA m2 z⟩⟩)) λz=>aQ (λz2=>Yv (show ka+k=a.size by simpa using z2) (by omega)) λ_=>hj2 (_,_) ⟨U7 _ _,m2,Nat.lt_of_le_of_ne nz (by simpa using z),lt⟩) λhk0=>?_
     ·rintro ⟨o,i⟩ ⟨g1,m2,hc,lt⟩
      dsimp only at g1 m2 hc lt;have hc':i<a.size:=by omega
      have m3:=m2.Hn C hU hc' t2 lt;refine RH (eR (bM t2) (aQ (λz=>RO (hQ _ _ ⟨hs,.inl ⟨_,rfl,eB m3 z⟩⟩)) λz=>?_));have z:kb+1≠b.size:=by simpa using z
      refine RH (eR (bM hc') (RH (vg C (arr:=b) (base:=kb+1) (n:=b.size-(kb+1)) (hint:=0) (by omega) (λi hi y _=>m3.ub hU (FC y hi)) (m3.uA hU hc') (λi j hj hij h1 h2=>m3.sb.at h1 hij hj) (by omega) (hs.1.trans hk) λl l1 l2 l3=>?_)));have m4:=m3.IM C hU (k:=l) hc' (by omega) λj hj hjk=>l2 _ _ (by omega) (by omega)
      dsimp (zeta:=false) only
      extract_lets _ _ jp3
      refine mB (λq:Array RX×Nat=>jp3 () q.1 q.2) (λq=>kb+1<=q.2/\MJ B W q.1.toList (a.toList.drop i) (b.toList.drop q.2)/\∃h:q.2<b.size,B b[q.2] a[i]=false) ?_ λhj3=>aQ (λ_=>aQ (λy=>RO (hQ _ _ ⟨hs,.inl ⟨_,rfl,eB m4 y⟩⟩)) λy=>?_) λhl0=>?_
      ·rintro ⟨o,n⟩ ⟨g2,m4,hd,ge⟩
       dsimp only at g2 m4 hd ge;have m5:=m4.G7 C hU hc' hd ge;refine RH (eR (bM hc') (aQ (λx=>RO (hQ _ _ ⟨hs,.inl ⟨_,rfl,eA m5 x⟩⟩)) λx=>?_));have x:i+1+1≠a.size:=by simpa using x
       have w1:i+1+1<a.size:=by omega
       have w2:ja+jb+(j+1)<=i+1+n:=by omega
       exact aQ (λ_=>RO (hQ _ _ ⟨hs,.inr ⟨rfl,m5,w1,hd,Ro (U7 _ _) w2⟩⟩)) λ_=>RO (hQ _ _ ⟨hs,rfl,m5,w1,hd,w2⟩)
      ·have y:kb+1+l≠b.size:=by simpa using y
       exact hj3 (_,kb+1+l) ⟨U7 _ _,m4,(show kb+1+l<b.size by omega),l3 (kb+1+l) (by omega) (by omega) (by omega)⟩
      ·obtain rfl:l=0:=by omega
       exact hj3 (_,kb+1) ⟨RC _,m3,(show kb+1<b.size by omega),l3 (kb+1) (by omega) (by omega) (by omega)⟩
     ·obtain rfl:k=0:=by omega
      exact hj2 (_,_) ⟨RC _,m,t1,lt⟩
    ·rintro ⟨r,out,ka,kb,mg,ac,bc⟩ st2 ⟨_,_,_,p1,p2,p3⟩
     dsimp only at p1 p2 p3;omega
    ·rintro ⟨r,out,ka,kb,mg,ac,bc⟩ st2 ⟨hs,⟨r',rfl,g⟩|⟨rfl,m,p1,p2,p3⟩⟩
     ·exact RO ⟨hs,r',rfl,g⟩
     ·(dsimp only at m p1 p2 p3;dsimp (zeta:=false) only)
      refine RH (xF hs λst3 hs=>?_);exact RO ⟨hs,rfl,m,p1,p2,(by show i+1+1<=ka+kb;omega)⟩
 ·rintro ⟨r,out,ia,ib,mg⟩ st' ⟨_,_,_,q1,q2,q3⟩
  dsimp only at q1 q2 q3;omega
 ·rintro ⟨r,out,ia,ib,mg⟩ st' ⟨hs,r',rfl,g⟩
  exact RO (h _ _ hs g)
end
structure NJ (B:RX->RX->Bool) (W o la lb:List RX):Prop where
 perm:((la++lb)++o).Perm W
 so:cJ B o
 sa:cJ B la
 sb:cJ B lb
 ge:∀x∈o,∀y∈la++lb,B x y=false
section
variable{prog:S9}{w:SY}{A:SV}{E:R3->R9->Prop}{s:R9}{κ:TX}{U:RX->Prop}{B:RX->RX->Bool}{W o la lb p:List RX}{x y z:RX}
theorem NJ.mem(m:NJ B W o la lb)(hU:∀x∈W,U x){x:RX}(h:x∈(la++lb)++o):U x:=hU x (m.perm.mem_iff.mp h)
theorem NJ.ua(m:NJ B W o la lb)(hU:∀x∈W,U x){x:RX}(h:x∈la):U x:=m.mem hU (by simp[h])
theorem NJ.ub(m:NJ B W o la lb)(hU:∀x∈W,U x){x:RX}(h:x∈lb):U x:=m.mem hU (by simp[h])
theorem cJ.snoc(h:cJ B (la++[x])):cJ B la/\∀y∈la,B x y=false:=⟨(SJ.mp h).1,λy hy=>(SJ.mp h).2.2 y hy x (by simp)⟩
theorem NJ.zK(C:gH prog w A s κ U B)(hU:∀x∈W,U x)(m:NJ B W o (la++p) (lb++[y]))(h:∀x∈p,B y x=true):NJ B W (p++o) la (lb++[y]):=by
 have sp:=SJ.mp m.sa;have uy:=m.ub hU (show y∈lb++[y] by simp);refine⟨?_,cJ.app sp.2.1 m.so λa ha b hb=>m.ge b hb a (by simp[ha]),sp.1,m.sb,λa ha b hb=>?_⟩
 ·refine XB ?_ m.perm
  rw[<-Rg];refine Vi o ?_;rw[Rg la (lb++[y]) p,Rg la p (lb++[y])];exact Uu la Vr
 ·rcases RN.mp ha with ha|ha
  ·have ua:=m.ua hU (show a∈la++p by simp[ha])
   rcases RN.mp hb with hb|hb
   ·exact sp.2.2 b hb a ha
   ·have hay:=C.Ik y a uy ua (h a ha)
    rcases RN.mp hb with hb'|hb'
    ·exact C.tr b y a (m.ub hU hb) uy ua (m.sb.snoc.2 b hb') hay
    ·simp at hb';subst hb';exact hay
  ·exact m.ge a ha b (RN.mpr ((RN.mp hb).imp (Sn _) id))
theorem NJ.yE(C:gH prog w A s κ U B)(hU:∀x∈W,U x)(m:NJ B W o (la++[x]) (lb++p))(h:∀y∈p,B y x=false):NJ B W (p++o) (la++[x]) lb:=by
 have sp:=SJ.mp m.sb;have ux:=m.ua hU (show x∈la++[x] by simp);refine⟨by simpa[Rg]using m.perm,cJ.app sp.2.1 m.so λa ha b hb=>m.ge b hb a (by simp[ha]),m.sa,sp.1,λa ha b hb=>?_⟩;rcases RN.mp ha with ha|ha
 ·have ua:=m.ub hU (show a∈lb++p by simp[ha])
  rcases RN.mp hb with hb|hb
  ·rcases RN.mp hb with hb'|hb'
   ·exact C.tr b x a (m.ua hU hb) ux ua (m.sa.snoc.2 b hb') (h a ha)
   ·simp at hb';subst hb';exact h a ha
  ·exact sp.2.2 b hb a ha
 ·exact m.ge a ha b (RN.mpr ((RN.mp hb).imp id (Sn _)))
theorem NJ.done(m:NJ B W o [] lb):Gd B W (lb++o):=⟨by simpa using m.perm,m.sb.app m.so λa ha b hb=>m.ge b hb a (by simp[ha])⟩
theorem NJ.GD(C:gH prog w A s κ U B)(hU:∀x∈W,U x)(m:NJ B W o la [z])(h:∀x∈la,B z x=true):Gd B W (z::la++o):=by
 have k:=NJ.zK (p:=la) (la:=[]) (lb:=[]) C hU (by simpa using m) h;simpa using k.done
end
section
variable{prog:S9}{w:SY}{A:SV}{E:R3->R9->Prop}{s:R9}{κ:TX}{U:RX->Prop}{B:RX->RX->Bool}{st st':S5}{W:List RX}{a b out:Array RX}{na nb k:Nat}
theorem fh{l:Array RX}{n:Nat}(h0:0<n)(h:n<=l.size):l.toList.take n=l.toList.take (n-1)++[l[n-1]]:=by
 obtain⟨i,rfl⟩:∃i,n=i+1:=⟨n-1,by omega⟩
 rw[WZ];simp
abbrev NR(B:RX->RX->Bool)(W:List RX)(out a b:Array RX)(na nb:Nat):Prop:=NJ B W out.toList.reverse (a.toList.take na) (b.toList.take nb)
theorem xS{l:Array RX}{n i:Nat}(h:i<n)(hi:i<l.size):l[i]∈l.toList.take n:=by
 rw[Sl];exact⟨i,by simp;omega,by simp⟩
theorem cJ.Jg{l:Array RX}{n i j:Nat}(h:cJ B (l.toList.take n))(hij:i<j)(hj:j<l.size)(hn:j<n):B l[j] l[i]=false:=by
 have:=VG.mp h i j (by simp;omega) (by simp;omega) hij;simpa using this
theorem Be{l:Array RX}{i n:Nat}(h:i<=n)(hn:n<=l.size):l.toList.take n=l.toList.take i++(l.extract i n).toList/\∀x∈(l.extract i n).toList,∃j,∃hj:j<l.size,i<=j/\j<n/\x=l[j]:=by
 refine⟨?_,λx hx=>?_⟩
 ·rw[jM,<-W2,show i+(n-i)=n by omega]
 ·rw[jM]at hx
  obtain⟨j,hj,rfl⟩:=Sl.mp hx;simp at hj;exact⟨i+j,by omega,by omega,by omega,by simp⟩
theorem NJ.IY(C:gH prog w A s κ U B)(hU:∀x∈W,U x)(m:NR B W out a b na nb)(h1:k<=na)(h1':na<=a.size)(h2:0<nb)(h2':nb<=b.size)(h:∀j (hj:j<a.size),k<=j->j<na->B b[nb-1] a[j]=true):NR B W (out++(a.extract k na).reverse) a b k nb:=by
 obtain⟨e,hm⟩:=Be h1 h1';unfold NR at m ⊢;rw[e,fh h2 h2']at m;rw[fh h2 h2',show(out++(a.extract k na).reverse).toList.reverse=(a.extract k na).toList++out.toList.reverse by simp];exact m.zK C hU λx hx=>by
  obtain⟨j,hj,hjk,hjn,rfl⟩:=hm x hx;exact h j hj hjk hjn
theorem NJ.IM(C:gH prog w A s κ U B)(hU:∀x∈W,U x)(m:NR B W out a b na nb)(h1:0<na)(h1':na<=a.size)(h2:k<=nb)(h2':nb<=b.size)(h:∀j (hj:j<b.size),k<=j->j<nb->B b[j] a[na-1]=false):NR B W (out++(b.extract k nb).reverse) a b na k:=by
 obtain⟨e,hm⟩:=Be h2 h2';unfold NR at m ⊢;rw[e,fh h1 h1']at m;rw[fh h1 h1',show(out++(b.extract k nb).reverse).toList.reverse=(b.extract k nb).toList++out.toList.reverse by simp];exact m.yE C hU λx hx=>by
  obtain⟨j,hj,hjk,hjn,rfl⟩:=hm x hx;exact h j hj hjk hjn
theorem NJ.G7(C:gH prog w A s κ U B)(hU:∀x∈W,U x)(m:NR B W out a b na nb)(h1:0<na)(h1':na<=a.size)(h2:0<nb)(h2':nb<=b.size)(h:B b[nb-1] a[na-1]=true):NR B W (out.push a[na-1]) a b (na-1) nb:=by
 unfold NR at m ⊢;rw[fh h1 h1',fh h2 h2']at m;rw[fh h2 h2',show(out.push a[na-1]).toList.reverse=[a[na-1]]++out.toList.reverse by simp];exact m.zK C hU λx hx=>by simp at hx;subst hx;exact h
theorem NJ.Hn(C:gH prog w A s κ U B)(hU:∀x∈W,U x)(m:NR B W out a b na nb)(h1:0<na)(h1':na<=a.size)(h2:0<nb)(h2':nb<=b.size)(h:B b[nb-1] a[na-1]=false):NR B W (out.push b[nb-1]) a b na (nb-1):=by
 unfold NR at m ⊢;rw[fh h1 h1',fh h2 h2']at m;rw[fh h1 h1',show(out.push b[nb-1]).toList.reverse=[b[nb-1]]++out.toList.reverse by simp];exact m.yE C hU λx hx=>by simp at hx;subst hx;exact h
theorem NJ.uA(m:NR B W out a b na nb)(hU:∀x∈W,U x)(h0:0<na)(h:na<=a.size):U a[na-1]:=m.ua hU (xS (by omega) _)
theorem NJ.uB(m:NR B W out a b na nb)(hU:∀x∈W,U x)(h0:0<nb)(h:nb<=b.size):U b[nb-1]:=m.ub hU (xS (by omega) _)
set_option maxHeartbeats 1000000
theorem HX(C:gH prog w A s κ U B){Q:Array RX->S5->Prop}(hU:∀x∈a.toList++b.toList,U x)(ha:0<a.size)(hb:0<b.size)(sa:cJ B a.toList)(sb:cJ B b.toList)(hk:kindOf st=κ)(h0:∀x∈a.toList,B b[0] x=true)(h1:B b[b.size-1] a[a.size-1]=true)(h:∀r st',Sm st st'->Gd B (a.toList++b.toList) r.toList->Q r st'):wpS (Rn prog w) A E s (Jh a b) Q st:=by
 generalize hW:a.toList++b.toList=W at hU h;have eA:∀{out:Array RX}{na nb:Nat},NR B W out a b na nb->(na==0)=true->Gd B W (a.extract 0 na++b.extract 0 nb++out.reverse).toList:=λ{out na nb} m e=>by
  have e:na=0:=by simpa using e
  subst e;unfold NR at m;rw[List.take_zero]at m;rw[SR,SR,jM,jM,Array.toList_reverse,Tt,Tt,X4,X4,List.take_zero,Sz];exact m.done
 have eB:∀{out:Array RX}{na nb:Nat},NR B W out a b na nb->(nb==1)=true->Gd B W (b.extract 0 nb++a.extract 0 na++out.reverse).toList:=λ{out na nb} m e=>by
  have e:nb=1:=by simpa using e
  subst e;have e1:b.toList.take 1=[b[0]]:=by rw[fh (by omega) (by omega)];simp
  unfold NR at m;rw[e1]at m;rw[SR,SR,jM,jM,Array.toList_reverse,Tt,Tt,X4,X4,e1];exact m.GD C hU λx hx=>h0 x (List.mem_of_mem_take hx)
 have start:NR B W #[a[a.size-1]] a b (a.size-1) b.size:=by
  have m0:NR B W #[] a b a.size b.size:=by
   have e1:a.toList.take a.size=a.toList:=SC (by simp);have e2:b.toList.take b.size=b.toList:=SC (by simp);unfold NR;rw[e1,e2];exact⟨by simp[hW],.nil,sa,sb,λx hx=>by simp at hx⟩
  exact m0.G7 C hU ha (RC _) hb (RC _) h1
 refine RH (Wp (TG ⟨rfl,?_⟩));refine RH (eR (bM (show a.size-1<a.size by omega)) ?_);refine aQ (λc1=>RO (h _ _ (Sm.refl _) (eA start c1))) λc1=>aQ (λc2=>RO (h _ _ (Sm.refl _) (eB start c2))) λc2=>?_
 have c1:a.size-1≠0:=by simpa using c1
 have c2:b.size≠1:=by simpa using c2
 refine RH (Vh ?_);refine RH (UN (Sr (I:=λ(i:Nat) (sx:Option (Array RX)×Nat×Nat×Array RX×Nat) st'=>Sm st st'/\sx.1=Zy/\NR B W sx.2.2.2.1 a b sx.2.1 sx.2.2.1/\0<sx.2.1/\sx.2.1<=a.size/\1<sx.2.2.1/\sx.2.2.1<=b.size/\i+1+(sx.2.1+sx.2.2.1)<=a.size+b.size)
  (Q:=λsx st'=>Sm st st'/\∃r,sx.1=Zz r/\Gd B W r.toList) ?_ ?_ ⟨Sm.refl _,rfl,start,(by show 0<a.size-1;omega),(by show a.size-1<=a.size;omega),(by show 1<b.size;omega),RC _,(by show 0+1+(a.size-1+b.size)<=a.size+b.size;omega)⟩) ?_)
 ·rintro i ⟨r,na,nb,out,mg⟩ st1 _ hi ⟨hs,rfl,m,q1,q2,q3,q4,q5⟩
  dsimp only at m q1 q2 q3 q4 q5;refine RH (UN (Sr (I:=λ(j:Nat) (sx:Option (Array RX)×Nat×Nat×Array RX×Nat×Nat) st'=>Sm st st'/\sx.1=Zy/\NR B W sx.2.2.2.1 a b sx.2.1 sx.2.2.1/\0<sx.2.1/\sx.2.1<=a.size/\1<sx.2.2.1/\sx.2.2.1<=b.size/\sx.2.1+sx.2.2.1+j<=na+nb)
   (Q:=λsx st'=>Sm st st'/\((∃r,sx.1=Zz r/\Gd B W r.toList)∨(sx.1=Zy/\NR B W sx.2.2.2.1 a b sx.2.1 sx.2.2.1/\0<sx.2.1/\sx.2.1<=a.size/\1<sx.2.2.1/\sx.2.2.1<=b.size/\sx.2.1+sx.2.2.1+1<=na+nb))) ?_ ?_ ⟨hs,rfl,m,q1,q2,q3,q4,RC _⟩) ?_)
  ·rintro j ⟨r,ja,jb,out,ac,bc⟩ st2 _ hj ⟨hs,rfl,m,p1,p2,p3,p4,p5⟩
   dsimp only at m p1 p2 p3 p4 p5;refine DE λQ' hQ=>?_
   refine RH (eR (bM (show jb-1<b.size by omega)) (RH (eR (bM (show ja-1<a.size by omega)) (RH (Bw C (m.uB hU (by omega) p4) (m.uA hU p1 p2) (hs.1.trans hk) ?_)))));cases q:B b[jb-1] a[ja-1]with
   |true =>
    have m2:=m.G7 C hU p1 p2 (by omega) p4 q;refine RH (eR (bM (show ja-1<a.size by omega)) (aQ (λz=>RO (hQ _ _ ⟨hs,.inl ⟨_,rfl,eA m2 z⟩⟩)) λz=>?_));have z:ja-1≠0:=by simpa using z
    have w1:0<ja-1:=by omega
    have w2:ja-1<=a.size:=by omega
    have w3:ja-1+jb+1<=na+nb:=by omega
    have w4:ja-1+jb+(j+1)<=na+nb:=by omega
    exact aQ (λ_=>RO (hQ _ _ ⟨hs,.inr ⟨rfl,m2,w1,w2,p3,p4,w3⟩⟩)) λ_=>RO (hQ _ _ ⟨hs,rfl,m2,w1,w2,p3,p4,w4⟩)
   |false =>
    have m2:=m.Hn C hU p1 p2 (by omega) p4 q;refine RH (eR (bM (show jb-1<b.size by omega)) (aQ (λz=>RO (hQ _ _ ⟨hs,.inl ⟨_,rfl,eB m2 z⟩⟩)) λz=>?_));have z:jb-1≠1:=by simpa using z
    have w1:1<jb-1:=by omega
    have w2:jb-1<=b.size:=by omega
    have w3:ja+(jb-1)+1<=na+nb:=by omega
    have w4:ja+(jb-1)+(j+1)<=na+nb:=by omega
    exact aQ (λ_=>RO (hQ _ _ ⟨hs,.inr ⟨rfl,m2,p1,p2,w1,w2,w3⟩⟩)) λ_=>RO (hQ _ _ ⟨hs,rfl,m2,p1,p2,w1,w2,w4⟩)
  ·rintro ⟨r,ja,jb,out,ac,bc⟩ st2 ⟨_,_,_,p1,p2,p3,p4,p5⟩
   dsimp only at p1 p2 p3 p4 p5;omega
  ·rintro ⟨r,ja,jb,out,ac,bc⟩ st2 ⟨hs,⟨r',rfl,g⟩|⟨rfl,m,p1,p2,p3,p4,p5⟩⟩
   ·exact RO ⟨hs,r',rfl,g⟩
   ·dsimp only at m p1 p2 p3 p4 p5
    refine RH (Wp (TG ⟨rfl,?_⟩));refine RH (UN (Sr (I:=λ(j:Nat) (sx:Option (Array RX)×Nat×Nat×Array RX×Nat×Nat×Nat) st'=>Sm st st'/\sx.1=Zy/\NR B W sx.2.2.2.1 a b sx.2.1 sx.2.2.1/\0<sx.2.1/\sx.2.1<=a.size/\1<sx.2.2.1/\sx.2.2.1<=b.size/\sx.2.1+sx.2.2.1+j<=ja+jb)
     (Q:=λsx st'=>Sm st st'/\((∃r,sx.1=Zz r/\Gd B W r.toList)∨(sx.1=Zy/\NR B W sx.2.2.2.1 a b sx.2.1 sx.2.2.1/\0<sx.2.1/\sx.2.1<=a.size/\1<sx.2.2.1/\sx.2.2.1<=b.size/\sx.2.1+sx.2.2.1<=ja+jb))) ?_ ?_ ⟨hs,rfl,m,p1,p2,p3,p4,RC _⟩) ?_)
    ·rintro j ⟨r,ka,kb,out,mg,ac,bc⟩ st2 _ hj ⟨hs,rfl,m,t1,t1',t2,t2',t3⟩
     dsimp only at m t1 t1' t2 t2' t3;dsimp (zeta:=false) only
     extract_lets _ _ _ _ _ _ _ _ _ _ _ _ jp
     refine DE λQ' hQ=>?_
     refine mB (jp ()) (λ_=>True) (λg _=>?_) λhj=>aQ (λ_=>hj _ trivial) λ_=>hj _ trivial
     refine RH (xF hs λst3 hs=>RH (eR (bM (show kb-1<b.size by omega)) (RH (vA C (key:=b[kb-1]) (arr:=a) (base:=0) (n:=ka) (hint:=ka-1) (by omega) (λi hi z _=>m.ua hU (xS (by omega) hi)) (m.uB hU (by omega) t2') (λi j hj hij h1 h2=>m.sa.Jg hij hj (by omega)) (by omega) (hs.1.trans hk) λt k1 k2 k3=>?_))));have m2:=m.IY C hU (k:=t) k1 t1' (by omega) t2' λj hj h1 h2=>k3 _ _ (by omega) (by omega)
     dsimp (zeta:=false) only
     extract_lets _ _ jp2
     refine mB (λq:Nat×Array RX=>jp2 () q.1 q.2) (λq=>0<q.1/\q.1<=ka/\NR B W q.2 a b q.1 kb/\∃h:q.1-1<a.size,B b[kb-1] a[q.1-1]=false) ?_ λhj2=>aQ (λ_=>aQ (λz=>RO (hQ _ _ ⟨hs,.inl ⟨_,rfl,eA m2 z⟩⟩)) λz=>?_) λhk0=>?_
     ·rintro ⟨n,o⟩ ⟨hc,g1,m2,g2,ge⟩
      dsimp only at hc g1 m2 g2 ge;have m3:=m2.Hn C hU hc (by omega) (by omega) (by omega) ge;refine RH (eR (bM (show kb-1<b.size by omega)) (aQ (λz=>RO (hQ _ _ ⟨hs,.inl ⟨_,rfl,eB m3 z⟩⟩)) λz=>?_));have z:kb-1≠1:=λe=>z (beq_iff_eq.mpr e)
      refine RH (eR (bM g2) (RH (vg C (arr:=b) (base:=0) (n:=kb-1) (hint:=kb-1-1) (by omega) (λi hi y _=>m3.ub hU (xS (by omega) hi)) (m3.uA hU hc (by omega)) (λi j hj hij h1 h2=>m3.sb.Jg hij hj (by omega)) (by omega) (hs.1.trans hk) λl l1 l2 l3=>?_)));have hl:0<l:=by
       rcases Nat.eq_zero_or_pos l with e|e
       ·have e1:=l3 0 (by omega) (by omega) (by omega)
        have e2:=h0 a[n-1] (by simp);rw[e1]at e2;cases e2
       ·exact e
      have m4:=m3.IM C hU (k:=l) hc (by omega) l1 (by omega) λj hj h1 h2=>l3 _ _ (by omega) (by omega)
      dsimp (zeta:=false) only
      extract_lets _ _ _ jp3
      refine mB (λq:Nat×Array RX=>jp3 () q.1 q.2) (λq=>1<q.1/\q.1<=kb-1/\NR B W q.2 a b n q.1/\∃h:q.1-1<b.size,B b[q.1-1] a[n-1]=true) ?_ λhj3=>aQ (λ_=>aQ (λy=>RO (hQ _ _ ⟨hs,.inl ⟨_,rfl,eB m4 y⟩⟩)) λy=>aQ (λy2=>Yv (show l=0 from eq_of_beq y2) (by omega)) λ_=>?_) λhl0=>?_
      ·rintro ⟨q,o⟩ ⟨w3,w4,m4,g3,hd⟩
       dsimp only at w3 w4 m4 g3 hd;have m5:=m4.G7 C hU hc (by omega) (by omega) (by omega) hd;refine RH (eR (bM g2) (aQ (λx=>RO (hQ _ _ ⟨hs,.inl ⟨_,rfl,eA m5 x⟩⟩)) λx=>?_));have x:n-1≠0:=λe=>x (beq_iff_eq.mpr e)
       have w1:0<n-1:=by omega
       have w2:n-1<=a.size:=by omega
       have w4:q<=b.size:=by omega
       have w5:n-1+q+(j+1)<=ja+jb:=by omega
       exact aQ (λ_=>RO (hQ _ _ ⟨hs,.inr ⟨rfl,m5,w1,w2,w3,w4,Ro (U7 _ _) w5⟩⟩)) λ_=>RO (hQ _ _ ⟨hs,rfl,m5,w1,w2,w3,w4,w5⟩)
      ·have y:l≠1:=λe=>y (beq_iff_eq.mpr e)
       exact hj3 (l,_) ⟨(show 1<l by omega),(show l<=kb-1 by omega),m4,(show l-1<b.size by omega),l2 (l-1) (by omega) (by omega) (by omega)⟩
      ·have hl0:¬kb-1-l>0:=hl0
       obtain rfl:l=kb-1:=by omega
       exact hj3 (kb-1,_) ⟨(show 1<kb-1 by omega),RC _,m3,(show kb-1-1<b.size by omega),l2 (kb-1-1) (by omega) (by omega) (by omega)⟩
     ·have z:t≠0:=λe=>z (beq_iff_eq.mpr e)
      exact hj2 (t,_) ⟨(show 0<t by omega),k1,m2,(show t-1<a.size by omega),k2 (t-1) (by omega) (by omega) (by omega)⟩
     ·have hk0:¬ka-t>0:=hk0
      obtain rfl:t=ka:=by omega
      exact hj2 (t,_) ⟨t1,RC _,m,(show t-1<a.size by omega),k2 (t-1) (by omega) (by omega) (by omega)⟩
    ·rintro ⟨r,ka,kb,out,mg,ac,bc⟩ st2 ⟨_,_,_,p1,p2,p3,p4,p5⟩
     dsimp only at p1 p2 p3 p4 p5;omega
    ·rintro ⟨r,ka,kb,out,mg,ac,bc⟩ st2 ⟨hs,⟨r',rfl,g⟩|⟨rfl,m,p1,p2,p3,p4,p5⟩⟩
     ·exact RO ⟨hs,r',rfl,g⟩
     ·dsimp only at m p1 p2 p3 p4 p5
      refine RH (xF hs λst3 hs=>?_);exact RO ⟨hs,rfl,m,p1,p2,p3,p4,(by show i+1+1+(ka+kb)<=a.size+b.size;omega)⟩
 ·rintro ⟨r,na,nb,out,mg⟩ st' ⟨_,_,_,q1,q2,q3,q4,q5⟩
  dsimp only at q1 q2 q3 q4 q5;omega
 ·rintro ⟨r,na,nb,out,mg⟩ st' ⟨hs,r',rfl,g⟩
  exact RO (h _ _ hs g)
end
theorem w8:∀(M:List RX) (n d:Nat) (xs:Array RX),d+n+M.length<=xs.size ->
  ((M.zipIdx n).foldl (λa x=>match x with|(p,j)=>a.setIfInBounds (d+j) p) xs).toList=xs.toList.take (d+n)++M++xs.toList.drop (d+n+M.length)
 |[],n,d,xs,h=>by simp
 |x::M,n,d,xs,h=>by
  rw[Wq,UI];rw[w8 M (n+1) d _ (by simp at h ⊢;omega)];rw[Rp]at h;have e1:((xs.setIfInBounds (d+n) x).toList).take (d+(n+1))=xs.toList.take (d+n)++[x]:=by
   rw[U8,show d+(n+1)=d+n+1 by omega,List.take_succ,VI (RC _),S6 (by simp;omega)];rfl
  have e2:((xs.setIfInBounds (d+n) x).toList).drop (d+(n+1)+M.length)=xs.toList.drop (d+n+(M.length+1)):=by
   rw[U8,List.drop_set_of_lt (by omega)]
   congr 1
   omega
  show List.take (d+(n+1)) (xs.setIfInBounds (d+n) x).toList++M++List.drop (d+(n+1)+M.length) (xs.setIfInBounds (d+n) x).toList=_;rw[e1,e2,Rp];simp
theorem AF{xs:Array RX}{i j:Nat}(hij:i<=j)(hj:j<=xs.size):(mirror xs i j ((j-i) / 2)).toList=xs.toList.take i++((xs.toList.drop i).take (j-i)).reverse++xs.toList.drop j:=by
 apply Uy;intro k;have h:=getElem?_mirror_all (i:=i) hj k;rw[RZ,h];have z1:min i xs.size=i:=UJ (Ro hij hj);have z2:min (j-i) (xs.size-i)=j-i:=UJ (Nat.sub_le_sub_right hj i);have z3:i+(j-i)=j:=Nat.add_sub_of_le hij;simp only[List.getElem?_append,RI,Sh,List.length_reverse,T4,RD,z1,z2,z3];clear h z1 z2;by_cases c1:k<i
 ·rw[Yr (by omega),Yq (by omega),Yq (by omega),Th,Yq c1,RZ]
 ·by_cases c2:k<j
  ·have z4:((xs.toList.drop i).take (j-i)).length=j-i:=by rw[Sh,T4,RD];exact UJ (Nat.sub_le_sub_right hj i)
   rw[Yq (by omega),Yq c2,Yr c1,List.getElem?_reverse (by rw[z4];omega),z4,Th,Yq (by omega),U9,RZ]
   congr 1
   omega
  ·rw[Yr (by omega),Yr (by omega),U9,RZ]
   congr 1
   omega
theorem Cu{xs:Array RX}{src d:Nat}(hs:src<xs.size)(hd:d<=src):(bubble xs src d).toList=xs.toList.take (src-d)++[xs[src]]++(xs.toList.drop (src-d)).take d++xs.toList.drop (src+1):=by
 apply Uy;intro k;have h:=getElem?_bubble hs d hd k;rw[RZ,h];have z1:min (src-d) xs.size=src-d:=UJ (Ro (Nat.sub_le _ _) (T7 hs));have z2:min d (xs.size-(src-d))=d:=UJ (by omega);simp only[List.getElem?_append,RI,Sh,T4,RD,Rp,T2,z1,z2];clear h z1 z2;by_cases c1:k<src-d
 ·rw[Yr (by omega),Yr (by omega),Yq (by omega),Yq (by omega),Yq (by omega),Th,Yq c1,RZ]
 ·by_cases c2:k=src-d
  ·rw[Yq c2,Yq (by omega),Yq (by omega),Yr (by omega),bM hs]
   rw[show k-(src-d)=0 by omega];rfl
  ·by_cases c3:k<=src
   ·rw[Yr c2,Yq (by omega),Yq (by omega),Yr (by omega),Th,Yq (by omega),U9,RZ]
    congr 1
    omega
   ·rw[Yr c2,Yr (by omega),Yr (by omega),U9,RZ]
    congr 1
    omega
noncomputable def seg(xs:Array RX)(lo n:Nat):List RX:=(xs.toList.drop lo).take n
structure Bs (κ:TX) (W:List RX) (st:S5):Prop where
 kind:kindOf st=κ
 fl:U3 st=Zy
 perm:(arrOf st).toList.Perm W
section
variable{prog:S9}{w:SY}{A:SV}{E:R3->R9->Prop}{s:R9}{κ:TX}{U:RX->Prop}{B:RX->RX->Bool}{st st':S5}{W:List RX}{xs:Array RX}{lo n nrem:Nat}
theorem Bs.u(b:Bs κ W st)(hU:∀x∈W,U x){i:Nat}(h:i<(arrOf st).size):U (arrOf st)[i]:=hU _ (b.perm.mem_iff.mp (by simp))
theorem Bs.ne(b:Bs κ W st)(hN:W.Nodup){i j:Nat}(hi:i<(arrOf st).size)(hj:j<(arrOf st).size)(h:i≠j):(arrOf st)[i]≠(arrOf st)[j]:=by
 have hn:=(b.perm.nodup_iff).mpr hN;intro e;exact h ((Vu (h₀:=by simpa using hi) (h₁:=by simpa using hj) hn).mp (by simpa using e))
theorem Bs.strict(b:Bs κ W st)(C:gH prog w A s κ U B)(hU:∀x∈W,U x)(hN:W.Nodup){i j:Nat}(hi:i<(arrOf st).size)(hj:j<(arrOf st).size)(h:i≠j)(hb:B (arrOf st)[i] (arrOf st)[j]=false):B (arrOf st)[j] (arrOf st)[i]=true:=by
 cases q:B (arrOf st)[j] (arrOf st)[i]with
 |true=>rfl
 |false=>exact Yv (C.tot _ _ (b.u hU hi) (b.u hU hj) hb q) (b.ne hN hi hj h)
theorem yY(C:gH prog w A s κ U B)(hU:∀x∈W,U x)(b:Bs κ W st){i j:Nat}{Q:Option Bool->S5->Prop}(hi:i<(arrOf st).size)(hj:j<(arrOf st).size)(h:Q (Zz (B (arrOf st)[i] (arrOf st)[j])) st):wpS (Rn prog w) A E s (ltAt' i j) Q st:=by
 rw[ltAt'_eq];refine RH (Vh ?_);exact RH (eR (bM hi) (RH (eR (bM hj) (Bw C (b.u hU hi) (b.u hU hj) b.kind h))))
theorem ue(h:lo+n<xs.size):seg xs lo (n+1)=seg xs lo n++[xs[lo+n]]:=by
 unfold seg;rw[WZ,U9,RZ,bM h];rfl
theorem lp{x:RX}(h:x∈seg xs lo n):∃i,∃hi:lo+i<xs.size,i<n/\x=xs[lo+i]:=by
 unfold seg at h;obtain⟨j,hj,rfl⟩:=Sl.mp h;simp at hj;exact⟨j,by omega,by omega,by simp⟩
theorem seg_at{i j:Nat}{R:RX->RX->Prop}(h:(seg xs lo n).Pairwise R)(hij:i<j)(hj:j<n)(hz:lo+j<xs.size):R xs[lo+i] xs[lo+j]:=by
 unfold seg at h;have:=VG.mp h i j (by simp;omega) (by simp;omega) hij;simpa using this
theorem rO:(seg xs lo 1).Pairwise R:=by
 unfold seg;cases xs.toList.drop lo with
 |nil=>exact .nil
 |cons x r=>simp
theorem Sg.succ(C:gH prog w A s κ U B)(hU:∀x∈W,U x)(b:Bs κ W st)(h1:1<=n)(hz:lo+n<(arrOf st).size)(h:cJ B (seg (arrOf st) lo n))(hb:B (arrOf st)[lo+n] (arrOf st)[lo+n-1]=false):cJ B (seg (arrOf st) lo (n+1)):=by
 rw[ue hz];refine h.app (Sb _ _) λx hx y hy=>?_
 simp at hy;subst hy;obtain⟨i,hi,hin,rfl⟩:=lp hx;rcases Um i (n-1)with e|e
 ·have:=seg_at h e (by omega) (by omega)
  have e2:lo+(n-1)=lo+n-1:=by omega
  simp only[e2]at this;exact C.tr _ _ _ (b.u hU _) (b.u hU _) (b.u hU _) this hb
 ·have e2:lo+n-1=lo+i:=by omega
  simp only[e2]at hb;exact hb
theorem Dn.succ(C:gH prog w A s κ U B)(hU:∀x∈W,U x)(b:Bs κ W st)(h1:1<=n)(hz:lo+n<(arrOf st).size)(h:(seg (arrOf st) lo n).Pairwise λx y=>B x y=false)(hb:B (arrOf st)[lo+n] (arrOf st)[lo+n-1]=true):(seg (arrOf st) lo (n+1)).Pairwise λx y=>B x y=false:=by
 rw[ue hz];refine SJ.mpr ⟨h,Sb _ _,λx hx y hy=>?_⟩;simp at hy;subst hy;have hb:=C.Ik _ _ (b.u hU _) (b.u hU _) hb;obtain⟨i,hi,hin,rfl⟩:=lp hx;rcases Um i (n-1)with e|e
 ·have:=seg_at h e (by omega) (by omega)
  have e2:lo+(n-1)=lo+n-1:=by omega
  simp only[e2]at this;exact C.tr _ _ _ (b.u hU _) (b.u hU _) (b.u hU _) hb this
 ·have e2:lo+n-1=lo+i:=by omega
  simp only[e2]at hb;exact hb
theorem Fu(C:gH prog w A s κ U B)(hU:∀x∈W,U x)(b:Bs κ W st){R:Type}(F:Nat->Option R×Nat->StateT S5 Sem (ForInStep (Option R×Nat))){Q:Option R×Nat->S5->Prop}{a:Nat}(h1:1<=a)(ha:a<=nrem)(hz:lo+nrem<=(arrOf st).size)(h:cJ B (seg (arrOf st) lo a))(hF:∀x n Q' (hn:lo+n<(arrOf st).size),1<=n->Q' (if B (arrOf st)[lo+n] (arrOf st)[lo+n-1]=true then .done (Zy,n)else .yield (Zy,n+1)) st->wpS (Rn prog w) A E s (F x (Zy,n)) Q' st)(hq:∀n,a<=n->n<=nrem->cJ B (seg (arrOf st) lo n)->(∀(hn:lo+n<(arrOf st).size),n<nrem->B (arrOf st)[lo+n] (arrOf st)[lo+n-1]=true)->Q (Zy,n) st):wpS (Rn prog w) A E s (forIn [a:nrem] (Zy,a) F) Q st:=by
 refine Sr (I:=λi sx st'=>st'=st/\sx=(Zy,i)/\cJ B (seg (arrOf st) lo i)) ?_ ?_ ⟨rfl,rfl,h⟩
 ·rintro i _ st' hi hi2 ⟨rfl,rfl,a1⟩
  refine hF _ _ _ (by omega) (by omega) ?_;cases q:B (arrOf st')[lo+i] (arrOf st')[lo+i-1]with
  |true=>rw[Yq rfl];exact hq i hi (by omega) a1 λ_ _=>q
  |false=>rw[Yr RL];exact⟨rfl,rfl,Sg.succ C hU b (by omega) (by omega) a1 q⟩
 ·rintro _ st' ⟨rfl,rfl,a1⟩
  rw[Nat.max_eq_right ha]at a1 ⊢;exact hq nrem ha (RC _) a1 λ_ z=>by omega
theorem Ia{i j:Nat}{Q:Unit->S5->Prop}(h:Q () (setArr st (mirror (arrOf st) i j ((j-i) / 2)))):wpS (Rn prog w) A E s (reverseSlice' i j) Q st:=by
 rw[reverseSlice'_eq];exact V2 h
theorem Bs.arr(b:Bs κ W st){ys:Array RX}(h:ys.toList.Perm (arrOf st).toList):Bs κ W (setArr st ys):=⟨b.kind,b.fl,h.trans b.perm⟩
theorem DY{m:Nat}(hz:lo+m<=xs.size):seg (mirror xs lo (lo+m) ((lo+m-lo) / 2)) lo m=(seg xs lo m).reverse/\(mirror xs lo (lo+m) ((lo+m-lo) / 2)).toList.take lo=xs.toList.take lo:=by
 have e:=AF (xs:=xs) (i:=lo) (j:=lo+m) (by omega) hz;rw[SM]at e;have hl:(xs.toList.take lo).length=lo:=by simp;omega
 unfold seg;rw[show lo+m-lo=m by omega,e,Rg];constructor
 ·rw[Ui (by omega),SD (by omega),Sz,SK (by simp;omega),SC (by simp;omega)]
 ·rw[SK (by omega),SC (by omega)]
theorem Gz(C:gH prog w A s κ U B)(hU:∀x∈W,U x)(hN:W.Nodup)(b:Bs κ W st){Q:Option Nat->S5->Prop}(h1:1<=nrem)(hz:lo+nrem<=(arrOf st).size)(h:∀n st',1<=n->n<=nrem->Bs κ W st'->Rk st'=Rk st->(arrOf st').toList.take lo=(arrOf st).toList.take lo->cJ B (seg (arrOf st') lo n)->Q (Zz n) st'):wpS (Rn prog w) A E s (Iy lo nrem) Q st:=by
 refine RH (Fu C hU b _ (RC 1) h1 hz rO (λx n Q' hn h1 hq=>?_) λn n1 n2 sn brk=>?_)
 ·refine RH (yY C hU b hn (by omega) ?_)
  cases q:B (arrOf st)[lo+n] (arrOf st)[lo+n-1]with
  |true=>rw[q]at hq;exact RO hq
  |false=>rw[q]at hq;exact RO hq
 ·refine aQ (λe=>RO (h n st n1 n2 b rfl rfl sn)) λe=>?_
  have e:n≠nrem:=by simpa using e
  refine aQ (λn3=>RH (yY C hU b (by omega) (by omega) ?_)) λn3=>?_
  ·have n3:n>1:=n3
   have q:B (arrOf st)[lo] (arrOf st)[lo+n-1]=true:=by
    refine b.strict C hU hN (by omega) (by omega) (by omega) ?_;have:=seg_at (i:=0) (j:=n-1) sn (by omega) (by omega) (by omega);simpa[show lo+(n-1)=lo+n-1 by omega]using this
   rw[q];exact RO (h n st n1 n2 b rfl rfl sn)
  ·have n3:¬n>1:=n3
   obtain rfl:n=1:=by omega
   refine RH (Wp (TG ⟨rfl,?_⟩));refine RH (UN (Sr (I:=λi (sx:Option (Option Nat)×Nat×Nat) st'=>st'=st/\sx=(Zy,i,0)/\(seg (arrOf st) lo i).Pairwise λx y=>B x y=false)
    (Q:=λsx st'=>st'=st/\∃m,2<=m/\m<=nrem/\sx=(Zy,m,0)/\(seg (arrOf st) lo m).Pairwise λx y=>B x y=false) ?_ ?_ ⟨rfl,rfl,Dn.succ C hU b (RC 1) (by omega) rO (brk (by omega) (by omega))⟩) ?_)
   ·rintro i _ st' hi hi2 ⟨rfl,rfl,a1⟩
    have hi:2<=i:=hi;refine RH (yY C hU b (show lo+i<(arrOf st').size by omega) (show lo+i-1<(arrOf st').size by omega) ?_);cases q:B (arrOf st')[lo+i] (arrOf st')[lo+i-1]with
    |true=>exact RO ⟨rfl,rfl,Dn.succ C hU b (by omega) (by omega) a1 q⟩
    |false =>
     refine RH (yY C hU b (show lo+i-1<(arrOf st').size by omega) (show lo+i<(arrOf st').size by omega) ?_);rw[b.strict C hU hN (by omega) (by omega) (by omega) q];exact RO ⟨rfl,i,hi,by omega,rfl,a1⟩
   ·rintro _ st' ⟨rfl,rfl,a1⟩
    rw[Nat.max_eq_right (by omega)]at a1 ⊢;exact⟨rfl,nrem,by omega,RC _,rfl,a1⟩
   ·rintro _ st' ⟨rfl,m,m1,m2,rfl,a1⟩
    have sr:=DY (xs:=arrOf st') (lo:=lo) (m:=m) (by omega);have b2:Bs κ W (setArr st' (mirror (arrOf st') lo (lo+m) ((lo+m-lo) / 2))):=b.arr (Array.perm_iff_toList_perm.mp (mirror_perm _ _ _ _));refine RH (Ia ?_);have hs:(arrOf (setArr st' (mirror (arrOf st') lo (lo+m) ((lo+m-lo) / 2)))).size=(arrOf st').size:=mirror_size _ _ _ _;have srt:cJ B (seg (arrOf (setArr st' (mirror (arrOf st') lo (lo+m) ((lo+m-lo) / 2)))) lo m):=by
     show cJ B (seg (mirror (arrOf st') lo (lo+m) ((lo+m-lo) / 2)) lo m);rw[sr.1];exact List.pairwise_reverse.mpr a1
    refine RH (Fu (a:=m) C hU b2 _ (by omega) m2 (by rw[hs];exact hz) srt (λx n Q' hn h1 hq=>?_) λn n1 n2 sn brk=>?_)
    ·refine RH (yY C hU b2 hn (by omega) ?_)
     generalize B _ _=q at hq ⊢;cases q with
     |true=>exact RO hq
     |false=>exact RO hq
    ·exact RO (h n _ (by omega) n2 b2 rfl sr.2 sn)
end
end Ts
end
section
set_option backward.eqns.nonrecursive false
set_option backward.eqns.deepRecursiveSplit false
set_option maxHeartbeats 1000000
namespace Ts
open PySem PyProof.Rows
section
variable{prog:S9}{w:SY}{A:SV}{E:R3->R9->Prop}{s:R9}{κ:TX}{U:RX->Prop}{B:RX->RX->Bool}{st st':S5}{W:List RX}{xs:Array RX}{lo n nrem:Nat}
theorem Ic{i j:Nat}{Q:Unit->S5->Prop}(h:Q () (setArr st (bubble (arrOf st) i (i-j)))):wpS (Rn prog w) A E s (moveDown' i j) Q st:=by
 rw[moveDown'_eq];exact V2 h
theorem ow{l k:Nat}(h:l<=k):seg xs lo k=seg xs lo l++seg xs (lo+l) (k-l):=by
 unfold seg;rw[<-Ue,<-W2,show l+(k-l)=k by omega]
theorem ET{l k:Nat}(h:l<=k)(hz:lo+k<xs.size):seg (bubble xs (lo+k) (lo+k-(lo+l))) lo (k+1)=seg xs lo l++[xs[lo+k]]++seg xs (lo+l) (k-l)/\(bubble xs (lo+k) (lo+k-(lo+l))).toList.take lo=xs.toList.take lo:=by
 have e:=Cu (xs:=xs) (src:=lo+k) (d:=lo+k-(lo+l)) hz (by omega);rw[show lo+k-(lo+k-(lo+l))=lo+l by omega,show lo+k-(lo+l)=k-l by omega]at e;have hl:(xs.toList.take lo).length=lo:=by simp;omega
 have hs:(seg xs lo l).length=l:=by unfold seg;simp;omega
 have hs2:(seg xs (lo+l) (k-l)).length=k-l:=by unfold seg;simp;omega
 have e2:xs.toList.take (lo+l)=xs.toList.take lo++seg xs lo l:=by unfold seg;rw[W2]
 have e3:(bubble xs (lo+k) (k-l)).toList=xs.toList.take lo++(seg xs lo l++[xs[lo+k]]++seg xs (lo+l) (k-l)++xs.toList.drop (lo+k+1)):=by
  rw[e,e2];unfold seg;simp
 rw[show lo+k-(lo+l)=k-l by omega];constructor
 ·rw[seg,e3,Ui (by omega),SD (by omega),Sz,SK (by simp;omega),SC (by simp;omega)]
 ·rw[e3,SK (by omega),SC (by omega)]
theorem Ew(C:gH prog w A s κ U B)(hU:∀x∈W,U x)(b:Bs κ W st){ok:Nat}{Q:Bool->S5->Prop}(hz:lo+n<=(arrOf st).size)(h1:1<=n)(hok:ok<=n)(hs:cJ B (seg (arrOf st) lo ok))(h:∀st',Bs κ W st'->Rk st'=Rk st->(arrOf st').toList.take lo=(arrOf st).toList.take lo->cJ B (seg (arrOf st') lo n)->Q true st'):wpS (Rn prog w) A E s (H5 lo n ok) Q st:=by
 have hs1:cJ B (seg (arrOf st) lo (max ok 1)):=by
  rcases Um ok 1 with e|e
  ·rw[show max ok 1=1 by omega];exact rO
  ·rw[show max ok 1=ok by omega];exact hs
 have sz:∀{st':S5},Bs κ W st'->(arrOf st').size=(arrOf st).size:=λ{st'} b'=>by
  have:=(b'.perm.trans b.perm.symm).length_eq;simpa using this
 refine RH (UN (Sr (I:=λk (sx:Option Bool×Unit) st'=>sx=(Zy,())/\Bs κ W st'/\Rk st'=Rk st/\(arrOf st').toList.take lo=(arrOf st).toList.take lo/\cJ B (seg (arrOf st') lo k))
  (Q:=λsx st'=>sx=(Zy,())/\Bs κ W st'/\Rk st'=Rk st/\(arrOf st').toList.take lo=(arrOf st).toList.take lo/\cJ B (seg (arrOf st') lo n)) ?_ ?_ ⟨rfl,b,rfl,rfl,hs1⟩) ?_)
 ·rintro k _ st1 hk hk2 ⟨rfl,b1,e1,e2,a1⟩
  have z1:=sz b1;have hk1:1<=k:=by omega
  refine RH (UN (Sr (I:=λj (sx:Option Bool×Nat×Nat) st'=>st'=st1/\sx.1=Zy/\sx.2.1<=sx.2.2/\sx.2.2<=k/\sx.2.2-sx.2.1<=k-j/\(∀i (hi:lo+i<(arrOf st1).size),i<sx.2.1->B ((arrOf st1)[lo+k]'(by omega)) (arrOf st1)[lo+i]=false)/\(∀i (hi:lo+i<(arrOf st1).size),sx.2.2<=i->i<k->B ((arrOf st1)[lo+k]'(by omega)) (arrOf st1)[lo+i]=true))
   (Q:=λsx st'=>st'=st1/\∃l,sx=(Zy,l,l)/\l<=k/\(∀i (hi:lo+i<(arrOf st1).size),i<l->B ((arrOf st1)[lo+k]'(by omega)) (arrOf st1)[lo+i]=false)/\(∀i (hi:lo+i<(arrOf st1).size),l<=i->i<k->B ((arrOf st1)[lo+k]'(by omega)) (arrOf st1)[lo+i]=true)) ?_ ?_ ⟨rfl,rfl,SI _,RC _,(by show k-0<=k-0;omega),λi hi z=>Yv z (Nat.not_lt_zero _),λi hi z z2=>Yv z2 (by dsimp only at z;omega)⟩) ?_)
  ·rintro j ⟨r,l,r2⟩ st2 _ hj ⟨rfl,rfl,q1,q2,q3,q4,q5⟩
   dsimp only at q1 q2 q3 q4 q5;refine aQ (λc=>?_) λc=>?_
   ·have c:l ≥ r2:=c
    obtain rfl:l=r2:=by omega
    exact RO ⟨rfl,l,rfl,q2,q4,q5⟩
   ·have c:¬l ≥ r2:=c
    have lk:∀i j (hi:lo+i<(arrOf st2).size) (hj:lo+j<(arrOf st2).size),i<=j->j<k->B (arrOf st2)[lo+j] (arrOf st2)[lo+i]=false∨i=j:=λi j hi hj hij hjk=>by
     rcases Um i j with e|e
     ·exact .inl (seg_at a1 e hjk hj)
     ·exact .inr (by omega)
    refine RH (yY C hU b1 (show lo+k<(arrOf st2).size by omega) (show lo+(l+r2) / 2<(arrOf st2).size by omega) ?_);cases q:B ((arrOf st2)[lo+k]'(by omega)) ((arrOf st2)[lo+(l+r2) / 2]'(by omega))with
    |true =>
     refine RO ⟨rfl,rfl,(by show l<=(l+r2) / 2;omega),(by show(l+r2) / 2<=k;omega),(by show(l+r2) / 2-l<=k-(j+1);omega),q4,λi hi z z2=>?_⟩;have z:(l+r2) / 2<=i:=z;rcases lk _ _ (show lo+(l+r2) / 2<(arrOf st2).size by omega) hi z z2 with e|e
     ·cases y:B ((arrOf st2)[lo+k]'(by omega)) (arrOf st2)[lo+i]with
      |true=>rfl
      |false =>
       have:=C.tr _ _ _ (b1.u hU _) (b1.u hU _) (b1.u hU _) e y;rw[this]at q;cases q
     ·subst e;exact q
    |false =>
     refine RO ⟨rfl,rfl,(by show(l+r2) / 2+1<=r2;omega),q2,(by show r2-((l+r2) / 2+1)<=k-(j+1);omega),λi hi z=>?_,q5⟩;have z:i<(l+r2) / 2+1:=z;rcases lk _ _ hi (show lo+(l+r2) / 2<(arrOf st2).size by omega) (by omega) (by omega)with e|e
     ·exact C.tr _ _ _ (b1.u hU _) (b1.u hU _) (b1.u hU _) e q
     ·subst e;exact q
  ·rintro ⟨r,l,r2⟩ st2 ⟨rfl,rfl,q1,q2,q3,q4,q5⟩
   dsimp only at q1 q2 q3 q4 q5;obtain rfl:l=r2:=by omega
   exact⟨rfl,l,rfl,q2,q4,q5⟩
  ·rintro _ st2 ⟨rfl,l,rfl,l1,l2,l3⟩
   refine RH (Ic ?_);have si:=ET (xs:=arrOf st2) (lo:=lo) l1 (show lo+k<(arrOf st2).size by omega);refine RO ⟨rfl,b1.arr (Array.perm_iff_toList_perm.mp (bubble_perm _ _ _)),e1,si.2.trans e2,?_⟩;show cJ B (seg (bubble (arrOf st2) (lo+k) (lo+k-(lo+l))) lo (k+1));rw[si.1];rw[ow l1]at a1;have sp:=SJ.mp a1;refine cJ.app (cJ.app sp.1 (Sb _ _) λx hx y hy=>?_) sp.2.1 λx hx y hy=>?_
   ·simp at hy;subst hy
    obtain⟨i,hi,hil,rfl⟩:=lp hx;exact l2 i hi hil
   ·rcases RN.mp hx with hx|hx
    ·exact sp.2.2 x hx y hy
    ·simp at hx;subst hx
     obtain⟨i,hi,hil,rfl⟩:=lp hy;refine C.Ik _ _ (b1.u hU _) (b1.u hU _) ?_;have:=l3 (l+i) (by omega) (by omega) (by omega);simpa[Nat.add_assoc]using this
 ·rintro _ st1 ⟨rfl,b1,e1,e2,a1⟩
  rw[show max (max ok 1) n=n by omega]at a1;exact⟨rfl,b1,e1,e2,a1⟩
 ·rintro _ st1 ⟨rfl,b1,e1,e2,a1⟩
  exact RO (h _ b1 e1 e2 a1)
end
noncomputable def Jb:Nat->StateT S5 Sem Bool:=sortPriv% PySem.Builtin.mergeAt
section
variable{prog:S9}{w:SY}{A:SV}{E:R3->R9->Prop}{s:R9}{κ:TX}{U:RX->Prop}{B:RX->RX->Bool}{st st':S5}{W:List RX}{X:Array RX}{lo n nrem:Nat}
theorem Hb{st2:S5}{Q:PUnit->S5->Prop}(h:Q ⟨⟩ st2):wpS (Rn prog w) A E s (set st2:StateT S5 Sem PUnit) Q st:=by
 unfold wpS;rw[StateT.run_set];exact R4 ⟨rfl,h⟩
theorem Ex{α β:Type}{t:StateT S5 Sem α}{Q:α->S5->Prop}(f:β->StateT S5 Sem α)(P:β->S5->Prop)(h:∀x st',P x st'->wpS (Rn prog w) A E s (f x) Q st')(k:(∀x st',P x st'->wpS (Rn prog w) A E s (f x) Q st')->wpS (Rn prog w) A E s t Q st):wpS (Rn prog w) A E s t Q st:=k h
theorem Sg.ij{i j:Nat}(h:cJ B (seg X lo n))(hi:lo<=i)(hij:i<j)(hj:j<lo+n)(hz:j<X.size):B X[j] X[i]=false:=by
 have:=seg_at (i:=i-lo) (j:=j-lo) h (by omega) (by omega) (by omega);simpa[show lo+(i-lo)=i by omega,show lo+(j-lo)=j by omega]using this
theorem xC{i j:Nat}:(X.extract i j).toList=seg X i (j-i):=jM
theorem gA{x:RX}(h:x∈seg X lo n):∃i,∃hi:i<X.size,lo<=i/\i<lo+n/\x=X[i]:=by
 obtain⟨i,hi,hin,rfl⟩:=lp h;exact⟨lo+i,hi,by omega,by omega,rfl⟩
theorem nV(h:lo+n<=X.size):(seg X lo n).length=n:=by unfold seg;simp;omega
theorem HP(C:gH prog w A s κ U B)(hU:∀x∈W,U x)(b:Bs κ W st){i sa na pw sb nb pw':Nat}{pre post:List (Nat×Nat×Nat)}{Q:Bool->S5->Prop}(hp:(Rk st).toList=pre++(sa,na,pw)::(sb,nb,pw')::post)(hi:i=pre.length)(hsb:sb=sa+na)(ha:1<=na)(hb:1<=nb)(hz:sb+nb<=(arrOf st).size)(s1:cJ B (seg (arrOf st) sa na))(s2:cJ B (seg (arrOf st) sb nb))(h:∀st',Bs κ W st'->(Rk st').toList=pre++(sa,na+nb,pw)::post->(arrOf st').toList.take sa=(arrOf st).toList.take sa->(arrOf st').toList.drop (sb+nb)=(arrOf st).toList.drop (sb+nb)->cJ B (seg (arrOf st') sa (na+nb))->Q true st'):wpS (Rn prog w) A E s (Jb i) Q st:=by
 subst hsb;have g1:(Rk st)[i]?=Zz (sa,na,pw):=by rw[<-RZ,hp,hi];simp
 have g2:(Rk st)[i+1]?=Zz (sa+na,nb,pw'):=by rw[<-RZ,hp,hi];simp
 obtain⟨P',hP',eP⟩:∃P',P'=((Rk st).setIfInBounds i (sa,na+nb,pw)).eraseIdxIfInBounds (i+1)/\P'.toList=pre++(sa,na+nb,pw)::post:=⟨_,rfl,by
  rw[Array.toList_eraseIdxIfInBounds,U8,hp,hi,UE _ _ (RC _),UP,RP,List.eraseIdx_append_of_length_le (by omega),SM];rfl⟩
 generalize hX:arrOf st=X at *;have uX:∀i (hi:i<X.size),U X[i]:=λi hi=>by subst hX;exact b.u hU hi
 have b1:Bs κ W (Un (kindOf st) X P' (XJ st) (U3 st)):=⟨b.kind,b.fl,by subst hX;exact b.perm⟩
 have hmid:∀{x y:Array RX}{k d t:Nat},na=k+d->x.toList=seg X (sa+k) d->y.toList=seg X (sa+na) t->∀z∈x.toList++y.toList,∃i,∃hi:i<X.size,sa+k<=i/\i<sa+na+t/\z=X[i]:=λ{x y k d t} h1 ex ey z hz'=>by
  rw[ex,ey]at hz';rcases RN.mp hz' with hz'|hz'
  ·obtain⟨i,hi,i1,i2,rfl⟩:=gA hz'
   exact⟨i,hi,by omega,by omega,rfl⟩
  ·obtain⟨i,hi,i1,i2,rfl⟩:=gA hz'
   exact⟨i,hi,by omega,by omega,rfl⟩
 refine RH (Vh ?_);rw[g1,g2];refine RH (Hb ?_);subst hX;have hk1:kindOf (Un (kindOf st) (arrOf st) P' (XJ st) (U3 st))=κ:=b.kind;rw[<-hP'];refine RH (eR (bM (show sa+na<(arrOf st).size by omega)) (RH (vA C (arr:=arrOf st) (base:=sa) (n:=na) (hint:=0) (by omega) (λi hi _ _=>uX i hi) (uX _ _) (λi j hj hij h1 h2=>Sg.ij s1 h1 hij h2 hj) (by omega) hk1 λk k1 k2 k3=>?_)));have cut:∀{l m:Nat}{ys:Array RX},seg ys sa (l+m)=seg ys sa l++seg ys (sa+l) m:=λ{l m ys}=>by
  rw[ow (U7 l m),SM]
 obtain⟨d,hd⟩:∃d,na-k=d:=⟨_,rfl⟩
 dsimp (zeta:=false) only;rw[hd];obtain rfl:na=k+d:=by omega
 clear hd;refine aQ (λe=>?_) λe=>?_
 ·have e:d=0:=by simpa using e
  subst e;refine RO (h _ b1 eP rfl rfl ?_);show cJ B (seg (arrOf st) sa (k+nb));rw[cut];refine s1.app s2 λx hx y hy=>?_
  obtain⟨i,hi,i1,i2,rfl⟩:=gA hx;obtain⟨j,hj,j1,j2,rfl⟩:=gA hy;have q:=k2 i hi i1 i2;rcases VU j1 with e|e
  ·subst e;exact q
  ·exact C.tr _ _ _ (uX _ _) (uX _ _) (uX _ _) q (Sg.ij s2 (RC _) e j2 hj)
 ·have e:d≠0:=by simpa using e
  have kl:∀(h:sa+k+(d)-1<(arrOf st).size) (h2:sa+(k+d)-1<(arrOf st).size),(arrOf st)[sa+k+(d)-1]=(arrOf st)[sa+(k+d)-1]:=λ_ _=>by congr 1;omega
  refine RH (eR (bM (show sa+k+(d)-1<(arrOf st).size by omega)) (RH (vg C (arr:=arrOf st) (base:=sa+(k+d)) (n:=nb) (hint:=nb-1) (by omega) (λi hi _ _=>uX i hi) (uX _ _) (λi j hj hij h1 h2=>Sg.ij s2 h1 hij h2 hj) (by omega) hk1 λt t1 t2 t3=>?_)));obtain⟨f,rfl⟩:∃f,nb=t+f:=⟨nb-t,by omega⟩
  rw[kl (by omega) (by omega)]at t2 t3;have last:∀i (hi:i<(arrOf st).size),sa<=i->i<sa+(k+d)->B (arrOf st)[sa+(k+d)-1] (arrOf st)[i]=false∨i=sa+(k+d)-1:=λi hi h1 h2=>by
   rcases Um i (sa+(k+d)-1)with e|e
   ·exact .inl (Sg.ij s1 h1 e (by omega) (by omega))
   ·exact .inr (by omega)
  have tpos:t≠0:=λz=>by
   have e1:=t3 (sa+(k+d)) (by omega) (by omega) (by omega);have e2:=k3 (sa+(k+d)-1) (by omega) (by omega) (by omega);rw[e1]at e2;cases e2
  refine aQ (λe2=>Yv (show t=0 by simpa using e2) tpos) λ_=>?_
  have ex:((arrOf st).extract (sa+k) (sa+(k+d))).toList=seg (arrOf st) (sa+k) (d):=by rw[xC];congr 1;omega
  have ey:((arrOf st).extract (sa+(k+d)) (sa+(k+d)+t)).toList=seg (arrOf st) (sa+(k+d)) t:=by rw[xC];congr 1;omega
  have zx:((arrOf st).extract (sa+k) (sa+(k+d))).size=d:=by simp;omega
  have zy:((arrOf st).extract (sa+(k+d)) (sa+(k+d)+t)).size=t:=by simp;omega
  have mid:=hmid (k:=k) (t:=t) rfl ex ey;have hUm:∀z∈((arrOf st).extract (sa+k) (sa+(k+d))).toList++((arrOf st).extract (sa+(k+d)) (sa+(k+d)+t)).toList,U z:=λz hz'=>by
   obtain⟨i,hi,_,_,rfl⟩:=mid z hz';exact uX i hi
  have s1k:=s1;rw[show(k+d)=k+(d) by omega,cut]at s1k;have s2t:=s2;rw[show(t+f)=t+(f) by omega,ow (U7 t (f)),SM]at s2t;have p1:=SJ.mp s1k;have p2:=SJ.mp s2t;have fin:∀(r:Array RX) (st2 st3:S5),Sm (Un (kindOf st) (arrOf st) P' (XJ st) (U3 st)) st2->Gd B (((arrOf st).extract (sa+k) (sa+(k+d))).toList++((arrOf st).extract (sa+(k+d)) (sa+(k+d)+t)).toList) r.toList->r.toList.length=(d)+t->(∀z∈r.toList,∃i,∃hi:i<(arrOf st).size,sa+k<=i/\i<sa+(k+d)+t/\z=(arrOf st)[i]) ->
    (arrOf st3).toList=(arrOf st).toList.take (sa+k)++r.toList++(arrOf st).toList.drop (sa+(k+d)+t)->kindOf st3=kindOf st2->Rk st3=Rk st2->U3 st3=U3 st2->Q (U3 st3).isNone st3:=by
   intro r st2 st3 hs g rl rm ew ek ep ef;have ef':U3 st3=Zy:=ef.trans (hs.2.2.2.trans b.fl);rw[ef'];have hta:(arrOf st).toList.take (sa+k)=(arrOf st).toList.take sa++seg (arrOf st) sa k:=by unfold seg;rw[W2]
   have hdr:(arrOf st).toList.drop (sa+(k+d)+t)=seg (arrOf st) (sa+(k+d)+t) (f)++(arrOf st).toList.drop (sa+(k+d)+(t+f)):=by
    unfold seg;rw[show sa+(k+d)+(t+f)=sa+(k+d)+t+(f) by omega,<-Ue (i:=f),Uv]
   have hl0:((arrOf st).toList.take sa).length=sa:=by simp;omega
   have hlk:(seg (arrOf st) sa k).length=k:=nV (by omega);have hlt:(seg (arrOf st) (sa+(k+d)+t) (f)).length=f:=nV (by omega);have ew2:(arrOf st3).toList=(arrOf st).toList.take sa++((seg (arrOf st) sa k++r.toList++seg (arrOf st) (sa+(k+d)+t) (f))++(arrOf st).toList.drop (sa+(k+d)+(t+f))):=by
    rw[ew,hta,hdr];simp
   have hml:(seg (arrOf st) sa k++r.toList++seg (arrOf st) (sa+(k+d)+t) (f)).length=(k+d)+(t+f):=by
    rw[RI,RI,hlk,rl,hlt];omega
   refine h st3 ⟨ek.trans (hs.1.trans b.kind),ef',?_⟩ ?_ ?_ ?_ ?_
   ·rw[ew]
    refine XB ?_ b.perm;have e0:(arrOf st).toList=(arrOf st).toList.take (sa+k)++(seg (arrOf st) (sa+k) (d)++seg (arrOf st) (sa+(k+d)) t)++(arrOf st).toList.drop (sa+(k+d)+t):=by
     have e1:=ow (xs:=arrOf st) (lo:=sa+k) (l:=d) (k:=d+t) (by omega);rw[show sa+k+(d)=sa+(k+d) by omega,SM]at e1;rw[<-e1];unfold seg;rw[<-W2,show sa+k+(d+t)=sa+(k+d)+t by omega,Uv]
    have gp:=g.1;rw[ex,ey]at gp;rw[e0];simp only[Rg];have e2:List.take (sa+k) ((arrOf st).toList.take (sa+k)++(seg (arrOf st) (sa+k) (d)++(seg (arrOf st) (sa+(k+d)) t++(arrOf st).toList.drop (sa+(k+d)+t))))=(arrOf st).toList.take (sa+k):=by
     rw[<-Rg (seg (arrOf st) (sa+k) (d)),<-Rg,<-e0]
    have e3:List.drop (sa+(k+d)+t) ((arrOf st).toList.take (sa+k)++(seg (arrOf st) (sa+k) (d)++(seg (arrOf st) (sa+(k+d)) t++(arrOf st).toList.drop (sa+(k+d)+t))))=(arrOf st).toList.drop (sa+(k+d)+t):=by
     rw[<-Rg (seg (arrOf st) (sa+k) (d)),<-Rg,<-e0]
    rw[e2,e3];refine Uu _ ?_;rw[<-Rg];exact Vi _ gp
   ·rw[ep,hs.2.2.1];exact eP
   ·rw[ew2,SK (by omega),SC (by omega)]
   ·rw[ew2,List.drop_append,hl0,SD (by omega),Sz,List.drop_append,hml,SD (by omega),Sz,show sa+(k+d)+(t+f)-sa-((k+d)+(t+f))=0 by omega,Tt]
   ·have e5:seg (arrOf st3) sa ((k+d)+(t+f))=seg (arrOf st) sa k++r.toList++seg (arrOf st) (sa+(k+d)+t) (f):=by
     rw[seg,ew2,Ui (by omega),SD (by omega),Sz,SK (by omega),SC (by omega)]
    rw[e5];refine cJ.app (cJ.app p1.1 g.2 λx hx y hy=>?_) p2.2.1 λx hx y hy=>?_
    ·obtain⟨i,hi,i1,i2,rfl⟩:=gA hx
     obtain⟨j,hj,j1,j2,rfl⟩:=rm y hy;have q:=k2 i hi i1 i2;rcases Um j (sa+(k+d))with e|e
     ·exact Sg.ij s1 i1 (by omega) e hj
     ·rcases VU e with e|e
      ·subst e;exact q
      ·exact C.tr _ _ _ (uX _ _) (uX _ _) (uX _ _) q (Sg.ij s2 (RC _) e (by omega) hj)
    ·obtain⟨j,hj,j1,j2,rfl⟩:=gA hy
     have lj:=t3 j hj j1 (by omega);rcases RN.mp hx with hx|hx
     ·obtain⟨i,hi,i1,i2,rfl⟩:=gA hx
      exact C.tr _ _ _ (uX _ _) (uX (sa+(k+d)) (by omega)) (uX _ _) (k2 i hi i1 i2) (Sg.ij s2 (RC _) (by omega) (by omega) hj)
     ·obtain⟨i,hi,i1,i2,rfl⟩:=rm x hx
      rcases Um i (sa+(k+d))with e|e
      ·rcases last i hi (by omega) e with q|q
       ·exact C.tr _ _ _ (uX _ _) (uX _ _) (uX _ _) q lj
       ·subst q;exact lj
      ·exact Sg.ij s2 e (by omega) (by omega) hj
  extract_lets _ _ jp
  refine Ex jp (λr st2=>Sm (Un (kindOf st) (arrOf st) P' (XJ st) (U3 st)) st2/\Gd B (((arrOf st).extract (sa+k) (sa+(k+d))).toList++((arrOf st).extract (sa+(k+d)) (sa+(k+d)+t)).toList) r.toList) (λr st2 ⟨hs,g⟩=>?_) λhj=>aQ (λ_=>RH (HT (a:=(arrOf st).extract (sa+k) (sa+(k+d))) (b:=(arrOf st).extract (sa+(k+d)) (sa+(k+d)+t)) C hUm (by omega) (by omega) (by rw[ex];exact p1.2.1) (by rw[ey];exact p2.1) hk1 ?_ ?_ λr st2 hs g=>hj _ _ ⟨hs,g⟩)) λ_=>RH (HX (a:=(arrOf st).extract (sa+k) (sa+(k+d))) (b:=(arrOf st).extract (sa+(k+d)) (sa+(k+d)+t)) C hUm (by omega) (by omega) (by rw[ex];exact p1.2.1) (by rw[ey];exact p2.1) hk1 ?_ ?_ λr st2 hs g=>hj _ _ ⟨hs,g⟩)
  ·have rl:r.toList.length=(d)+t:=by rw[g.1.length_eq,ex,ey,RI,nV (by omega),nV (by omega)]
   have rm:∀z∈r.toList,∃i,∃hi:i<(arrOf st).size,sa+k<=i/\i<sa+(k+d)+t/\z=(arrOf st)[i]:=λz hz'=>mid z (g.1.mem_iff.mp hz')
   refine RH (V2 (RH (Vh (RO ?_))));have ew:(arrOf (Un (kindOf st2) (r.toList.zipIdx.foldl (λa x=>match x with|(p,j)=>a.setIfInBounds (sa+k+j) p) (arrOf st2)) (Rk st2) (XJ st2) (U3 st2))).toList=(arrOf st).toList.take (sa+k)++r.toList++(arrOf st).toList.drop (sa+(k+d)+t):=by
    have z2:arrOf st2=arrOf st:=hs.2.1;have:=w8 r.toList 0 (sa+k) (arrOf st2) (by rw[z2,rl];omega);rw[z2]at this;refine(show _=_ from(by rw[z2])).trans (this.trans ?_);rw[rl,Nat.add_zero,show sa+k+(d+t)=sa+(k+d)+t by omega]
   have efl:(U3 (Un (kindOf st2) (r.toList.zipIdx.foldl (λa x=>match x with|(p,j)=>a.setIfInBounds (sa+k+j) p) (arrOf st2)) (Rk st2) (XJ st2) (U3 st2)))=Zy:=hs.2.2.2.trans b.fl;exact fin r st2 _ hs g rl rm ew rfl rfl rfl
  ·simpa using k3 (sa+k) (by omega) (by omega) (by omega)
  ·intro y hy
   rw[ey]at hy;obtain⟨i,hi,i1,i2,rfl⟩:=gA hy;have:=t2 i hi i1 i2;simpa[zx,show sa+k+(d-1)=sa+(k+d)-1 by omega]using this
  ·intro x hx
   rw[ex]at hx;obtain⟨i,hi,i1,i2,rfl⟩:=gA hx;have:=k3 i hi i1 (by omega);simpa using this
  ·have:=t2 (sa+(k+d)+(t-1)) (by omega) (by omega) (by omega)
   simpa[zx,zy,show sa+k+(d-1)=sa+(k+d)-1 by omega]using this
end
noncomputable def HS:StateT S5 Sem Unit:=sortPriv% PySem.Builtin.sortRuns
def Ch:List (Nat×Nat)->Nat->Nat->Prop
 |[],a,b=>a=b
 |(s,n)::r,a,b=>s=a/\1<=n/\Ch r (a+n) b
theorem Ch.app:∀{p q:List (Nat×Nat)}{a b:Nat},Ch (p++q) a b↔∃c,Ch p a c/\Ch q c b
 |[],q,a,b=>by simp[Ch]
 |(s,n)::r,q,a,b=>by
  rw[Wr,Ch,Ch.app (p:=r)];constructor
  ·rintro ⟨h1,h2,c,h3,h4⟩
   exact⟨c,⟨h1,h2,h3⟩,h4⟩
  ·rintro ⟨c,⟨h1,h2,h3⟩,h4⟩
   exact⟨h1,h2,c,h3,h4⟩
theorem Ch.len:∀{p:List (Nat×Nat)}{a b:Nat},Ch p a b->a+p.length<=b/\∀q∈p,a<=q.1/\q.1+q.2<=b
 |[],a,b,h=>by
  have h:a=b:=h;subst h;exact⟨by simp,λq hq=>by simp at hq⟩
 |(s,n)::r,a,b,⟨h1,h2,h3⟩=>by
  subst h1;obtain⟨k1,k2⟩:=h3.len;refine⟨by simp;omega,λq hq=>?_⟩;rcases R5.mp hq with rfl|hq
  ·exact⟨RC _,by dsimp only;omega⟩
  ·have:=k2 q hq
   exact⟨by omega,this.2⟩
noncomputable def prs(st:S5):List (Nat×Nat):=(Rk st).toList.map λq=>(q.1,q.2.1)
structure J (κ:TX) (W:List RX) (B:RX->RX->Bool) (st:S5) (lo:Nat):Prop where
 bs:Bs κ W st
 ch:Ch (prs st) 0 lo
 le:lo<=(arrOf st).size
 rn:∀q∈prs st,cJ B (seg (arrOf st) q.1 q.2)
section
variable{prog:S9}{w:SY}{A:SV}{E:R3->R9->Prop}{s:R9}{κ:TX}{U:RX->Prop}{B:RX->RX->Bool}{st st':S5}{W:List RX}{X Y:Array RX}{lo n nrem:Nat}
theorem xM{d:Nat}(h:X.toList.take d=Y.toList.take d)(hd:lo+n<=d):seg X lo n=seg Y lo n:=by
 unfold seg;have:∀Z:Array RX,(Z.toList.drop lo).take n=((Z.toList.take d).drop lo).take n:=λZ=>by
  rw[List.drop_take,List.take_take,UJ (by omega)]
 rw[this X,this Y,h]
theorem qd{d:Nat}(h:X.toList.drop d=Y.toList.drop d)(hd:d<=lo):seg X lo n=seg Y lo n:=by
 unfold seg;have:∀Z:Array RX,Z.toList.drop lo=(Z.toList.drop d).drop (lo-d):=λZ=>by rw[Ue];congr 1;omega
 rw[this X,this Y,h]
theorem Bs.size(b:Bs κ W st):(arrOf st).size=W.length:=by simpa using b.perm.length_eq
theorem GK{α:Type}{l:List α}{i:Nat}(h:i+1<l.length):∃pre x y post,l=pre++x::y::post/\i=pre.length:=by
 refine⟨l.take i,l[i],l[i+1],l.drop (i+2),?_,by simp;omega⟩;rw[<-SQ,<-SQ,Uv]
theorem J.merge(C:gH prog w A s κ U B)(hU:∀x∈W,U x)(j:J κ W B st lo){i:Nat}{Q:Bool->S5->Prop}(hi:i+1<(prs st).length)(h:∀st',J κ W B st' lo->(prs st').length+1=(prs st).length->(arrOf st').toList.drop lo=(arrOf st).toList.drop lo->Q true st'):wpS (Rn prog w) A E s (Jb i) Q st:=by
 obtain⟨pre,⟨sa,na,pw⟩,⟨sb,nb,pw'⟩,post,hp,e⟩:=GK (l:=(Rk st).toList) (i:=i) (by simpa[prs]using hi);have epr:prs st=pre.map (λq=>(q.1,q.2.1))++(sa,na)::(sb,nb)::post.map λq=>(q.1,q.2.1):=by unfold prs;rw[hp];simp
 have hc:=j.ch;rw[epr]at hc;obtain⟨c,c1,c2⟩:=Ch.app.mp hc;obtain⟨rfl,c3,rfl,c4,c5⟩:=c2;have l5:=c5.len;have l1:=c1.len;have jl:=j.le;refine HP C hU j.bs hp e rfl c3 c4 (by omega) (j.rn (sa,na) (by rw[epr];simp)) (j.rn (sa+na,nb) (by rw[epr];simp)) λst2 b2 ep et ed sr=>?_
 have epr2:prs st2=pre.map (λq=>(q.1,q.2.1))++(sa,na+nb)::post.map λq=>(q.1,q.2.1):=by unfold prs;rw[ep];simp
 refine h st2 ⟨b2,?_,?_,λq hq=>?_⟩ ?_ ?_
 ·rw[epr2]
  refine Ch.app.mpr ⟨sa,c1,rfl,by omega,?_⟩;rw[<-Nat.add_assoc];exact c5
 ·rw[b2.size,<-j.bs.size];exact jl
 ·rw[epr2]at hq
  rcases RN.mp hq with hq|hq
  ·rw[xM et (l1.2 q hq).2]
   exact j.rn q (by rw[epr];simp only[RN];exact .inl hq)
  ·rcases R5.mp hq with rfl|hq
   ·exact sr
   ·rw[qd ed (l5.2 q hq).1]
    exact j.rn q (by rw[epr];simp only[RN,R5];exact .inr (.inr (.inr hq)))
 ·rw[epr,epr2];simp;omega
 ·have hd:∀Z:Array RX,Z.toList.drop lo=(Z.toList.drop (sa+na+nb)).drop (lo-(sa+na+nb)):=λZ=>by rw[Ue];congr 1;omega
  rw[hd,ed,<-hd]
theorem J.push(j:J κ W B st lo){g:Nat}(h1:1<=n)(hz:lo+n<=(arrOf st).size)(hs:cJ B (seg (arrOf st) lo n)):J κ W B (Un (kindOf st) (arrOf st) ((Rk st).push (lo,n,0)) g (U3 st)) (lo+n):=by
 have e:prs (Un (kindOf st) (arrOf st) ((Rk st).push (lo,n,0)) g (U3 st))=prs st++[(lo,n)]:=by
  show(((Rk st).push (lo,n,0)).toList.map λq=>(q.1,q.2.1))=_;rw[UO,Si];rfl
 refine⟨⟨j.bs.kind,j.bs.fl,j.bs.perm⟩,?_,hz,λq hq=>?_⟩
 ·rw[e]
  exact Ch.app.mpr ⟨lo,j.ch,rfl,h1,rfl⟩
 ·rw[e]at hq
  rcases RN.mp hq with hq|hq
  ·exact j.rn q hq
  ·simp at hq;subst hq;exact hs
theorem J.other(j:J κ W B st lo)(b:Bs κ W st')(hp:prs st'=prs st)(ht:(arrOf st').toList.take lo=(arrOf st).toList.take lo):J κ W B st' lo:=by
 refine⟨b,by rw[hp];exact j.ch,by rw[b.size,<-j.bs.size];exact j.le,λq hq=>?_⟩;rw[hp]at hq;rw[xM ht (j.ch.len.2 q hq).2];exact j.rn q hq
end
end Ts
end
section
set_option backward.eqns.nonrecursive false
set_option backward.eqns.deepRecursiveSplit false
set_option maxHeartbeats 2000000
namespace Ts
open PySem PyProof.Rows
section
variable{prog:S9}{w:SY}{A:SV}{E:R3->R9->Prop}{s:R9}{κ:TX}{U:RX->Prop}{B:RX->RX->Bool}{st st':S5}{W:List RX}{X Y:Array RX}{lo n nrem:Nat}
theorem Fm{f:S5->S5}{Q:PUnit->S5->Prop}(h:∀st5,st5=f st->Q ⟨⟩ st5):wpS (Rn prog w) A E s (modify f:StateT S5 Sem PUnit) Q st:=V2 (h _ rfl)
theorem Gy{c:Prop}[Decidable c]{m:Nat}(h:2<=m):(if c then m-2-1 else m-2)+1<m:=by split<;>omega
theorem xH{P:Array (Nat×Nat×Nat)}{i pw:Nat}:((P.modify i λx=>match x with|(st,len,snd)=>(st,len,pw)).toList.map λq=>(q.1,q.2.1))=P.toList.map λq=>(q.1,q.2.1):=by
 rw[Array.toList_modify];apply Uy;intro j;rw[Rj,Rj,List.getElem?_modify];cases P.toList[j]? with
 |none=>rfl
 |some q =>
  obtain⟨a,b,c⟩:=q;by_cases h:i=j
  ·simp[h]
  ·simp[h]
theorem Ay(C:gH prog w A s κ U B)(hU:∀x∈W,U x)(hN:W.Nodup)(b:Bs κ W st)(hp:Rk st=#[]){Q:Unit->S5->Prop}(h:∀st',Bs κ W st'->cJ B (arrOf st').toList->Q () st'):wpS (Rn prog w) A E s HS Q st:=by
 have sz:∀{st':S5},Bs κ W st'->(arrOf st').size=(arrOf st).size:=λb'=>by rw[b'.size,b.size]
 have j0:J κ W B st 0:=⟨b,by unfold prs;rw[hp];rfl,SI _,λq hq=>by unfold prs at hq;rw[hp]at hq;simp at hq⟩
 refine RH (Vh ?_);refine RH (UN (Sr (I:=λi (sx:Option Unit×Nat) st'=>sx.1=Zy/\J κ W B st' sx.2/\i<=sx.2) (Q:=λsx st'=>sx.1=Zy/\J κ W B st' (arrOf st).size) ?_ ?_ ⟨rfl,j0,RC _⟩) ?_)
 ·rintro i ⟨r,lo⟩ st1 _ hi ⟨rfl,j1,il⟩
  dsimp only at j1 il;have z1:=sz j1.bs;have jl:=j1.le;refine aQ (λc=>?_) λc=>?_
  ·have c:lo ≥ (arrOf st).size:=c
   refine RO ⟨rfl,?_⟩;have:lo=(arrOf st).size:=by omega
   rw[<-this];exact j1
  ·have c:¬lo ≥ (arrOf st).size:=c
   refine RH (Gz C hU hN j1.bs (nrem:=(arrOf st).size-lo) (lo:=lo) (by omega) (by omega) λn st2 n1 n2 b2 p2 t2 s2=>?_);have j2:J κ W B st2 lo:=j1.other b2 (by unfold prs;rw[p2]) t2;refine aQ (λc2=>?_) λc2=>?_
   ·refine RH (Wp (TG ⟨rfl,?_⟩))
    have c2:n<WJ (arrOf st).size (arrOf st).size 0:=c2;refine RH (Ew C hU b2 (lo:=lo) (n:=min ((arrOf st).size-lo) (WJ (arrOf st).size (arrOf st).size 0)) (ok:=n) (by rw[sz b2];omega) (by omega) (by omega) s2 λst3 b3 p3 t3 s3=>?_);have j3:J κ W B st3 lo:=j2.other b3 (by unfold prs;rw[p3]) t3;refine aQ (λz=>Yv z (by simp)) λ_=>?_
    refine RH (Vh ?_);cases hb:(Rk st3).back? with
    |none =>
     refine RH (V2 ?_);exact RO ⟨rfl,j3.push (n:=min ((arrOf st).size-lo) (WJ (arrOf st).size (arrOf st).size 0)) (by omega) (by rw[sz j3.bs];omega) s3,(by show i+1<=lo+min ((arrOf st).size-lo) (WJ (arrOf st).size (arrOf st).size 0);omega)⟩
    |some q =>
     obtain⟨s1,n1,x1⟩:=q;refine RH (UN (Sr (I:=λ_ (sx:Option Unit×Unit) st'=>sx.1=Zy/\J κ W B st' lo/\cJ B (seg (arrOf st') lo (min ((arrOf st).size-lo) (WJ (arrOf st).size (arrOf st).size 0)))) (Q:=λsx st'=>sx.1=Zy/\J κ W B st' lo/\cJ B (seg (arrOf st') lo (min ((arrOf st).size-lo) (WJ (arrOf st).size (arrOf st).size 0)))) ?_ (λ_ _ z=>z) ⟨rfl,j3,s3⟩) ?_)
     ·rintro i ⟨r,_⟩ st4 _ _ ⟨rfl,j4,s4⟩
      have pl:(prs st4).length=(Rk st4).size:=by unfold prs;simp
      refine RH (Vh ?_);by_cases cp:(Rk st4).size>1
      ·obtain⟨⟨a1,b1,o1⟩,g⟩:∃q,(if(Rk st4).size>1 then(Rk st4)[(Rk st4).size-2]? else Zy)=Zz q:=⟨(Rk st4)[(Rk st4).size-2]'(by omega),by rw[Yq cp];simp⟩
       dsimp only;rw[g];refine aQ (λ_=>RO ⟨rfl,j4,s4⟩) λ_=>?_
       refine RH (J.merge C hU j4 (by rw[pl];show(Rk st4).size-2+1<_;omega) λst5 j5 l5 d5=>?_);refine aQ (λz=>Yv z (by simp)) λ_=>?_
       refine RO ⟨rfl,j5,?_⟩;rw[qd d5 (RC _)];exact s4
      ·have g:(if(Rk st4).size>1 then(Rk st4)[(Rk st4).size-2]? else Zy)=Zy:=Yr cp
       dsimp only;rw[g];exact RO ⟨rfl,j4,s4⟩
     ·rintro ⟨r,_⟩ st4 ⟨rfl,j4,s4⟩
      refine RH (Fm λst5 h5=>RH (V2 ?_));have j5:J κ W B st5 lo:=J.other j4 (by rw[h5];exact⟨j4.bs.kind,j4.bs.fl,j4.bs.perm⟩) (by rw[h5];exact xH) (by rw[h5]);have s5:cJ B (seg (arrOf st5) lo (min ((arrOf st).size-lo) (WJ (arrOf st).size (arrOf st).size 0))):=by rw[h5];exact s4
      exact RO ⟨rfl,j5.push (n:=min ((arrOf st).size-lo) (WJ (arrOf st).size (arrOf st).size 0)) (by omega) (by rw[sz j5.bs];omega) s5,(by show i+1<=lo+min ((arrOf st).size-lo) (WJ (arrOf st).size (arrOf st).size 0);omega)⟩
   ·have c2:¬n<WJ (arrOf st).size (arrOf st).size 0:=c2
    refine RH (Vh ?_);cases hb:(Rk st2).back? with
    |none =>
     refine RH (V2 ?_);exact RO ⟨rfl,j2.push (n:=n) (by omega) (by rw[sz j2.bs];omega) s2,(by show i+1<=lo+n;omega)⟩
    |some q =>
     obtain⟨s1,n1,x1⟩:=q;refine RH (UN (Sr (I:=λ_ (sx:Option Unit×Unit) st'=>sx.1=Zy/\J κ W B st' lo/\cJ B (seg (arrOf st') lo (n))) (Q:=λsx st'=>sx.1=Zy/\J κ W B st' lo/\cJ B (seg (arrOf st') lo (n))) ?_ (λ_ _ z=>z) ⟨rfl,j2,s2⟩) ?_)
     ·rintro i ⟨r,_⟩ st4 _ _ ⟨rfl,j4,s4⟩
      have pl:(prs st4).length=(Rk st4).size:=by unfold prs;simp
      refine RH (Vh ?_);by_cases cp:(Rk st4).size>1
      ·obtain⟨⟨a1,b1,o1⟩,g⟩:∃q,(if(Rk st4).size>1 then(Rk st4)[(Rk st4).size-2]? else Zy)=Zz q:=⟨(Rk st4)[(Rk st4).size-2]'(by omega),by rw[Yq cp];simp⟩
       dsimp only;rw[g];refine aQ (λ_=>RO ⟨rfl,j4,s4⟩) λ_=>?_
       refine RH (J.merge C hU j4 (by rw[pl];show(Rk st4).size-2+1<_;omega) λst5 j5 l5 d5=>?_);refine aQ (λz=>Yv z (by simp)) λ_=>?_
       refine RO ⟨rfl,j5,?_⟩;rw[qd d5 (RC _)];exact s4
      ·have g:(if(Rk st4).size>1 then(Rk st4)[(Rk st4).size-2]? else Zy)=Zy:=Yr cp
       dsimp only;rw[g];exact RO ⟨rfl,j4,s4⟩
     ·rintro ⟨r,_⟩ st4 ⟨rfl,j4,s4⟩
      refine RH (Fm λst5 h5=>RH (V2 ?_));have j5:J κ W B st5 lo:=J.other j4 (by rw[h5];exact⟨j4.bs.kind,j4.bs.fl,j4.bs.perm⟩) (by rw[h5];exact xH) (by rw[h5]);have s5:cJ B (seg (arrOf st5) lo (n)):=by rw[h5];exact s4
      exact RO ⟨rfl,j5.push (n:=n) (by omega) (by rw[sz j5.bs];omega) s5,(by show i+1<=lo+n;omega)⟩
 ·rintro ⟨r,lo⟩ st1 ⟨rfl,j1,il⟩
  dsimp only at j1;have il:max 0 (arrOf st).size<=lo:=il;have:=j1.le;rw[sz j1.bs]at this;have:lo=(arrOf st).size:=by omega
  refine⟨rfl,?_⟩;rw[<-this];exact j1
 ·rintro ⟨r,lo⟩ st1 ⟨rfl,j1⟩
  refine RH (UN (Sr (I:=λi (sx:Option Unit×Unit) st'=>sx.1=Zy/\J κ W B st' (arrOf st).size/\(prs st').length+i<=(arrOf st).size) (Q:=λsx st'=>sx.1=Zy/\J κ W B st' (arrOf st).size/\(prs st').length<=1) ?_ ?_ ⟨rfl,j1,by have:=j1.ch.len.1;omega⟩) ?_)
  ·rintro i ⟨r,_⟩ st2 _ hi ⟨rfl,j2,l2⟩
   have pl:(prs st2).length=(Rk st2).size:=by unfold prs;simp
   refine RH (Vh ?_);refine aQ (λc=>?_) λc=>?_
   ·have c:(Rk st2).size<=1:=c
    exact RO ⟨rfl,j2,by omega⟩
   ·have c:¬(Rk st2).size<=1:=c
    refine RH (J.merge C hU j2 ?_ λst3 j3 l3 _=>?_)
    ·rw[pl]
     exact Gy (m:=(Rk st2).size) (by omega)
    ·refine aQ (λz=>Yv z (by simp)) λ_=>?_
     exact RO ⟨rfl,j3,by omega⟩
  ·rintro ⟨r,_⟩ st2 ⟨rfl,j2,l2⟩
   have l2:(prs st2).length+max 0 (arrOf st).size<=(arrOf st).size:=l2;exact⟨rfl,j2,by omega⟩
  ·rintro ⟨r,_⟩ st2 ⟨rfl,j2,l2⟩
   refine RO (h st2 j2.bs ?_);have ch:=j2.ch;have rn:=j2.rn;have z2:=sz j2.bs
   match e:prs st2,l2 with
   |[],_ =>
    rw[e]at ch;have ch:0=(arrOf st).size:=ch;have:(arrOf st2).toList=[]:=by
     exact RR.mp (by rw[RD];omega)
    rw[this];exact .nil
   |[(a,k)],_ =>
    rw[e]at ch rn;obtain⟨rfl,_,ch⟩:=ch;have ch:0+k=(arrOf st).size:=ch;have:=rn (0,k) (by simp);unfold seg at this;rw[Tt,SC (by simp;omega)]at this;exact this
end
end Ts
end
section
set_option backward.eqns.nonrecursive false
set_option backward.eqns.deepRecursiveSplit false
set_option maxHeartbeats 1000000
namespace Ts
open PySem PyProof.Rows
section
variable{prog:S9}{w:SY}{A:SV}{E:R3->R9->Prop}{s:R9}{κ:TX}{B:RX->RX->Bool}
theorem At{α:Type}{R:α->α->Prop}{l:List α}(h:l.length<2):l.Pairwise R:=by
 rcases l with _|⟨x,_|⟨y,r⟩⟩
 ·exact .nil
 ·exact Sb _ _
 ·rw[Rp,Rp]at h
  exact Yv h (YI.mpr (Nat.le_add_left _ _))
theorem eU{n:Nat}(h:n<=900000):n<=Ru:=Ro h (by decide)
theorem Df{a:RB}{vs:List R3}{n:Nat}{P:XX->R9->Prop}(ho:s.heap.get? a=Zz (seqObj "list" vs.toArray n))(hs:vs.length<=900000)(hN:(Uo vs).toList.Nodup)(hk:2<=vs.length->∀h',(∀b o,b≠a->s.heap.get? b=Zz o->h'.get? b=Zz o)->∀Q':TX->R9->Prop,Q' κ { s with heap:=h' }->RJ (Rn prog w) A (XK vs.toArray) Q' E { s with heap:=h' })(hC:∀h',(∀b o,b≠a->s.heap.get? b=Zz o->h'.get? b=Zz o)->gH prog w A { s with heap:=h' } κ (λx=>x∈(Uo vs).toList) B)(h:∀out:Array RX,out.toList.Perm (Uo vs).toList->cJ B out.toList->P (.done (.ret .none)) { s with heap:=sortedHeap s.heap a vs (out.map (·.2)) }):
  RJ (Rn prog w) A (Builtin.«list.sort» ⟨[.ref a],[]⟩) P E s:=by
 have hz:=eU hs;rw[list_sort_plain];have ha:a<s.heap.objs.size:=Rm ho;have hsz:vs.toArray.size=vs.length:=by simp
 refine R0 (Xq ho rfl (R0 (U6 ho rfl ?_ (by rw[hsz];exact hz) (SI _))));obtain⟨e1,ho1⟩:∃e1,(s.heap.update a (Rh λ_=>(#[]:Array R3))).get? a=Zz (seqObj "list" #[] e1):=⟨_,VP ho (λ_=>#[])⟩
 refine R0 (Wa ho1 rfl (R0 (WM (R0 (W3 (SH ?_) (SI _))) (by show vs.length<=_;exact hz))));have nk:∀b o,s.heap.get? b=Zz o->b≠(s.heap.update a (Rh λ_=>(#[]:Array R3))).objs.size/\b≠((s.heap.update a (Rh λ_=>(#[]:Array R3))).push (seqObj "tuple" vs.toArray 0)).objs.size:=λb o q=>by
  rw[X5,Vv];have:=Rm q;exact⟨Rr this,Rr (SG this)⟩
 have kp:∀b o,b≠a->s.heap.get? b=Zz o->(((s.heap.update a (Rh λ_=>(#[]:Array R3))).push (seqObj "tuple" vs.toArray 0)).push (seqObj "list" #[] 0)).get? b=Zz o:=λb o hb q=>by
  rw[TY _ _ _ (nk b o q).2,TY _ _ _ (nk b o q).1,T5 _ _ _ _ hb];exact q
 have ho6:(((s.heap.update a (Rh λ_=>(#[]:Array R3))).push (seqObj "tuple" vs.toArray 0)).push (seqObj "list" #[] 0)).get? a=Zz (seqObj "list" #[] e1):=by
  rw[TY _ _ _ (nk a _ ho).2,TY _ _ _ (nk a _ ho).1];exact ho1
 dsimp only;by_cases h2:vs.toArray.size<2
 ·rw[Yq h2,Yq h2]
  refine R0 (R4 ?_);rw[StateT.run_pure];refine R0 (R4 (R0 (Wa ho6 rfl (R0 (U6 ho6 rfl ?_ (SI _) (by rw[XM];show(Uo vs).size<=_;rw[Xr];omega))))));simp only[bne_self_eq_false,Ri,if_false];refine R4 (h (Uo vs) (TZ _) ?_);have hl:(Uo vs).toList.length<2:=by rw[RD,Xr];omega
  exact At hl
 ·rw[Yr h2,Yr h2]
  refine R0 (hk (by omega) _ kp _ ?_);refine R0 (Ta (Ay (W:=(Uo vs).toList) (st:=Un κ (vs.toArray.zip vs.toArray) #[] 7 Zy) (hC _ kp) (λx hx=>hx) hN ⟨rfl,rfl,TZ _⟩ rfl (Q:=λ_ st'=>Bs κ (Uo vs).toList st'/\cJ B (arrOf st').toList) λst' b1 b2=>⟨b1,b2⟩) ?_ λ_ _ e=>e);rintro ⟨⟨⟩,st'⟩ s' ⟨rfl,b1,b3⟩;have b2:=b1.perm;have b1:=b1.fl;dsimp only;refine R0 (Wa ho6 rfl (R0 (U6 ho6 rfl ?_ (SI _) ?_)))
  ·rw[b1]
   simp only[bne_self_eq_false,Ri,if_false];exact R4 (h (arrOf st') b2 b3)
  ·have:=b2.length_eq
   rw[RD,RD,Xr]at this;rw[XM,this];omega
theorem xZ{l:RB}{vs:List R3}{Q:R3->R9->Prop}(hl:s.heap.IsList l vs.toArray)(hs:vs.length<=900000)(hN:(Uo vs).toList.Nodup)(hk:2<=vs.length->∀A' h',(∀b o,s.heap.get? b=Zz o->h'.get? b=Zz o)->∀(E':R3->R9->Prop) (Q':TX->R9->Prop),Q' κ { s with heap:=h' }->RJ (Rn prog w) A' (XK vs.toArray) Q' E' { s with heap:=h' })(hC:∀A' h',(∀b o,s.heap.get? b=Zz o->h'.get? b=Zz o)->gH prog w A' { s with heap:=h' } κ (λx=>x∈(Uo vs).toList) B)(h:∀out:Array RX,out.toList.Perm (Uo vs).toList->cJ B out.toList->Q (.ref (s.heap.objs.size+1)) { s with heap:=Y7 s.heap vs (out.map (·.2)) }):
  RJ (Rn prog w) A (call (.builtin "sorted") [.ref l]) Q E s:=by
 have hz:=eU hs;refine Calls.call_function_entry YA Xs Xt (args_sorted1 _) ?_
 unfold Builtin.«sorted»;refine R0 (m:=checkCount "sorted" 1 1 _) (R4 (R0 (collect_list hl (R0 (W3 ?_ (by simpa using hz))) hz)));have hsz:((s.heap.push (seqObj "list" #[] 0)).update s.heap.objs.size (Rh (·++vs.toArray))).objs.size=s.heap.objs.size+1:=by rw[Vv,X5]
 have hoL:(((s.heap.push (seqObj "list" #[] 0)).update s.heap.objs.size (Rh (·++vs.toArray))).push (seqObj "list" vs.toArray 0)).get? (s.heap.objs.size+1)=Zz (seqObj "list" vs.toArray 0):=by
  rw[<-hsz];exact RM _ rfl
 have kp:∀h':SA,(∀b o,b≠s.heap.objs.size+1->(((s.heap.push (seqObj "list" #[] 0)).update s.heap.objs.size (Rh (·++vs.toArray))).push (seqObj "list" vs.toArray 0)).get? b=Zz o->h'.get? b=Zz o)->∀b o,s.heap.get? b=Zz o->h'.get? b=Zz o:=λh' k b o q=>by
  have hlt:=Rm q;refine k b o (Rr (SG hlt)) ?_;rw[TY _ _ _ (by rw[hsz];exact Rr (SG hlt)),T5 _ _ _ _ (Rr hlt),TY _ _ _ (Rr hlt)];exact q
 show RJ _ _ _ _ _ { s with heap:=((s.heap.push (seqObj "list" #[] 0)).update s.heap.objs.size (Rh (·++vs.toArray))).push (seqObj "list" vs.toArray 0) };rw[hsz];refine R0 (SH (SW XN ⟨_,hoL,rfl⟩ XC (Df hoL hs hN (λh2 h' k Q' q=>hk h2 _ h' (kp h' k) _ Q' q) (λh' k=>hC _ h' (kp h' k)) λout a1 a2=>⟨_,rfl,R4 ⟨_,rfl,h out a1 a2⟩⟩) (args_list_sort _)))
end
end Ts
namespace Ts
open PySem PyProof.Rows PySem.W PySem.Calls
section
variable{prog:S9}{w:SY}{A:SV}{E:R3->R9->Prop}{s:R9}
theorem xl{G:List R3->R9->Prop}(hb:∀x ks (s:R9),ks.length<n->G ks s->RJ (Rn prog w) A (call f [x]) (λk s2=>∃e,s2.heap.get? kS=Zz (seqObj "list" ks.toArray e)/\G (ks++[k]) { s2 with heap:=s2.heap.update kS (Rh (·.push k)) }) (λ_ _=>False) s ->
   RJ (Rn prog w) A (body x ⟨⟩) (λr s'=>r=.yield ⟨⟩/\∃k,G (ks++[k]) s') E s)(vs:List R3)(step:∀ks x r s,vs.drop ks.length=x::r->G ks s->RJ (Rn prog w) A (call f [x]) (λk s2=>∃e,s2.heap.get? kS=Zz (seqObj "list" ks.toArray e)/\G (ks++[k]) { s2 with heap:=s2.heap.update kS (Rh (·.push k)) }) (λ_ _=>False) s):∀(r ks:List R3) (s:R9),ks.length+r.length=n->vs.drop ks.length=r->G ks s ->
   RJ (Rn prog w) A (forIn r PUnit.unit body) (λ_ s'=>∃ks,ks.length=n/\G ks s') E s
 |[],ks,s,hl,_,h=>by
  rw[WN];exact R4 ⟨ks,by simpa using hl,h⟩
 |x::r,ks,s,hl,hd,h=>by
  rw[Rp]at hl;rw[UK];refine R0 (Ta (hb x ks s (by omega) h (step ks x r s hd h)) (λq s' hq=>?_) λ_ _ x=>x);obtain⟨rfl,k,h2⟩:=hq;show RJ (Rn prog w) A (forIn r PUnit.unit body) _ E s';refine xl hb vs step r (ks++[k]) s' (by rw[RI,S3];omega) ?_ h2;rw[RI,S3,<-Ue,hd];rfl
theorem D0{a:RB}{f:R3}{vs:List R3}{n:Nat}{P:XX->R9->Prop}(ho:s.heap.get? a=Zz (seqObj "list" vs.toArray n))(hs:vs.length<=900000)(h:∀kS e1 h',kS=s.heap.objs.size+1->h'.get? a=Zz (seqObj "list" #[] e1)->h'.get? kS=Zz (seqObj "list" #[] 0)->(∀b o,b≠a->s.heap.get? b=Zz o->h'.get? b=Zz o) ->
   ∃G:List R3->R9->Prop,G [] { s with heap:=h' }/\(∀ks s,G ks s->∃e,s.heap.get? kS=Zz (seqObj "list" ks.toArray e)) /\
    (∀ks x r s,vs.drop ks.length=x::r->G ks s->RJ (Rn prog w) A (call f [x]) (λk s2=>∃e,s2.heap.get? kS=Zz (seqObj "list" ks.toArray e)/\G (ks++[k]) { s2 with heap:=s2.heap.update kS (Rh (·.push k)) }) (λ_ _=>False) s) /\
    ∀ks s',ks.length=vs.length->G ks s'->∃κ B,(ks.zip vs).Nodup/\(2<=vs.length->∀Q':TX->R9->Prop,Q' κ s'->RJ (Rn prog w) A (XK ks.toArray) Q' E s')/\gH prog w A s' κ (λx=>x∈ks.zip vs) B /\
     s'.heap.get? a=Zz (seqObj "list" #[] e1)/\∀out:List RX,out.Perm (ks.zip vs)->cJ B out->P (.done (.ret .none)) { s' with heap:=(s'.heap.update kS (Rh λ_=>(#[]:Array R3))).update a (Rh λ_=>(out.map (·.2)).toArray) }):
  RJ (Rn prog w) A (ksk_tree a f false) P E s:=by
 have hz:=eU hs;have ha:a<s.heap.objs.size:=Rm ho;obtain⟨e1,ho1⟩:∃e1,(s.heap.update a (Rh λ_=>(#[]:Array R3))).get? a=Zz (seqObj "list" #[] e1):=⟨_,VP ho λ_=>#[]⟩
 have hkS:((s.heap.update a (Rh λ_=>(#[]:Array R3))).push (seqObj "tuple" vs.toArray 0)).objs.size=s.heap.objs.size+1:=by rw[X5,Vv]
 have kp:∀b o,b≠a->s.heap.get? b=Zz o->(((s.heap.update a (Rh λ_=>(#[]:Array R3))).push (seqObj "tuple" vs.toArray 0)).push (seqObj "list" #[] 0)).get? b=Zz o:=λb o hb q =>
  R7 _ (R7 _ (by rw[T5 _ _ _ _ hb];exact q))
 obtain⟨G,g0,gk,step,fin⟩:=h _ e1 (((s.heap.update a (Rh λ_=>(#[]:Array R3))).push (seqObj "tuple" vs.toArray 0)).push (seqObj "list" #[] 0)) rfl (R7 _ (R7 _ ho1)) (by rw[<-hkS];exact RM _ rfl) kp;unfold ksk_tree;refine R0 (Xq ho rfl ?_);refine R0 (U6 ho rfl ?_ (by rw[SE];exact hz) (SI _));refine R0 (Wa ho1 rfl ?_);refine R0 (WM ?_ (by show vs.length<=_;exact hz));refine R0 (W3 ?_ (SI _));refine SH ?_;show RJ _ _ (ksk_rest a f false vs.toArray e1 (.ref ((s.heap.update a (Rh λ_=>(#[]:Array R3))).push (seqObj "tuple" vs.toArray 0)).objs.size)) _ _ { s with heap:=((s.heap.update a (Rh λ_=>(#[]:Array R3))).push (seqObj "tuple" vs.toArray 0)).push (seqObj "list" #[] 0) };rw[hkS];unfold ksk_rest;refine R0 (TG ?_)
 first
  |rw[List.forIn_toArray]
  |(rw[<-Array.forIn_toList];simp only[List.toList_toArray])
  |rw[<-Array.forIn_toList]
 refine R0 (Ta (xl (n:=vs.length) (λx ks s' hlt hg hx=>?_) vs step vs [] _ (by simp) rfl g0) (λ_ s' hd=>?_) λ_ _ x=>x)
 ·refine R0 (UX (Ta hx (λk s'' hk=>?_) λ_ _ hF=>hF.elim))
  obtain⟨e,hk1,hk2⟩:=hk;refine R0 (U6 hk1 rfl ?_ (by rw[SE];omega) (Ro (Vj (Array.size_push ..)) (by rw[SE];omega)));exact R4 ⟨rfl,k,hk2⟩
 ·obtain⟨ks,hl,hg⟩:=hd
  obtain⟨e,hke⟩:=gk ks s' hg;obtain⟨κ,B,hN,hkk,hC,ha',fi⟩:=fin ks s' hl hg;refine R0 (Xq hke rfl ?_);have hzip:(ks.toArray.zip vs.toArray).toList=ks.zip vs:=by simp
  have hka:a≠s.heap.objs.size+1:=Rr (SG ha);have tail:∀st:S5,U3 st=Zy->(arrOf st).toList.Perm (ks.zip vs)->cJ B (arrOf st).toList->RJ (Rn prog w) A (ksk_tail a false e1 (.ref (s.heap.objs.size+1)) st) P E s':=λst hf hp hs=>by
   have na:(s'.heap.update (s.heap.objs.size+1) (Rh λ_=>(#[]:Array R3))).get? a=Zz (seqObj "list" #[] e1):=by
    rw[T5 _ _ _ _ hka];exact ha'
   have hlen:(arrOf st).size=vs.length:=by
    have:=hp.length_eq;rw[RD,TP,hl,Xu]at this;exact this
   unfold ksk_tail;refine R0 (U6 hke rfl ?_ (by rw[SE];omega) (SI _));refine R0 (YB ?_);refine R0 (Wa na rfl ?_);refine R0 (U6 na rfl ?_ (SI _) (by
    show((arrOf st).map (·.2)).size<=_;rw[XM,hlen];omega))
   rw[hf];simp only[bne_self_eq_false,Ri,if_false];refine R4 ?_;have:=fi (arrOf st).toList hp hs;rw[show((arrOf st).toList.map (·.2)).toArray=(arrOf st).map (·.2) by rw[<-Ws,Array.toArray_toList]]at this;exact this
  unfold ksk_end;simp only[Ri,if_false];by_cases h2:vs.toArray.size<2
  ·rw[Yq h2,Yq h2]
   refine R0 (R4 ?_);rw[StateT.run_pure];refine R0 (R4 ?_);refine tail _ rfl (by show(ks.toArray.zip vs.toArray).toList.Perm _;rw[hzip]) ?_;show cJ B (ks.toArray.zip vs.toArray).toList;rw[hzip];refine At ?_;rw[TP,hl,Xu];simpa using h2
  ·rw[Yr h2,Yr h2]
   have h2':2<=vs.length:=by simp at h2;omega
   refine R0 (hkk h2' _ ?_);refine R0 (Ta (Ay (W:=ks.zip vs) (st:=Un κ (ks.toArray.zip vs.toArray) #[] 7 Zy) hC (λx hx=>hx) hN ⟨rfl,rfl,by show(ks.toArray.zip vs.toArray).toList.Perm _;rw[hzip]⟩ rfl (Q:=λ_ st'=>Bs κ (ks.zip vs) st'/\cJ B (arrOf st').toList) λst' b1 b2=>⟨b1,b2⟩) ?_ λ_ _ x=>x);rintro ⟨⟨⟩,st'⟩ s'' ⟨rfl,b1,b3⟩;exact tail st' b1.fl b1.perm b3
theorem D7{l q:RB}{vs:List R3}{Q:R3->R9->Prop}(hl:s.heap.IsList l vs.toArray)(hs:vs.length<=900000)(h:∀D kS e1 h',s.heap.objs.size<=D->D<kS->h'.get? D=Zz (seqObj "list" #[] e1)->h'.get? kS=Zz (seqObj "list" #[] 0)->(∀b o,s.heap.get? b=Zz o->h'.get? b=Zz o) ->
   ∃G:List R3->R9->Prop,G [] { s with heap:=h' }/\(∀ks s,G ks s->∃e,s.heap.get? kS=Zz (seqObj "list" ks.toArray e)) /\
    (∀ks x r s,vs.drop ks.length=x::r->G ks s->RJ (Rn prog w) A.in1.in1 (call (.ref q) [x]) (λk s2=>∃e,s2.heap.get? kS=Zz (seqObj "list" ks.toArray e)/\G (ks++[k]) { s2 with heap:=s2.heap.update kS (Rh (·.push k)) }) (λ_ _=>False) s) /\
    ∀ks s',ks.length=vs.length->G ks s'->∃κ B,(ks.zip vs).Nodup/\(2<=vs.length->∀(E':R3->R9->Prop) (Q':TX->R9->Prop),Q' κ s'->RJ (Rn prog w) A.in1.in1 (XK ks.toArray) Q' E' s')/\gH prog w A.in1.in1 s' κ (λx=>x∈ks.zip vs) B /\
     s'.heap.get? D=Zz (seqObj "list" #[] e1)/\∀out:List RX,out.Perm (ks.zip vs)->cJ B out->Q (.ref D) { s' with heap:=(s'.heap.update kS (Rh λ_=>(#[]:Array R3))).update D (Rh λ_=>(out.map (·.2)).toArray) }):
  RJ (Rn prog w) A (call (.builtin "sorted") [.ref l] [(Vk "key",.ref q)]) Q E s:=by
 have hz:=eU hs;refine call_function_entry_kw YA Xs Xt (ksk_s1 _ _) ?_
 unfold Builtin.«sorted»;refine R0 (m:=checkCount "sorted" 1 1 _) (R4 (R0 (collect_list hl (R0 (W3 ?_ (by simpa using hz))) hz)));have hsz:((s.heap.push (seqObj "list" #[] 0)).update s.heap.objs.size (Rh (·++vs.toArray))).objs.size=s.heap.objs.size+1:=by rw[Vv,X5]
 have hoL:(((s.heap.push (seqObj "list" #[] 0)).update s.heap.objs.size (Rh (·++vs.toArray))).push (seqObj "list" vs.toArray 0)).get? (s.heap.objs.size+1)=Zz (seqObj "list" vs.toArray 0):=by
  rw[<-hsz];exact RM _ rfl
 have kp:∀h':SA,(∀b o,b≠s.heap.objs.size+1->(((s.heap.push (seqObj "list" #[] 0)).update s.heap.objs.size (Rh (·++vs.toArray))).push (seqObj "list" vs.toArray 0)).get? b=Zz o->h'.get? b=Zz o)->∀b o,s.heap.get? b=Zz o->h'.get? b=Zz o:=λh' k b o q=>by
  have hlt:=Rm q;refine k b o (Rr (SG hlt)) ?_;rw[TY _ _ _ (by rw[hsz];exact Rr (SG hlt)),T5 _ _ _ _ (Rr hlt),TY _ _ _ (Rr hlt)];exact q
 show RJ _ _ _ _ _ { s with heap:=((s.heap.push (seqObj "list" #[] 0)).update s.heap.objs.size (Rh (·++vs.toArray))).push (seqObj "list" vs.toArray 0) };rw[hsz];refine R0 (SH (wpAny_call_entry_kw XN ⟨_,hoL,rfl⟩ XC ?_ (ksk_l1 _ _)));show RJ (Rn prog w) A.in1.in1 (Builtin.«list.sort» ⟨[.ref (s.heap.objs.size+1)],[(Vk "key",.ref q)]⟩) _ _ _;rw[ksk_t1];refine D0 hoL hs λkS e1 h' hkS h1 h2 h3=>?_
 obtain⟨G,g0,gk,st,fin⟩:=h (s.heap.objs.size+1) kS e1 h' (UQ _) (by rw[hkS];exact SG (Rm hoL)) h1 h2 (kp h' h3);refine⟨G,g0,gk,st,λks s' hk hg=>?_⟩;obtain⟨κ,B,a1,a2,a3,a4,a5⟩:=fin ks s' hk hg;exact⟨κ,B,a1,λz Q' q=>a2 z _ Q' q,a3,a4,λout p o=>⟨_,rfl,R4 ⟨_,rfl,a5 out p o⟩⟩⟩
end
end Ts
end
section
set_option backward.eqns.nonrecursive false
set_option backward.eqns.deepRecursiveSplit false
namespace Mi
open PySem PySem.Spec PyProof.Rows L2
theorem qA(t:Ut)(n:Nat):(t.orStandIn n).led=t.led:=by unfold SetTable.orStandIn;split<;>rfl
theorem nh(t:Ut)(n:Nat)(h:t.plain=false):(t.orStandIn n).plain=false:=by unfold SetTable.orStandIn;split<;>first|exact h|rfl
theorem vR(t:Ut)(es:Array (Int×R3))(h:Int)(x:R3):(layNew t es h x).2.1.led=t.led:=by
 unfold layNew;split
 ·exact qA _ _
 ·rfl
theorem sC(t:Ut)(es:Array (Int×R3))(h:Int)(x:R3)(hp:t.plain=false):(layNew t es h x).2.1.plain=false:=by
 unfold layNew;split
 ·exact nh _ _ hp
 ·rfl
theorem pd{t t':Ut}(h:t.relaid hs n=Zz (t',o)):t'.led=t.led/\t'.plain=t.plain:=by
 unfold SetTable.relaid SetTable.laid at h;simp only[Option.bind_eq_bind]at h;obtain⟨w,_,h2⟩:=RF.mp h;cases h2;exact⟨rfl,rfl⟩
theorem sW(t:Ut)(es:Array (Int×R3))(n:Nat):(WO t es n).2.1.led=t.led:=by
 unfold WO;split
 ·rename_i t' o h
  dsimp only;split
  ·exact(pd h).1
  ·rfl
 ·rfl
theorem qa(t:Ut)(es:Array (Int×R3))(n:Nat)(hp:t.plain=false):(WO t es n).2.1.plain=false:=by
 unfold WO;split
 ·rename_i t' o h
  dsimp only;split
  ·exact(pd h).2.trans hp
  ·rfl
 ·rfl
structure Ij (prog:S9) (w:SY) (led:Bool) (o:Obj) (D:List Str) (es:Array (Int×R3)) (ep:Nat) (t:Ut):Prop where
 ex:o.ExactSet
 data:o.data=.set es ep t
 el:ElemsOf (Sv prog w) es.toList
 Fi:(es.toList.map λe=>strOf e.2).Perm D
 nd:D.Nodup
 room:es.size<VZ
 fits:t.fits es.size=true
 led:t.led=led
 plain:es.size≠0->t.plain=false
inductive iA (prog:S9) (w:SY) (led:Bool) (h:SA) (a:RB) (D:List Str)  : Prop where
 |mk (o es ep t) (_:h.get? a=Zz o) (_:Ij prog w led o D es ep t)
theorem mT(h:Tp x v=true):strOf v=x:=by
 obtain⟨t,rfl⟩:=WE h;rfl
section
variable{prog:S9}{w:SY}{A:SV}{E:R3->R9->Prop}{s:R9}{led:Bool}
theorem A0(h:∃k,(Sv prog w).is k v=true):Tp (strOf v) v=true:=by
 obtain⟨k,hk⟩:=h;have hk:=hk;rw[mT hk];exact hk
theorem uc(he:ElemsOf (Sv prog w) es)(k:Str):(∃e∈es,(Sv prog w).is k e.2=true)↔k∈es.map λe=>strOf e.2:=by
 constructor
 ·rintro ⟨e,he,hk⟩
  exact RS.mpr ⟨e,he,mT hk⟩
 ·intro h
  obtain⟨e,hm,rfl⟩:=RS.mp h;obtain⟨⟨k,hk,_⟩,_⟩:=he e hm;exact⟨e,hm,A0 ⟨k,hk⟩⟩
theorem um(hS:iA prog w led s.heap a D)(hroom:D.length+1<VZ)(h:∀h' b,Up a s.heap h'->iA prog w led h' a (if x∈D then D else D++[x])->Q b { s with heap:=h' }):
  RJ (Rn prog w) A (Xv a (.str x tk) (hashStr w x)) Q E s:=by
 obtain⟨o,es,ep,t,ho,hE⟩:=hS;have hex:=hE.ex;have hd:=hE.data;have hel:=hE.el;have hf:=hE.fits;have hkey:(Sv prog w).is x (.str x tk)=true:=by show Tp x (.str x tk)=true;simp[Tp]
 have hsc:(YU x tk).scannable=true:=rfl;have hlen:es.size=D.length:=by rw[<-hE.Fi.length_eq,R1,RD]
 show RJ (Rn prog w) A (Xv a (.str x tk) ((Sv prog w).hash x)) Q E s;unfold Xv setAddHashedIn;refine SH (R0 (TK ho hd hf ?_));dsimp only;rw[byScan_of hsc hE.room hel];simp only[↓reduceIte];unfold setAddByScan;refine R0 ?_;refine R0 (TG ?_);refine R0 (wpAny_setScan_of hkey ho hd hf hel ?_);cases hr:List.findIdx? (λe=>(Sv prog w).is x e.2) es.toList with
 |some j =>
  obtain⟨hj,hpj,_⟩:=List.findIdx?_eq_some_iff_getElem.mp hr;have hm:=hE.Fi.mem_iff.mp ((uc hel x).mp ⟨_,Ti hj,hpj⟩);refine R4 (R4 ?_);have:=h s.heap false (Heap.SameBut.refl a s.heap) (by rw[Yq hm];exact⟨o,es,ep,t,ho,hE⟩);exact this
 |none =>
  have hm:x∉D:=λhx=>by
   obtain⟨e,he,hp⟩:=(uc hel x).mpr (hE.Fi.mem_iff.mpr hx);have:=List.findIdx?_eq_none_iff.mp hr e he;rw[hp]at this;exact Bool.noConfusion this
  have hgw:∀(b:Bool) (s₁:R9) (Q':Unit->R9->Prop),Q' () s₁->RJ (Rn prog w) A (match b with|true=>rule "set.scan.the-table-gave-way" | false=>pure ()) Q' E s₁:=
   λb s₁ Q' hq=>by cases b<;>first|exact R4 hq|exact TG hq
  have hperm:=layNew_perm t es ((Sv prog w).hash x) (.str x tk);have hfits:=layNew_fits t es ((Sv prog w).hash x) (.str x tk);have hled:=vR t es ((Sv prog w).hash x) (.str x tk);have hplain:=sC t es ((Sv prog w).hash x) (.str x tk);generalize hL:layNew t es ((Sv prog w).hash x) (.str x tk)=L at hperm hfits hled hplain ⊢;obtain⟨es1,t1,wasDummy,gave⟩:=L;dsimp only at hperm hfits hled hplain ⊢;rw[UO]at hperm;have hel1:=(hel.push hkey hsc).perm hperm;have hsz1:es1.size=es.size+1:=by rw[<-RD,hperm.length_eq,RI,RD];rfl
  have hb1:es1.size<VZ:=by omega
  have hst1:(es1.toList.map λe=>strOf e.2).Perm (D++[x]):=by
   refine(hperm.map _).trans ?_;rw[Si];exact hE.Fi.append_right _
  have hnd:(D++[x]).Nodup:=by
   rw[Uz];refine⟨hE.nd,by simp,λy hy z hz=>?_⟩;rw[RQ.mp hz];exact λe=>hm (e▸hy)
  -- the end,at a table that is plain no more
  have fin:∀t2:Ut,t2.led=led->t2.plain=false->t2.fits es1.size=true->RJ (Rn prog w) A (do
    storeSet a es1 t2
    if(!wasDummy&&t2.tooFull)=true then do
      (match(WO t2 es1 (UA es1.size)).2.2 with|true=>rule "set.scan.the-table-gave-way" | false=>pure ())
      storeSet a (WO t2 es1 (UA es1.size)).1 (WO t2 es1 (UA es1.size)).2.1
      pure (Zz true)
     else pure (Zz true)) (λr s'=>match r with
      |some b=>Q b s'
      |none=>False) E s:=λt2 hl2 hp2 hf2=>by
   have hg1:(s.heap.update a (WP es1 t2)).get? a=Zz { o with data:=.set es1 (ep+1) t2 }:=by
    have:=TN (WP es1 t2) ho (by rw[putSet_of es1 t2 hd];rfl);rw[putSet_of es1 t2 hd]at this;exact this
   have hsb1:=Se s.heap a (WP es1 t2);refine R0 (wpAny_storeSet_of ho hd ?_ (Wb hb1));split
   ·have hp:=relayAll_perm t2 es1 (UA es1.size)
    have hfr:=relayAll_fits t2 es1 (UA es1.size);have hrl:=sW t2 es1 (UA es1.size);have hrp:=qa t2 es1 (UA es1.size) hp2;generalize WO t2 es1 (UA es1.size)=Rl at hp hfr hrl hrp ⊢;obtain⟨es2,t3,gave2⟩:=Rl;dsimp only at hp hfr hrl hrp ⊢;have hsz:es2.size=es1.size:=by rw[<-RD,hp.length_eq,RD]
    refine R0 (hgw _ _ _ ?_);refine R0 (wpAny_storeSet_of hg1 rfl ?_ (Wb (by omega)));have hg2:((s.heap.update a (WP es1 t2)).update a (WP es2 t3)).get? a=Zz { o with data:=.set es2 (ep+1+1) t3 }:=
     TN (WP es2 t3) hg1 rfl
    refine R4 (h _ true (hsb1.trans (Se _ a _)) ?_);rw[Yr hm];exact⟨_,es2,_,t3,hg2,⟨hex,rfl,hel1.perm hp,(hp.map _).trans hst1,hnd,by omega,hfr,hrl.trans hl2,λ_=>hrp⟩⟩
   ·refine R4 (h _ true hsb1 ?_)
    rw[Yr hm];exact⟨_,es1,_,t2,hg1,⟨hex,rfl,hel1,hst1,hnd,hb1,hf2,hl2,λ_=>hp2⟩⟩
  refine R0 (hgw _ _ _ ?_);have done:∀{r:Option Bool}{s':R9},(match r with
    |some b=>Q b s'
    |none=>False)->RJ (Rn prog w) A (match r with
     |some added=>pure added
     |none=>setAddHashedIn a (.str x tk) ((Sv prog w).hash x) 99999) Q E s':=λ{r s'} hr=>by
   cases r with
   |none=>exact hr.elim
   |some b=>exact R4 hr
  split
  ·refine R0 ?_
   rw[hashByValue_scannable 8 hsc];refine R4 ?_;exact Ta (fin { t1 with plain:=false } (hled.trans hE.led) rfl (SetTable.fits_plain_off hfits)) (λr s' hr=>done hr) λ_ _ e=>e
  ·rename_i hpl
   refine R0 (R4 ?_);simp only[↓reduceIte];exact Ta (fin t1 (hled.trans hE.led) (by simpa using hpl) hfits) (λr s' hr=>done hr) λ_ _ e=>e
noncomputable def dd(val:Nat->Str):Nat->List Str
 |0=>[]
 |i+1=>if val i∈dd val i then dd val i else dd val i++[val i]
theorem we(val:Nat->Str):∀i,(dd val i).length<=i
 |0=>RC _
 |i+1=>by
  have:=we val i;unfold dd;split
  ·omega
  ·rw[RI,S3];omega
noncomputable abbrev c8(w:SY):Bool:=!w.params.followText "set-order"
theorem iA.at'(hS:iA prog w led h a D)(k:∀o,h.get? a=Zz o->h'.get? a=Zz o):iA prog w led h' a D:=by
 obtain⟨o,es,ep,t,ho,hE⟩:=hS;exact⟨o,es,ep,t,k o ho,hE⟩
theorem A5{St:Nat->R9->Prop}(W:WalksS prog w A.in1 I fp wr G n P St)(S:RB)(hSf:S∉fp)(val:Nat->Str)(hval:∀i v,P i v->∃t,v=.str (val i) t)(hb:n+1<VZ):∀(k i:Nat) (s:R9),n-i=k->i<=n->St i s->iA prog w led s.heap S (dd val i) ->
   (∀s',Moved (S::wr) G s s'->iA prog w led s'.heap S (dd val n)->R (.ok (.ret .none)) s')->Ux (Rn prog w) A (.builtin "set.update.loop" ⟨[.ref S,.ref I],[]⟩) R s:=by
 have hSw:=λh=>hSf (W.sub _ h)
 have hsub:∀b∈wr,b∈S::wr:=λb hb=>R2 _ hb
 intro k
 induction k with
 |zero =>
  intro i s hk hi hst hS hR;have hin:i=n:=by omega
  subst hin;refine TQ PyProof.Rows.F.entry_set_update_loop ?_;rw[Sw U4 _];refine R0 (W.done s _ _ hst λs' hm=>?_);exact R4 (hR s' (hm.mono hsub) (hS.at' λo ho=>hm.heap S _ hSw ho))
 |succ k ih =>
  intro i s hk hi hst hS hR;have hlt:i<n:=by omega
  refine TQ PyProof.Rows.F.entry_set_update_loop ?_;rw[Sw U4 _];refine R0 (W.item i s _ _ hlt hst λv s' hP hst' hm=>?_);obtain⟨t,rfl⟩:=hval i v hP;have hS':=hS.at' λo ho=>hm.heap S _ hSw ho
  refine R0 (SH ?_);unfold setAdd;refine SH ?_;refine R0 ((Sv prog w).pyHash (by show Tp (val i) (.str (val i) t)=true;simp[Tp]) ?_);have hroom:(dd val i).length+1<VZ:=by have:=we val i;omega
  refine um hS' hroom λh' b hsb hS2=>?_
  refine R4 ⟨UY U4 _,ih (i+1) _ (by omega) hlt (W.frame _ s' _ _ hst' (UQ _) λb hb o e=>?_) hS2 λs'' hm'' hS''=>?_⟩
  ·rw[hsb.2 b (λh:b=S=>hSf (by rw[<-h];exact hb))];exact e
  ·refine hR s'' (Moved.trans W.gtrans ((hm.mono hsub).then_heap (UQ _) λb o hb e=>?_) hm'') hS''
   rw[hsb.2 b (λh:b=S=>hb (by rw[h];exact R6))];exact e
theorem A3(a:R3)(h:Q₁ (.ref s.heap.objs.size) { s with heap:=s.heap.push { cls:=.type "set",dict:=Zy,data:=.set #[] 0 (.fresh 0 0 (c8 w)) } }):
  Ux (Rn prog w) A (.call (.builtin "set.__new__") ⟨[.type "set",a],[]⟩) (wants Q₁ E) s:=by
 refine XD ?_;refine R0 (XO (PySem.F.newCall_set_1 a) (R4 ⟨UY PySem.F.plain_set_new _,TQ PySem.F.entry_set_new ?_⟩));rw[Sw PySem.F.plain_set_new _];unfold Builtin.«set.__new__» Builtin.Frozenset.newClass;have hsub:=sub_set_self;obtain⟨hp,g,d,tk,os⟩:=s
 wp_walk
 refine Uf (R4 ?_);simp only[newObj];refine R0 (YC (R4 ?_));exact R4 h
theorem qZ(ha:h.get? a=Zz { cls:=.type "set",dict:=Zy,data:=.set #[] 0 (.fresh 0 0 led) }):iA prog w led h a []:=
 ⟨_,#[],0,_,ha,⟨⟨rfl,rfl,rfl⟩,rfl,λe he=>by simp at he,List.Perm.nil,Tu,by unfold VZ;decide,rfl,rfl,λh=>Yv rfl h⟩⟩
set_option maxHeartbeats 3200000 in
theorem qz(hh:A.handled=Zy)(hl:s.heap.IsList l items)(hv:∀(i:Nat) v,items[i]?=Zz v->∃t,v=.str (val i) t)(hb:items.size+1<VZ)(h:∀(h':SA) (tk:Nat),iA prog w (c8 w) h' s.heap.objs.size (dd val items.size)->(∀b o,s.heap.get? b=Zz o->h'.get? b=Zz o)->Q (.ref s.heap.objs.size) { s with heap:=h',toks:=tk }):
  RJ (Rn prog w) A (TE (.type "set") [.ref l]) Q E s:=by
 obtain⟨c,tl,hmro⟩:=PySem.F.called_set.mro;have hmade:=PySem.F.called_set.made;have hsub:=PySem.F.called_set.sub;refine YJ (XD ?_);refine R4 ⟨Code.quiet_builtin _ (by decide +kernel),TQ PySem.F.entry_type_call ?_⟩;rw[Around.under_plain (weight_type_call_type "set" [.ref l] []) rfl];have h1:=PySem.F.called_set.notType;have h2:=PySem.F.called_set.canCreate;have hct:=PySem.F.typeCall_set_1 (.ref l)
 repeat (any_goals (first|assumption|wp_step))
 refine Ul (A3 (.ref l) (E:=E) (Q₁:=λobj s₁=>obj=.ref s.heap.objs.size/\s₁={ s with heap:=s.heap.push { cls:=.type "set",dict:=Zy,data:=.set #[] 0 (.fresh 0 0 (c8 w)) } }) ⟨rfl,rfl⟩) λr s₁ hr=>?_
 cases r with
 |error e=>exact hr
 |ok fl =>
  cases fl with
  |ret obj =>
   obtain⟨rfl,rfl⟩:=hr;have hS:(s.heap.push { cls:=.type "set",dict:=Zy,data:=.set #[] 0 (.fresh 0 0 (c8 w)) }).get? s.heap.objs.size=Zz { cls:=.type "set",dict:=Zy,data:=.set #[] 0 (.fresh 0 0 (c8 w)) }:=RM _ rfl;have hT:W4 { s with heap:=s.heap.push { cls:=.type "set",dict:=Zy,data:=.set #[] 0 (.fresh 0 0 (c8 w)) } } (.ref s.heap.objs.size) "set":=⟨_,hS,rfl⟩
   have hli:=PySem.F.called_set.init.lookup;have hbi:=PySem.F.called_set.init.bind (.ref s.heap.objs.size)
   repeat (any_goals (first|assumption|wp_step))
   refine Ul (codeAny_call_builtin (R:=wants (λr s₂=>r=.none/\∃h' tk,s₂={ s with heap:=h',toks:=tk }/\iA prog w (c8 w) h' s.heap.objs.size (dd val items.size)/\(∀b o,s.heap.get? b=Zz o->h'.get? b=Zz o)) E) PySem.F.called_set.init.plain PySem.F.entry_set_init (check_set_init_1 hT ?_)) λr₂ s₂ hr₂=>?_
   ·obtain⟨ol,hol,hcl,nl,hdl⟩:=hl
    obtain⟨ocls,odict,odata,oslots⟩:=ol;simp only at hcl hdl;subst hcl;subst hdl;have hol':(s.heap.push { cls:=.type "set",dict:=Zy,data:=.set #[] 0 (.fresh 0 0 (c8 w)) }).get? l=Zz { cls:=.type "list",dict:=odict,data:=.seq items nl,slots:=oslots }:=R7 _ hol;have hsls:=PySem.F.sub_list_set;have hslf:=PySem.F.sub_list_frozenset;have hne:(VV "list" == VV "dict")=false:=by decide
    have hl1:(s.heap.push { cls:=.type "set",dict:=Zy,data:=.set #[] 0 (.fresh 0 0 (c8 w)) }).IsList l items:=⟨_,hol',rfl,nl,rfl⟩
    unfold Builtin.«set.__init__» noKeywords Builtin.Frozenset.updateFrom;generalize hPI:pyIter=PI
    wp_walk
    subst hPI;refine V0 hl1 ?_;refine R0 (wpAny_runValue ?_);have hlS:=Rm hol;have hh3:A.in1.in1.in1.handled=Zy:=by simp[hh]
    have hneI:l≠(s.heap.push { cls:=.type "set",dict:=Zy,data:=.set #[] 0 (.fresh 0 0 (c8 w)) }).objs.size:=by
     rw[T3];exact Rr (SG hlS)
    have hSf:s.heap.objs.size∉[(s.heap.push { cls:=.type "set",dict:=Zy,data:=.set #[] 0 (.fresh 0 0 (c8 w)) }).objs.size,l]:=by
     rw[T3];simp only[R5,RQ,RV,or_false,not_or];exact⟨Rr (VB _),X6 hlS⟩
    refine A5 (led:=c8 w) ((Vw hh3 _ l hneI items).toS) s.heap.objs.size hSf val hv hb (items.size-0) 0 _ (by omega) (SI _)
     ⟨⟨_,RM _ rfl,rfl,rfl⟩,(hl1.push _)⟩ ?hS0 ?hR
    case hS0 =>
     exact qZ (R7 _ hS)
    case hR =>
     intro s' hm hS';obtain⟨h',g',d',tk',os'⟩:=s';have eg:=hm.gens;have ed:=hm.drawn;have eo:=hm.os;subst eg;subst ed;subst eo;refine R4 ?_;refine R4 ⟨rfl,h',tk',rfl,hS',λb o e=>?_⟩;have hb:=Rm e;have hb1:=Rr hb;have hb2:b≠(s.heap.push { cls:=.type "set",dict:=Zy,data:=.set #[] 0 (.fresh 0 0 (c8 w)) }).objs.size:=by
      rw[T3];exact Rr (SG hb)
     exact hm.heap b o (by simp only[R5,RQ,RV,or_false,not_or];exact⟨hb1,hb2⟩) (R7 _ (R7 _ e))
   ·cases r₂ with
    |error e=>exact hr₂
    |ok fl₂ =>
     cases fl₂ with
     |ret r =>
      obtain⟨rfl,h',tk,rfl,hS',hk'⟩:=hr₂
      repeat (any_goals (first|assumption|wp_step))
      exact h _ _ hS' hk'
     |_=>exact hr₂.elim
  |_=>exact hr.elim
end
end Mi
namespace PySem.F
theorem fQ:Manifest.owners.lookup (String.ofList ['r','o','t','a','r','e','t','i','_','t','e','s'].reverse)=Zz Manifest.sig_set_iterator:=by kernel_rfl
theorem av:Slot "set_iterator" "__next__" "set_iterator.__next__" :=
 .of (owner:="set_iterator") (n:="__next__") (by rw[XE,Vs];kernel_rfl) (by decide +kernel) (by decide +kernel) (by decide +kernel)
  (by first|exact .inl (by decide +kernel)|exact .inr (by decide +kernel)) (by rw[XQ];kernel_rfl)
theorem bu:YK table "set_iterator.__next__" = Zz Builtin.«set_iterator.__next__»:=entryFor_of_tree (by kernel_rfl)
theorem bi(a:R3):argsOk "set_iterator.__next__" ⟨[a],[]⟩:=by
 unfold argsOk;rw[signature?_of (n:=['_','_','t','x','e','n','_','_']) (by kernel_rfl) fQ];kernel_rfl
theorem jH:YK table "set.__iter__" = Zz Builtin.«frozenset.__iter__»:=entryFor_alias (id':="frozenset.__iter__") (by kernel_rfl) rfl (by decide +kernel) (by kernel_rfl)
end PySem.F
namespace Mi
open PySem PySem.Spec PyProof.Rows L2
section
variable{M:Yo}{A:SV}{E:R3->R9->Prop}{s:R9}
theorem wp_choose'(b:n≠0)(h:∀i d,i<n->Q i { s with drawn:=d }):RJ M A (choose src n) Q E s:=
 λΓ p c=>⟨b,h _ _ (Nat.mod_lt _ (Nat.pos_of_ne_zero b))⟩
theorem gV{α:Type}:∀(l:List α) (i:Nat) (h:i<l.length),(l[i]::l.eraseIdx i).Perm l
 |_::_,0,_=>.refl _
 |x::l,i+1,h=>by
  have a:i<l.length:=by simpa using h
  exact(WQ ..).trans ((gV l i a).cons x)
theorem mO{α:Type}:∀(n:Nat) (xs:List α) {s:R9}{Q:List α->R9->Prop},xs.length=n->(∀ys d,ys.Perm xs->Q ys { s with drawn:=d })->RJ M A (YV n xs) Q E s
 |0,xs,s,Q,hl,h=>by
  have e:=Uj hl;subst e;unfold YV;exact R4 (h [] s.drawn .nil)
 |n+1,[],s,Q,hl,h=>by simp at hl
 |n+1,x::xs,s,Q,hl,h=>by
  unfold YV;refine R0 (wp_choose' (by simp) λi d hi=>?_);have e:=R8 hi;rw[e];refine R0 (mO n ((x::xs).eraseIdx i) (by rw[UB hi,hl];rfl) λys d' hp=>?_);exact R4 (h _ d' ((hp.cons _).trans (gV _ _ hi)))
theorem q9{α:Type}(next:Nat->Nat):∀(a k:Nat) (left:List α) (b:Array α),left.length=a->(Xw next a k left b).toList.Perm (b.toList++left)
 |0,k,left,b,h=>by
  have e:=Uj h;subst e;unfold Xw;rw[SZ]
 |a+1,k,left,b,h=>by
  unfold Xw;have c:next k%left.length<left.length:=Nat.mod_lt _ (by omega)
  rw[R8 c];refine(q9 next a (k+1) _ _ (by rw[UB c];omega)).trans ?_;rw[UO,Rg];exact(gV left _ c).append_left _
theorem picked{α:Type}(next:Nat->Nat)(xs:Array α):(Va next xs).toList.Perm xs.toList:=by
 unfold Va;exact q9 next xs.size 0 xs.toList #[] (by simp)
end
section
variable{prog:S9}{w:SY}{A:SV}{E:R3->R9->Prop}{s:R9}
def cP(h:SA)(it a:RB)(first:R3)(i n ep:Nat):Prop:=∃o,h.get? it=Zz o/\o.cls=.type "set_iterator"/\o.data=.fields #[first,.int i 0,.ref a,.int n 0,.int ep 0]
theorem cP.typeIs(h:cP s.heap it a first i n ep):s.TypeIs (.ref it) "set_iterator":=let⟨o,b,c,_⟩:=h;⟨o,b,c⟩
theorem wD{pp:Nat}(h:cP s.heap it a (.ref tp) i es.size ep)(ha:s.heap.get? a=Zz o)(hd:o.data=.set es ep t)(hf:t.fits es.size=true)(htp:s.heap.IsTuple tp pl)(hp:pl[i]?=Zz (.int pp 0))(he:es[pp]?=Zz e)(q:∀h',cP h' it a (.ref tp) (i+1) es.size ep->Up it s.heap h'->Q (Zz e.2) { s with heap:=h' }):RJ (Rn prog w) A (pyNext (.ref it)) Q E s:=by
 obtain⟨oi,d,hci,b⟩:=id h;obtain⟨ot,hot,_,nt,hdt⟩:=htp;unfold pyNext;refine R0 (UX (Sc h.typeIs PySem.F.av (SW PySem.F.av h.typeIs PySem.F.bu ?_ (PySem.F.bi _))));unfold Builtin.«set_iterator.__next__» Wu;simp only[Tj,TW,Ri,↓reduceIte,bind_assoc,T2,bne_self_eq_false];refine R0 (R4 ?_);refine R0 (V3 d b ?_);refine R0 (TJ ha hd hf ?_);simp only[bne_self_eq_false,Ri,↓reduceIte];refine R0 (Tb hot hdt ?_);simp only[T8,hp];refine R0 ?_;unfold setNextDrawn;refine R0 (TK ha hd hf ?_);simp only[bne_self_eq_false,Ri,↓reduceIte,he];refine R4 ?_;refine R0 (Tv d b (by simp) (R4 ⟨_,rfl,R4 (q _ ⟨_,TN _ d (UF (Sx b _)),(Vl ..).trans hci,?_⟩ (Se ..))⟩));rw[Sx b];simp[rawInt]
theorem dA(h:Q (M.w.params.followText "set-order") s):RJ M A YL Q E s:=by
 unfold YL;exact R0 (Uf (R4 h))
theorem pL{Q:R3->R9->Prop}(h:cP s.heap it a f0 i n ep)(q:∀h',cP h' it a c (i+1) n ep->Up it s.heap h'->Q v { s with heap:=h' }):
  RJ (Rn prog w) A (do setField (.ref it) 0 c;setField (.ref it) 1 (rawInt ((i:Int)+1));ret v) (λfin s'=>∃r,fin=.done (.ret r)/\Q r s') E s:=by
 obtain⟨oi,hoi,hci,d⟩:=id h;refine R0 (Tv hoi d (by simp) ?_);have h1:(s.heap.update it (VJ λx=>x.setIfInBounds 0 c)).get? it=Zz (VJ (λx=>x.setIfInBounds 0 c) oi):=TN _ hoi (UF (Sx d _));have e:(VJ (λx=>x.setIfInBounds 0 c) oi).data=.fields #[c,.int i 0,.ref a,.int n 0,.int ep 0]:=by rw[Sx d];simp
 refine R0 (Tv h1 e (by simp) (R4 ⟨_,rfl,q _ ⟨_,TN _ h1 (UF (Sx e _)),(Vl ..).trans ((Vl ..).trans hci),?_⟩ ((Se ..).trans (Se ..))⟩));rw[Sx e];simp[rawInt]
theorem y3{i sl:Nat}(hb:w.params.followText "set-order" = true)(h:cP s.heap it a (.int sl 0) i d.size ep)(ha:s.heap.get? a=Zz o)(hd:o.data=.set d ep t)(hf:t.fits d.size=true)(he:(Va (w.params.setOrder a ep) d)[i]?=Zz e)(q:∀h',cP h' it a (.int sl 0) (i+1) d.size ep->Up it s.heap h'->Q (Zz e.2) { s with heap:=h' }):RJ (Rn prog w) A (pyNext (.ref it)) Q E s:=by
 obtain⟨oi,hoi,hci,hdi⟩:=id h;unfold pyNext;refine R0 (UX (Sc h.typeIs PySem.F.av (SW PySem.F.av h.typeIs PySem.F.bu ?_ (PySem.F.bi _))));unfold Builtin.«set_iterator.__next__» Wu;simp only[Tj,TW,Ri,↓reduceIte,bind_assoc,T2,bne_self_eq_false];refine R0 (R4 ?_);refine R0 (V3 hoi hdi ?_);refine R0 (TJ ha hd hf ?_);simp only[bne_self_eq_false,Ri,↓reduceIte];refine R0 ?_;unfold YZ;refine R0 (TK ha hd hf ?_);refine R0 (dA ?_);show RJ _ _ (if w.params.followText "set-order" = true then _ else _) _ _ _;rw[Yq hb];simp only[T8,bne_self_eq_false,Ri,↓reduceIte];refine R0 ?_;unfold setWalk;refine R0 (TK ha hd hf ?_);refine R0 (dA ?_);show RJ _ _ (if w.params.followText "set-order" = true then _ else _) _ _ _;rw[Yq hb];refine R0 (Uf (R4 ?_));refine R4 ?_;show RJ _ _ (match((Va (w.params.setOrder a ep) d)[i]?).map λe=>(e.2,sl)with
  |some (x,next)=>_
  |none=>_) _ _ _
 rw[he];exact pL h λh' h1 h2=>R4 (q h' h1 h2)
theorem GY(j:Nat):Tw #[j] 0=0:=by simp[Tw,SetTable.below.go]
theorem FO(j:Nat):Tw #[j] (j+1)=1:=by simp[Tw,SetTable.below.go]
theorem j9{α:Type}{Q:α->R9->Prop}(d:A.handled=Zy)(q:∀g e,(∀c o,s.heap.get? c=Zz o->g.get? c=Zz o)->(∃o,g.get? e=Zz o/\o.cls=.type "StopIteration")->E (.ref e) { s with heap:=g }):RJ (Rn prog w) A (newExc (.type "StopIteration") [] >>= λe=>(Yf e:Sem α)) Q E s:=by
 refine R0 ?_;simp only[newExc,newTuple];refine R0 (So ?_ (by size_fits));refine R0 (XO (by first|rfl|(simp only[firstArgMember];rfl)) (So ?_ (by size_fits)));simp only[Yf];refine R0 (wpAny_handled ?_);rw[d];exact R0 (R4 (wpAny_throw (q _ _ (λc o e=>R7 _ (R7 _ e)) ⟨_,RM _ rfl,rfl⟩)))
theorem B8(hb:w.params.followText "set-order" = false)(d:t.led=true)(hpl:t.place=#[j])(h:cP s.heap it a (.int 0 0) 0 1 ep)(ha:s.heap.get? a=Zz o)(hd:o.data=.set #[e] ep t)(hf:t.fits 1=true)(q:∀h',cP h' it a (.int (j+1:Nat) 0) 1 1 ep->Up it s.heap h'->Q (Zz e.2) { s with heap:=h' }):RJ (Rn prog w) A (pyNext (.ref it)) Q E s:=by
 obtain⟨oi,hoi,hci,hdi⟩:=id h;unfold pyNext;refine R0 (UX (Sc h.typeIs PySem.F.av (SW PySem.F.av h.typeIs PySem.F.bu ?_ (PySem.F.bi _))));unfold Builtin.«set_iterator.__next__» Wu;simp only[Tj,TW,Ri,↓reduceIte,bind_assoc,T2,bne_self_eq_false];refine R0 (R4 ?_);refine R0 (V3 hoi hdi ?_);refine R0 (TJ ha hd hf ?_);rw[Yr (by simp)];refine R0 ?_;unfold YZ;refine R0 (TK ha hd hf ?_);refine R0 (dA ?_);show RJ _ _ (if w.params.followText "set-order" = true then _ else _) _ _ _;rw[Yr (by rw[hb];decide)];split
 ·rename_i b
  have b:(!t.plain&&decide (1>1))=true:=b;simp at b
 ·refine R0 ?_
  show RJ _ _ (if(!t.led&&!(#[e]:Array (Int×R3)).isEmpty)=true then _ else _) _ _ _;rw[Yr (by rw[d];simp)];refine R4 ?_;rw[hpl];show RJ _ _ (pure (match(#[e]:Array (Int×R3))[Tw #[j] 0]?,(#[j]:Array Nat)[Tw #[j] 0]? with
   |some (_,x),Zz j=>Zz (x,j+1)
   |_,_=>Zy)) _ _ _
  rw[GY];refine R4 ?_;exact pL h λh' h1 h2=>R4 (q h' h1 h2)
theorem vH(hA:A.handled=Zy)(h:cP s.heap it a f0 i n ep)(b:∀{Q':Fin->R9->Prop}{E':R3->R9->Prop},(∀g e,Vb it s.heap g->(∃o,g.get? e=Zz o/\o.cls=.type "StopIteration")->E' (.ref e) { s with heap:=g })->RJ (Rn prog w) A.in1 (Builtin.«set_iterator.__next__» ⟨[.ref it],[]⟩) Q' E' s)(q:∀g,Vb it s.heap g->Q Zy { s with heap:=g }):RJ (Rn prog w) A (pyNext (.ref it)) Q E s:=by
 unfold pyNext;refine R0 (UX (Sc h.typeIs PySem.F.av (SW PySem.F.av h.typeIs PySem.F.bu (b λg e k he=>?_) (PySem.F.bi _))));obtain⟨o,ho,hc⟩:=he;exact R0 (Wv ⟨o,ho,hc⟩ isSubtype_stop (R4 (q g k)))
theorem yq(hA:A.handled=Zy)(h:cP s.heap it a (.ref tp) i es.size ep)(ha:s.heap.get? a=Zz o)(hd:o.data=.set es ep t)(hf:t.fits es.size=true)(htp:s.heap.IsTuple tp pl)(hp:pl[i]?=Zy)(q:∀g,Vb it s.heap g->Q Zy { s with heap:=g }):RJ (Rn prog w) A (pyNext (.ref it)) Q E s:=by
 refine vH hA h (λ{Q' E'} r=>?_) q;obtain⟨oi,hoi,hci,hdi⟩:=id h;obtain⟨ot,hot,_,nt,hdt⟩:=htp;unfold Builtin.«set_iterator.__next__» Wu;simp only[Tj,TW,Ri,↓reduceIte,bind_assoc,T2,bne_self_eq_false];refine R0 (R4 ?_);refine R0 (V3 hoi hdi ?_);refine R0 (TJ ha hd hf ?_);simp only[bne_self_eq_false,Ri,↓reduceIte];refine R0 (Tb hot hdt ?_);simp only[T8,hp];refine R0 (Tv hoi hdi (by simp) ?_);have h1:(s.heap.update it (VJ λx=>x.setIfInBounds 0 (rawInt 0))).get? it=Zz (VJ (λx=>x.setIfInBounds 0 (rawInt 0)) oi):=TN _ hoi (UF (Sx hdi _));have hd1:(VJ (λx=>x.setIfInBounds 0 (rawInt 0)) oi).data=.fields #[rawInt 0,.int i 0,.ref a,.int es.size 0,.int ep 0]:=by rw[Sx hdi];simp
 refine R0 (Tv h1 hd1 (by simp) (j9 (by simp[hA]) λg e k he=>r g e (λc o n x=>?_) he));exact k c o (((Se ..).trans (Se ..)).extBut c o n x)
theorem BE{i u:Nat}(hA:A.handled=Zy)(hb:w.params.followText "set-order" = true)(h:cP s.heap it a (.int u 0) i es.size ep)(p:s.heap.get? a=Zz o)(m:o.data=.set es ep t)(j:t.fits es.size=true)(l:(Va (w.params.setOrder a ep) es)[i]?=Zy)(q:∀g,Vb it s.heap g->Q Zy { s with heap:=g }):RJ (Rn prog w) A (pyNext (.ref it)) Q E s:=by
 refine vH hA h (λ{Q' E'} r=>?_) q;obtain⟨oi,b,hci,d⟩:=id h;unfold Builtin.«set_iterator.__next__» Wu;simp only[Tj,TW,Ri,↓reduceIte,bind_assoc,T2,bne_self_eq_false];refine R0 (R4 ?_);refine R0 (V3 b d ?_);refine R0 (TJ p m j ?_);simp only[bne_self_eq_false,Ri,↓reduceIte];refine R0 ?_;unfold YZ;refine R0 (TK p m j ?_);refine R0 (dA ?_);show RJ _ _ (if w.params.followText "set-order" = true then _ else _) _ _ _;rw[Yq hb];simp only[T8,bne_self_eq_false,Ri,↓reduceIte];refine R0 ?_;unfold setWalk;refine R0 (TK p m j ?_);refine R0 (dA ?_);show RJ _ _ (if w.params.followText "set-order" = true then _ else _) _ _ _;rw[Yq hb];refine R0 (Uf (R4 ?_));refine R4 ?_;show RJ _ _ (match((Va (w.params.setOrder a ep) es)[i]?).map λe=>(e.2,u)with
  |some (x,next)=>_
  |none=>_) _ _ _
 rw[l];refine R0 (Tv b d (by simp) (j9 (by simp[hA]) λg e k l=>r g e (λc o n x=>?_) l));exact k c o ((Se ..).extBut c o n x)
theorem ER{i sl:Nat}(hA:A.handled=Zy)(hb:w.params.followText "set-order" = false)(f:t.led=true)(h:cP s.heap it a (.int sl 0) i es.size ep)(ha:s.heap.get? a=Zz o)(hd:o.data=.set es ep t)(hf:t.fits es.size=true)(hs:es.size<=1)(he:es[Tw t.place sl]?=Zy)(q:∀g,Vb it s.heap g->Q Zy { s with heap:=g }):RJ (Rn prog w) A (pyNext (.ref it)) Q E s:=by
 refine vH hA h (λ{Q' E'} r=>?_) q;obtain⟨oi,d,hci,l⟩:=id h;unfold Builtin.«set_iterator.__next__» Wu;simp only[Tj,TW,Ri,↓reduceIte,bind_assoc,T2,bne_self_eq_false];refine R0 (R4 ?_);refine R0 (V3 d l ?_);refine R0 (TJ ha hd hf ?_);simp only[bne_self_eq_false,Ri,↓reduceIte];refine R0 ?_;unfold YZ;refine R0 (TK ha hd hf ?_);refine R0 (dA ?_);show RJ _ _ (if w.params.followText "set-order" = true then _ else _) _ _ _;rw[Yr (by rw[hb];decide)];split
 ·rename_i b
  have b:(!t.plain&&decide (es.size>1))=true:=b;simp at b;omega
 ·refine R0 ?_
  show RJ _ _ (if(!t.led&&!es.isEmpty)=true then _ else _) _ _ _;rw[Yr (by rw[f];simp)];refine R4 ?_;show RJ _ _ (pure (match es[Tw t.place sl]?,t.place[Tw t.place sl]? with
   |some (_,x),Zz j=>Zz (x,j+1)
   |_,_=>Zy)) _ _ _
  rw[he];refine R4 ?_;refine R0 (Tv d l (by simp) (j9 (by simp[hA]) λg e k he=>r g e (λc o n x=>?_) he));exact k c o ((Se ..).extBut c o n x)
end
end Mi
namespace PySem.F
theorem dh:Slot "set_iterator" "__iter__" "set_iterator.__iter__" :=
 .of (owner:="set_iterator") (n:="__iter__") (by rw[XE,Vs];kernel_rfl) (by decide +kernel) (by decide +kernel) (by decide +kernel)
  (by first|exact .inl (by decide +kernel)|exact .inr (by decide +kernel)) (by rw[XQ];kernel_rfl)
theorem fS:YK table "set_iterator.__iter__" = Zz Builtin.«dict_keyiterator.__iter__»:=entryFor_alias (id':="dict_keyiterator.__iter__") (by kernel_rfl) rfl (by decide +kernel) (by kernel_rfl)
theorem fJ(a:R3):argsOk "set_iterator.__iter__" ⟨[a],[]⟩:=by
 unfold argsOk;rw[signature?_of (n:=['_','_','r','e','t','i','_','_']) (by kernel_rfl) fQ];kernel_rfl
end PySem.F
namespace Mi
open PySem PySem.Spec PyProof.Rows L2
section
variable{prog:S9}{w:SY}{A:SV}{E:R3->R9->Prop}{s:R9}
theorem cP.at'(x:cP h it a f0 i n ep)(k:∀o,h.get? it=Zz o->h'.get? it=Zz o):cP h' it a f0 i n ep:=let⟨o,b,r⟩:=x;⟨o,k o b,r⟩
inductive lh (w:SY) (h:SA) (it a tp:RB) (vs:List R3) (i:Nat):Prop where
 |drawn {o:Obj}{es:Array (Int×R3)}{ep:Nat}{t:Ut}{pl:Array R3}:cP h it a (.ref tp) i es.size ep->h.get? a=Zz o->o.data=.set es ep t->t.fits es.size=true->h.IsTuple tp pl ->
  (∀(k:Nat) v,vs[k]?=Zz v->∃(pp:Nat) (e:Int×R3),pl[k]?=Zz (.int pp 0)/\es[pp]?=Zz e/\e.2=v)->pl.size=vs.length->lh w h it a tp vs i
 |text {o:Obj}{es:Array (Int×R3)}{ep:Nat}{t:Ut}:w.params.followText "set-order" = true->cP h it a (.int (0:Nat) 0) i es.size ep->h.get? a=Zz o->o.data=.set es ep t->t.fits es.size=true ->
  vs=(Va (w.params.setOrder a ep) es).toList.map (·.2)->lh w h it a tp vs i
 |few {o:Obj}{es:Array (Int×R3)}{ep:Nat}{t:Ut}{sl:Nat}:w.params.followText "set-order" = false->t.led=true->cP h it a (.int sl 0) i es.size ep->h.get? a=Zz o->o.data=.set es ep t->t.fits es.size=true->es.size<=1 ->
  vs=es.toList.map (·.2)->(i=0/\sl=0∨i=1/\es.size=1/\∃j,t.place=#[j]/\sl=j+1)->lh w h it a tp vs i
theorem lh.at'(x:lh w h it a tp vs i)(k:∀b∈[it,a,tp],∀o,h.get? b=Zz o->h'.get? b=Zz o):lh w h' it a tp vs i:=by
 cases x with
 |drawn g f e d c l j=>exact .drawn (g.at' (k it (by simp))) (k a (by simp) _ f) e d (let⟨o,ho,r⟩:=c;⟨o,k tp (by simp) o ho,r⟩) l j
 |text m g f e d c=>exact .text m (g.at' (k it (by simp))) (k a (by simp) _ f) e d c
 |few m hl g f e d c l j=>exact .few m hl (g.at' (k it (by simp))) (k a (by simp) _ f) e d c l j
theorem zV{t:Ut}(h:t.fits 1=true):∃j,t.place=#[j]:=by
 unfold SetTable.fits at h;simp only[RK,beq_iff_eq]at h;have a:=h.1;rcases b:t.place with⟨l⟩
 rw[b]at a
 match l,a with
 |[j],_=>exact⟨j,rfl⟩
theorem DZ{α:Type}{es:Array α}(h:es.size=1):∃e,es=#[e]:=by
 rcases es with⟨l⟩
 match l,h with
 |[e],_=>exact⟨e,rfl⟩
theorem zU(hA:A.handled=Zy):Walks prog w A it [it,a,tp] [it] vs.length (λi v=>vs[i]?=Zz v) (λi h=>lh w h it a tp vs i/\a≠it/\tp≠it) where
 sub:=λb hb=>by simp at hb;simp[hb]
 frame:=λ_ _ _ u hk=>⟨u.1.at' hk,u.2⟩
 item:=λi s Q E hi u hQ=>by
  obtain⟨u,na,nt⟩:=u;have hv:=R8 hi;cases u with
  |drawn c m f d p h6 h7 =>
   obtain⟨pp,e,q1,q2,q3⟩:=h6 i _ hv;refine wD c m f d p q1 q2 λh' r hs=>?_
   rw[q3];obtain⟨ot,hot,rt⟩:=p;exact hQ _ h' s.toks hv ⟨.drawn r (hs.extBut _ _ na m) f d ⟨ot,hs.extBut _ _ nt hot,rt⟩ h6 h7,na,nt⟩ λb o hb e=>hs.extBut b o (λh=>hb (by simp[h])) e
  |@text o y ep t h0 c m f d p =>
   have he:∃e,(Va (w.params.setOrder a ep) y)[i]?=Zz e/\e.2=vs[i]:=by
    have n:=hv;generalize hx:vs[i]=x at n ⊢;rw[p,Rj,RZ]at n;cases q:(Va (w.params.setOrder a ep) y)[i]? with
    |none=>rw[q]at n;cases n
    |some e=>rw[q]at n;exact⟨e,rfl,Sj n⟩
   obtain⟨e,he,hev⟩:=he;refine y3 h0 c m f d he λh' r hs=>?_
   rw[hev];exact hQ _ h' s.toks hv ⟨.text h0 r (hs.extBut _ _ na m) f d p,na,nt⟩ λb o hb e=>hs.extBut b o (λh=>hb (by simp[h])) e
  |@few o y ep t sl h0 hl c m f d p h6 h7 =>
   have hsz:vs.length=y.size:=by rw[h6,R1,RD]
   have e1:y.size=1:=by omega
   rcases h7 with⟨rfl,rfl⟩|⟨rfl,_⟩
   ·obtain⟨e,rfl⟩:=DZ e1
    obtain⟨j,hj⟩:=zV d;refine B8 h0 hl hj c m f d λh' r hs=>?_
    have hve:e.2=vs[0]:=by simp[h6]
    rw[hve];exact hQ _ h' s.toks hv ⟨.few h0 hl r (hs.extBut _ _ na m) f d p h6 (.inr ⟨rfl,rfl,j,hj,rfl⟩),na,nt⟩ λb o hb e=>hs.extBut b o (λh=>hb (by simp[h])) e
   ·omega
 done:=λs Q E u hQ=>by
  obtain⟨u,na,nt⟩:=u;have fin:∀g,Vb it s.heap g->Q Zy { s with heap:=g }:=λg k=>hQ g s.toks λb o hb e=>k b o (λh=>hb (by simp[h])) e
  cases u with
  |drawn c m f d p h6 h7=>exact yq hA c m f d p (by rw[<-h7];simp) fin
  |@text o y ep t h0 c m f d p=>exact BE hA h0 c m f d (by rw[p];simp) fin
  |@few o y ep t sl h0 hl c m f d p h6 h7 =>
   have hsz:vs.length=y.size:=by rw[h6,R1,RD]
   refine ER hA h0 hl c m f d p ?_ fin;rcases h7 with⟨h8,rfl⟩|⟨h8,h9,j,hj,rfl⟩
   ·have:y.size=0:=by omega
    simp[this]
   ·rw[hj,FO]
    simp[h9]
 self:=λi s Q E u h=>by
  have hT:s.TypeIs (.ref it) "set_iterator":=by
   cases u.1 with
   |drawn c=>exact c.typeIs
   |text _ c=>exact c.typeIs
   |few _ _ c=>exact c.typeIs
  refine wpAny_pyIter_slot hT PySem.F.dh (SW PySem.F.dh hT PySem.F.fS ?_ (PySem.F.fJ _));exact R4 ⟨_,rfl,"set_iterator",_,hT,PySem.F.av.lookup,h⟩
def oz(vs:List R3)(D:List Str):Prop:=(∀v∈vs,∃x t,v=.str x t)/\(vs.map strOf).Perm D
theorem o9(b:Ij prog w led o D es ep t){l:List (Int×R3)}(a:l.Perm es.toList):oz (l.map (·.2)) D:=by
 constructor
 ·intro v c
  obtain⟨e,g,rfl⟩:=RS.mp c;obtain⟨⟨k,f,_⟩,_⟩:=b.el e (a.mem_iff.mp g);obtain⟨u,d⟩:=WE f;exact⟨k,u,d⟩
 ·rw[Rq]
  exact(a.map (strOf ∘ λe:Int×R3=>e.2)).trans b.Fi
theorem range_list:∀l:List (Int×R3),(Rf l.length).filterMap (λp=>l[p]?)=l
 |[]=>rfl
 |x::l=>by
  rw[Rp,List.range_succ_eq_map,WF,List.filterMap_map];show x::(Rf l.length).filterMap (λp=>l[p]?)=_;rw[range_list l]
theorem wu(a:Array (Int×R3)):((Rf a.size).filterMap λp=>a[p]?)=a.toList:=by
 have:=range_list a.toList;rw[RD]at this;simpa only[RZ]using this
theorem r9{b:Array (Int×R3)}:∀{ys:List Nat},(∀p∈ys,p<b.size)->(ys.filterMap λp=>b[p]?)=ys.map λp=>b[p]?.getD (0,.none)
 |[],_=>rfl
 |p::ys,h=>by
  have a:=h p R6;rw[WF,RG,r9 λq c=>h q (R2 _ c)];simp[a]
theorem AT(hS:iA prog w (c8 w) s.heap a D)(h:∀(h':SA) d it n vs,lh w h' it a n vs 0->a≠it->n≠it->oz vs D->s.heap.objs.size<=it->(n=a∨s.heap.objs.size<=n)->n<h'.objs.size->it<h'.objs.size->(∀b o,s.heap.get? b=Zz o->h'.get? b=Zz o)->Q (.ref it) { s with heap:=h',drawn:=d }):
  RJ (Rn prog w) A (pyIter (.ref a)) Q E s:=by
 obtain⟨o,l,ep,t,ha,g⟩:=hS;have hT:s.TypeIs (.ref a) "set":=⟨o,ha,g.ex.1⟩
 have hal:=Rm ha;refine wpAny_pyIter_slot hT PySem.F.slot_set_iter (SW PySem.F.slot_set_iter hT PySem.F.jH ?_ (PySem.F.args_set_iter_1 _));unfold Builtin.«frozenset.__iter__» Builtin.Frozenset.slot0 Wu;simp only[Tj,TW,Ri,↓reduceIte,bind_assoc,T2,bne_self_eq_false];unfold Builtin.Frozenset.addrOf Builtin.Frozenset.sizeOf;refine R0 (R4 ?_)
 first
  |refine R0 (R0 (TJ ha g.data g.fits (R4 ?_)))
  |(refine R0 (R4 ?_);refine R0 (R0 (TJ ha g.data g.fits (R4 ?_))))
 refine R0 ?_;unfold setDrawn;refine R0 (TK ha g.data g.fits ?_);refine R0 (dA ?_);refine R4 ?_
 -- what is m at the end
 have m:∀(u:SA) (d:_) (first:R3),(∀b o,s.heap.get? b=Zz o->u.get? b=Zz o)->s.heap.objs.size<=u.objs.size->(∀h':SA,(∀b o,u.get? b=Zz o->h'.get? b=Zz o)->h'.objs.size=u.objs.size+1->cP h' u.objs.size a first 0 l.size ep->∃n vs,lh w h' u.objs.size a n vs 0/\n≠u.objs.size/\oz vs D/\(n=a∨s.heap.objs.size<=n)/\n<h'.objs.size) ->
   RJ (Rn prog w) A.in1 (do
    let e <-setEpoch a
    let r <-newFields "set_iterator" [first,rawInt 0,.ref a,rawInt l.size,rawInt e]
    ret r) (λfin s'=>∃v,fin=.done (.ret v)/\∃T' r,s'.TypeIs v T'/\X7 (.type T') "__next__" = pure (Zz r)/\Q v s') E { s with heap:=u,drawn:=d }:=λu d first k1 z1 mk=>by
  refine R0 (wpAny_setEpoch_of (k1 _ _ ha) g.data g.fits ?_);refine R0 (So (R4 ⟨_,rfl,"set_iterator",_,⟨_,RM _ rfl,rfl⟩,PySem.F.av.lookup,?_⟩));have hz:(u.push { cls:=.type "set_iterator",data:=.fields [first,rawInt 0,.ref a,rawInt l.size,rawInt ep].toArray }).objs.size=u.objs.size+1:=T3 ..;obtain⟨n,vs,q1,q2,q3,q4,q5⟩:=mk (u.push { cls:=.type "set_iterator",data:=.fields [first,rawInt 0,.ref a,rawInt l.size,rawInt ep].toArray }) (λb o e=>R7 _ e) hz ⟨_,RM _ rfl,rfl,rfl⟩;exact h _ d u.objs.size n vs q1 (Rr (TA hal z1)) q2 q3 z1 q4 q5 (by rw[hz];exact VB _) λb o e=>R7 _ (k1 b o e)
 cases hb:w.params.followText "set-order" with
 |true =>
  rw[Yr (by show ¬((!(w.params.followText "set-order")&&_)=true);rw[hb];simp)];refine R0 (R4 ?_);refine m s.heap s.drawn (rawInt 0) (λ_ _ e=>e) (RC _) λh' k hz r=>?_
  exact⟨a,_,.text hb r (k _ _ ha) g.data g.fits rfl,Rr hal,o9 g (picked _ _),.inl rfl,by rw[hz];exact SG hal⟩
 |false =>
  by_cases h2:l.size<=1
  ·rw[Yr (by
    show ¬((!(w.params.followText "set-order")&&(!t.plain&&decide (l.size>1)))=true);simp
    intros
    omega)]
   refine R0 (R4 ?_);refine m s.heap s.drawn (rawInt 0) (λ_ _ e=>e) (RC _) λh' k hz r=>?_
   exact⟨a,_,.few hb (by rw[g.led];simp[hb]) (r) (k _ _ ha) g.data g.fits h2 rfl (.inl ⟨rfl,rfl⟩),Rr hal,o9 g (.refl _),.inl rfl,by rw[hz];exact SG hal⟩
  ·have hpl:=g.plain (by omega)
   rw[Yq (by
    show(!(w.params.followText "set-order")&&(!t.plain&&decide (l.size>1)))=true;rw[hb,hpl];simp;omega)]
   refine R0 (mO l.size (Rf l.size) UR λys d hp=>?_);refine R0 (WM ?_ (by rw[R1,hp.length_eq,UR];exact Wb g.room));have hz1:(s.heap.push { cls:=.type "tuple",data:=.seq (ys.map λ(i:Nat)=>rawInt i).toArray }).objs.size=s.heap.objs.size+1:=T3 ..;refine m (s.heap.push { cls:=.type "tuple",data:=.seq (ys.map λ(i:Nat)=>rawInt i).toArray }) d (.ref s.heap.objs.size) (λb o e=>R7 _ e) (by omega) λh' k hz r=>?_
   have hys:∀p∈ys,p<l.size:=λp hm=>Su.mp (hp.mem_iff.mp hm)
   have hvs:(ys.filterMap λp=>l[p]?).Perm l.toList:=by
    rw[<-wu l];exact hp.filterMap _
   refine⟨s.heap.objs.size,(ys.filterMap λp=>l[p]?).map (·.2),.drawn r (k _ _ (R7 _ ha)) g.data g.fits ⟨_,k _ _ (RM _ rfl),rfl,_,rfl⟩ ?_ ?_,by rw[hz1];exact Rr (VB _),o9 g hvs,.inr (RC _),by rw[hz,hz1];exact SG (VB _)⟩
   ·have e:=r9 hys
    intro j v hv;rw[e,Rq,Rj]at hv;cases q:ys[j]? with
    |none=>rw[q]at hv;cases hv
    |some p =>
     rw[q]at hv;have hlt:=hys p (SS q);refine⟨p,l[p],?_,by simp[hlt],?_⟩
     ·simp[q,rawInt]
     ·have:=Sj hv
      simpa[hlt]using this
   ·rw[r9 hys]
    simp only[SE,R1]
theorem tL(hA:A.handled=Zy)(hS:iA prog w (c8 w) s.heap a D)(hz:D.length<=1000)(q:∀h' tk d vs,oz vs D->(∀b o,s.heap.get? b=Zz o->h'.get? b=Zz o)->s.toks<=tk->s.heap.objs.size<h'.objs.size->Q vs { s with heap:=h',toks:=tk,drawn:=d }):RJ (Rn prog w) A (collect (.ref a)) Q E s:=by
 obtain⟨o,es,ep,t,ha,hE⟩:=id hS;have hal:=Rm ha;have hsz:D.length<=Ru:=by rw[TB];omega
 unfold collect;refine R0 (wpAny_runValue (TQ PySem.F.entry_proto_collect ?_));rw[Sw PySem.F.plain_proto_collect _];refine R0 (So ?_);refine R4 ⟨UY PySem.F.plain_list_iadd _,TQ PySem.F.entry_list_iadd ?_⟩;rw[Sw PySem.F.plain_list_iadd _];have hS₁:iA prog w (c8 w) (s.heap.push { cls:=.type "list",data:=.seq ([]:List R3).toArray }) a D:=hS.at' λo e=>R7 _ e
 have hL₁:(s.heap.push { cls:=.type "list",data:=.seq ([]:List R3).toArray }).get? s.heap.objs.size=Zz { cls:=.type "list",data:=.seq ([]:List R3).toArray }:=RM _ rfl;have ha₁:(s.heap.push { cls:=.type "list",data:=.seq ([]:List R3).toArray }).get? a=Zz o:=R7 _ ha;have hne:=X6 hal;have h1:Builtin.List.listSameRef (.ref s.heap.objs.size) (.ref a)=false:=by simp[Builtin.List.listSameRef,hne]
 show RJ _ A.in1 (Builtin.List.listExtendWith (.ref s.heap.objs.size) (.ref a) (.ref s.heap.objs.size)) _ _ _;unfold Builtin.List.listExtendWith;have hT:W4 { s with heap:=s.heap.push { cls:=.type "list",data:=.seq ([]:List R3).toArray } } (.ref a) "set":=⟨o,ha₁,hE.ex.1⟩
 refine R0 (Vm hT ?_);rw[Yr (by rw[h1];decide)];refine R0 (AT hS₁ λh' d it tp vs st na nt tx l1 l2 l3 l4 k=>?_);have hT':W4 { s with heap:=h',drawn:=d } (.ref a) "set":=⟨o,k _ _ ha₁,hE.ex.1⟩
 refine R0 (SH ?_);unfold Builtin.List.listLengthHint;refine R0 (wpAny_specialOf hT' PySem.F.slot_set_len.lookup ?_);generalize hid:("set.__len__" : String)=id0
 wp_delta
 rw[show splitId id0=Zz ("set","__len__")from by subst hid;decide +kernel];subst hid;refine R0 (Wv (b:=true) hT' (by rw[XQ];kernel_rfl) ?_);refine R0 (Vm hT' ?_);refine R4 ?_;rw[Yq (by rfl)];refine R0 (TG ?_);have hL':=k _ _ hL₁;refine R0 ?_;unfold Builtin.List.listTouch;refine R0 (U6 hL' rfl ?_ (by simp) (by simp[TB]));have hL2:=VP hL' (λxs=>xs.push VW);refine U6 hL2 rfl ?_ (by simp[TB]) (by simp[TB]);have hL3:=VP hL2 (λxs=>xs.pop);have hse:((#[]:Array R3).push VW).pop=#[]:=by simp
 rw[hse]at hL3;have hSf:s.heap.objs.size∉[it,a,tp]:=by
  have z:(s.heap.push { cls:=.type "list",data:=.seq ([]:List R3).toArray }).objs.size=s.heap.objs.size+1:=T3 ..;have l1':=z▸l1;simp only[R5,RV,or_false,not_or];refine⟨Rr l1',hne,?_⟩;rcases l2 with rfl|l2
  ·exact hne
  ·have l2':=z▸l2
   exact Rr l2'
 have hot:∀b∈[it,a,tp],∀o,h'.get? b=Zz o->((h'.update s.heap.objs.size (Rh λxs=>xs.push VW)).update s.heap.objs.size (Rh λxs=>xs.pop)).get? b=Zz o:=λb hb o e=>by
  have nb:s.heap.objs.size≠b:=λz=>hSf (by rw[z];exact hb)
  rw[Tc _ _ nb,Tc _ _ nb];exact e
 have hvl:vs.length=D.length:=by rw[<-tx.2.length_eq,R1]
 refine R4 ⟨UY PySem.F.plain_extend_loop _,codeAny_extend_loopS ((zU (by simp[hA])).toS) (by omega) _ hSf _ vs.length 0 _ _ _ rfl (SI _) ⟨st.at' hot,na,nt⟩ hL3 (ItemsOf.nil _) λs' acc' c' hm hS' hacc=>?_⟩;refine R0 (wpAny_load hS' ?_);have hacc':acc'.toList=vs:=by
  obtain⟨h1,h2⟩:=hacc;refine Uy λj=>?_
  rw[RZ];cases qj:acc'[j]? with
  |some v=>rw[h2 j v qj]
  |none =>
   rw[Vt];have:=V4.mp qj;omega
 obtain⟨hh,g',d',tk',os'⟩:=s';have eg:g'=s.gens:=hm.gens;have ed:d'=d:=hm.drawn;have eo:os'=s.os:=hm.os;subst eg;subst ed;subst eo;refine R4 ?_;show Q acc'.toList _;rw[hacc'];refine q hh tk' d' vs tx (λb o e=>?_) hm.toks (Rm hS');have nb:s.heap.objs.size≠b:=X6 (Rm e);have nit:b≠it:=λz=>by
  have z1:(s.heap.push { cls:=.type "list",data:=.seq ([]:List R3).toArray }).objs.size=s.heap.objs.size+1:=T3 ..;have l1':s.heap.objs.size+1<=it:=z1▸l1;have:=Rm e;rw[z]at this;exact Yv (TA this (Nat.le_of_succ_le l1')) (SU _)
 refine hm.heap b o (by simp only[R5,RV,or_false,not_or];exact⟨λz=>nb z.symm,nit⟩) ?_;show((h'.update s.heap.objs.size (Rh λxs=>xs.push VW)).update s.heap.objs.size (Rh λxs=>xs.pop)).get? b=Zz o;rw[Tc _ _ nb,Tc _ _ nb];exact k b o (R7 _ e)
theorem v5(hA:A.handled=Zy)(hS:iA prog w (c8 w) s.heap a D)(hz:D.length<64)(q:∀h' tk d l out ss' e,Wc out ss'->ss'.Perm D->sortedS ss'=true->h'.get? l=Zz (seqObj "list" out.toArray e)->s.heap.objs.size<=l->(∀b o,s.heap.get? b=Zz o->h'.get? b=Zz o)->s.toks<=tk->Q (.ref l) { s with heap:=h',toks:=tk,drawn:=d }):
  RJ (Rn prog w) A (TE (.builtin "sorted") [.ref a]) Q E s:=by
 refine Calls.call_function_entry YA Xs Xt (args_sorted1 _) ?_
 unfold Builtin.«sorted»;refine R0 (R4 ?_);refine R0 (tL (by simp[hA]) hS (by omega) λh' tk d vs tx k ht hlt=>?_);have hvl:vs.length=D.length:=by rw[<-tx.2.length_eq,R1]
 refine R0 (W3 ?_ (by rw[TB];omega));have hoL:(h'.push (seqObj "list" vs.toArray 0)).get? h'.objs.size=Zz (seqObj "list" vs.toArray 0):=RM _ rfl;have hStr:=strsAre_map vs tx.1;refine R0 (SH (SW XN ⟨_,hoL,rfl⟩ XC (list_sort_treeK strKind_oneLt hoL hStr.keysOf (λv₁ v₂ rest e=>keyKind_strs (by rw[<-e];exact hStr)) (by omega) λst' a1 a2=>⟨_,rfl,?_⟩) (args_list_sort _)));obtain⟨ss',b1,b2,b3⟩:=sorted_out_str hStr a1 a2;obtain⟨e,he⟩:=sortedHeap_at hoL;refine R4 ⟨_,rfl,q _ tk d h'.objs.size ((arrOf st').map (·.2)).toList ss' e b1 (b2.trans tx.2) b3 he (T7 hlt) (λb o x=>?_) ht⟩;rw[sortedHeap_old (Rr (Rm (k b o x))) (by rw[X5];exact SG (Rm (k b o x)))];exact R7 _ (k b o x)
end
end Mi
namespace Mi
open PySem
inductive T where
 |non|bl (b:Bool)|int (i:Int)|str (cs:List Nat)
 |tup (ts:List T)|lst (ts:List T)
 |dct (ks:List L2.Key) (ts:List T)
 |du (ns:List Int)
 deriving Inhabited
inductive W where
 |t (x:T)|c (i:Nat)
 deriving Inhabited
noncomputable abbrev Mem:=List (Option (Bool×List T))
inductive Res (a:Type) where
 |ok (x:a) (m:Mem)|stuck
noncomputable def Res.bind{a b:Type}(r:Res a)(f:a->Mem->Res b):Res b:=match r with
 |.ok x m=>f x m
 |.stuck=>.stuck
noncomputable abbrev Env:=List (Option W)
inductive B where
 |len|int|tuple|list|all|any|min2|nH|cK|enum
 |bool|nj|dC|u9|qS|rh|q6|G4|uH
 deriving DecidableEq
inductive Mt where
 |append|dK|insert|index|extend
 deriving DecidableEq
inductive Ty where
 |int|bool|str|tuple|list|dict
 deriving DecidableEq
inductive Tg where
 |nm (i:Nat)|tp (is:List Nat)
 deriving DecidableEq
mutual
inductive E where
 |var (i:Nat)|gl (k:Nat)|con (x:T)
 |bin (op:YM) (a b:E)|neg (a:E)|not (a:E)
 |and (a b:E)|or (a b:E)
 |cmp (op:CmpOp) (a b:E)
 |tup (es:Es)|lst (es:Es)|oD (es:Es)|Gg (a:E)|GS (a b:E)
 |ix (a b:E)|FU (a lo hi:E)|hole
 |call (f:Nat) (es:Es)|blt (b:B) (es:Es)|n8 (b:Mt) (o:E) (es:Es)
 |HD (a:E) (ty:Ty)
 |comp (own:Nat) (keep:List Nat) (it:E) (tg:Tg) (cs:Es) (inner:E)
 |more (it:E) (tg:Tg) (cs:Es) (inner:E)
 |emit (a:E)|jI (a b:E)
 |tr (a:E)
 |pF (keep:List Nat) (a b:E)
 |HW (ks:List (List Nat)) (vs:Es)
inductive Es where
 |nil|cons (e:E) (es:Es)
end
noncomputable def aN:E->Bool
 |.hole=>true
 |_=>false
inductive S where
 |done
 |asg (i:Nat) (e:E) (k:S)
 |EG (is:List Nat) (e:E) (k:S)
 |De (is:List Nat) (e:E) (k:S)
 |set (o i v:E) (k:S)
 |cT (c:E) (a b k:S)
 |dJ (tg:Tg) (it:E) (body k:S)
 |FT (c:E) (body k:S)
 |ret (e:E) (k:S)
 |expr (e:E) (k:S)
 |C2
noncomputable def lim:Nat:=1000000
noncomputable def gx:List Nat->List Nat->Bool
 |[],[]=>false
 |[],_::_=>true
 |_::_,[]=>false
 |a::x,b::y=>if a<b then true else if b<a then false else gx x y
noncomputable def b2i(b:Bool):Int:=if b then 1 else 0
mutual
noncomputable def eqT:T->T->Bool
 |.non,.non=>true
 |.bl a,.bl b=>a==b
 |.bl a,.int b=>b2i a==b
 |.int a,.bl b=>a==b2i b
 |.int a,.int b=>a==b
 |.str a,.str b=>a==b
 |.tup a,.tup b=>nr a b
 |.lst a,.lst b=>nr a b
 |_,_=>false
noncomputable def nr:List T->List T->Bool
 |[],[]=>true
 |a::x,b::y=>eqT a b&&nr x y
 |_,_=>false
end
mutual
noncomputable def ak:Nat->T->Bool
 |_,.non=>true
 |_,.bl _=>true
 |_,.int _=>true
 |_,.str cs=>PyData.strOk ⟨cs.toArray⟩
 |n+1,.tup ts=>ay n ts
 |n+1,.lst ts=>ay n ts
 |_,_=>false
noncomputable def ay:Nat->List T->Bool
 |_,[]=>true
 |n,t::ts=>ak n t&&ay n ts
end
noncomputable def flat:T->Bool
 |.non|.bl _|.int _|.str _=>true
 |_=>false
mutual
noncomputable def ID:Nat->T->Bool
 |_,.non=>true
 |_,.bl _=>true
 |_,.int _=>true
 |_,.str _=>true
 |n+1,.tup ts=>A7 n ts
 |n+1,.lst ts=>A7 n ts
 |_,_=>false
noncomputable def A7:Nat->List T->Bool
 |_,[]=>true
 |n,t::ts=>ID n t&&A7 n ts
end
noncomputable def vt:T->Bool
 |.non=>false
 |.bl b=>b
 |.int i=>i != 0
 |.str cs=>!cs.isEmpty
 |.tup ts=>!ts.isEmpty
 |.lst ts=>!ts.isEmpty
 |.dct ks _=>!ks.isEmpty
 |.du ns=>!ns.isEmpty
noncomputable def fK(n:Nat)(i:Int):Option Nat:=if 0<=i then(if i<n then Zz i.toNat else Zy)else if -(n:Int)<=i then Zz (i+n).toNat else Zy
noncomputable def atT{a:Type}(xs:List a)(i:Int):Option a:=(fK xs.length i).bind λj=>xs[j]?
noncomputable def aM(n d:Nat):Option Int->Nat
 |none=>d
 |some i=>if i<0 then(i+n).toNat else min i.toNat n
noncomputable def cut{a:Type}(xs:List a)(lo hi:Option Int):List a:=
 (xs.drop (aM xs.length 0 lo)).take (aM xs.length xs.length hi-aM xs.length 0 lo)
noncomputable def fG{a:Type}(xs:List a)(k:Nat):List a:=(Rx k xs).flatten
noncomputable def u8:Nat:=(2^250)^8
noncomputable def small(i:Int):Bool:=decide (i.natAbs<2^64)
noncomputable def hY(i j:Int):Bool:=small i || small j || (decide (i.natAbs<u8)&&decide (j.natAbs<u8))
noncomputable def wF:T->T->Option T
 |.int i,.int j=>Zz (.int (i+j))
 |.str a,.str b=>if a.length+b.length<=lim then Zz (.str (a++b))else Zy
 |.tup a,.tup b=>if a.length+b.length<=lim then Zz (.tup (a++b))else Zy
 |.lst a,.lst b=>if a.length+b.length<=lim then Zz (.lst (a++b))else Zy
 |_,_=>Zy
noncomputable def Gs(x y:T):Option T:=match y with
 |.int k=>match x with
  |.int i=>if hY i k then Zz (.int (i*k))else Zy
  |.tup a=>if(-(lim:Int)<=k/\k<=lim)/\a.length*k.toNat<=lim then Zz (.tup (fG a k.toNat))else Zy
  |.lst a=>if(-(lim:Int)<=k/\k<=lim)/\a.length*k.toNat<=lim then Zz (.lst (fG a k.toNat))else Zy
  |.str a=>if(0<=k/\k<=64)/\a.length<=1000 then Zz (.str (fG a k.toNat))else Zy
  |_=>Zy
 |_=>Zy
noncomputable def zf(f:Int->Int->Option T)(x y:T):Option T:=match x with
 |.int i=>match y with
  |.int j=>f i j
  |_=>Zy
 |_=>Zy
noncomputable def lZ(op:YM)(x y:T):Option T:=
 match op with
 |.Add=>wF x y
 |.Sub=>zf (λi j=>Zz (.int (i-j))) x y
 |.Mult=>Gs x y
 |.FloorDiv=>zf (λi j=>if 0<j/\j<1073741824 then Zz (.int (i / j))else Zy) x y
 |.Mod=>zf (λi j=>if 0<j then Zz (.int (i%j))else Zy) x y
 |.Pow=>zf (λi j=>if 0<=j/\j<=1000/\i.natAbs<2^64 then Zz (.int (i^j.toNat))else Zy) x y
 |_=>Zy
noncomputable def oZ(x y:T):Bool:=match x,y with
 |.bl _,.int _=>false
 |.int _,.bl _=>false
 |x,y=>flat x&&flat y
noncomputable def uW(x:T)(y:T):Option Bool:=
 match y with
 |.tup ts=>if flat x&&ts.all flat then Zz (ts.any λt=>eqT t x)else if ak 59 x&&ay 59 ts then Zz (ts.any λt=>eqT t x)else Zy
 |.lst ts=>if flat x&&ts.all flat then Zz (ts.any λt=>eqT t x)else if ak 59 x&&ay 59 ts then Zz (ts.any λt=>eqT t x)else Zy
 |_=>Zy
noncomputable def Ft(f:Int->Int->Bool)(x y:T):Option Bool:=match x with
 |.int i=>match y with
  |.int j=>Zz (f i j)
  |_=>Zy
 |_=>Zy
noncomputable def Jt(x y:T):Option Bool:=match x with
 |.int i=>match y with
  |.int j=>Zz (decide (i<j))
  |_=>Zy
 |.str a=>match y with
  |.str b=>Zz (gx a b)
  |_=>Zy
 |_=>Zy
noncomputable def Jj(x y:T):Option Bool:=match x with
 |.int i=>match y with
  |.int j=>Zz (decide (i<=j))
  |_=>Zy
 |.str a=>match y with
  |.str b=>Zz (!gx b a)
  |_=>Zy
 |_=>Zy
noncomputable def G9(x y:T):Option Bool:=match x with
 |.str [a]=>match y with
  |.str b=>Zz (decide (a∈b))
  |y=>uW (.str [a]) y
 |.str (a::a'::r)=>match y with
  |.str b=>Zz (!(Vc ⟨b.toArray⟩ ⟨(a::a'::r).toArray⟩ 0 b.length 1).isEmpty)
  |y=>uW (.str (a::a'::r)) y
 |x=>uW x y
noncomputable def xB(x y:T):Option Bool:=match y with
 |.non=>Zz (match x with|.non=>true|_=>false)
 |.bl b=>Zz (match x with|.bl a=>a==b|_=>false)
 |_=>Zy
noncomputable def dr(op:CmpOp)(x y:T):Option Bool:=
 match op with
 |.Lt=>Jt x y
 |.LtE=>Jj x y
 |.Gt=>Ft (λi j=>decide (j<i)) x y
 |.GtE=>Ft (λi j=>decide (j<=i)) x y
 |.Eq=>if oZ x y || (ak 60 x&&ak 60 y)then Zz (eqT x y)else Zy
 |.NotEq=>if oZ x y || (ak 60 x&&ak 60 y)then Zz (!eqT x y)else Zy
 |.In=>G9 x y
 |.NotIn=>(G9 x y).map (!·)
 |.Is=>xB x y
 |.IsNot=>(xB x y).map (!·)
noncomputable def hV(x:T)(ty:Ty):Bool:=
 match x,ty with
 |.int _,.int=>true
 |.bl _,.int=>true
 |.bl _,.bool=>true
 |.str _,.str=>true
 |.tup _,.tuple=>true
 |.lst _,.list=>true
 |.du _,.list=>true
 |.dct _ _,.dict=>true
 |_,_=>false
noncomputable def yj(x i:T):Option T:=
 match x,i with
 |.tup ts,.int k=>atT ts k
 |.lst ts,.int k=>atT ts k
 |.du ns,.int k=>(atT ns k).map .int
 |.str cs,.int k=>if cs.length<=lim then(atT cs k).map λc=>.str [c]else Zy
 |_,_=>Zy
noncomputable def HI(x:T)(lo hi:Option Int):Option T:=
 match x with
 |.tup ts=>Zz (.tup (cut ts lo hi))
 |.lst ts=>Zz (.lst (cut ts lo hi))
 |.du ns=>Zz (.lst ((cut ns lo hi).map .int))
 |.str cs=>if cs.length<=lim then Zz (.str (cut cs lo hi))else Zy
 |_=>Zy
noncomputable def tX(x:List Nat):List (List Nat)->List (List Nat)
 |[]=>[x]
 |y::r=>if gx x y then x::y::r else if gx y x then y::tX x r else y::r
noncomputable def aW(xs:List (List Nat)):List (List Nat):=xs.foldr tX []
noncomputable def strs?: List T->Option (List (List Nat))
 |[]=>Zz []
 |.str c::r=>(strs? r).map (c::·)
 |_=>Zy
noncomputable def cn:List T->Option (List Int)
 |[]=>Zz []
 |.int c::r=>(cn r).map (c::·)
 |_=>Zy
noncomputable def eV:List T->Option (List Bool)
 |[]=>Zz []
 |.bl c::r=>(eV r).map (c::·)
 |_=>Zy
noncomputable def xd:T->Option (List Int)
 |.tup ts=>cn ts
 |_=>Zy
noncomputable def jN:List T->Option (List (List Int))
 |[]=>Zz []
 |t::r=>(xd t).bind λk=>(jN r).map (k::·)
noncomputable def aC:List Int->List Int->Bool
 |[],[]=>false
 |[],_::_=>true
 |_::_,[]=>false
 |x::xs,y::ys=>if x=y then aC xs ys else decide (x<y)
noncomputable def insI(x:List Int):List (List Int)->List (List Int)
 |[]=>[x]
 |y::r=>if aC y x then y::insI x r else x::y::r
noncomputable def sortI(xs:List (List Int)):List (List Int):=xs.foldr insI []
noncomputable def aw(k:List Int):T:=.tup (k.map .int)
noncomputable def l7(ts:List T):Option T:=(jN ts).bind λks=>if ks.Nodup/\ks.length<=900000/\(ks.all λk=>!k.isEmpty)=true then Zz (.lst ((sortI ks).map aw))else Zy
noncomputable def v7(ts:List T):Option T:=(cn ts).bind λns=>if ns.Nodup/\ns.length<=900000 then Zz (.lst ((sortI (ns.map λn=>[n])).map λk=>.int (k.headD 0)))else Zy
noncomputable def nu(x:List Int×T):List (List Int×T)->List (List Int×T)
 |[]=>[x]
 |y::r=>if aC y.1 x.1 then y::nu x r else x::y::r
noncomputable def iM(xs:List (List Int×T)):List (List Int×T):=xs.foldr nu []
noncomputable def gG(ks:List (List Int))(ts:List T):Option T:=if ks.Nodup/\ks.length<=900000 then Zz (.lst ((iM (ks.zip ts)).map (·.2)))else Zy
noncomputable def Iz(i:Int):List Nat:=(Vk (toString i)).cps.toList
noncomputable def rangeT(lo:Int)(n:Nat):List T:=(Rf n).map λk:Nat=>.int (lo+(k:Int))
noncomputable def Ir:T->Option (List Nat)
 |.str cs=>Zz cs
 |.int i=>if i.natAbs<2^250 then Zz (Iz i)else Zy
 |_=>Zy
noncomputable def Cs:T->Option (List T)
 |.tup ts=>Zz ts
 |.lst ts=>Zz ts
 |.du ns=>Zz (ns.map .int)
 |.str cs=>if cs.length<=lim then Zz (cs.map λc=>.str [c])else Zy
 |_=>Zy
noncomputable def view(w:W)(m:Mem):Option T:=match w with
 |.t x=>Zz x
 |.c i=>match m[i]? with
  |some (Zz (_,ts))=>Zz (.lst ts)
  |_=>Zy
noncomputable def eO(o:Option T)(m:Mem):Res W:=match o with
 |some t=>.ok (.t t) m
 |none=>.stuck
noncomputable def Fy(w:W)(m:Mem):Res T:=match w with
 |.t x=>.ok x m
 |.c i=>match m[i]? with
  |some (Zz (false,ts))=>.ok (.lst ts) (m.set i Zy)
  |_=>.stuck
noncomputable def ig:List W->Mem->Res (List T)
 |[],m=>.ok [] m
 |w::ws,m=>(Fy w m).bind λt m=>(ig ws m).bind λts m=>.ok (t::ts) m
noncomputable def views:List W->Mem->Option (List T)
 |[],_=>Zz []
 |w::ws,m=>(view w m).bind λt=>(views ws m).map (t::·)
noncomputable def aU(w:W)(m:Mem):Res (List T):=match w with
 |.t x=>match Cs x with
  |some ts=>.ok ts m
  |none=>.stuck
 |.c i=>match m[i]? with
  |some (Zz (_,ts))=>.ok ts (m.set i (Zz (true,ts)))
  |_=>.stuck
noncomputable def giveBack(w:W)(m0 m:Mem):Mem:=match w with
 |.t _=>m
 |.c i=>match m0[i]? with
  |some c=>m.set i c
  |none=>m
noncomputable def bB(tg:Tg)(t:T)(env:Env):Option Env:=match tg with
 |.nm i=>Zz (env.set i (Zz (.t t)))
 |.tp is=>match t with
  |.tup ts=>if ts.length=is.length then Zz ((is.zip ts).foldl (λenv p=>env.set p.1 (Zz (.t p.2))) env)else Zy
  |_=>Zy
noncomputable def ie(f:T->Option T):List T->Option T
 |[x]=>f x
 |_=>Zy
noncomputable def Gb(f:Int->Int->Option T):List T->Option T
 |[.int i,.int j]=>f i j
 |_=>Zy
noncomputable def IW:T->Option T
 |.str cs=>if cs.length<=lim then Zz (.int cs.length)else Zy
 |.tup ts=>Zz (.int ts.length)
 |.lst ts=>Zz (.int ts.length)
 |.du ns=>Zz (.int ns.length)
 |_=>Zy
noncomputable def Hr(cs:List Nat):Int:=((cs.foldl (λn c=>n*10+(c-48)) 0:Nat):Int)
noncomputable def IS:T->Option T
 |.int i=>Zz (.int i)
 |.bl b=>Zz (.int (b2i b))
 |.str cs=>if cs≠[]/\cs.length<=600/\cs.all (λc=>decide (48<=c)&&decide (c<=57))=true then Zz (.int (Hr cs))else Zy
 |_=>Zy
noncomputable def IB:T->Option T
 |.tup ts=>Zz (.tup ts)
 |.lst ts=>Zz (.tup ts)
 |.str cs=>if cs.length<=lim then Zz (.tup (cs.map λc=>.str [c]))else Zy
 |_=>Zy
noncomputable def IJ:T->Option T
 |.tup ts=>Zz (.lst ts)
 |.lst ts=>Zz (.lst ts)
 |_=>Zy
noncomputable def oU(f:List T->Option T):T->Option T
 |.lst ts=>f ts
 |_=>Zy
noncomputable def IL:T->Option T
 |.int i=>if i<2^62/\-(2^62)<=i then Zz (.lst (rangeT 0 i.toNat))else Zy
 |_=>Zy
noncomputable def Dg(xs ys:List T):List T:=List.zipWith (λx y=>.tup [x,y]) xs ys
noncomputable def hH(xs:List T):List T:=List.zipWith (λ(k:Nat) x=>T.tup [.int (k:Int),x]) (Rf xs.length) xs
noncomputable def xh(ts:List T):Option T:=(strs? ts).bind λxs=>if xs.length<64 then Zz (.int ((aW xs).length:Int))else Zy
noncomputable def pU(n:Int)(ns:List Int):Int:=ns.foldl (λa b=>if b<a then b else a) n
noncomputable def wW(ts:List T):Option T:=(cn ts).bind λns=>match ns with
 |[]=>Zy
 |n::r=>if r.length<64 then Zz (.int (pU n r))else Zy
noncomputable def yM:T->Option L2.Key
 |.int i=>Zz (.inl i)
 |.str cs=>Zz (.inr ⟨cs.toArray⟩)
 |_=>Zy
noncomputable def de:List T->Option (List (Int×T))
 |[]=>Zz []
 |.tup [.int k,v]::ts=>(de ts).map ((k,v)::·)
 |_=>Zy
noncomputable def FR:T->Option T
 |.lst ts=>(de ts).bind λps=>if ts.length<=lim/\(ps.map (·.1)).Nodup then Zz (.dct (ps.map λp=>.inl p.1) (ps.map (·.2)))else Zy
 |_=>Zy
noncomputable def iC(ks:List L2.Key)(ts:List T)(k:L2.Key):Option T:=((ks.zip ts).find? λp=>decide (p.1=k)).map (·.2)
noncomputable def BL:List T->Option T
 |[.dct ks vs,x]=>(yM x).bind (iC ks vs)
 |_=>Zy
noncomputable def Fq(f:List T->Option T):T->Option T
 |.lst ts=>f ts
 |.tup ts=>f ts
 |_=>Zy
noncomputable def jO:List T->Option (List L2.Key×List T)
 |[]=>Zz ([],[])
 |k::v::r=>(yM k).bind λkk=>(jO r).map λp=>(kk::p.1,v::p.2)
 |_=>Zy
noncomputable def pB(ts:List T):Option T:=(jO ts).bind λp=>if p.1.Nodup/\p.1.length<=1000 then Zz (.dct p.1 p.2)else Zy
noncomputable def AP:List T->Option T
 |[.lst xs,.lst ys]=>(cn xs).bind λns=>(cn ys).map λms=>.bl (aC ns ms)
 |_=>Zy
noncomputable def cM(b:B)(ts:List T):Option T:=
 match b with
 |.len=>ie IW ts
 |.int=>ie IS ts
 |.tuple=>ie IB ts
 |.list=>ie IJ ts
 |.all=>ie (Fq λts=>(eV ts).map λbs=>.bl (bs.all id)) ts
 |.any=>ie (Fq λts=>(eV ts).map λbs=>.bl (bs.any id)) ts
 |.nH=>ie (oU λts=>(strs? ts).bind λxs=>if xs.length<64 then Zz (.lst ((aW xs).map .str))else Zy) ts
 |.min2=>Gb (λi j=>Zz (.int (if j<i then j else i))) ts
 |.cK=>ie IL ts
 |.enum=>ie (oU λts=>if ts.length<=lim then Zz (.lst (hH ts))else Zy) ts
 |.dC=>ie (oU xh) ts
 |.u9=>ie (oU wW) ts
 |.qS=>ie (oU l7) ts
 |.G4=>AP ts
 |.uH=>ie FR ts
 |.q6=>ie (oU pB) ts
 |.rh=>ie (oU v7) ts
 |.nj=>BL ts
 |_=>Zy
noncomputable def IC(xs:List T):T->Option T
 |.int i=>(cn xs).bind λns=>if ns.length<=lim then(ns.findIdx? (·==i)).map λk=>.int (k:Int)else Zy
 |_=>Zy
noncomputable def y6(b:Mt)(o:T)(ts:List T):Option T:=
 match b with
 |.index=>match o with
  |.lst xs=>ie (IC xs) ts
  |_=>Zy
 |_=>Zy
noncomputable def ki(b:Mt)(xs:List T)(ts:List T):Option (T×List T):=
 match b,ts with
 |.append,[t]=>if xs.length<lim then Zz (.non,xs++[t])else Zy
 |.extend,[.lst ys]=>if xs.length+ys.length<=lim then Zz (.non,xs++ys)else Zy
 |.insert,[.int i,t]=>if 0<=i/\i<=xs.length/\xs.length<lim then Zz (.non,xs.take i.toNat++t::xs.drop i.toNat)else Zy
 |.dK,[.int i]=>match fK xs.length i with
  |some k=>(xs[k]?).map λt=>(t,xs.eraseIdx k)
  |none=>Zy
 |_,_=>Zy
noncomputable def ya(b:Mt)(o:W)(ws:List W)(m:Mem):Res W:=match b with
 |.append|.dK|.insert|.extend=>match o with
  |.c i=>(ig ws m).bind λts m=>match m[i]? with
   |some (Zz (false,xs))=>match ki b xs ts with
    |some (t,ys)=>.ok (.t t) (m.set i (Zz (false,ys)))
    |none=>.stuck
   |_=>.stuck
  |.t _=>.stuck
 |_=>eO ((view o m).bind λx=>(views ws m).bind λts=>y6 b x ts) m
noncomputable def F4(x y:W)(m:Mem):Res W:=match(view x m).bind λx=>(view y m).bind λy=>wF x y with
 |some (.lst ts)=>.ok (.c m.length) (m++[Zz (false,ts)])
 |_=>.stuck
noncomputable def setM(o i v:W)(m:Mem):Res Unit:=match o,i with
 |.c c,.t (.int k)=>(Fy v m).bind λt m=>match m[c]? with
  |some (Zz (false,xs))=>match fK xs.length k with
   |some j=>.ok () (m.set c (Zz (false,xs.set j t)))
   |none=>.stuck
  |_=>.stuck
 |_,_=>.stuck
noncomputable def zh(w:W)(m:Mem):Res (Option Int):=match w with
 |.t (.int i)=>.ok (Zz i) m
 |_=>.stuck
noncomputable def Ad(b:Mt)(w:W)(m:Mem):Bool:=match b with
 |.append|.dK|.insert|.extend=>match w with
  |.c i=>match m[i]? with
   |some (Zz _)=>true
   |_=>false
  |_=>false
 |.index=>match view w m with
  |some (.lst _)=>true
  |_=>false
noncomputable def b7(f:Env->Mem->Res (List T))(tg:Tg):List T->Env->Mem->Res (List T)
 |[],_,m=>.ok [] m
 |t::ts,env,m=>match bB tg t env with
  |none=>.stuck
  |some env'=>(f env' m).bind λxs m=>(b7 f tg ts env m).bind λys m=>.ok (xs++ys) m
noncomputable def yF(w:W):Option (List Int):=match w with
 |.t (.lst us)=>cn us
 |_=>Zy
noncomputable def dP(f:Env->Mem->Res W)(kept:Env):List T->Mem->Res (List (List Int))
 |[],m=>.ok [] m
 |t::ts,m=>(f (Zz (.t t)::kept) m).bind λw m=>match yF w with
  |some k=>(dP f kept ts m).bind λks m=>.ok (k::ks) m
  |none=>.stuck
inductive Flow where
 |next (env:Env)|ret (w:W)
noncomputable def aJ(f:Env->Mem->Res Flow)(tg:Tg):List T->Env->Mem->Res Flow
 |[],env,m=>.ok (.next env) m
 |t::ts,env,m=>match bB tg t env with
  |none=>.stuck
  |some env=>(f env m).bind λfl m=>match fl with
   |.next env=>aJ f tg ts env m
   |.ret w=>.ok (.ret w) m
noncomputable def iG(c:Env->Mem->Res Bool)(f:Env->Mem->Res Flow):Nat->Env->Mem->Res Flow
 |0,_,_=>.stuck
 |n+1,env,m=>(c env m).bind λb m=>if b then(f env m).bind λfl m=>match fl with
   |.next env=>iG c f n env m
   |.ret w=>.ok (.ret w) m
  else .ok (.next env) m
noncomputable def turns:Nat:=1000000
noncomputable def sE:T->Bool
 |.str cs=>decide (cs.length<=lim)
 |_=>true
noncomputable def b8(w:W)(m:Mem):Res Bool:=match view w m with
 |some t=>if sE t then .ok (vt t) m else .stuck
 |none=>.stuck
noncomputable def ph(w:W)(m:Mem):Res Bool:=match w with
 |.t (.bl b)=>.ok b m
 |_=>.stuck
noncomputable def mK(w:W)(m:Mem):Res (List T):=match w with
 |.t (.lst ts)=>.ok ts m
 |_=>.stuck
noncomputable def IU(acc:List Nat)(w:W)(m:Mem):Res (List Nat):=match(view w m).bind Ir with
 |some a=>if acc.length+a.length<=lim then .ok (acc++a) m else .stuck
 |none=>.stuck
noncomputable def Hq(w:W)(m:Mem):Res W:=match w with
 |.t x=>.ok (.t x) m
 |.c _=>.stuck
section
variable(call:Nat->List W->Mem->Res W) (gv:List T)
mutual
noncomputable def ev:E->Env->Mem->Res W
 |.var i,env,m=>match env[i]? with
  |some (Zz w)=>.ok w m
  |_=>.stuck
 |.gl k,_,m=>eO gv[k]? m
 |.con t,_,m=>.ok (.t t) m
 |.bin op a b,env,m=>(ev a env m).bind λx m=>(ev b env m).bind λy m=>eO ((view x m).bind λx=>(view y m).bind λy=>lZ op x y) m
 |.neg a,env,m=>(ev a env m).bind λx m=>eO ((view x m).bind λx=>match x with
  |.int i=>Zz (.int (-i))
  |_=>Zy) m
 |.not a,env,m=>(ev a env m).bind λx m=>(ph x m).bind λk m=>.ok (.t (.bl (!k))) m
 |.and a b,env,m=>(ev a env m).bind λx m=>(ph x m).bind λk m=>if k then ev b env m else .ok (.t (.bl false)) m
 |.or a b,env,m=>(ev a env m).bind λx m=>(ph x m).bind λk m=>if k then .ok (.t (.bl true)) m else ev b env m
 |.cmp op a b,env,m=>(ev a env m).bind λx m=>(ev b env m).bind λy m=>eO (((view x m).bind λx=>(view y m).bind λy=>dr op x y).map .bl) m
 |.tup es,env,m=>(evs es env m).bind λws m=>(ig ws m).bind λts m=>if ts.length<=lim then .ok (.t (.tup ts)) m else .stuck
 |.lst es,env,m=>(evs es env m).bind λws m=>(ig ws m).bind λts m=>if ts.length<=lim then .ok (.t (.lst ts)) m else .stuck
 |.oD es,env,m=>(evs es env m).bind λws m=>(ig ws m).bind λts m=>if ts.length<=lim then .ok (.c m.length) (m++[Zz (false,ts)])else .stuck
 |.Gg a,env,m=>(ev a env m).bind λx m=>match view x m with
  |some (.lst ts)=>.ok (.c m.length) (m++[Zz (false,ts)])
  |some (.tup ts)=>.ok (.c m.length) (m++[Zz (false,ts)])
  |_=>.stuck
 |.GS a b,env,m=>(ev a env m).bind λx m=>(ev b env m).bind λy m=>F4 x y m
 |.ix a b,env,m=>(ev a env m).bind λx m=>(ev b env m).bind λy m=>eO ((view x m).bind λx=>(view y m).bind λy=>yj x y) m
 |.FU a lo hi,env,m=>(ev a env m).bind λx m=>(if aN lo then Res.ok Zy m else(ev lo env m).bind zh).bind λl m =>
   (if aN hi then Res.ok Zy m else(ev hi env m).bind zh).bind λh m=>eO ((view x m).bind λx=>HI x l h) m
 |.hole,_,m=>.ok (.t .non) m
 |.call f es,env,m=>(evs es env m).bind λws m=>call f ws m
 |.blt b es,env,m=>(evs es env m).bind λws m=>eO ((views ws m).bind λts=>cM b ts) m
 |.n8 b o es,env,m=>(ev o env m).bind λx m=>if Ad b x m then(evs es env m).bind λws m=>ya b x ws m else .stuck
 |.HD a ty,env,m=>(ev a env m).bind λx m=>eO ((view x m).map λx=>.bl (hV x ty)) m
 |.comp own keep it tg cs inner,env,m=>(ev it env m).bind λx m0=>(aU x m0).bind λts m =>
   (b7 (λenv m=>(tests cs env m).bind λk m=>if k then(ev inner env m).bind mK else .ok [] m) tg ts (Rx own Zy++keep.map λi=>(env[i]?).join) m).bind λout m =>
    if out.length<=lim then .ok (.t (.lst out)) (giveBack x m0 m)else .stuck
 |.more it tg cs inner,env,m=>(ev it env m).bind λx m0=>(aU x m0).bind λts m =>
   (b7 (λenv m=>(tests cs env m).bind λk m=>if k then(ev inner env m).bind mK else .ok [] m) tg ts env m).bind λout m=>.ok (.t (.lst out)) (giveBack x m0 m)
 |.emit a,env,m=>(ev a env m).bind λx m=>(Fy x m).bind λt m=>.ok (.t (.lst [t])) m
 |.jI a b,env,m=>(ev a env m).bind λx m=>(ev b env m).bind λy m=>match x with
  |.t t=>if(yM t).isSome then(Fy y m).bind λu m=>.ok (.t (.lst [t,u])) m else .stuck
  |_=>.stuck
 |.tr a,env,m=>(ev a env m).bind Hq
 |.pF keep a b,env,m=>(ev a env m).bind λx m=>match view x m with
  |some (.lst ts)=>(dP (λenv m=>ev b env m) (keep.map λi=>(env[i]?).join) ts m).bind λks m=>eO (gG ks ts) m
  |_=>.stuck
 |.HW ks vs,env,m=>(evs vs env m).bind λws m=>(ig ws m).bind λts m=>if ks.length=ts.length/\ks.length<=1000/\ks.Nodup then .ok (.t (.dct (ks.map λk=>.inr ⟨k.toArray⟩) ts)) m else .stuck
noncomputable def evs:Es->Env->Mem->Res (List W)
 |.nil,_,m=>.ok [] m
 |.cons e es,env,m=>(ev e env m).bind λw m=>(evs es env m).bind λws m=>.ok (w::ws) m
noncomputable def Ji:Es->List Nat->Env->Mem->Res (List Nat)
 |.nil,acc,_,m=>.ok acc m
 |.cons e es,acc,env,m=>(ev e env m).bind λw m=>(IU acc w m).bind λacc m=>Ji es acc env m
noncomputable def tests:Es->Env->Mem->Res Bool
 |.nil,_,m=>.ok true m
 |.cons e es,env,m=>(ev e env m).bind λx m=>(b8 x m).bind λk m=>if k then tests es env m else .ok false m
end
noncomputable def ex:S->Env->Mem->Res Flow
 |.done,env,m=>.ok (.next env) m
 |.asg i e k,env,m=>(ev call gv e env m).bind λw m=>ex k (env.set i (Zz w)) m
 |.EG is e k,env,m=>(ev call gv e env m).bind λw m=>match w with
  |.t t=>match bB (.tp is) t env with
   |some env=>ex k env m
   |none=>.stuck
  |.c _=>.stuck
 |.De is e k,env,m=>(ev call gv e env m).bind λw m=>match w with
  |.t (.lst ts)=>match bB (.tp is) (.tup ts) env with
   |some env=>ex k env m
   |none=>.stuck
  |_=>.stuck
 |.set o i v k,env,m=>(ev call gv v env m).bind λz m=>(ev call gv o env m).bind λx m=>(ev call gv i env m).bind λy m =>
   (setM x y z m).bind λ_ m=>ex k env m
 |.cT c a b k,env,m=>(ev call gv c env m).bind λx m=>(b8 x m).bind λt m =>
   (if t then ex a env m else ex b env m).bind λfl m=>match fl with
    |.next env=>ex k env m
    |fl=>.ok fl m
 |.dJ tg it body k,env,m=>(ev call gv it env m).bind λx m0=>(aU x m0).bind λts m =>
   (aJ (λenv m=>ex body env m) tg ts env m).bind λfl m=>match fl with
    |.next env=>ex k env (giveBack x m0 m)
    |.ret w=>.ok (.ret w) (giveBack x m0 m)
 |.FT c body k,env,m=>(iG (λenv m=>(ev call gv c env m).bind b8) (λenv m=>ex body env m) turns env m).bind λfl m=>match fl with
    |.next env=>ex k env m
    |fl=>.ok fl m
 |.ret e _,env,m=>(ev call gv e env m).bind λw m=>.ok (.ret w) m
 |.expr e k,env,m=>(ev call gv e env m).bind λ_ m=>ex k env m
 |.C2,_,_=>.stuck
end
structure Fn where
 ps:Nat
 n:Nat
 body:S
 cell:Bool:=false
noncomputable def fin(n:Nat)(cell:Bool)(fl:Flow)(m:Mem):Res W:=match fl with
 |.ret (.t t)=>.ok (.t t) (m.take n)
 |.ret (.c i)=>if i<n then .ok (.c i) (m.take n)else match m[i]? with
  |some (Zz (false,ts))=>if cell then .ok (.c n) (m.take n++[Zz (false,ts)])else .ok (.t (.lst ts)) (m.take n)
  |_=>.stuck
 |.next _=>.ok (.t .non) (m.take n)
noncomputable def c6(fns:List Fn)(gv:List T):Nat->Nat->List W->Mem->Res W
 |0,_,_,_=>.stuck
 |n+1,f,ws,m=>match fns[f]? with
  |none=>.stuck
  |some d=>if ws.length=d.ps then(ex (c6 fns gv n) gv d.body (ws.map Zz++Rx (d.n-d.ps) Zy) m).bind λfl m'=>fin m.length d.cell fl m' else .stuck
end Mi
end
namespace Mi
open PySem PySem.Spec PyProof.Rows
def mG(k:String)(h:SA)(a:RB)(x:Array R3):Prop:=∃o n,h.get? a=Zz o/\o.cls=.type k/\o.data=.seq x n/\o.dict=Zy/\x.size<=Ru
def dX(fs:List RB)(h:SA)(a:RB)(x:Array R3):Prop:=(∃n,h.get? a=Zz { cls:=.type "list",data:=.seq x n })/\a∉fs/\x.size<=Ru
def aF(cm:List RB)(m:Mem)(a:RB):Prop:=∀(i:Nat) p,m[i]?=Zz (Zz p)->cm[i]?≠Zz a
def Al{α β:Type}(R:α->β->Prop)(l:List α)(x:List β):Prop:=l.length=x.length/\∀(i:Nat) t v,l[i]?=Zz t->x[i]?=Zz v->R t v
structure Dm where
 P:S9
 w:SY
 fs:List RB
def Ht(D:Dm)(h:SA)(a:RB)(k:List (L2.Key×R3)):Prop:=k.length<=Ru/\(a==sysModules)=false/\h.DictOf (L2.bx D.P D.w) a k/\a∉D.fs
inductive RT (D:Dm) (cm:List RB) (m:Mem) (h:SA):T->R3->Prop where
 |non:RT D cm m h .non .none
 |bl (b:Bool):RT D cm m h (.bl b) (.bool b)
 |int (i:Int) (t:Tok):RT D cm m h (.int i) (.int i t)
 |str (x:List Nat) (t:Tok):RT D cm m h (.str x) (.str ⟨x.toArray⟩ t)
 |tup {a:RB}{x:Array R3}{l:List T}:mG "tuple" h a x->a∉D.fs->l.length=x.toList.length->(∀(i:Nat) t v,l[i]?=Zz t->x.toList[i]?=Zz v->RT D cm m h t v)->RT D cm m h (.tup l) (.ref a)
 |lst {a:RB}{x:Array R3}{l:List T}:dX D.fs h a x->aF cm m a->l.length=x.toList.length->(∀(i:Nat) t v,l[i]?=Zz t->x.toList[i]?=Zz v->RT D cm m h t v)->RT D cm m h (.lst l) (.ref a)
 |dct {a:RB}{k:List L2.Key}{x:List R3}{l:List T}:Ht D h a (k.zip x)->aF cm m a->k.length=x.length->l.length=x.length->(∀(i:Nat) t v,l[i]?=Zz t->x[i]?=Zz v->RT D cm m h t v)->RT D cm m h (.dct k l) (.ref a)
 |du {a:RB}{x:Array R3}(l:List Int):mG "list" h a x->aF cm m a->a∉D.fs->Al (λn v=>∃t,v=.int n t) l x.toList->RT D cm m h (.du l) (.ref a)
noncomputable abbrev eS(D:Dm)(cm:List RB)(m:Mem)(h:SA):=Al (RT D cm m h)
def RW(D:Dm)(cm:List RB)(m:Mem)(h:SA):W->R3->Prop
 |.t x,v=>RT D cm m h x v
 |.c i,v=>∃a,cm[i]?=Zz a/\v=.ref a
noncomputable abbrev tz(D:Dm)(cm:List RB)(m:Mem)(h:SA):=Al (RW D cm m h)
structure Mod (K:V5) (mg:Str->Option R3) (base:SA):Prop where
 sR:K.In base
 glob:base.Ns Rz mg
 blt:∃f,base.Ns VX f/\∀x:Str,x≠"__name__"->f x=VC x
 nolimit:base.NoLimit
 bm:∃b o,mg "__builtins__" = Zz (.ref b)/\b≠VX/\base.get? b=Zz o/\o.cls=.type "module"/\o.dict=Zz VX/\o.data=.plain
structure Bs where
 prog:S9
 w:SY
 K:V5
 mg:Str->Option R3
 base:SA
 tb:List RB
 Tab:SA->Prop
structure Cx extends Bs where
 A:SV
 N:List Str
 env:Td
 stack:List Td
 fs:List RB
 fn:Str->Bool
 calm:Bool
noncomputable def frs(l:List Td):List RB:=l.filterMap (·.frame)
noncomputable abbrev Cx.gs(X:Cx):List RB:=frs X.stack
noncomputable abbrev Cx.D(X:Cx):Dm:=⟨X.prog,X.w,X.fs⟩
noncomputable abbrev Cx.M(X:Cx):Yo:=Rn X.prog X.w
structure be (X:Cx) (cm:List RB) (m:Mem) (h:SA):Prop where
 len:cm.length=m.length
 inj:∀(i j:Nat) a p q,m[i]?=Zz (Zz p)->m[j]?=Zz (Zz q)->cm[i]?=Zz a->cm[j]?=Zz a->i=j
 at':∀(i:Nat) p,m[i]?=Zz (Zz p)->∃a x,cm[i]?=Zz a/\dX X.fs h a x/\X.base.get? a=Zy/\eS X.D cm m h p.2 x.toList
 tab:X.Tab h
structure ExtK (fs gs ch:List RB) (cm:List RB) (m:Mem) (s:R9) (cm':List RB) (m':Mem) (s':R9):Prop where
 os:s'.os=s.os
 bare:XW s.gens->XW s'.gens
 pre:∀(i:Nat) a,cm[i]?=Zz a->cm'[i]?=Zz a
 len:m.length<=m'.length
 keep:∀b o,s.heap.get? b=Zz o->b∉ch->aF cm m b->aF cm' m' b/\∃o',s'.heap.get? b=Zz o'/\(o'=o∨b∈fs/\(∀x n,o.data≠.seq x n)/\b∈gs/\∃sl,o'={ o with slots:=sl })
def Kd(o o':Obj):Prop:=((∀v,o.data≠.fields v)->∀v,o'.data≠.fields v)/\((∀x n,o.data≠.seq x n)->∀x n,o'.data≠.seq x n)
def Kc(o:Obj):Prop:=∃v x t,o.data=.fields v/\v[1]?=Zz (.str x t)
theorem Kc.f{o:Obj}:Kc o->∃v,o.data=.fields v:=λ⟨v,_,_,d,_⟩=>⟨v,d⟩
theorem Kd.r{o:Obj}:Kd o o:=⟨id,id⟩
structure bd (fs gs ch:List RB) (cm:List RB) (m:Mem) (s:R9) (cm':List RB) (m':Mem) (s':R9):Prop extends ExtK fs gs ch cm m s cm' m' s' where
 lent:∀(i:Nat) l,m[i]?=Zz (Zz (true,l))->m'[i]?=Zz (Zz (true,l))
 thr:∀b o,s.heap.get? b=Zz o->∃o',s'.heap.get? b=Zz o'/\Kd o o'
noncomputable instance {fs gs ch cm cm':List RB}{m m':Mem}{s s':R9}:CoeOut (bd fs gs ch cm m s cm' m' s') (ExtK fs gs ch cm m s cm' m' s'):=⟨bd.toExtK⟩
inductive G2 (fs:List RB) (b:RB) (o:Obj):Prop where
 |seq (x n) (_:o.data=.seq x n) (_:b∉fs)
 |dict (x n) (_:o.data=.dict x n) (_:b∉fs)
 |ref (C v) (_:o.cls=.ref C) (_:o.data=.fields v)
 |trace (v) (_:o.cls=.type "traceback") (_:o.data=.fields v)
def Nq(fs ch:List RB)(h:SA):Prop:=∀b∈ch,∀o,h.get? b=Zz o->¬G2 fs b o
def Nr(fs ch:List RB)(h:SA):Prop:=∀b∈ch,∀o,h.get? b=Zz o->G2 fs b o->∃v,o.data=.fields v
theorem Nq.r{fs ch:List RB}{h:SA}(N:Nq fs ch h):Nr fs ch h:=λb z o e f=>Yv f (N b z o e)
def Nc(base:SA)(ch:List RB)(h:SA):Prop:=∀b∈ch,base.get? b=Zy/\∀o,h.get? b=Zz o->(∃vs,o.data=.fields vs)/\(∀C,o.cls≠.ref C)/\o.cls≠.type "traceback"
section
variable{X:Cx}{D:Dm}{fs gs ch:List RB}{cm cm' cm'':List RB}{m m' m'':Mem}{s s' s'':R9}{h h':SA}{a b e:RB}{o:Obj}{i:Nat}
theorem Al.cons{α β:Type}{R:α->β->Prop}{t:α}{v:β}{l:List α}{x:List β}(r:R t v)(q:Al R l x):Al R (t::l) (v::x):=⟨congrArg (·+1) q.1,λi u w a b=>by
 cases i with
 |zero=>cases a;cases b;exact r
 |succ i=>exact q.2 i u w a b⟩
theorem Al.nil{α β:Type}{R:α->β->Prop}:Al R [] []:=⟨rfl,λ_ _ _ a=>by simp at a⟩
theorem Al.inv{α β:Type}{R:α->β->Prop}{t:α}{l:List α}{x:List β}(q:Al R (t::l) x):∃v y,x=v::y/\R t v/\Al R l y:=by
 cases x with
 |nil=>cases q.1
 |cons v y=>exact⟨v,y,rfl,q.2 0 _ _ rfl rfl,Xx q.1,λi a b c d=>q.2 (i+1) a b c d⟩
theorem Al.mp{α β:Type}{R S:α->β->Prop}{l:List α}{x:List β}(q:Al R l x)(f:∀a b,R a b->S a b):Al S l x:=⟨q.1,λi a b c d=>f _ _ (q.2 i a b c d)⟩
theorem Al.get{α β:Type}{R:α->β->Prop}{l:List α}{x:List β}{i:Nat}{t:α}(q:Al R l x)(h:l[i]?=Zz t):∃v,x[i]?=Zz v/\R t v:=by
 have k:=(RA.mp h).1;have e:x[i]?=Zz (x[i]'(q.1▸k)):=R8 _;exact⟨_,e,q.2 i _ _ h e⟩
theorem yg(M:be X cm m h)(e:h.get? a=Zz o)(n:o.cls≠.type "list"):aF cm m a:=λi p q z=>by
 obtain⟨b,x,h1,⟨⟨_,h2⟩,_⟩,_⟩:=M.at' i p q;rw[h1]at z;cases z;rw[e]at h2;cases h2;exact n rfl
theorem ExtK.sq(x:ExtK fs gs ch cm m s cm' m' s')(e:s.heap.get? a=Zz o)(hc:a∉ch)(n:aF cm m a):aF cm' m' a/\∃o',s'.heap.get? a=Zz o'/\o'.cls=o.cls/\o'.data=o.data/\o'.dict=o.dict:=by
 obtain⟨n',o',e',q⟩:=x.keep a o e hc n;refine⟨n',o',e',?_⟩;rcases q with rfl|⟨_,_,_,sl,rfl⟩<;>exact⟨rfl,rfl,rfl⟩
theorem Nc.q{base:SA}(N:Nc base ch h):Nq fs ch h:=λb z o e f=>by
 obtain⟨⟨v,d⟩,c,t⟩:=(N b z).2 o e;cases f with
 |seq x n q _=>rw[d]at q;cases q
 |dict x n q=>rw[d]at q;cases q
 |ref C _ q=>exact c C q
 |trace _ q=>exact t q
theorem Nq.nil:Nq fs [] h:=λ_ z=>nomatch z
theorem Nq.no(N:Nq fs ch h)(e:h.get? a=Zz o)(d:G2 fs a o):a∉ch:=λz=>N a z o e d
theorem Nr.no(N:Nr fs ch h)(e:h.get? a=Zz o)(d:G2 fs a o)(n:∀v,o.data≠.fields v):a∉ch:=λz=>(N a z o e d).elim n
theorem mG.C5{k:String}{y:Array R3}(x:ExtK fs gs ch cm m s cm' m' s')(N:Nr fs ch s.heap)(p:mG k s.heap a y)(n:aF cm m a)(f:a∉fs):mG k s'.heap a y/\aF cm' m' a:=by
 obtain⟨o,q,e,c,d,r,z⟩:=p;obtain⟨n',o',e',c',d',r'⟩:=x.sq e (N.no e (.seq _ _ d f) λv z=>(by rw[d]at z;cases z)) n;exact⟨⟨o',q,e',c'.trans c,d'.trans d,r'.trans r,z⟩,n'⟩
theorem mG.go{k:String}{y:Array R3}(x:ExtK fs gs ch cm m s cm' m' s')(N:Nq fs ch s.heap)(p:mG k s.heap a y)(n:aF cm m a)(f:a∉fs):mG k s'.heap a y/\aF cm' m' a:=p.C5 x N.r n f
theorem dX.C5{y:Array R3}(x:ExtK fs gs ch cm m s cm' m' s')(N:Nr fs ch s.heap)(p:dX fs s.heap a y)(n:aF cm m a):dX fs s'.heap a y/\aF cm' m' a:=by
 obtain⟨⟨q,e⟩,f,z⟩:=p;obtain⟨n',o',e',r⟩:=x.keep _ _ e (N.no e (.seq _ _ rfl f) λv z=>(by cases z)) n;rcases r with rfl|⟨g,_⟩
 ·exact⟨⟨⟨q,e'⟩,f,z⟩,n'⟩
 ·exact Yv g f
theorem dX.go{y:Array R3}(x:ExtK fs gs ch cm m s cm' m' s')(N:Nq fs ch s.heap)(p:dX fs s.heap a y)(n:aF cm m a):dX fs s'.heap a y/\aF cm' m' a:=p.C5 x N.r n
theorem mG.nl{y:Array R3}(M:be X cm m h)(p:mG "tuple" h a y):aF cm m a:=let⟨_,_,e,c,_⟩:=p;yg M e (by rw[c];decide)
theorem RT.C5(x:ExtK D.fs X.gs ch cm m s cm' m' s')(M:be X cm m s.heap)(N:Nr D.fs ch s.heap){t:T}{v:R3}(r:RT D cm m s.heap t v):RT D cm' m' s'.heap t v:=by
 induction r with
 |non=>exact .non
 |bl b=>exact .bl b
 |int i t=>exact .int i t
 |str i t=>exact .str i t
 |tup p f l _ ih=>exact .tup (p.C5 x N (p.nl M) f).1 f l ih
 |lst p n l _ ih=>exact .lst (p.C5 x N n).1 (p.C5 x N n).2 l ih
 |du ns p n f l=>exact .du ns (p.C5 x N n f).1 (p.C5 x N n f).2 f l
 |dct p n l1 l2 _ ih =>
  obtain⟨z,y,⟨o,es,ep,e,c,d,q⟩,f⟩:=p;obtain⟨n',o',e',r⟩:=x.keep _ o e (N.no e (.dict _ _ d f) λv z=>(by rw[d]at z;cases z)) n;rcases r with rfl|⟨g,_⟩
  ·exact .dct ⟨z,y,⟨_,es,ep,e',c,d,q⟩,f⟩ n' l1 l2 ih
  ·exact Yv g f
theorem RT.go(x:ExtK D.fs X.gs ch cm m s cm' m' s')(M:be X cm m s.heap)(N:Nq D.fs ch s.heap){t:T}{v:R3}(r:RT D cm m s.heap t v):RT D cm' m' s'.heap t v:=r.C5 x M N.r
theorem bd.of(t:∀b o,s.heap.get? b=Zz o->∃o',s'.heap.get? b=Zz o'/\Kd o o')(l:∀(i:Nat) l,m[i]?=Zz (Zz (true,l))->m'[i]?=Zz (Zz (true,l)))(k:ExtK fs gs ch cm m s cm' m' s'):bd fs gs ch cm m s cm' m' s':=⟨k,l,t⟩
theorem bd.refl:bd fs gs ch cm m s cm m s:=.of (λ_ o e=>⟨o,e,.r⟩) (λ_ _ h=>h) ⟨rfl,id,λ_ _ h=>h,RC _,λ_ o e _ n=>⟨n,o,e,.inl rfl⟩⟩
theorem ExtK.trans(x:ExtK fs gs ch cm m s cm' m' s')(y:ExtK fs gs ch cm' m' s' cm'' m'' s''):ExtK fs gs ch cm m s cm'' m'' s'':=
 ⟨y.os.trans x.os,λh=>y.bare (x.bare h),λi a h=>y.pre i a (x.pre i a h),Ro x.len y.len,λb o e c n=>by
  obtain⟨n1,o1,e1,q1⟩:=x.keep b o e c n;obtain⟨n2,o2,e2,q2⟩:=y.keep b o1 e1 c n1;refine⟨n2,o2,e2,?_⟩;rcases q1 with rfl|⟨hf,hn,hg,sl,rfl⟩
  ·exact q2
  ·rcases q2 with rfl|⟨_,_,_,sl',rfl⟩
   ·exact .inr ⟨hf,hn,hg,sl,rfl⟩
   ·exact .inr ⟨hf,hn,hg,sl',rfl⟩⟩
theorem bd.trans(x:bd fs gs ch cm m s cm' m' s')(y:bd fs gs ch cm' m' s' cm'' m'' s''):bd fs gs ch cm m s cm'' m'' s'':=.of (λb o e=>(x.thr b o e).elim λo' ⟨e,k⟩=>(y.thr b o' e).elim λo2 ⟨e,q⟩=>⟨o2,e,q.1 ∘ k.1,q.2 ∘ k.2⟩) (λi l h=>y.lent i l (x.lent i l h)) (x.toExtK.trans y.toExtK)
theorem bd.weak{ch':List RB}(x:bd fs gs ch cm m s cm' m' s')(w:∀b∈ch,b∉ch'->s.heap.get? b=Zy):bd fs gs ch' cm m s cm' m' s':=
 .of x.thr x.lent ⟨x.os,x.bare,x.pre,x.len,λb o e c n=>x.keep b o e (λz=>by rw[w b z c]at e;cases e) n⟩
theorem bd.heap{g:SA}{t:Nat}{d:Yp}(k:∀b o,b∉ch->s.heap.get? b=Zz o->g.get? b=Zz o)(q:∀b∈ch,∀o,s.heap.get? b=Zz o->∃o',g.get? b=Zz o'/\Kd o o'):bd fs gs ch cm m s cm m { s with heap:=g,toks:=t,drawn:=d }:=
 .of (λb o e=>(Classical.em (b∈ch)).elim (λz=>q b z o e) λz=>⟨o,k b o z e,.r⟩) (λ_ _ h=>h) ⟨rfl,id,λ_ _ h=>h,RC _,λb o e c n=>⟨n,o,k b o c e,.inl rfl⟩⟩
theorem bd.kept{g:SA}{t:Nat}{d:Yp}(k:∀b o,s.heap.get? b=Zz o->g.get? b=Zz o):bd fs gs ch cm m s cm m { s with heap:=g,toks:=t,drawn:=d }:=.heap (λb o _=>k b o) λb _ o e=>⟨o,k b o e,.r⟩
theorem be.go(M:be X cm m s.heap)(N:Nq X.fs ch s.heap)(x:ExtK X.fs X.gs ch cm m s cm m s')(k:∀b o,b∉ch->s.heap.get? b=Zz o->s'.heap.get? b=Zz o)(q:X.Tab s'.heap):be X cm m s'.heap:=⟨M.len,M.inj,λi p e=>by
 obtain⟨a,y,h1,⟨⟨n,h2⟩,h3⟩,h5,h6⟩:=M.at' i p e;exact⟨a,y,h1,⟨⟨n,k _ _ (N.no h2 (.seq _ _ rfl h3.1)) h2⟩,h3⟩,h5,h6.mp λ_ _ r=>r.go x M N⟩,q⟩
theorem be.HR{q:Option (Bool×List T)}{p:Bool×List T}(M:be X cm m s.heap)(hp:m[i]?=Zz (Zz p))(ha:cm[i]?=Zz a)(ho:∀b o,b≠a->s.heap.get? b=Zz o->s'.heap.get? b=Zz o)(os:s'.os=s.os)(gs:s'.gens=s.gens)(hq:∀b l,q=Zz (b,l)->∃y,dX X.fs s'.heap a y/\eS X.D cm m s.heap l y.toList)(ht:X.Tab s'.heap):ExtK X.fs X.gs ch cm m s cm (m.set i q) s'/\be X cm (m.set i q) s'.heap:=by
 have hi:=(RA.mp hp).1;have live:∀{j:Nat}{r:Bool×List T},(m.set i q)[j]?=Zz (Zz r)->∃r',m[j]?=Zz (Zz r'):=λ{j r} e=>by
  by_cases hj:j=i
  ·exact⟨p,hj▸hp⟩
  ·rw[Rs (VQ hj)]at e;exact⟨r,e⟩
 have ex:∀ch,ExtK X.fs X.gs ch cm m s cm (m.set i q) s':=λch=>⟨os,λh=>by rw[gs];exact h,λ_ _ h=>h,by simp,λb o e _ n=>⟨λj r e'=>(live e').elim λr' z=>n j r' z,o,ho b o (λz=>n i p hp (z▸ha)) e,.inl rfl⟩⟩
 have nc:Nq X.fs [] s.heap:=Nq.nil;refine⟨ex ch,by rw[U1];exact M.len,λj k b r t e1 e2=>?_,λj r e=>?_,ht⟩
 ·obtain⟨r',e1⟩:=live e1
  obtain⟨t',e2⟩:=live e2;exact M.inj j k b r' t' e1 e2
 ·by_cases hj:j=i
  ·subst hj
   rw[S6 hi]at e;cases e;obtain⟨y,h1,h2⟩:=hq r.1 r.2 rfl;obtain⟨b,x,h3,h4,h5,h6⟩:=M.at' j p hp;rw[ha]at h3;cases h3;exact⟨a,y,ha,h1,h5,h2.mp λ_ _ z=>z.go (ex []) M nc⟩
  ·rw[Rs (VQ hj)]at e
   obtain⟨b,y,h1,⟨⟨n,h2⟩,h3⟩,h5,h6⟩:=M.at' j r e;have hb:b≠a:=λz=>hj (M.inj j i a r p e hp (z▸h1) ha)
   exact⟨b,y,h1,⟨⟨n,ho b _ hb h2⟩,h3⟩,h5,h6.mp λ_ _ z=>z.go (ex []) M nc⟩
theorem be.upd{q:Option (Bool×List T)}{p:Bool×List T}(M:be X cm m s.heap)(hp:m[i]?=Zz (Zz p))(ha:cm[i]?=Zz a)(ho:∀b o,b≠a->s.heap.get? b=Zz o->s'.heap.get? b=Zz o)(os:s'.os=s.os)(gs:s'.gens=s.gens)(hq:∀b l,q=Zz (b,l)->∃y,dX X.fs s'.heap a y/\eS X.D cm m s.heap l y.toList)(he:q=Zy->s'.heap=s.heap)(ht:X.Tab s'.heap)(hl:p.1=true->∃l,q=Zz (true,l)/\l=p.2):bd X.fs X.gs ch cm m s cm (m.set i q) s'/\be X cm (m.set i q) s'.heap:=by
 obtain⟨x,M'⟩:=M.HR (ch:=ch) hp ha ho os gs hq ht;refine⟨.of (λb o e=>?_) (λj l e=>?_) x,M'⟩
 ·by_cases hb:b=a
  ·subst hb
   cases q with
   |none=>rw[he rfl];exact⟨o,e,.r⟩
   |some r =>
    obtain⟨y,⟨⟨_,z⟩,_⟩,_⟩:=hq r.1 r.2 rfl;obtain⟨c,_,h1,⟨⟨_,h2⟩,_⟩,_⟩:=M.at' i p hp;rw[ha]at h1;cases h1;rw[e]at h2;cases h2;exact⟨_,z,(λ_ v z=>nomatch z),λn=>Yv rfl (n _ _)⟩
  ·exact⟨o,ho b o hb e,.r⟩
 ·by_cases hj:j=i
  ·subst hj;rw[hp]at e;cases e
   obtain⟨l',rfl,rfl⟩:=hl rfl;exact S6 (RA.mp hp).1
  ·rw[Rs (VQ hj)];exact e
theorem be.new{l:List T}{y:Array R3}(M:be X cm m s.heap)(k:∀b o,s.heap.get? b=Zz o->s'.heap.get? b=Zz o)(os:s'.os=s.os)(gs:s'.gens=s.gens)(n:s.heap.get? a=Zy)(nb:X.base.get? a=Zy)(p:dX X.fs s'.heap a y)(r:eS X.D cm m s.heap l y.toList)(ht:X.Tab s'.heap):
  bd X.fs X.gs ch cm m s (cm++[a]) (m++[Zz (false,l)]) s'/\be X (cm++[a]) (m++[Zz (false,l)]) s'.heap/\(cm++[a])[m.length]?=Zz a:=by
 have ml:=M.len;have top:(cm++[a])[m.length]?=Zz a:=by rw[<-ml];simp
 have old:∀{j:Nat}{q:Bool×List T},(m++[Zz (false,l)])[j]?=Zz (Zz q)->(m[j]?=Zz (Zz q)/\(cm++[a])[j]?=cm[j]?)∨j=m.length/\q=(false,l):=λ{j q} e=>by
  rcases Nat.lt_trichotomy j m.length with h|h|h
  ·rw[S7 h]at e
   exact .inl ⟨e,S7 (by omega)⟩
  ·subst h;simp at e;exact .inr ⟨rfl,e.symm⟩
  ·rw[Vt (by simp;omega)]at e;cases e
 have ex:∀ch,bd X.fs X.gs ch cm m s (cm++[a]) (m++[Zz (false,l)]) s':=λch=>by
  refine .of (λb o e=>⟨o,k b o e,.r⟩) (λi q e=>?_) ⟨os,λh=>by rw[gs];exact h,λi b e=>?_,by simp,λb o e _ h=>⟨λj q z=>?_,o,k b o e,.inl rfl⟩⟩
  ·rw[S7 (RA.mp e).1];exact e
  ·rw[S7 (RA.mp e).1];exact e
  ·rcases old z with⟨z,c⟩|⟨rfl,_⟩
   ·rw[c];exact h j q z
   ·rw[top];intro z;cases z;rw[n]at e;cases e
 have nc:Nq X.fs [] s.heap:=Nq.nil;have nl:∀(j:Nat) q,m[j]?=Zz (Zz q)->cm[j]?≠Zz a:=λj q e z=>by
  obtain⟨b,x,h1,⟨⟨_,h2⟩,_⟩,_⟩:=M.at' j q e;rw[z]at h1;cases h1;rw[n]at h2;cases h2
 refine⟨ex ch,⟨by simp[ml],λi j b q t e1 e2 c1 c2=>?_,λi q e=>?_,ht⟩,top⟩
 ·rcases old e1 with⟨e1,c⟩|⟨rfl,_⟩<;>rcases old e2 with⟨e2,d⟩|⟨rfl,_⟩
  ·exact M.inj i j b q t e1 e2 (c▸c1) (d▸c2)
  ·rw[top]at c2;cases c2;exact Yv (c▸c1) (nl i q e1)
  ·rw[top]at c1;cases c1;exact Yv (d▸c2) (nl j t e2)
  ·rfl
 ·rcases old e with⟨e,c⟩|⟨rfl,rfl⟩
  ·obtain⟨b,x,h1,⟨⟨n',h2⟩,h3⟩,h4,h5⟩:=M.at' i q e
   exact⟨b,x,c.trans h1,⟨⟨n',k _ _ h2⟩,h3⟩,h4,h5.mp λ_ _ z=>z.go (ex []).toExtK M nc⟩
  ·exact⟨a,y,top,p,nb,r.mp λ_ _ z=>z.go (ex []).toExtK M nc⟩
end
def Ip(c:Uk)(x:Str):Prop:=c.names.lookup x=Zz .local∨c.names.lookup x=Zz .cell∨c.names.lookup x=Zz .free
def Loc(X:Cx)(x:Str):Prop:=X.env.scope.names.lookup x=Zz .local∨(X.env.scope.names.lookup x=Zz .cell/\X.fn x=true)
def Look(e:Td)(h:SA)(f:Str->Option R3)(x:Str)(u:R3):Prop:=
 (e.kindOf x=Zz .local/\f x=Zz u)∨((e.kindOf x=Zz .cell∨e.kindOf x=Zz .free)/\∃c,e.cells.lookup x=Zz c/\h.IsCell c (Zz u))
structure Cx.Ok (X:Cx):Prop where
 mod:Mod X.K X.mg X.base
 kind:X.env.scope.kind=.function
 glob:X.env.globals=Rz
 blt:X.env.builtins=VX
 inj:∀x y c,X.env.cells.lookup x=Zz c->X.env.cells.lookup y=Zz c->x=y
 has:∀x,(X.env.kindOf x=Zz .cell∨X.env.kindOf x=Zz .free)->∃c,X.env.cells.lookup x=Zz c
 hd:X.calm=true->X.A.handled=Zy
 frames:X.A.frames=Zz X.stack
 C2:∀e∈X.stack,e.scope.kind≠.module/\∃L∈X.fs,e.frame=Zz L
 fr:X.env.locals∈X.fs
 cb:∀x c,X.env.cells.lookup x=Zz c->X.base.get? c=Zy
 tab:∀h,X.Tab h->Nc X.base X.tb h
 jG:∀h h',X.Tab h->(∀b o,b∈X.tb∨Kc o->h.get? b=Zz o->h'.get? b=Zz o)->X.Tab h'
 qm:∀h,X.Tab h->∀b∈X.tb,∃o,h.get? b=Zz o
def NF(X:Cx)(b:RB)(o:Obj):Prop:=(∀v,o.data≠.fields v)/\(b∈frs X.stack->∀x n,o.data≠.seq x n)
structure Fr (X:Cx) (env:Mi.Env) (cm:List RB) (m:Mem) (s:R9):Prop where
 ok:X.Ok
 mem:be X cm m s.heap
 bare:XW s.gens
 bs:∀b o,X.base.get? b=Zz o->s.heap.get? b=Zz o
 loc:∃f,s.heap.Ns X.env.locals f/\∀(i:Nat) x w,X.N[i]?=Zz x->env[i]?=Zz (Zz w)->Ip X.env.scope x->∃u,RW X.D cm m s.heap w u/\Look X.env s.heap f x u
 cell:∀x c,X.env.cells.lookup x=Zz c->∃v,s.heap.IsCell c v
 cO:∀b∈X.fs,X.base.get? b=Zy/\∃o,s.heap.get? b=Zz o/\NF X b o
 len:env.length=X.N.length
noncomputable def Cx.oc(X:Cx):List RB:=(X.env.cells.map (·.1)).filterMap λx=>if X.fn x then X.env.cells.lookup x else Zy
noncomputable abbrev Cx.own(X:Cx):List RB:=X.env.locals::(X.tb++X.oc)
theorem mf{X:Cx}{b:RB}:b∈X.oc↔∃x,X.fn x=true/\X.env.cells.lookup x=Zz b:=by
 unfold Cx.oc;rw[UC];refine⟨λ⟨x,_,h⟩=>?_,λ⟨x,h1,h2⟩=>⟨x,RS.mpr ⟨_,T6 h2,rfl⟩,by rw[Yq h1];exact h2⟩⟩;obtain⟨h1,h2⟩:=RE.mp h;exact⟨x,h1,h2⟩
section
variable{X Y:Cx}{P:S9}{w:SY}{f f' gs:List RB}{cm:List RB}{m:Mem}{h h':SA}{t:T}{v:R3}{u:W}{l:List T}{y:List R3}{a:RB}
theorem dX.fr{x:Array R3}(n:∀b∈f',b∈f∨h.get? b=Zy)(k:∀b o,h.get? b=Zz o->h'.get? b=Zz o)(p:dX f h a x):dX f' h' a x:=by
 obtain⟨⟨c,e⟩,q,z⟩:=p;exact⟨⟨c,k _ _ e⟩,λb=>(n a b).elim q λb=>(by rw[b]at e;cases e),z⟩
theorem mG.fr{x:Array R3}{c:String}(k:∀b o,h.get? b=Zz o->h'.get? b=Zz o)(p:mG c h a x):mG c h' a x:=let⟨o,n,e,r⟩:=p;⟨o,n,k _ _ e,r⟩
theorem RT.gen{cm':List RB}{m':Mem}(nl:∀a,aF cm m a->aF cm' m' a)(n:∀b∈f',b∈f∨h.get? b=Zy)(k:∀b o,h.get? b=Zz o->h'.get? b=Zz o)(r:RT ⟨P,w,f⟩ cm m h t v):RT ⟨P,w,f'⟩ cm' m' h' t v:=by
 induction r with
 |non=>exact .non
 |bl b=>exact .bl b
 |int i t=>exact .int i t
 |str i t=>exact .str i t
 |tup p f l _ ih=>exact .tup (p.fr k) (λb=>(n _ b).elim f λb=>(let⟨_,_,e,_⟩:=p;by rw[b]at e;cases e)) l ih
 |lst p c l _ ih=>exact .lst (p.fr n k) (nl _ c) l ih
 |du ns p c f l=>exact .du ns (p.fr k) (nl _ c) (λb=>(n _ b).elim f λb=>(let⟨_,_,e,_⟩:=p;by rw[b]at e;cases e)) l
 |dct p c l1 l2 _ ih =>
  obtain⟨z,y,⟨o,es,ep,e,r⟩,q⟩:=p;exact .dct ⟨z,y,⟨o,es,ep,k _ _ e,r⟩,λb=>(n _ b).elim q λb=>(by rw[b]at e;cases e)⟩ (nl _ c) l1 l2 ih
theorem RT.fr(n:∀b∈f',b∈f∨h.get? b=Zy)(k:∀b o,h.get? b=Zz o->h'.get? b=Zz o)(r:RT ⟨P,w,f⟩ cm m h t v):RT ⟨P,w,f'⟩ cm m h' t v:=r.gen (λ_ h=>h) n k
theorem RW.fr(n:∀b∈f',b∈f∨h.get? b=Zy)(k:∀b o,h.get? b=Zz o->h'.get? b=Zz o)(r:RW ⟨P,w,f⟩ cm m h u v):RW ⟨P,w,f'⟩ cm m h' u v:=by
 cases u with
 |t t=>exact RT.fr n k r
 |c i=>exact r
theorem be.fr(T:Y.toBs=X.toBs)(n:∀b∈Y.fs,b∈X.fs∨h.get? b=Zy)(k:∀b o,h.get? b=Zz o->h'.get? b=Zz o)(q:X.Tab h->X.Tab h')(M:be X cm m h):be Y cm m h':=by
 obtain⟨B,A,N,env,stack,fs,fn,calm⟩:=Y;cases T;exact⟨M.len,M.inj,λi p e=>by
  obtain⟨a,x,h1,h2,h3,h4⟩:=M.at' i p e;exact⟨a,x,h1,h2.fr n k,h3,h4.mp λ_ _ r=>r.fr n k⟩,q M.tab⟩
theorem bd.fr{fs fs' gs' ch:List RB}{cm':List RB}{m':Mem}{s s':R9}(n:∀b∈fs',b∈fs∨s.heap.get? b=Zy)(x:bd fs' gs' ch cm m s cm' m' s')(g:∀b∈gs',b∈gs∨s.heap.get? b=Zy:=by exact λ_ h=>.inl h):bd fs gs ch cm m s cm' m' s':=
 .of x.thr x.lent ⟨x.os,x.bare,x.pre,x.len,λb o e c nl=>by
  obtain⟨n',o',e',r⟩:=x.keep b o e c nl;exact⟨n',o',e',r.imp id λ⟨z,k,q,r⟩=>⟨(n b z).elim id λz=>(by rw[z]at e;cases e),k,(g b q).elim id λz=>(by rw[z]at e;cases e),r⟩⟩⟩
end
section
variable{h':SA}{X:Cx}{D:Dm}{env:Mi.Env}{cm cm':List RB}{m m':Mem}{s s':R9}{w:W}{v:R3}{l:List T}{x:Array R3}{a:RB}{gs ch:List RB}{o:Obj}
theorem Fr.sR(I:Fr X env cm m s):X.K.In s.heap:=I.ok.mod.sR.keeps I.bs
theorem Fr.nc(I:Fr X env cm m s):Nc X.base X.tb s.heap:=I.ok.tab _ I.mem.tab
theorem wv(M:be X cm m s.heap)(e:s.heap.get? a=Zz o)(n:∀x n,o.data≠.seq x n):aF cm m a:=λi p q z=>by
 obtain⟨b,x,h1,⟨⟨k,h2⟩,_⟩,_⟩:=M.at' i p q;rw[h1]at z;cases z;rw[e]at h2;cases h2;exact n _ _ rfl
theorem C4(M:be X cm m s.heap)(h:a∈X.fs):aF cm m a:=λi p q z=>by
 obtain⟨b,x,h1,⟨_,h2,_⟩,_⟩:=M.at' i p q;rw[h1]at z;cases z;exact h2 h
theorem RW.go(x:ExtK D.fs X.gs ch cm m s cm' m' s')(M:be X cm m s.heap)(N:Nq D.fs ch s.heap)(r:RW D cm m s.heap w v):RW D cm' m' s'.heap w v:=by
 cases w with
 |t t=>exact RT.go x M N r
 |c i=>obtain⟨a,h1,h2⟩:=r;exact⟨a,x.pre i a h1,h2⟩
theorem tz.go{l:List W}{y:List R3}(x:ExtK D.fs X.gs ch cm m s cm' m' s')(M:be X cm m s.heap)(N:Nq D.fs ch s.heap)(r:tz D cm m s.heap l y):tz D cm' m' s'.heap l y:=r.mp λ_ _ r=>r.go x M N
theorem Fr.Jk{f:List RB}{env2:Mi.Env}(I:Fr X env cm m s)(K:Cx.Ok { X with fs:=f })(nn:∀b∈f,b∈X.fs∨s.heap.get? b=Zy)(fu:∀b∈f,b∉X.fs->X.base.get? b=Zy/\∃o,s'.heap.get? b=Zz o/\NF X b o)(x:ExtK f X.gs ch cm m s cm' m' s')(M:be { X with fs:=f } cm' m' s'.heap)(N:∀b∈ch,X.base.get? b=Zy/\∀o,s.heap.get? b=Zz o->∃vs,o.data=.fields vs)(tr:∀(i:Nat) w2,env2[i]?=Zz (Zz w2)->∃w,env[i]?=Zz (Zz w)/\∀u,RW X.D cm m s.heap w u->RW (Cx.D { X with fs:=f }) cm' m' s'.heap w2 u)(hl2:env2.length=env.length):Fr { X with fs:=f } env2 cm' m' s':=by
 have nc:∀{b o},s.heap.get? b=Zz o->(∀v,o.data≠.fields v)->b∉ch:=λe n z=>((N _ z).2 _ e).elim λv d=>n v d
 have sq:∀{b o},s.heap.get? b=Zz o->(∀v,o.data≠.fields v)->(∀x n,o.data≠.seq x n)->∃o',s'.heap.get? b=Zz o'/\o'.cls=o.cls/\o'.data=o.data/\o'.dict=o.dict:=λe n k=>(x.sq e (nc e n) (wv I.mem e k)).2
 have cell:∀{c v},s.heap.IsCell c v->s'.heap.IsCell c v:=λ⟨o,e,d⟩=>by
  obtain⟨o',e',_,d',_⟩:=sq e (λv z=>by rw[d]at z;cases z) λx n z=>by rw[d]at z;cases z
  exact⟨o',e',d'.trans d⟩
 obtain⟨f,⟨o,es,ep,e,d,r⟩,hl⟩:=I.loc;obtain⟨o',e',_,d',_⟩:=sq e (λv z=>by rw[d]at z;cases z) λx n z=>by rw[d]at z;cases z
 refine⟨K,M,x.bare I.bare,λb o q=>?_,⟨f,⟨o',es,ep,e',d'.trans d,r⟩,λi y w h1 h2 h3=>?_⟩,λy c h=>(I.cell y c h).elim λv z=>⟨v,cell z⟩,λb hb=>?_,hl2.trans I.len⟩
 ·have e:=I.bs b o q
  have nl:aF cm m b:=λi p h1 h2=>by
   obtain⟨a,y,h3,h4,h5,_⟩:=I.mem.at' i p h1;rw[h2]at h3;cases h3;rw[h5]at q;cases q
  obtain⟨_,o',e',z⟩:=x.keep b o e (λz=>by rw[(N b z).1]at q;cases q) nl;rcases z with rfl|⟨z,_⟩
  ·exact e'
  ·rcases nn _ z with z|z
   ·have:=(I.cO _ z).1;rw[q]at this;cases this
   ·rw[e]at z;cases z
 ·obtain⟨w',hw,tr⟩:=tr i w h2
  obtain⟨u,h4,h5⟩:=hl i y w' h1 hw h3;exact⟨u,tr u h4,h5.imp id λ⟨k,c,h6,h7⟩=>⟨k,c,h6,cell h7⟩⟩
 ·by_cases hf:b∈X.fs
  rotate_left
  ·exact fu b hb hf
  obtain⟨hb,o,e,n⟩:=I.cO _ hf;obtain⟨_,o',e',_,d',_⟩:=x.sq e (nc e n.1) (C4 I.mem ‹_›);exact⟨hb,o',e',λv z=>n.1 v (d'.symm.trans z),λh x c z=>n.2 h x c (d'.symm.trans z)⟩
theorem Fr.Il{f:List RB}(I:Fr X env cm m s)(K:Cx.Ok { X with fs:=f })(nn:∀b∈f,b∈X.fs∨s.heap.get? b=Zy)(fu:∀b∈f,b∉X.fs->X.base.get? b=Zy/\∃o,s'.heap.get? b=Zz o/\NF X b o)(x:ExtK f X.gs ch cm m s cm' m' s')(M:be { X with fs:=f } cm' m' s'.heap)(N:Nc X.base ch s.heap):Fr { X with fs:=f } env cm' m' s':=
 I.Jk K nn fu x M (λb h=>⟨(N b h).1,λo e=>((N b h).2 o e).1⟩) (λi w e=>⟨w,e,λu h=>(h.fr nn λ_ _ e=>e).go x I.mem N.q⟩) rfl
theorem Fr.go(I:Fr X env cm m s)(x:ExtK X.fs X.gs ch cm m s cm' m' s')(M:be X cm' m' s'.heap)(N:Nc X.base ch s.heap):Fr X env cm' m' s':=I.Il (f:=X.fs) I.ok (λ_ h=>.inl h) (λ_ h n=>Yv h n) x M N
theorem tK{N:List Str}(hN:N.Nodup){i j:Nat}{x:Str}(a:N[i]?=Zz x)(b:N[j]?=Zz x):i=j:=by
 obtain⟨h1,e1⟩:=RA.mp a;obtain⟨h2,e2⟩:=RA.mp b;exact(Vu hN).mp (e1.trans e2.symm)
theorem Fr.nq(I:Fr X env cm m s):Nq X.fs X.own s.heap:=λb hb o e f=>by
 have no:∀d,o.data=d->(∀x n,d≠.seq x n)->(b∈X.fs∨∀x n,d≠.dict x n)->(∀v,d≠.fields v)->False:=λd h h1 h2 h3=>by
  cases f with
  |seq x n q _=>exact h1 x n (h.symm.trans q)
  |dict x n q g=>exact h2.elim g λk=>k x n (h.symm.trans q)
  |ref _ v _ q=>exact h3 v (h.symm.trans q)
  |trace v _ q=>exact h3 v (h.symm.trans q)
 rcases R5.mp hb with rfl|hb
 ·obtain⟨g,⟨o',es,ep,e',d,_⟩,_⟩:=I.loc
  rw[e]at e';cases e';exact no _ d (λ_ _ z=>nomatch z) (.inl I.ok.fr) λ_ z=>nomatch z
 ·rcases RN.mp hb with hb|hb
  ·exact I.nc.q b hb o e f
  ·obtain⟨y,_,hm⟩:=mf.mp hb
   obtain⟨v,o',e',d⟩:=I.cell y b hm;rw[e]at e';cases e';exact no _ d (λ_ _ z=>nomatch z) (.inr λ_ _ z=>nomatch z) λ_ z=>nomatch z
theorem H6{f:Str->Option R3}(h:h'.Ns a f):∃o,h'.get? a=Zz o/\(∀v,o.data≠.fields v)/\∀x n,o.data≠.seq x n:=by obtain⟨o,es,ep,e,d,_⟩:=h;exact⟨o,e,(λv z=>by rw[d]at z;cases z),λx n z=>by rw[d]at z;cases z⟩
theorem Fr.put{env2:Mi.Env}{g:Str->Option R3}{t:Nat}(I:Fr X env cm m s)(ha:a∈X.own)(e0:s.heap.get? a=Zz o)(d0:∀v,o.data≠.fields v)(hd:∃o,h'.get? a=Zz o/\(∀v,o.data≠.fields v)/\∀x n,o.data≠.seq x n)(hs:Up a s.heap h')(hb:X.base.get? a=Zy)(hg:h'.Ns X.env.locals g)(hloc:∀(j:Nat) y w',X.N[j]?=Zz y->env2[j]?=Zz (Zz w')->Ip X.env.scope y->∃u,RW X.D cm m s.heap w' u/\Look X.env h' g y u)(hcell:∀y c,X.env.cells.lookup y=Zz c->∃v,h'.IsCell c v)(hl:env2.length=env.length):bd X.fs X.gs X.own cm m s cm m { s with heap:=h',toks:=t }/\Fr X env2 cm m { s with heap:=h',toks:=t }:=by
 have kp:∀b o,b≠a->s.heap.get? b=Zz o->h'.get? b=Zz o:=λb o n e=>(hs.2 b n).trans e
 have ex:bd X.fs X.gs X.own cm m s cm m { s with heap:=h',toks:=t }:=.heap (λb o n e=>kp b o (λz=>n (z▸ha)) e) λb n o e=>by
  by_cases z:b=a
  ·subst z;rw[e0]at e;cases e
   obtain⟨o',e',q⟩:=hd;exact⟨o',e',λ_=>q.1,λ_=>q.2⟩
  ·exact⟨o,kp b o z e,.r⟩
 have M:=I.mem.go I.nq ex.toExtK (λb o n e=>kp b o (λz=>n (z▸ha)) e) (I.ok.jG _ _ I.mem.tab λb o hb' e=>kp b o (λz=>by
  obtain⟨v,q⟩:=hb'.elim (λh=>((I.nc b h).2 o e).1) Kc.f;rw[z,e0]at e;cases e;exact d0 v q) e)
 refine⟨ex,I.ok,M,I.bare,λb o e=>kp b o (λz=>by rw[z,hb]at e;cases e) (I.bs b o e),⟨g,hg,λj y w' h1 h2 h3=>?_⟩,hcell,λb hb=>?_,hl.trans I.len⟩
 ·obtain⟨u,h4,h5⟩:=hloc j y w' h1 h2 h3
  exact⟨u,h4.go ex.toExtK I.mem I.nq,h5⟩
 ·obtain⟨hb,o,e,n⟩:=I.cO b hb
  refine⟨hb,?_⟩;by_cases z:b=a
  ·subst z;exact hd.imp λo q=>⟨q.1,q.2.1,λ_=>q.2.2⟩
  ·exact⟨o,kp b o z e,n⟩
theorem store{M:Yo}{A:SV}{i:Nat}{x:Str}{Q F}(I:Fr X env cm m s)(hN:X.N.Nodup)(hi:X.N[i]?=Zz x)(hx:Loc X x)(r:RW X.D cm m s.heap w v)(k:∀s',bd X.fs X.gs X.own cm m s cm m s'->Fr X (env.set i (Zz w)) cm m s'->Q () s'):RJ M A (storeName X.env x v) Q F s:=by
 obtain⟨f,hn,hl⟩:=id I.loc;have li:i<env.length:=by rw[I.len];exact(RA.mp hi).1
 have cne:∀{y c},X.env.cells.lookup y=Zz c->c≠X.env.locals:=λh z=>by
  obtain⟨v,o,e,d⟩:=I.cell _ _ h;obtain⟨o',es,ep,e',d',_⟩:=hn;rw[z,e']at e;cases e;rw[d']at d;cases d
 have hcls:(X.env.scope.kind==.class || (X.env.scope.kind==.module&&X.env.locals != X.env.globals))=false:=by rw[I.ok.kind];rfl
 have nb:∀{a o},s.heap.get? a=Zz o->(∀b,X.base.get? a=Zz b->b=o):=λe b q=>by have:=I.bs _ _ q;rw[e]at this;cases this;rfl
 have nbl:X.base.get? X.env.locals=Zy:=(I.cO _ I.ok.fr).1;obtain⟨oL,es,ep,eL,dL,rL⟩:=id hn;rcases hx with hk|⟨hk,hf⟩
 ·refine wpAny_storeName_local hk hn (λh' hn' hs=>(λp=>k _ p.1 p.2) (I.put R6 eL (λv z=>by rw[dL]at z;cases z) (H6 hn') hs nbl hn' (λj y w' h1 h2 h3=>?_) (λy c h=>(I.cell y c h).elim λv z=>⟨v,?_⟩) U1)) hcls
  ·by_cases hj:j=i
   ·subst hj
    rw[hi]at h1;cases h1;rw[S6 li]at h2;cases h2;exact⟨v,r,.inl ⟨hk,by simp⟩⟩
   ·rw[Rs (VQ hj)]at h2
    obtain⟨u,r',q⟩:=hl j y w' h1 h2 h3;refine⟨u,r',q.imp (λ⟨k,e⟩=>⟨k,?_⟩) λ⟨k,c,e,z⟩=>⟨k,c,e,z.sameBut hs (cne e)⟩⟩;have:y≠x:=λe=>hj (tK hN h1 (e▸hi))
    simp[this,e]
  ·refine z.sameBut hs λq=>?_
   obtain⟨o,e,d⟩:=z;rw[q,eL]at e;cases e;rw[dL]at d;cases d
 ·obtain⟨c,hc⟩:=I.ok.has x (.inl hk)
  obtain⟨w',z⟩:=I.cell x c hc;obtain⟨oc,ec,dc⟩:=id z;refine wpAny_storeName_cell I.ok.kind hk hc z (λh' hc' hs=>(λp=>k _ p.1 p.2) (I.put (t:=s.toks) (R2 _ (Sa _ (mf.mpr ⟨_,hf,hc⟩))) ec (λv z=>by rw[dc]at z;cases z) (by obtain⟨o,e,d⟩:=hc';exact⟨o,e,(λv z=>by rw[d]at z;cases z),λx n z=>by rw[d]at z;cases z⟩) hs (I.ok.cb _ _ hc) (hn.sameBut hs (VQ (cne hc))) (λj y u h1 h2 h3=>?_) (λy c' h=>?_) U1))
  ·by_cases hj:j=i
   ·subst hj
    rw[hi]at h1;cases h1;rw[S6 li]at h2;cases h2;exact⟨v,r,.inr ⟨.inl hk,c,hc,hc'⟩⟩
   ·rw[Rs (VQ hj)]at h2
    obtain⟨u',r',q⟩:=hl j y u h1 h2 h3;refine⟨u',r',q.imp id λ⟨k,c',e,z'⟩=>⟨k,c',e,z'.sameBut hs ?_⟩⟩;rintro rfl;exact hj (tK hN h1 (I.ok.inj _ _ _ e hc▸hi))
  ·by_cases hcc:c'=c
   ·subst hcc;exact⟨_,hc'⟩
   ·exact(I.cell y c' h).elim λv z=>⟨v,z.sameBut hs hcc⟩
end
noncomputable abbrev VK:=R3->R9->Prop
def ap{α:Type}(X:Cx)(ch:List RB)(cm:List RB)(m:Mem)(s:R9)(r:Res α)(J:VK)(k:α->List RB->Mem->R9->Prop):Prop:=match r with
 |.ok a m'=>∀cm' s',bd X.fs X.gs ch cm m s cm' m' s'->be X cm' m' s'.heap->k a cm' m' s'
 |.stuck=>False
section
variable{X:Cx}{env:Mi.Env}{cm cm':List RB}{m m':Mem}{s s':R9}{w:W}{v:R3}{ch:List RB}{α β:Type}{r:Res α}{J:VK}{k k':α->List RB->Mem->R9->Prop}
theorem ap.shift(h:ap X ch cm m s r J k)(x:bd X.fs X.gs ch cm m s cm' m' s'):ap X ch cm' m' s' r J k:=by
 cases r with
 |ok a m2=>exact λc t y M=>h c t (x.trans y) M
 |stuck=>exact h
theorem ap.bind{f:α->Mem->Res β}{k:β->List RB->Mem->R9->Prop}(h:ap X ch cm m s (r.bind f) J k):ap X ch cm m s r J λa cm' m' s'=>ap X ch cm' m' s' (f a m') J k:=by
 cases r with
 |ok a m2=>exact λc t x M=>ap.shift (r:=f a m2) h x
 |stuck=>exact h
theorem ap.mono(h:ap X ch cm m s r J k)(f:∀a cm' m' s',bd X.fs X.gs ch cm m s cm' m' s'->be X cm' m' s'.heap->k a cm' m' s'->k' a cm' m' s'):ap X ch cm m s r J k':=by
 cases r with
 |ok a m2=>exact λc t x M=>f a c m2 t x M (h c t x M)
 |stuck=>exact h
theorem ap.to{a:α}(h:ap X ch cm m s (.ok a m') J k)(x:bd X.fs X.gs ch cm m s cm' m' s')(M:be X cm' m' s'.heap):k a cm' m' s':=h _ _ x M
theorem ap.now{a:α}(h:ap X ch cm m s (.ok a m) J k)(M:be X cm m s.heap):k a cm m s:=h cm s .refl M
theorem ar{f:α->Mem->Res β}{b:β}(e:r.bind f=.ok b m'):∃a m1,r=.ok a m1/\f a m1=.ok b m':=by
 cases r with
 |ok a m1=>exact⟨a,m1,rfl,e⟩
 |stuck=>cases e
theorem Fr.up{g:SA}{t:Nat}{d:Yp}(I:Fr X env cm m s)(q:∀b o,s.heap.get? b=Zz o->g.get? b=Zz o):bd X.fs X.gs ch cm m s cm m { s with heap:=g,toks:=t,drawn:=d }/\Fr X env cm m { s with heap:=g,toks:=t,drawn:=d }:=by
 have x:bd X.fs X.gs [] cm m s cm m { s with heap:=g,toks:=t,drawn:=d }:=.kept q;have M:=I.mem.go Nq.nil x.toExtK (λb o _=>q b o) (I.ok.jG _ _ I.mem.tab λb o _=>q b o);exact⟨.kept q,I.go x.toExtK M λ_ z=>nomatch z⟩
theorem km{c:Prop}[Decidable c](h:ap X ch cm m s (if c then r else .stuck) J k):c/\ap X ch cm m s r J k:=by
 by_cases hc:c
 ·rw[Yq hc]at h;exact⟨hc,h⟩
 ·rw[Yr hc]at h;exact h.elim
theorem dE{o:Option T}{k:W->List RB->Mem->R9->Prop}(h:ap X ch cm m s (eO o m') J k):∃t,o=Zz t/\ap X ch cm m s (.ok (.t t) m') J k:=by
 cases o with
 |none=>exact h.elim
 |some t=>exact⟨t,rfl,h⟩
variable{call:Nat->List W->Mem->Res W}{gv:List T}
variable(call gv)
abbrev WK(X:Cx)(Q:VK):W->List RB->Mem->R9->Prop:=λw cm m s=>∀v,RW X.D cm m s.heap w v->Q v s
def PE(X:Cx)(e:SL)(a:Mi.E):Prop:=∀env cm m s,Fr X env cm m s->∀Q J:VK,ap X X.tb cm m s (ev call gv a env m) J (WK X Q)->RJ X.M X.A (eval e X.env) Q J s
def PA(X:Cx)(l:List SL)(L:Es):Prop:=∀p env cm m s,Fr X env cm m s->∀(Q:List R3->R9->Prop) (J:VK),
 ap X X.tb cm m s (evs call gv L env m) J (λl cm m s=>∀y,tz X.D cm m s.heap l y->Q y s)->RJ X.M X.A (Ya (backTo p (US l X.env))) Q J s
def PT(X:Cx)(e:SL)(a:Mi.E):Prop:=∀env cm m s,Fr X env cm m s->∀(Q:Bool->R9->Prop) (J:VK),ap X X.tb cm m s ((ev call gv a env m).bind b8) J (λb _ _ s=>Q b s)->RJ X.M X.A (isTrue e X.env (eval e X.env)) Q J s
def PW(X:Cx)(e:SL)(a:Mi.E):Prop:=∀z env cm m s,Fr X env cm m s->∀(Q:Bool->R9->Prop) (J:VK),ap X X.tb cm m s ((ev call gv a env m).bind b8) J (λb _ _ s=>Q b s)->RJ X.M X.A (isTrue e X.env z) Q J s
variable{call gv}
variable{e a b c:SL}{es:List SL}{E A B C:Mi.E}{L:Es}{pos p:Pos}
theorem PW.pt(h:PW call gv X e E):PT call gv X e E:=h _
theorem mW{α:Type}{t:Sem α}{Q Q':α->R9->Prop}{M:Yo}{A:SV}{E:R3->R9->Prop}{s:R9}(h:RJ M A t Q E s)(hQ:∀a s,Q a s->Q' a s):RJ M A t Q' E s:=Ta h hQ λ_ _ x=>x
theorem PE.one{f:W->Mem->Res α}{Q:VK}(h:PE call gv X e E)(I:Fr X env cm m s)(hp:ap X X.tb cm m s ((ev call gv E env m).bind f) J k)(q:∀w v cm1 m1 s1,Fr X env cm1 m1 s1->bd X.fs X.gs X.tb cm m s cm1 m1 s1->RW X.D cm1 m1 s1.heap w v->ap X X.tb cm1 m1 s1 (f w m1) J k->Q v s1):RJ X.M X.A (eval e X.env) Q J s:=
 h env cm m s I Q J (hp.bind.mono λw c1 m1 s1 x M o v r=>q w v c1 m1 s1 (I.go x M I.nc) x r o)
theorem PT.one{f:Bool->Mem->Res α}{Q:Bool->R9->Prop}(h:PT call gv X e E)(I:Fr X env cm m s)(hp:ap X X.tb cm m s (((ev call gv E env m).bind b8).bind f) J k)(q:∀b cm1 m1 s1,Fr X env cm1 m1 s1->bd X.fs X.gs X.tb cm m s cm1 m1 s1->ap X X.tb cm1 m1 s1 (f b m1) J k->Q b s1):RJ X.M X.A (isTrue e X.env (eval e X.env)) Q J s:=
 h env cm m s I Q J (hp.bind.mono λw c1 m1 s1 x M o=>q w c1 m1 s1 (I.go x M I.nc) x o)
theorem PA.one{f:List W->Mem->Res α}{Q:List R3->R9->Prop}(h:PA call gv X es L)(I:Fr X env cm m s)(hp:ap X X.tb cm m s ((evs call gv L env m).bind f) J k)(q:∀w v cm1 m1 s1,Fr X env cm1 m1 s1->bd X.fs X.gs X.tb cm m s cm1 m1 s1->tz X.D cm1 m1 s1.heap w v->ap X X.tb cm1 m1 s1 (f w m1) J k->Q v s1):RJ X.M X.A (Ya (backTo p (US es X.env))) Q J s:=
 h p env cm m s I Q J (hp.bind.mono λw c1 m1 s1 x M o v r=>q w v c1 m1 s1 (I.go x M I.nc) x r o)
theorem PE.two{f:W->W->Mem->Res α}{Q:R3->R3->R9->Prop}(ha:PE call gv X a A)(hb:PE call gv X b B)(I:Fr X env cm m s)(hp:ap X X.tb cm m s ((ev call gv A env m).bind λx m=>(ev call gv B env m).bind λy m=>f x y m) J k)(q:∀w u v z cm1 m1 s1,Fr X env cm1 m1 s1->bd X.fs X.gs X.tb cm m s cm1 m1 s1->RW X.D cm1 m1 s1.heap w v->RW X.D cm1 m1 s1.heap u z->ap X X.tb cm1 m1 s1 (f w u m1) J k->Q v z s1):RJ X.M X.A (eval a X.env) (λv=>RJ X.M X.A (eval b X.env) (λz=>Q v z) J) J s:=
 ha.one I hp λw v c1 m1 s1 I1 x1 r1 o=>hb.one I1 o λu z c2 m2 s2 I2 x2 r2 o=>q w u v z c2 m2 s2 I2 (x1.trans x2) (r1.go x2 I1.mem I1.nc.q) r2 o
theorem Fr.val{t:T}{k:Nat}{Q:VK}(I:Fr X env cm m s)(h:ap X X.tb cm m s (.ok (.t t) m) J (WK X Q))(r:RT X.D cm m s.heap t v):Q v { s with toks:=k }:=by
 have x:=(I.up (t:=k) (d:=s.drawn) (ch:=X.tb) (g:=s.heap) λ_ _ e=>e)
 exact h.to x.1 x.2.mem v r
theorem Fr.val'{t:T}{Q:VK}(I:Fr X env cm m s)(h:ap X X.tb cm m s (.ok (.t t) m) J (WK X Q))(r:RT X.D cm m s.heap t v):Q v s:=h.now I.mem v r
theorem Du{i:Nat}{x:Str}(hN:X.N[i]?=Zz x)(hv:Ip X.env.scope x)(hd:(x==("__debug__" : Str))=false:=by decide)(hcd:(x==("__classdict__" : Str))=false:=by decide):PE call gv X (.Name x pos) (.var i):=λenv cm m s I Q J h=>by
 rw[ev]at h;split at h
 ·obtain⟨f,hn,hl⟩:=I.loc
  obtain⟨u,r,l⟩:=hl i x _ hN ‹_› hv;have q:=h.now I.mem u r;rcases l with⟨hk,hm⟩|⟨hk|hk,c,hc,hcell⟩
  ·exact YN (wpAny_loadName_local I.ok.kind hk hn hm q) hd
  ·exact YN (wpAny_loadName_cell I.ok.kind hk hc hcell q) hd
  ·exact YN (wpAny_loadName_free I.ok.kind hk hc hcell q hcd) hd
 ·exact h.elim
theorem EI{i j}:PE call gv X (.Constant (.int i) j pos) (.con (.int i)):=λ_ _ _ _ I Q J h=>by rw[ev]at h;exact wpAny_Constant_int (I.val h (.int i _))
theorem FW{i j}:PE call gv X (.Constant (.bool i) j pos) (.con (.bl i)):=λ_ _ _ _ I Q J h=>by rw[ev]at h;exact Constant_bool (I.val' h (.bl i))
theorem Dr{j}:PE call gv X (.Constant .none j pos) (.con .non):=λ_ _ _ _ I Q J h=>by rw[ev]at h;exact Constant_none (I.val' h .non)
theorem En{x:List Nat}{y:Str}{j}(e:y=⟨x.toArray⟩):PE call gv X (.Constant (.str y) j pos) (.con (.str x)):=λ_ _ _ _ I Q J h=>by rw[ev]at h;subst e;exact Calls.Constant_str (I.val h (.str x _))
theorem Dv:PA call gv X [] .nil:=λp env cm m s I Q J h=>by rw[evs]at h;exact UT (h.now I.mem [] .nil)
theorem BO(ha:PE call gv X e E)(hr:PA call gv X es L)(hs:US (e::es) X.env=(false,eval e X.env)::US es X.env):PA call gv X (e::es) (.cons E L):=λp env cm m s I Q J h=>by
 rw[evs]at h;rw[hs];exact Tk (ha.one I h λw v c1 m1 s1 I1 x1 r h=>hr.one (p:=p) I1 h λws vs c2 m2 s2 I2 x2 rs h=>h.now I2.mem (v::vs) (.cons (r.go x2 I1.mem I1.nc.q) rs))
end
section
variable{X:Cx}{D:Dm}{env:Mi.Env}{cm cm':List RB}{m m':Mem}{s s':R9}{w u:W}{v z:R3}{ch:List RB}{α β:Type}{r:Res α}{J:VK}{k k':α->List RB->Mem->R9->Prop}{h g:SA}{t:T}{l:List T}{y:List R3}{a:RB}{Q:VK}{n:Nat}{d:Yp}{i:Nat}
theorem aE(M:be X cm m h)(r:RW X.D cm m h w v)(e:view w m=Zz (.lst l)):∃a x,v=.ref a/\dX X.fs h a x/\eS X.D cm m h l x.toList:=by
 cases w with
 |t t =>
  cases e;cases r with
  |lst p _ q r=>exact⟨_,_,rfl,p,q,r⟩
 |c i =>
  obtain⟨a,h1,rfl⟩:=r;have e:(match m[i]? with|some (Zz (_,l))=>Zz (T.lst l)|_=>Zy)=Zz (.lst l):=e;split at e<;>cases e;obtain⟨b,x,h2,h3,_,h4⟩:=M.at' i _ ‹_›;rw[h1]at h2;cases h2;exact⟨a,x,rfl,h3,h4⟩
theorem al(r:RW D cm m h w v)(e:view w m=Zz t)(n:∀l,t≠.lst l:=by intro l z;cases z):RT D cm m h t v:=by
 cases w with
 |t t=>cases e;exact r
 |c i =>
  have e:(match m[i]? with|some (Zz (_,l))=>Zz (T.lst l)|_=>Zy)=Zz t:=e;split at e<;>cases e;exact Yv rfl (n _)
theorem RT.fe{i:Int}(r:RT D cm m h (.int i) v):∃t,v=.int i t:=by cases r;exact⟨_,rfl⟩
theorem RT.j8{x:List Nat}(r:RT D cm m h (.str x) v):∃t,v=.str ⟨x.toArray⟩ t:=by cases r;exact⟨_,rfl⟩
theorem RT.IE{b:Bool}(r:RT D cm m h (.bl b) v):v=.bool b:=by cases r;rfl
theorem RT.iN(r:RT D cm m h (.tup l) v):∃a x,v=.ref a/\mG "tuple" h a x/\eS D cm m h l x.toList:=by cases r with|tup p f q r=>exact⟨_,_,rfl,p,q,r⟩
theorem RT.tf(r:RT D cm m h (.tup l) (.ref a)):a∉D.fs:=by cases r with|tup p f q r=>exact f
theorem mG.tup{x:Array R3}(p:mG "tuple" h a x):Yg h a x:=let⟨o,n,e,c,d,_⟩:=p;⟨o,e,c,n,d⟩
theorem mG.pl{x:Array R3}(p:mG "list" h a x):Yb h a x:=let⟨o,n,e,c,d,q,_⟩:=p;⟨o,n,e,c,q,d⟩
theorem dX.pl{x:Array R3}{fs:List RB}(p:dX fs h a x):Yb h a x:=let⟨⟨n,e⟩,_⟩:=p;⟨_,n,e,rfl,rfl,rfl⟩
theorem dX.new{x:Array R3}(I:Fr X env cm m s)(z:x.size<=Ru):dX X.fs (s.heap.push { cls:=.type "list",data:=.seq x n }) s.heap.objs.size x:=⟨⟨n,RM _ rfl⟩,λhb=>by obtain⟨_,o,ho,_⟩:=I.cO _ hb;exact SU _ (Rm ho),z⟩
theorem line:lim<Ru/\Ru<2^62:=by rw[TB];decide
theorem mG.new{k:String}{x:Array R3}{o:Obj}(e:o.cls=.type k)(e2:o.data=.seq x n)(e3:o.dict=Zy)(e4:o.slots=#[])(z:x.size<=Ru):mG k (h.push o) h.objs.size x:=⟨o,n,RM _ (by obtain⟨c,d,dt,sl⟩:=o;cases e2;rfl),e,e2,e3,z⟩
theorem pV{t:T}(I:Fr X env cm m s)(r:RW X.D cm m s.heap w v)(e:Fy w m=.ok t m'):bd X.fs X.gs X.tb cm m s cm m' s/\Fr X env cm m' s/\RT X.D cm m' s.heap t v:=by
 cases w with
 |t t=>cases e;exact⟨.refl,I,r⟩
 |c i =>
  obtain⟨a,h1,rfl⟩:=r;have e:(match m[i]? with|some (Zz (false,l))=>Res.ok (T.lst l) (m.set i Zy)|_=>.stuck)=.ok t m':=e;split at e<;>cases e;obtain⟨b,x,h2,h3,h4,h5⟩:=I.mem.at' i _ ‹_›;rw[h1]at h2;cases h2;obtain⟨x1,M⟩:=I.mem.upd (s':=s) (ch:=[]) (q:=Zy) ‹_› h1 (λ_ _ _ e=>e) rfl rfl (λ_ _ z=>nomatch z) (λ_=>rfl) I.mem.tab λz=>by cases z
  have I':=I.go x1.toExtK M λ_ z=>nomatch z
  refine⟨x1.weak λ_ z=>(nomatch z),I',.lst h3 (λj p e e2=>?_) h5.1 λj t v a b=>(h5.2 j t v a b).go x1 I.mem Nq.nil⟩;by_cases hj:j=i
  ·subst hj;rw[S6 (RA.mp ‹m[j]?=_›).1]at e;cases e
  ·rw[Rs (VQ hj)]at e;exact hj (I.mem.inj _ _ _ _ _ e ‹_› e2 h1)
theorem sK:∀{l:List W}{y:List R3}{t:List T}{m m':Mem},Fr X env cm m s->tz X.D cm m s.heap l y->ig l m=.ok t m'->bd X.fs X.gs X.tb cm m s cm m' s/\Fr X env cm m' s/\eS X.D cm m' s.heap t y
 |[],y,_,_,_,I,r,e=>by cases e;exact⟨.refl,I,by obtain rfl:y=[]:=RR.mp r.1.symm;exact .nil⟩
 |w::l,_,t,m,m',I,r,e=>by
  obtain⟨v,y,rfl,r,rs⟩:=r.inv;rw[ig]at e;obtain⟨t,m1,e1,e⟩:=ar e;obtain⟨ts,m2,e2,e⟩:=ar e;cases e;obtain⟨x1,I1,r1⟩:=pV I r e1;obtain⟨x2,I2,r2⟩:=sK I1 (tz.go x1 I.mem I.nc.q rs) e2;exact⟨x1.trans x2,I2,.cons (r1.go x2 I1.mem I1.nc.q) r2⟩
theorem lS{f:List T->Mem->Res α}{l:List W}(I:Fr X env cm m s)(r:tz X.D cm m s.heap l y)(h:ap X X.tb cm m s ((ig l m).bind f) J k):∃t m',Fr X env cm m' s/\eS X.D cm m' s.heap t y/\ap X X.tb cm m' s (f t m') J k:=by
 cases q:ig l m with
 |stuck=>rw[q]at h;exact h.elim
 |ok t m' =>
  rw[q]at h;obtain⟨x,I',r'⟩:=sK I r q;exact⟨t,m',I',r',h.shift x⟩
theorem hG(h:SA):h.get? h.objs.size=Zy:=Rt (RC _)
theorem Fa(k:∀b o,h.get? b=Zz o->g.get? b=Zz o):h.get? g.objs.size=Zy:=by
 cases q:h.get? g.objs.size with
 |none=>rfl
 |some o=>exact Yv (Rm (k _ _ q)) (SU _)
theorem Fr.tup(I:Fr X env cm m s)(h:ap X X.tb cm m s (.ok (.t (.tup l)) m) J (WK X Q))(r:eS X.D cm m s.heap l y)(q:∀b o,s.heap.get? b=Zz o->g.get? b=Zz o)(p:mG "tuple" g a y.toArray)(e:s.heap.get? a=Zy:=by exact hG _):Q (.ref a) { s with heap:=g,toks:=n,drawn:=d }:=by
 obtain⟨x,J⟩:=I.up (t:=n) (d:=d) (ch:=X.tb) q;exact h.to x J.mem _ (.tup p (λhb=>by obtain⟨_,o,g,_⟩:=I.cO _ hb;rw[e]at g;cases g) r.1 λi t v a b=>(r.2 i t v a b).go x I.mem I.nc.q)
theorem Fr.fresh(I:Fr X env cm m s)(e:s.heap.get? a=Zy):aF cm m a:=λi p h1 h2=>by
 obtain⟨b,x,h3,⟨⟨_,h4⟩,_⟩,_⟩:=I.mem.at' i p h1;rw[h2]at h3;cases h3;rw[e]at h4;cases h4
theorem Fr.lst(I:Fr X env cm m s)(h:ap X X.tb cm m s (.ok (.t (.lst l)) m) J (WK X Q))(r:eS X.D cm m s.heap l y)(q:∀b o,s.heap.get? b=Zz o->g.get? b=Zz o)(e:s.heap.get? a=Zy)(p:dX X.fs g a y.toArray):Q (.ref a) { s with heap:=g,toks:=n,drawn:=d }:=by
 obtain⟨x,J⟩:=I.up (t:=n) (d:=d) (ch:=X.tb) q;exact h.to x J.mem _ (.lst p (I.fresh e) r.1 λi t v a b=>(r.2 i t v a b).go x I.mem I.nc.q)
theorem Fr.oD(I:Fr X env cm m s)(h:ap X X.tb cm m s (.ok (.c m.length) (m++[Zz (false,l)])) J (WK X Q))(r:eS X.D cm m s.heap l y)(q:∀b o,s.heap.get? b=Zz o->g.get? b=Zz o)(e:s.heap.get? a=Zy)(p:dX X.fs g a y.toArray):Q (.ref a) { s with heap:=g,toks:=n,drawn:=d }:=by
 have nb:X.base.get? a=Zy:=by
  cases z:X.base.get? a with
  |none=>rfl
  |some o=>rw[I.bs _ _ z]at e;cases e
 obtain⟨x,M,top⟩:=I.mem.new (s':={ s with heap:=g,toks:=n,drawn:=d }) (ch:=X.tb) (y:=y.toArray) q rfl rfl e nb p (by simpa using r) (I.ok.jG _ _ I.mem.tab λb o _=>q b o);exact h.to x M _ ⟨a,top,rfl⟩
variable{call:Nat->List W->Mem->Res W}{gv:List T}
variable{e f c:SL}{es:List SL}{E A B C:Mi.E}{L:Es}{pos p:Pos}
theorem EM{x1}(h:PA call gv X es L):PE call gv X (.Tuple es x1 pos) (.tup L):=λ_ _ _ _ I Q J hp=>by
 rw[ev]at hp;refine wpAny_Tuple_spliced (h.one I hp λws vs c1 m1 s1 I x1 rs h=>?_);obtain⟨ts,m2,I,r,h⟩:=lS I rs h;obtain⟨hl,h⟩:=km h;have z:vs.length<=Ru:=by have:=r.1;have:=line.1;omega
 exact⟨z,I.tup h r (λb o e=>R7 _ e) (.new rfl rfl rfl rfl (by simpa using z))⟩
theorem C8(h:PA call gv X es L):PE call gv X (.List es pos) (.lst L):=λ_ _ _ _ I Q J hp=>by
 rw[ev]at hp;refine wpAny_List_spliced (h.one I hp λws vs c1 m1 s1 I x1 rs h=>?_);obtain⟨ts,m2,I,r,h⟩:=lS I rs h;obtain⟨hl,h⟩:=km h;have z:vs.length<=Ru:=by have:=r.1;have:=line.1;omega
 exact⟨z,I.lst h r (λb o e=>R7 _ e) (hG _) (.new I (by simpa using z))⟩
theorem Eo(h:PA call gv X es L):PE call gv X (.List es pos) (.oD L):=λ_ _ _ _ I Q J hp=>by
 rw[ev]at hp;refine wpAny_List_spliced (h.one I hp λws vs c1 m1 s1 I x1 rs h=>?_);obtain⟨ts,m2,I,r,h⟩:=lS I rs h;obtain⟨hl,h⟩:=km h;have z:vs.length<=Ru:=by have:=r.1;have:=line.1;omega
 exact⟨z,I.oD h r (λb o e=>R7 _ e) (hG _) (.new I (by simpa using z))⟩
end
end Mi
namespace Mi
open PySem PySem.Spec PyProof.Rows PySem.Builtin
theorem lN:lim<=Ru:=T7 line.1
section
variable{prog:S9}{w:SY}{A:SV}{E:R3->R9->Prop}{s:R9}{i j k:Int}{t x y:T}{cs:List Nat}{n:Nat}{f:Int->Int->Option T}
theorem mA:fillsNumberSlot (.type "tuple") "mul" = pure false:=
 PySem.fillsNumberSlot_seq F.slot_tuple_mul.lookup (by decide +kernel) F.slot_tuple_rmul.lookup (by decide +kernel)
theorem rX:seqRepeat? (.type "tuple")=pure (Zz (.builtin "tuple.__mul__")):=by
 unfold seqRepeat?;rw[PySem.seqSlot_of (name:="__mul__") F.slot_tuple_mul.lookup (by decide +kernel),PySem.seqSlot_of (name:="__rmul__") F.slot_tuple_rmul.lookup (by decide +kernel)];rfl
theorem wB(a:Int)(t:Tok)(l:RB)(items:Array R3)(n:Nat)(dd:Option RB)(sl:Array (Option R3)):
  Yh (Builtin.«int.__rmul__» ⟨[.int a t,.ref l],[]⟩) (λ_ R s=>s.heap.get? l=Zz { cls:=.type "tuple",dict:=dd,data:=.seq items n,slots:=sl }/\R (.ok (.ret Value.notImplemented)) s):=
 .of_wp λprog w A R s h=>by obtain⟨hp,g,d,tk,os⟩:=s;obtain⟨hl,h⟩:=h;wp_walk;exact⟨_,rfl,h⟩
theorem Ih(l:RB)(items:Array R3)(n:Nat)(dd:Option RB)(sl:Array (Option R3))(k:Int)(u:Tok)(h1:(decide (k < -(2^63)) || decide (k ≥ 2^63))=false)(hc:(items.isEmpty || k==1)=true):
  Yh (Builtin.«tuple.__mul__» ⟨[.ref l,.int k u],[]⟩) (λ_ R s=>s.heap.get? l=Zz { cls:=.type "tuple",dict:=dd,data:=.seq items n,slots:=sl }/\R (.ok (.ret (VY l))) s):=
 .of_wp λprog w A R s h=>by obtain⟨hp,g,d,tk,os⟩:=s;obtain⟨hl,h⟩:=h;have f1:=Ww;have f2:=VL;wp_walk;refine WA (Ys (Wd.mp h1)) ?_;wp_walk using SP hl;exact⟨_,rfl,h⟩
theorem HC(l:RB)(items:Array R3)(n:Nat)(dd:Option RB)(sl:Array (Option R3))(k:Int)(u:Tok)(h1:(decide (k < -(2^63)) || decide (k ≥ 2^63))=false)(hc:¬(items.isEmpty || k==1)=true)(hc1:(decide (k<=0) || items.isEmpty)=true):
  Yh (Builtin.«tuple.__mul__» ⟨[.ref l,.int k u],[]⟩) (λ_ R s=>s.heap.get? l=Zz { cls:=.type "tuple",dict:=dd,data:=.seq items n,slots:=sl }/\R (.ok (.ret (VY s.heap.objs.size))) { s with heap:=s.heap.push { cls:=VV "tuple",data:=Data.seq #[] },toks:=s.toks }):=
 .of_wp λprog w A R s h=>by obtain⟨hp,g,d,tk,os⟩:=s;obtain⟨hl,h⟩:=h;have f1:=Ww;have f2:=VL;wp_walk;refine WA (Ys (Wd.mp h1)) ?_;wp_walk using SP hl;exact⟨_,rfl,h⟩
theorem Ig(l:RB)(items:Array R3)(n:Nat)(dd:Option RB)(sl:Array (Option R3))(k:Int)(u:Tok)(h1:(decide (k < -(2^63)) || decide (k ≥ 2^63))=false)(hc:¬(items.isEmpty || k==1)=true)(hc1:¬(decide (k<=0) || items.isEmpty)=true)(hc2:¬(items.size:Int)*k>(2^63-1) / 8)(hc3:¬Tuple.tupleTooMany ((items.size:Int)*k)=true)(hz:(WR (λx1 x2=>x1++x2) #[] (Rx k.toNat items)).size<=Ru):
  Yh (Builtin.«tuple.__mul__» ⟨[.ref l,.int k u],[]⟩) (λ_ R s=>s.heap.get? l=Zz { cls:=.type "tuple",dict:=dd,data:=.seq items n,slots:=sl }/\R (.ok (.ret (VY s.heap.objs.size))) { s with heap:=s.heap.push { cls:=VV "tuple",data:=Data.seq (WR (λx1 x2=>x1++x2) #[] (Rx k.toNat items)) },toks:=s.toks }):=
 .of_wp λprog w A R s h=>by obtain⟨hp,g,d,tk,os⟩:=s;obtain⟨hl,h⟩:=h;have f1:=Ww;have f2:=VL;wp_walk;refine WA (Ys (Wd.mp h1)) ?_;wp_walk using SP hl;refine WA (Ys hc2) ?_;wp_walk using SP hl;exact⟨_,rfl,h⟩
theorem vF(h:n<=Ru):¬Tuple.tupleTooMany (n:Int)=true:=by
 unfold Tuple.tupleTooMany;intro hc;have:=Yw hc;have e:=TB;omega
theorem uM(cs:List Nat):∀(n:Nat) (acc:Array Nat),(Rx n cs.toArray).foldl (·++·) acc=acc++(Rx n cs).flatten.toArray
 |0,acc=>by simp
 |n+1,acc=>by
  rw[U5,UI,uM cs n,U5,UU];apply Array.toList_inj.mp;simp
theorem Ak(h:0<=k):Txt.mul ⟨cs.toArray⟩ k=⟨(fG cs k.toNat).toArray⟩:=by
 unfold Txt.mul fG;by_cases h1:k<1
 ·have:k=0:=by omega
  subst this;rw[Yq h1];rfl
 ·rw[Yr h1]
  by_cases h2:(k==1 || (⟨cs.toArray⟩:Str).length==0)=true
  ·rw[Yq h2]
   rcases U2 _ _▸h2 with h3|h3
   ·have:k=1:=eq_of_beq h3
    subst this;simp
   ·have hl:cs.toArray.size=0:=eq_of_beq h3
    have:cs=[]:=by simpa using hl
    subst this;simp
  ·rw[Yr h2,uM]
   simp
theorem mul_fits{cs:List Nat}(h:0<=k/\k<=64)(hl:cs.length<=1000):MulOk ⟨cs.toArray⟩ k:=by
 have e:(⟨cs.toArray⟩:Str).length=cs.length:=by show cs.toArray.size=_;simp
 have hk:k.toNat<=64:=by omega
 have hm:=Nat.mul_le_mul hl hk;refine⟨?_,λh1 _=>?_,λh1 _=>?_⟩
 ·have a:¬k < -(2^63:Int):=by omega
  have b:¬k ≥ (2^63:Int):=by omega
  simp only[a,b,decide_false,Bool.or_self]
 ·rw[e]
  have:(1000:Int)<=(2^63-1) / k:=(Int.le_ediv_iff_mul_le (by omega)).mpr (by omega);omega
 ·rw[e]
  unfold Builtin.Str.tooLong;have:=lN;unfold lim at this;exact Ys (by omega)
theorem uV{n:Nat}(h:n<=Ru):UZ n=false:=by
 unfold UZ;exact Ys (by omega)
theorem foldl_rep(its:List R3):∀(k:Nat) (acc:List R3),
  WR (λx1 x2=>x1++x2) acc.toArray (Rx k its.toArray)=(acc++(Rx k its).flatten).toArray
 |0,acc=>by simp
 |k+1,acc=>by
  have e:acc.toArray++its.toArray=(acc++its).toArray:=by simp
  have e2:(acc++its)++(Rx k its).flatten=acc++(Rx (k+1) its).flatten:=by
   rw[U5,UU,Rg]
  rw[<-e2,<-foldl_rep its k (acc++its),<-e,U5,UI]
theorem E3{t b:RB}{vs ws:List R3}{Q:R3->R9->Prop}(ht:Yg s.heap t vs.toArray)(hb:Yg s.heap b ws.toArray)(hv:vs≠[])(h1:ws=[]->Q (.ref t) s)(h2:ws≠[]->Q (.ref s.heap.objs.size) { s with heap:=s.heap.push { cls:=.type "tuple",data:=.seq (vs++ws).toArray } })(hsz:vs.length+ws.length<=Ru):RJ (Rn prog w) A (Wx .Add (.ref t) (.ref b)) Q E s:=by
 obtain⟨⟨cls,dd,data,sl⟩,ho,hc,n,hd⟩:=id ht;obtain⟨⟨cls2,dd2,data2,sl2⟩,ho2,hc2,n2,hd2⟩:=id hb;simp only at hc hd hc2 hd2;subst hc hd hc2 hd2;have e:vs.toArray++ws.toArray=(vs++ws).toArray:=by simp
 by_cases hw:ws=[]
 ·exact Xy ⟨_,ho,rfl⟩ ⟨_,ho2,rfl⟩ Wy Xd Vn Vd (VM _ _)
   (tuple_addW1 t b vs.toArray ws.toArray n n2 dd dd2 sl sl2 (by simpa using hv) (by simp[hw])) ⟨ho,ho2,h1 hw⟩
 ·refine Xy ⟨_,ho,rfl⟩ ⟨_,ho2,rfl⟩ Wy Xd Vn Vd (VM _ _)
   (tuple_addW2 t b vs.toArray ws.toArray n n2 dd dd2 sl sl2 (by simpa using hv) (by simpa using hw) (by rw[SE,SE];exact hsz)) ⟨ho,ho2,?_⟩
  rw[e];exact h2 hw
def Er(i j:Int):Prop:=(-(2^64)<i/\i<2^64)∨(-(2^64)<j/\j<2^64)
theorem Er.ok{i j:Int}(h:Er i j):Yi i j:=by
 rcases h with⟨h1,h2⟩|⟨h1,h2⟩
 ·exact .of_left (intBits_le_64 h1 h2)
 ·exact .of_right (intBits_le_64 h1 h2)
theorem Gw(a b:List Nat):(⟨a.toArray⟩:Str)++⟨b.toArray⟩=⟨(a++b).toArray⟩:=by
 show(⟨a.toArray++b.toArray⟩:Str)=_;simp
theorem fO(a:List Nat):(⟨a.toArray⟩:Str).length=a.length:=by simp[Str.length]
theorem Eg(c:i.natAbs<u8)(a:j.natAbs<u8):Yi i j:=by
 have b:∀{k:Int},k.natAbs<u8->Builtin.Int.intBits k<=2000:=λ{k} h=>intBits_le (by
  have e:u8=2^(250*8):=by unfold u8;rw[<-Nat.pow_mul]
  rw[e]at h;exact h)
 exact mulOk_of_bits (b c) (b a) (by decide)
theorem qN(h:small i=true):-(2^64)<i/\i<2^64:=by
 have a:=Yw h;omega
theorem AC(h:hY i j=true):Yi i j:=by
 unfold hY at h;simp only[U2,RK,decide_eq_true_eq]at h;rcases h with(h|h)|⟨b,a⟩
 ·exact Er.ok (.inl (qN h))
 ·exact Er.ok (.inr (qN h))
 ·exact Eg b a
theorem yA{x y t:T}(e:zf f x y=Zz t):∃i j,x=.int i/\y=.int j/\f i j=Zz t:=by
 cases x with
 |int i=>cases y with
  |int j=>exact⟨i,j,rfl,rfl,e⟩
  |_=>cases e
 |_=>cases e
end
section
variable{prog:S9}{w:SY}{A:SV}{E:R3->R9->Prop}{s:R9}{t a b:RB}
theorem DB{E:R3->R9->Prop}{ws:List R3}(q:Yg s.heap t ([]:List R3).toArray)(r:Yg s.heap b ws.toArray)(h:Q (.ref b) s):RJ (Rn prog w) A (Wx .Add (.ref t) (.ref b)) Q E s:=by
 obtain⟨⟨v,u,l,o⟩,i,k,n,j⟩:=id q;obtain⟨⟨m,f,g,e⟩,a,d,p,c⟩:=id r;simp only at k j d c;subst k j d c;exact Xy ⟨_,i,rfl⟩ ⟨_,a,rfl⟩ Wy Xd Vn Vd (VM _ _)
  (tuple_addW0 t b ([]:List R3).toArray ws.toArray n p u f o e (by simp)) ⟨i,a,h⟩
end
section
variable{X:Cx}{D:Dm}{env:Mi.Env}{cm cm':List RB}{m m':Mem}{s s':R9}{w u:W}{v z:R3}{ch:List RB}{α β:Type}{r:Res α}{J:VK}{k k':α->List RB->Mem->R9->Prop}{h g:SA}{t:T}{l:List T}{y:List R3}{a:RB}{Q:VK}{n:Nat}{d:Yp}{i:Nat}
variable{call:Nat->List W->Mem->Res W}{gv:List T}{e f c:SL}{es:List SL}{E A B C:Mi.E}{L:Es}{pos p:Pos}
theorem lA{f:T->T->Option T}{k:W->List RB->Mem->R9->Prop}(h:ap X ch cm m s (eO ((view w m).bind λx=>(view u m).bind λy=>f x y) m') J k):∃x y t,view w m=Zz x/\view u m=Zz y/\f x y=Zz t/\ap X ch cm m s (.ok (.t t) m') J k:=by
 obtain⟨t,e,h⟩:=dE h;obtain⟨x,e1,e⟩:=RF.mp e;obtain⟨y,e2,e⟩:=RF.mp e;exact⟨x,y,t,e1,e2,e,h⟩
theorem Al.app{α β:Type}{R:α->β->Prop}{l l':List α}{x x':List β}(q:Al R l x)(q':Al R l' x'):Al R (l++l') (x++x'):=by
 refine⟨by rw[RI,RI,q.1,q'.1],λi t v a b=>?_⟩;by_cases h:i<l.length
 ·rw[S7 h]at a
  rw[S7 (q.1▸h)]at b;exact q.2 i t v a b
 ·rw[S4 (by omega)]at a
  rw[S4 (by have:=q.1;omega),<-q.1]at b;exact q'.2 _ t v a b
theorem Al.rep{α β:Type}{R:α->β->Prop}{l:List α}{x:List β}(q:Al R l x):∀n,Al R (fG l n) (fG x n)
 |0=>.nil
 |n+1=>by
  unfold fG;rw[U5,U5,UU,UU];exact q.app (q.rep n)
theorem sQ{α:Type}(x:List α)(n:Nat):(fG x n).length=x.length*n:=by
 unfold fG;rw[List.length_flatten,List.map_replicate,List.sum_replicate_nat,Nat.mul_comm]
theorem push{h:SA}{o:Obj}:∀b p,h.get? b=Zz p->(h.push o).get? b=Zz p:=λ_ _ e=>R7 _ e
theorem AE(x y:Array R3):(x.toList++y.toList).toArray=x++y:=by rw[<-SR,Array.toArray_toList]
theorem GL(I:Fr X env cm m s)(r1:RW X.D cm m s.heap w v)(r2:RW X.D cm m s.heap u z)(h:ap X X.tb cm m s (eO ((view w m).bind λx=>(view u m).bind λy=>wF x y) m) J (WK X Q)):RJ X.M X.A (Wx .Add v z) Q J s:=by
 obtain⟨x,y,t,e1,e2,e,h⟩:=lA h;have hz:=line;unfold wF at e;split at e
 ·cases e
  obtain⟨_,rfl⟩:=(al r1 e1).fe;obtain⟨_,rfl⟩:=(al r2 e2).fe;exact add_int (I.val h (.int _ _))
 ·split at e<;>cases e
  rename_i a b hl;obtain⟨_,rfl⟩:=(al r1 e1).j8;obtain⟨_,rfl⟩:=(al r2 e2).j8;exact add_str (λt' tk=>I.val h (by rw[Gw];exact .str _ _)) (by rw[fO,fO];omega)
 ·split at e<;>cases e
  obtain⟨a,⟨x⟩,rfl,p1,q1⟩:=(al r1 e1).iN;obtain⟨b,⟨y⟩,rfl,p2,q2⟩:=(al r2 e2).iN;have l1:=q1.1;have l2:=q2.1;by_cases hx:x=[]
  ·subst hx
   obtain rfl:=RR.mp l1;exact DB p1.tup p2.tup (I.val' h (.tup p2 (al r2 e2).tf q2.1 q2.2))
  ·refine E3 p1.tup p2.tup hx (λz=>?_) (λ_=>I.tup h (q1.app q2) push (.new rfl rfl rfl rfl (by simp at l1 l2 ⊢;omega))) (by simp at l1 l2;omega)
   subst z;obtain rfl:=RR.mp l2;rw[SZ]at h;exact I.val' h (.tup p1 (al r1 e1).tf q1.1 q1.2)
 ·split at e<;>cases e
  obtain⟨a,x,rfl,p1,q1⟩:=aE I.mem r1 e1;obtain⟨b,y,rfl,p2,q2⟩:=aE I.mem r2 e2;have l1:=q1.1;have l2:=q2.1;obtain⟨⟨_,e1⟩,_⟩:=id p1;obtain⟨⟨_,e2⟩,_⟩:=id p2;have z:x.size+y.size<=Ru:=by simp at l1 l2;omega
  exact PySem.P.add_list e1 e2 (I.lst (y:=x.toList++y.toList) h (q1.app q2) push (hG _) (by rw[AE];exact .new I (by simpa using z))) z
 all_goals cases e
theorem Ds{f:Int->Int->Option T}{k:W->List RB->Mem->R9->Prop}(r1:RW X.D cm m s.heap w v)(r2:RW X.D cm m s.heap u z)(h:ap X X.tb cm m s (eO ((view w m).bind λx=>(view u m).bind λy=>zf f x y) m) J k):∃i j t a b,v=.int i a/\z=.int j b/\f i j=Zz t/\ap X X.tb cm m s (.ok (.t t) m) J k:=by
 obtain⟨x,y,t,e1,e2,e,h⟩:=lA h;obtain⟨i,j,rfl,rfl,e⟩:=yA e;obtain⟨a,rfl⟩:=(al r1 e1).fe;obtain⟨b,rfl⟩:=(al r2 e2).fe;exact⟨i,j,t,a,b,rfl,rfl,e,h⟩
theorem BJ{l:RB}{x:Array R3}{n:Nat}{k:Int}{t:Tok}(e:s.heap.get? l=Zz { cls:=.type "list",data:=.seq x n })(h1:-(2^63)<=k)(h2:k<2^63)(z:x.size*k.toNat<=Ru)(q:Q (.ref s.heap.objs.size) { s with heap:=s.heap.push { cls:=.type "list",data:=.seq (fG x.toList k.toNat).toArray } }):RJ X.M X.A (Wx .Mult (.ref l) (.int k t)) Q J s:=by
 have hcap:¬x.size*k.toNat>(2^63-1) / 8:=by
  have:(Ru:Nat)<=(2^63-1) / 8:=by decide
  omega
 have hfit:¬(!Builtin.List.listFitsIndex k)=true:=by
  rw[XR h1 h2];exact RL
 have hlong:¬UZ (x.size*k.toNat)=true:=by
  rw[uV z];exact RL
 have hnew:WR (λx1 x2=>x1++x2) #[] (Rx (if x.isEmpty=true then 0 else k.toNat) x)=(fG x.toList k.toNat).toArray:=by
  have f0:∀m:Nat,WR (λx1 x2=>x1++x2) #[] (Rx m x)=(fG x.toList m).toArray:=λm=>by
   have:=foldl_rep x.toList m [];rw[Sz]at this;simpa[fG]using this
  rw[f0];by_cases hx:x.isEmpty=true
  ·rw[Yq hx]
   have:x=#[]:=by simpa using hx
   subst this;simp[fG]
  ·rw[Yr hx]
 refine wpAny_binaryOp_repeat_ref (T:="list") (U:="int") (by decide) ⟨_,e,rfl⟩ (λs'=>Xm s' k t) noFill_list_mul F.fills_int_mul WB repeat_list F.slot_int_index.lookup
  (Tl WB (Xm s k t) F.entry_int_rmul (F.args_int_rmul_2 _ _) (int___rmul___int_list k t l x n)
   ⟨e,rfl,⟨_,e,rfl⟩,Tl F.slot_list_mul ⟨_,e,rfl⟩ F.entry_list_mul (F.args_list_mul_2 _ _) (AutoListH.list___mul___list_int_3 l x n k t hfit hcap hlong) ⟨e,?_⟩⟩)
 rw[hnew];exact q
theorem DX{l:RB}{x:Array R3}{k:Int}{t:Tok}(p:mG "tuple" s.heap l x)(h1:-(2^63)<=k)(h2:k<2^63)(z:x.size*k.toNat<=Ru)(q1:x.size=0∨k=1->Q (.ref l) s)(q:Q (.ref s.heap.objs.size) { s with heap:=s.heap.push { cls:=.type "tuple",data:=.seq (fG x.toList k.toNat).toArray } }):RJ X.M X.A (Wx .Mult (.ref l) (.int k t)) Q J s:=by
 obtain⟨⟨cls,dd,data,sl⟩,n,ho,hc,hd,hn,_⟩:=p;simp only at hc hd;subst hc hd;have g1:(decide (k < -(2^63)) || decide (k ≥ 2^63))=false:=by
  rw[Ys (by omega),Ys (by omega)];rfl
 refine wpAny_binaryOp_repeat_ref (by decide) ⟨_,ho,rfl⟩ (λs'=>Xm s' k t) mA F.fills_int_mul WB rX F.slot_int_index.lookup
   (Tl WB (Xm s k t) F.entry_int_rmul (F.args_int_rmul_2 _ _) (wB k t l x n dd sl) ⟨ho,rfl,⟨_,ho,rfl⟩,?_⟩)
 have hf:∀m:Nat,WR (λx1 x2=>x1++x2) #[] (Rx m x)=(fG x.toList m).toArray:=λm=>by
  have:=foldl_rep x.toList m [];rw[Sz]at this;simpa[fG]using this
 by_cases hc:x.isEmpty=true∨k=1
 ·exact Tl Wz ⟨_,ho,rfl⟩ We (WS _ _) (Ih l x n dd sl k t g1 (by simpa using hc)) ⟨ho,q1 (hc.imp (λh=>by simpa using h) id)⟩
 ·have g2:¬(x.isEmpty || k==1)=true:=by simpa using hc
  by_cases h0:k<=0
  ·refine Tl Wz ⟨_,ho,rfl⟩ We (WS _ _) (HC l x n dd sl k t g1 g2 (by simp[h0])) ⟨ho,?_⟩
   rw[show k.toNat=0 by omega]at q;exact q
  ·have hk:(k.toNat:Int)=k:=by omega
   have hs:(x.size:Int)*k=((x.size*k.toNat:Nat):Int):=by rw[Int.natCast_mul,hk]
   have hsl:=TB;refine Tl Wz ⟨_,ho,rfl⟩ We (WS _ _) (Ig l x n dd sl k t g1 g2 (by simp only[not_or]at hc;simp[h0];simpa using hc.1) (by rw[hs];omega) (by rw[hs];exact vF z) ?_) ⟨ho,by rw[hf];exact q⟩;rw[hf,SE,sQ];simpa using z
theorem FM(I:Fr X env cm m s)(r1:RW X.D cm m s.heap w v)(r2:RW X.D cm m s.heap u z)(h:ap X X.tb cm m s (eO ((view w m).bind λx=>(view u m).bind λy=>Gs x y) m) J (WK X Q)):RJ X.M X.A (Wx .Mult v z) Q J s:=by
 obtain⟨x,y,t,e1,e2,e,h⟩:=lA h;have hz:=line;have hl:(lim:Int)<2^63:=by unfold lim;decide
 unfold Gs at e;split at e
 rotate_left
 ·cases e
 rename_i k;obtain⟨_,rfl⟩:=(al r2 e2).fe;split at e
 ·split at e<;>cases e
  obtain⟨_,rfl⟩:=(al r1 e1).fe;exact mul_int (I.val h (.int _ _)) (AC ‹_›)
 ·split at e<;>cases e
  rename_i l hc;obtain⟨a,x,rfl,p,q⟩:=(al r1 e1).iN;have l1:=q.1;refine DX p (by omega) (by omega) (by simp at l1;rw[<-l1];omega) (λhq=>?_) (I.tup h (q.rep _) push (.new rfl rfl rfl rfl (by rw[SE,sQ,<-l1];omega)));have e:fG l k.toNat=l:=by
   rcases hq with hq|rfl
   ·obtain rfl:l=[]:=RR.mp (by simp at l1;omega)
    simp[fG]
   ·simp[fG]
  rw[e]at h;exact I.val' h (.tup p (al r1 e1).tf q.1 q.2)
 ·split at e<;>cases e
  rename_i hc;obtain⟨a,x,rfl,p,q⟩:=aE I.mem r1 e1;obtain⟨⟨_,e1⟩,_⟩:=id p;have l1:=q.1;exact BJ e1 (by omega) (by omega) (by simp at l1;rw[<-l1];omega) (I.lst h (q.rep _) push (hG _) (.new I (by rw[SE,sQ,<-l1];omega)))
 ·split at e<;>cases e
  rename_i hc;obtain⟨_,rfl⟩:=(al r1 e1).j8;refine SB.mul (mul_fits hc.1 hc.2) λt' k'=>I.val h ?_
  rw[Ak hc.1.1];exact .str _ _
 all_goals cases e
theorem FG(op:YM)(I:Fr X env cm m s)(r1:RW X.D cm m s.heap w v)(r2:RW X.D cm m s.heap u z)(h:ap X X.tb cm m s (eO ((view w m).bind λx=>(view u m).bind λy=>lZ op x y) m) J (WK X Q)):RJ X.M X.A (Wx op v z) Q J s:=by
 cases op
 case Add=>exact GL I r1 r2 h
 case Mult=>exact FM I r1 r2 h
 case Sub =>
  obtain⟨i,j,t,a,b,rfl,rfl,e,h⟩:=Ds r1 r2 h;cases e;exact sub_int (I.val h (.int _ _))
 case FloorDiv =>
  obtain⟨i,j,t,a,b,rfl,rfl,e,h⟩:=Ds r1 r2 h;split at e<;>cases e;exact floordiv_int (by omega) (by rw[Int.fdiv_eq_ediv_of_nonneg i (by omega)];exact I.val h (.int _ _)) (.inl (PyProof.noPylong_small (by omega)))
 case Mod =>
  obtain⟨i,j,t,a,b,rfl,rfl,e,h⟩:=Ds r1 r2 h;split at e<;>cases e;exact mod_int' (by omega) (by rw[Int.fmod_eq_emod_of_nonneg i (by omega)];exact I.val h (.int _ _))
 case Pow =>
  obtain⟨i,j,t,a,b,rfl,rfl,e,h⟩:=Ds r1 r2 h;by_cases c:0<=j/\j<=1000/\i.natAbs<2^64
  ·rw[Yq c]at e
   cases e;exact pow_int_small c.1 (by omega) c.2.2 (I.val h (.int _ _))
  ·rw[Yr c]at e;cases e
 all_goals (obtain⟨x,y,t,_,_,e,_⟩:=lA h;cases(show Zy=Zz t from e))
theorem Ee{op:YM}(ha:PE call gv X e A)(hb:PE call gv X f B):PE call gv X (.BinOp e op f pos) (.bin op A B):=λ_ _ _ _ I Q J h=>by
 rw[ev]at h;exact wpAny_BinOp (ha.two hb I h λw u v z c1 m1 s1 I x r1 r2 h=>FG op I r1 r2 h)
end
end Mi
namespace Mi
open PySem PySem.Spec
open PyProof.Rows
mutual
noncomputable def pyT:T->PyData
 |.bl b=>.bool b
 |.int i=>.int i
 |.str cs=>.str ⟨cs.toArray⟩
 |.tup ts=>.tuple (fL ts)
 |.lst ts=>.list (fL ts)
 |_=>.none
noncomputable def fL:List T->List PyData
 |[]=>[]
 |t::ts=>pyT t::fL ts
end
mutual
theorem p9:∀(n:Nat) (t:T),ak n t=true->Ug (pyT t)=true/\VD (pyT t)<=n
 |n,.non,h=>⟨by simp[pyT,Ug],by simp[pyT,VD]⟩
 |n,.bl b,h=>⟨by rw[pyT];simp[Ug],by rw[pyT];simp[VD]⟩
 |n,.int i,h=>⟨by rw[pyT];simp[Ug],by rw[pyT];simp[VD]⟩
 |n,.str c,h=>⟨by rw[pyT,Ug];rw[ak]at h;exact h,by rw[pyT];simp[VD]⟩
 |0,.tup a,h=>by simp[ak]at h
 |0,.lst a,h=>by simp[ak]at h
 |n+1,.tup a,h=>by
  rw[ak]at h;have:=sX n a h;exact⟨by rw[pyT,Ug];exact this.1,by rw[pyT];simp only[VD];omega⟩
 |n+1,.lst a,h=>by
  rw[ak]at h;have:=sX n a h;exact⟨by rw[pyT,Ug];exact this.1,by rw[pyT];simp only[VD];omega⟩
 |n,.dct _ _,h=>by cases n<;>simp[ak]at h
 |n,.du _,h=>by cases n<;>simp[ak]at h
theorem sX:∀(n:Nat) (ts:List T),ay n ts=true->Wf (fL ts)=true/\XF (fL ts)<=n
 |n,[],h=>⟨by rw[fL];simp[Wf],by rw[fL];simp[XF]⟩
 |n,t::ts,h=>by
  rw[ay,RK]at h;have b:=p9 n t h.1;have a:=sX n ts h.2;refine⟨by rw[fL,Wf,b.1,a.1];rfl,?_⟩;rw[fL,XF];omega
end
theorem DK{a b:List Nat}:(⟨a.toArray⟩:Str)=⟨b.toArray⟩↔a=b:=by
 constructor
 ·intro h
  injection h with h;simpa using h
 ·intro h;rw[h]
theorem str_beq{a b:List Nat}:((⟨a.toArray⟩:Str)==⟨b.toArray⟩)=(a==b):=by
 by_cases h:a=b
 ·subst h;simp
 ·rw[Yu.mpr h,Yu.mpr λz=>h (DK.mp z)]
mutual
theorem vQ:∀(n k:Nat) (x y:T),ak n x=true->ak k y=true->Sq (pyT x) (pyT y)=eqT x y
 |n,k,.tup a,.tup ys,h1,c=>by
  cases n with
  |zero=>simp[ak]at h1
  |succ n=>cases k with
   |zero=>simp[ak]at c
   |succ k =>
    rw[ak]at h1 c;rw[pyT,pyT,Sq,eqT];exact sv n k a ys h1 c
 |n,k,.lst a,.lst ys,h1,c=>by
  cases n with
  |zero=>simp[ak]at h1
  |succ n=>cases k with
   |zero=>simp[ak]at c
   |succ k =>
    rw[ak]at h1 c;rw[pyT,pyT,Sq,eqT];exact sv n k a ys h1 c
 |n,k,.str a,.str ys,_,_=>by rw[pyT,pyT,Sq,eqT];exact str_beq
 |n,k,.non,y,_,c=>by cases y<;>first|(simp[pyT,Sq,eqT];done)|(cases k<;>simp[ak]at c)
 |n,k,.bl b,y,_,c=>by cases y<;>first|(simp[pyT,Sq,eqT,b2i];done)|(cases k<;>simp[ak]at c)
 |n,k,.int b,y,_,c=>by cases y<;>first|(simp[pyT,Sq,eqT,b2i];done)|(cases k<;>simp[ak]at c)
 |n,k,.str a,.non,_,_=>by simp[pyT,Sq,eqT]
 |n,k,.str a,.bl _,_,_=>by simp[pyT,Sq,eqT]
 |n,k,.str a,.int _,_,_=>by simp[pyT,Sq,eqT]
 |n,k,.str a,.tup _,_,_=>by simp[pyT,Sq,eqT]
 |n,k,.str a,.lst _,_,_=>by simp[pyT,Sq,eqT]
 |n,k,.tup a,.non,_,_=>by simp[pyT,Sq,eqT]
 |n,k,.tup a,.bl _,_,_=>by simp[pyT,Sq,eqT]
 |n,k,.tup a,.int _,_,_=>by simp[pyT,Sq,eqT]
 |n,k,.tup a,.str _,_,_=>by simp[pyT,Sq,eqT]
 |n,k,.tup a,.lst _,_,_=>by simp[pyT,Sq,eqT]
 |n,k,.lst a,.non,_,_=>by simp[pyT,Sq,eqT]
 |n,k,.lst a,.bl _,_,_=>by simp[pyT,Sq,eqT]
 |n,k,.lst a,.int _,_,_=>by simp[pyT,Sq,eqT]
 |n,k,.lst a,.str _,_,_=>by simp[pyT,Sq,eqT]
 |n,k,.lst a,.tup _,_,_=>by simp[pyT,Sq,eqT]
 |n,k,x,.dct _ _,_,c=>by cases k<;>simp[ak]at c
 |n,k,x,.du _,_,c=>by cases k<;>simp[ak]at c
 |n,k,.dct _ _,y,h1,_=>by cases n<;>simp[ak]at h1
 |n,k,.du _,y,h1,_=>by cases n<;>simp[ak]at h1
theorem sv:∀(n k:Nat) (xs ys:List T),ay n xs=true->ay k ys=true->W5 (fL xs) (fL ys)=nr xs ys
 |n,k,[],[],_,_=>by rw[fL,W5,nr]
 |n,k,[],_::_,_,_=>by rw[fL,fL,W5,nr]<;>simp
 |n,k,_::_,[],_,_=>by rw[fL,fL,W5,nr]<;>simp
 |n,k,x::xs,y::ys,b,a=>by
  rw[ay,RK]at b a;rw[fL,fL,W5,nr,vQ n k x y b.1 a.1,sv n k xs ys b.2 a.2]
end
theorem su:∀a b:List Nat,gx a b=decide (a<b)
 |[],[]=>by simp[gx]
 |[],_::_=>by simp[gx]
 |_::_,[]=>by simp[gx]
 |a::x,b::y=>by
  unfold gx;rw[su x y];by_cases h:a<b
  ·rw[Yq h]
   exact(Yt (List.cons_lt_cons_iff.mpr (.inl h))).symm
  ·rw[Yr h]
   by_cases h2:b<a
   ·rw[Yq h2]
    refine(Ys λz=>?_).symm;rcases List.cons_lt_cons_iff.mp z with z|⟨z,_⟩<;>omega
   ·rw[Yr h2]
    have e:a=b:=by omega
    subst e;simp
theorem GP(b:List Nat)(a:Nat):(!(Vc ⟨b.toArray⟩ ⟨#[a]⟩ 0 (⟨b.toArray⟩:Str).length 1).isEmpty)=decide (a∈b):=by
 have:=PySem.StrLaws.found_one (⟨b.toArray⟩:Str) a;simpa using this
theorem k6(h:ay n ts=true):∀x∈ts,ak n x=true:=by
 induction ts with
 |nil=>intro x hx;cases hx
 |cons y l ih =>
  intro x hx;rw[ay,RK]at h;rcases R5.mp hx with rfl|hx
  ·exact h.1
  ·exact ih h.2 x hx
section
variable{X:Cx}{D:Dm}{env:Mi.Env}{cm cm':List RB}{m m':Mem}{s s':R9}{w u:W}{v z:R3}{ch:List RB}{J:VK}{h:SA}{t x y:T}{l:List T}{a:RB}{Q:VK}{n:Nat}{i:Nat}{c:Bool}
theorem iZ:∀{l:List T}{y:List R3},l.length=y.length->(∀(i:Nat) t v,l[i]?=Zz t->y[i]?=Zz v->∃as,Reads h v (pyT t) as)->∃as,ReadsAll h y (fL l) as
 |[],[],_,_=>⟨_,by rw[fL];exact .nil⟩
 |t::l,v::y,q,f=>by
  obtain⟨as,h1⟩:=f 0 t v rfl rfl;obtain⟨bs,h2⟩:=iZ (Xx q) λi t v a b=>f (i+1) t v a b
  exact⟨_,by rw[fL];exact .cons h1 h2⟩
theorem RT.reads(r:RT D cm m h t v):∀{n:Nat},ak n t=true->∃as,Reads h v (pyT t) as:=by
 induction r with
 |non=>intro _ _;exact⟨_,by simp only[pyT];exact .none⟩
 |bl b=>intro _ _;exact⟨_,by rw[pyT];exact .bool b⟩
 |int i t=>intro _ _;exact⟨_,by rw[pyT];exact .int i t⟩
 |str x t=>intro _ _;exact⟨_,by rw[pyT];exact .str _ t⟩
 |tup p _ q _ ih =>
  intro n d;cases n with
  |zero=>simp[ak]at d
  |succ n =>
   rw[ak]at d;obtain⟨o,k,e,c,e2,_⟩:=p;obtain⟨as,hr⟩:=iZ q λi t v a b=>ih i t v a b (k6 d t (SS a))
   exact⟨_,by rw[pyT];exact .tuple e c e2 hr⟩
 |lst p _ q _ ih =>
  intro n d;cases n with
  |zero=>simp[ak]at d
  |succ n =>
   rw[ak]at d;obtain⟨⟨k,e⟩,_⟩:=p;obtain⟨as,hr⟩:=iZ q λi t v a b=>ih i t v a b (k6 d t (SS a))
   exact⟨_,by rw[pyT];exact .list e rfl rfl hr⟩
 |dct _ _ _ _ _ _=>intro n d;cases n<;>simp[ak]at d
 |du _ _ _ _=>intro n d;cases n<;>simp[ak]at d
theorem jW(M:be X cm m h)(r:RW X.D cm m h w v)(e:view w m=Zz t)(d:ak n t=true):∃as,Reads h v (pyT t) as:=by
 cases t with
 |lst l =>
  cases n with
  |zero=>simp[ak]at d
  |succ n =>
   rw[ak]at d;obtain⟨a,x,rfl,⟨⟨k,e⟩,_⟩,q⟩:=aE M r e;obtain⟨as,hr⟩:=iZ q.1 λi t v a b=>(q.2 i t v a b).reads (k6 d t (SS a))
   exact⟨_,by rw[pyT];exact .list e rfl rfl hr⟩
 |_=>exact(al r e).reads d
theorem Eb{f:T->T->Option Bool}(I:Fr X env cm m s)(h:ap X X.tb cm m s (eO (((view w m).bind λx=>(view u m).bind λy=>f x y).map .bl) m) J (WK X Q)):∃x y c,view w m=Zz x/\view u m=Zz y/\f x y=Zz c/\Q (.bool c) s:=by
 obtain⟨t,e,h⟩:=dE h;obtain⟨c,q,rfl⟩:=RY.mp e;obtain⟨x,e1,q⟩:=RF.mp q;obtain⟨y,e2,q⟩:=RF.mp q;exact⟨x,y,c,e1,e2,q,h.now I.mem _ (.bl c)⟩
theorem E8(hu:X.A.units+64<cLine)(M:be X cm m s.heap)(r1:RW X.D cm m s.heap w v)(r2:RW X.D cm m s.heap u z)(e1:view w m=Zz x)(e2:view u m=Zz y)(hc:(oZ x y || (ak 60 x&&ak 60 y))=true):
  (Q (.bool (eqT x y)) s->RJ X.M X.A (Vx .Eq v z) Q J s)/\(Q (.bool (!eqT x y)) s->RJ X.M X.A (Vx .NotEq v z) Q J s):=by
 rcases U2 _ _▸hc with d|d
 ·have r1:=al r1 e1 λl z=>by subst z;cases y<;>cases d
  have r2:=al r2 e2 λl z=>by subst z;cases x<;>cases d
  cases r1<;>cases r2<;>first
   |(cases d;done)
   |(constructor<;>intro h<;>simp only[eqT,<-str_beq]at h<;>(first|with_reducible apply eq_int|with_reducible apply ne_int|with_reducible apply eq_str|with_reducible apply ne_str|with_reducible apply eq_bool|with_reducible apply ne_bool|with_reducible apply PySem.EqNone.eq_none_none|with_reducible apply PySem.EqNone.eq_none_bool|with_reducible apply PySem.EqNone.eq_none_int|with_reducible apply PySem.EqNone.eq_none_str|with_reducible apply PySem.EqNone.eq_bool_none|with_reducible apply PySem.EqNone.eq_int_none|with_reducible apply PySem.EqNone.eq_str_none|with_reducible apply PySem.EqNone.ne_none_none|with_reducible apply PySem.EqNone.ne_none_bool|with_reducible apply PySem.EqNone.ne_none_int|with_reducible apply PySem.EqNone.ne_none_str|with_reducible apply PySem.EqNone.ne_bool_none|with_reducible apply PySem.EqNone.ne_int_none|with_reducible apply PySem.EqNone.ne_str_none|with_reducible apply PySem.EqMixed.eq_bool_str|with_reducible apply PySem.EqMixed.eq_str_bool|with_reducible apply PySem.EqMixed.eq_int_str|with_reducible apply PySem.EqMixed.eq_str_int|with_reducible apply PySem.EqMixed.ne_bool_str|with_reducible apply PySem.EqMixed.ne_str_bool|with_reducible apply PySem.EqMixed.ne_int_str|with_reducible apply PySem.EqMixed.ne_str_int)<;>exact h)
 ·rw[RK]at d
  obtain⟨as,h1⟩:=jW M r1 e1 d.1;obtain⟨bs,h2⟩:=jW M r2 e2 d.2;have l1:=p9 60 x d.1;have l2:=p9 60 y d.2;rw[<-vQ 60 60 x y d.1 d.2];exact⟨SeqAt.compareEq_reads h1 h2 l1.1 l2.1 (by omega),SeqAt.compareNe_reads h1 h2 l1.1 l2.1 (by omega)⟩
theorem H7{A:SV}(hu:A.units+63<cLine)(r1:RT D cm m s.heap t z)(M:be X cm m s.heap)(r2:RW X.D cm m s.heap w v)(e:view w m=Zz x)(hc:flat t=true/\flat x=true∨ak 59 t=true/\ak 59 x=true):Xn A s z v (eqT t x):=by
 rcases hc with⟨f,g⟩|⟨d,e2⟩
 ·have r2:=al r2 e λl z=>by subst z;cases g
  cases r1<;>cases r2<;>first
   |(cases f;done)
   |(cases g;done)
   |(simp only[eqT,b2i];first
    |with_reducible exact SeqAt.EqAt.none_bool _|with_reducible exact SeqAt.EqAt.none_int _ _|with_reducible exact SeqAt.EqAt.none_str _ _|with_reducible exact SeqAt.EqAt.bool_none _|with_reducible exact SeqAt.EqAt.bool_bool _ _|with_reducible exact SeqAt.EqAt.bool_int _ _ _|with_reducible exact SeqAt.EqAt.bool_str _ _ _|with_reducible exact SeqAt.EqAt.int_none _ _|with_reducible exact SeqAt.EqAt.int_bool _ _ _|with_reducible exact SeqAt.EqAt.int_int _ _ _ _|with_reducible exact SeqAt.EqAt.int_str _ _ _ _|with_reducible exact SeqAt.EqAt.str_none _ _|with_reducible exact SeqAt.EqAt.str_bool _ _ _|with_reducible exact SeqAt.EqAt.str_int _ _ _ _|(rw[<-str_beq];with_reducible exact SeqAt.EqAt.str_str _ _ _ _)|exact SeqAt.EqAt.same _)
 ·obtain⟨bs,h2⟩:=jW M r2 e e2
  obtain⟨as,h1⟩:=r1.reads d;have l1:=p9 59 t d;have l2:=p9 59 x e2;rw[<-vQ 59 59 t x d e2];exact SeqAt.eqAt_reads _ _ A s z v as bs h1 h2 l1.1 l2.1 (by omega)
theorem Ag(e:uW x y=Zz c):∃l,(y=.tup l∨y=.lst l)/\(∀t∈l,flat t=true/\flat x=true∨ak 59 t=true/\ak 59 x=true)/\c=l.any λt=>eqT t x:=by
 have k:∀{l:List T},(if flat x&&l.all flat then Zz (l.any λt=>eqT t x)else if ak 59 x&&ay 59 l then Zz (l.any λt=>eqT t x)else Zy)=Zz c->(∀t∈l,flat t=true/\flat x=true∨ak 59 t=true/\ak 59 x=true)/\c=l.any λt=>eqT t x:=λ{l} e=>by
  split at e
  ·cases e
   rename_i h;rw[RK,SX]at h;exact⟨λt z=>.inl ⟨h.2 t z,h.1⟩,rfl⟩
  ·split at e<;>cases e
   rename_i h;rw[RK]at h;exact⟨λt z=>.inr ⟨k6 h.2 t z,h.1⟩,rfl⟩
 unfold uW at e;split at e
 ·exact⟨_,.inl rfl,k e⟩
 ·exact⟨_,.inr rfl,k e⟩
 ·cases e
theorem Dy(e:G9 x y=Zz c):(∃a b,x=.str a/\y=.str b/\c=!(Vc ⟨b.toArray⟩ ⟨a.toArray⟩ 0 (⟨b.toArray⟩:Str).length 1).isEmpty)∨uW x y=Zz c:=by
 unfold G9 at e;split at e
 ·split at e
  ·cases e;exact .inl ⟨_,_,rfl,rfl,(GP _ _).symm⟩
  ·exact .inr e
 ·split at e
  ·cases e;exact .inl ⟨_,_,rfl,rfl,rfl⟩
  ·exact .inr e
 ·exact .inr e
theorem FN{A:SV}{f:T->Bool}{y:Array R3}(q:l.length=y.toList.length)(k:∀(i:Nat) t z,l[i]?=Zz t->y.toList[i]?=Zz z->Xn A s z v (f t)):∃e:R3->Bool,(∀z,z∈y->Xn A s z v (e z))/\y.any e=l.any f:=by
 classical
 obtain⟨y⟩:=y;refine⟨λz=>decide (∃(i:Nat) (t:T),l[i]?=Zz t/\y[i]?=Zz z/\f t=true),λz hz=>?_,?_⟩
 ·by_cases q':∃(i:Nat) (t:T),l[i]?=Zz t/\y[i]?=Zz z/\f t=true
  ·obtain⟨i,t,e1,e2,e3⟩:=id q'
   dsimp only;rw[Yt q',<-e3];exact k i t z e1 e2
  ·obtain⟨i,hi,e2⟩:=Sf (show z∈y by simpa using hz)
   have hi':i<l.length:=by simp at q;omega
   have e2:y[i]?=Zz z:=by rw[<-e2];exact R8 hi
   have e3:f l[i]=false:=by
    cases q2:f l[i]with
    |false=>rfl
    |true=>exact Yv ⟨i,l[i],R8 hi',e2,q2⟩ q'
   dsimp only;rw[Ys q',<-e3];exact k i _ z (R8 hi') e2
 ·rw[XG,List.any_toArray,Vy,Vy]
  constructor
  ·rintro ⟨_,_,q⟩
   obtain⟨i,t,e1,_,e3⟩:=Yw q;exact⟨t,SS e1,e3⟩
  ·rintro ⟨t,ht,e3⟩
   obtain⟨i,hi,e1⟩:=Sf ht;have hi':i<y.length:=by simp at q;omega
   exact⟨y[i],Ti hi',Yt ⟨i,t,by rw[<-e1];exact R8 hi,R8 hi',e3⟩⟩
theorem Fk(hu:X.A.units+64<cLine)(M:be X cm m s.heap)(r1:RW X.D cm m s.heap w v)(r2:RW X.D cm m s.heap u z)(e1:view w m=Zz x)(e2:view u m=Zz y)(e:G9 x y=Zz c):
  (Q (.bool c) s->RJ X.M X.A (Vx .In v z) Q J s)/\(Q (.bool (!c)) s->RJ X.M X.A (Vx .NotIn v z) Q J s):=by
 rcases Dy e with⟨a,b,rfl,rfl,rfl⟩|e
 ·obtain⟨_,rfl⟩:=(al r1 e1).j8
  obtain⟨_,rfl⟩:=(al r2 e2).j8;exact⟨in_str,notIn_str⟩
 ·obtain⟨l,hy,hd,rfl⟩:=Ag e
  have hu1:X.A.in1.units<=X.A.units+1:=by simp[Around.in1]
  have k:∀{y:Array R3},eS X.D cm m s.heap l y.toList->∃e:R3->Bool,(∀z,z∈y->Xn X.A.in1 s z v (e z))/\y.any e=l.any λt=>eqT t x:=λq=>FN q.1 λi t z a b=>H7 (by omega) (q.2 i t z a b) M r1 e1 (hd t (SS a))
  rcases hy with rfl|rfl
  ·obtain⟨a,y,rfl,p,q⟩:=(al r2 e2).iN
   obtain⟨f,h1,h2⟩:=k q;rw[<-h2];exact⟨SeqAt.in_tupleAt f p.tup h1,SeqAt.notIn_tupleAt f p.tup h1⟩
  ·obtain⟨a,y,rfl,p,q⟩:=aE M r2 e2
   obtain⟨f,h1,h2⟩:=k q;rw[<-h2];exact⟨SeqAt.in_listAt f p.pl.isList h1,SeqAt.notIn_listAt f p.pl.isList h1⟩
theorem Fw(M:be X cm m s.heap)(r1:RW X.D cm m s.heap w v)(r2:RW X.D cm m s.heap u z)(e1:view w m=Zz x)(e2:view u m=Zz y)(e:xB x y=Zz c):
  (Q (.bool c) s->RJ X.M X.A (Vx .Is v z) Q J s)/\(Q (.bool (!c)) s->RJ X.M X.A (Vx .IsNot v z) Q J s):=by
 have hp:plainIs v z=true/\(v==z)=c:=by
  unfold xB at e;split at e
  ·cases al r2 e2
   cases e;cases x with
   |lst l=>obtain⟨a,x,rfl,_⟩:=aE M r1 e1;exact⟨rfl,rfl⟩
   |_=>cases al r1 e1<;>exact⟨rfl,rfl⟩
  ·cases al r2 e2
   cases e;cases x with
   |lst l=>obtain⟨a,x,rfl,_⟩:=aE M r1 e1;exact⟨rfl,rfl⟩
   |bl b=>cases al r1 e1;rename_i b' ;cases b<;>cases b'<;>exact⟨rfl,rfl⟩
   |_=>cases al r1 e1<;>exact⟨rfl,rfl⟩
  ·cases e
 rw[<-hp.2];exact⟨wpAny_is_plain hp.1,wpAny_isNot_plain hp.1⟩
theorem GB(op:CmpOp)(hu:X.A.units+64<cLine)(I:Fr X env cm m s)(r1:RW X.D cm m s.heap w v)(r2:RW X.D cm m s.heap u z)(h:ap X X.tb cm m s (eO (((view w m).bind λx=>(view u m).bind λy=>dr op x y).map .bl) m) J (WK X Q)):RJ X.M X.A (Vx op v z) Q J s:=by
 obtain⟨x,y,c,e1,e2,e,g⟩:=Eb I h;clear h;cases op
 case Eq=>obtain⟨hc,e⟩:=RE.mp e;cases e;exact(E8 hu I.mem r1 r2 e1 e2 hc).1 g
 case NotEq=>obtain⟨hc,e⟩:=RE.mp e;cases e;exact(E8 hu I.mem r1 r2 e1 e2 hc).2 g
 case In=>exact(Fk hu I.mem r1 r2 e1 e2 e).1 g
 case NotIn=>obtain⟨c,q,rfl⟩:=RY.mp e;exact(Fk hu I.mem r1 r2 e1 e2 q).2 g
 case Is=>exact(Fw I.mem r1 r2 e1 e2 e).1 g
 case IsNot=>obtain⟨c,q,rfl⟩:=RY.mp e;exact(Fw I.mem r1 r2 e1 e2 q).2 g
 all_goals
  cases x<;>first
   |(cases e;done)
   |(cases y<;>first
    |(cases e;done)
    |(
     cases e;cases al r1 e1;cases al r2 e2;try rw[su]at g
     first|with_reducible apply lt_int|with_reducible apply le_int|with_reducible apply gt_int|with_reducible apply ge_int|with_reducible apply lt_str|with_reducible apply PySem.P.le_str
     exact g))
end
end Mi
namespace Mi
open PySem PySem.Spec PyProof.Rows
section
variable{X:Cx}{D:Dm}{env:Mi.Env}{cm cm':List RB}{m m':Mem}{s s':R9}{w u:W}{v z:R3}{ch:List RB}{J Q:VK}{h:SA}{t x y:T}{l:List T}{a:RB}{n:Nat}{i:Nat}{c:Bool}{B:Bool->R9->Prop}{α β γ:Type}
variable{call:Nat->List W->Mem->Res W}{gv:List T}{e f g:SL}{es:List SL}{E F G:Mi.E}{L:Es}{pos p:Pos}{op op':CmpOp}
abbrev BK(B:Bool->R9->Prop):Bool->List RB->Mem->R9->Prop:=λb _ _ s=>B b s
theorem Al.IF{α β:Type}{R:α->β->Prop}{l:List α}{x:List β}(q:Al R l x):x.isEmpty=l.isEmpty:=by
 have:=q.1;cases l<;>cases x<;>first|rfl|cases this
theorem zo(I:Fr X env cm m s)(r:RW X.D cm m s.heap w v)(h:ap X X.tb cm m s (b8 w m) J (BK B)):RJ X.M X.A (truthy v) B J s:=by
 have hl:=line;have hs:Ru=16777216:=TB;unfold b8 at h;split at h
 rotate_left
 ·exact h.elim
 rename_i t e;obtain⟨ft,h⟩:=km h;have up:∀{k:Nat},B (vt t) { s with toks:=k }:=λ{k}=>h.to (I.up λ_ _ e=>e).1 (I.up (ch:=[]) λ_ _ e=>e).2.mem
 have h:=h.now I.mem;cases t with
 |lst l =>
  obtain⟨a,x,rfl,p,q⟩:=aE I.mem r e;refine wpAny_truthy_list p.pl.isList (by have:=p.2.2;omega) ?_;rw[<-W6,q.IF];exact up
 |tup l =>
  obtain⟨a,x,rfl,p,q⟩:=(al r e).iN;refine truthy_tuple p.tup (by obtain⟨_,_,_,_,_,_,z⟩:=p;omega) ?_;rw[<-W6,q.IF];exact up
 |str x =>
  obtain⟨_,rfl⟩:=(al r e).j8;have hf:=Yw ft;refine PySem.P.truthy_str (by rw[fO];omega) ?_;have q:vt (.str x)=(((⟨x.toArray⟩:Str).length:Int) != 0):=by
   rw[fO];cases x with
   |nil=>rfl
   |cons c x=>show true=_;symm;simp;omega
  rw[<-q];exact up
 |dct k l =>
  cases al r e with
  |@dct a k x l p n l1 l2 _ =>
   refine wpAny_truthy_dict p.2.1 p.2.2.1 (by have:=p.1;omega) ?_;have q:(k.zip x).isEmpty=k.isEmpty:=by cases k<;>cases x<;>first|rfl|cases l1
   rw[q];exact up
 |du l =>
  cases al r e with
  |du l p n _ q =>
   refine wpAny_truthy_list p.pl.isList (by obtain⟨_,_,_,_,_,_,z⟩:=p;omega) ?_;rw[<-W6,q.IF];exact up
 |non=>cases al r e;exact truthy_none h
 |bl b=>cases al r e;exact Tz h
 |int i=>obtain⟨_,rfl⟩:=(al r e).fe;exact PySem.P.truthy_int h
theorem bO{r:Res α}{f:α->Mem->Res β}{g:β->Mem->Res γ}:(r.bind f).bind g=r.bind λa m=>(f a m).bind g:=by cases r<;>rfl
theorem ap.Jd{r:Res W}(h:ap X ch cm m s (r.bind b8) J (BK B))(k:∀w m',r=.ok w m'->∃c,w=.t (.bl c)):ap X ch cm m s r J (WK X λv s=>RJ X.M X.A (truthy v) B J s):=by
 cases r with
 |stuck=>exact h.elim
 |ok w m' =>
  obtain⟨c,rfl⟩:=k w m' rfl;exact λcm1 s1 x M v r=>by cases r;exact Tz (h cm1 s1 x M)
theorem ap.bt{r:Res W}{f:Bool->Mem->Res W}{k:Bool->List RB->Mem->R9->Prop}(h:ap X ch cm m s ((r.bind λx m=>(ph x m).bind f).bind b8) J k):ap X ch cm m s ((r.bind b8).bind λb m=>(f b m).bind b8) J k:=by
 cases r with
 |stuck=>exact h
 |ok w m' =>
  cases w with
  |t t=>cases t<;>first|exact h|exact h.elim
  |_=>exact h.elim
theorem tQ{f:Bool->Mem->Res α}{k:α->List RB->Mem->R9->Prop}(h:ap X ch cm m s ((ph w m).bind f) J k):∃b,w=.t (.bl b)/\ap X ch cm m s (f b m) J k:=by
 unfold ph at h;split at h
 ·exact⟨_,rfl,h⟩
 ·exact h.elim
theorem H1(ha:PE call gv X e E)(he:∀b,isTrue e X.env b=(do let v <-b;VR e.pos;XY [v] (truthy v))):PT call gv X e E:=λenv cm m s I B J h =>
 isTrue_plain (ha.one I h λw v c1 m1 s1 I x r h=>zo I r h) (he _)
theorem wZ{d:List SL}(ha:PE call gv X e E)(hb:PE call gv X (.BoolOp .And (f::d) pos) F):PE call gv X (.BoolOp .And (e::f::d) pos) (.and E F):=λenv cm m s I Q J h=>by
 rw[ev]at h;refine BoolOp_and (ha.one I h λw v c1 m1 s1 I x r h=>?_);obtain⟨b,rfl,h⟩:=tQ h;cases r;refine Tz ?_;cases b with
 |true=>exact hb _ _ _ _ I Q J h
 |false=>exact I.val' h (.bl _)
theorem BR{op}(h:PE call gv X e E):PE call gv X (.BoolOp op [e] pos) E:=λ_ _ _ _ I Q J hp=>BoolOp_one (h _ _ _ _ I Q J hp)
theorem EX(ha:PE call gv X e E):PE call gv X (.UnaryOp .Not e pos) (.not E):=λenv cm m s I Q J h=>by
 rw[ev]at h;refine UnaryOp_ (ha.one I h λw v c1 m1 s1 I x r h=>?_);obtain⟨b,rfl,h⟩:=tQ h;cases r;exact not_of (Tz (I.val' h (.bl _)))
theorem D8(ha:PT call gv X e E):PT call gv X (.UnaryOp .Not e pos) (.not E):=λenv cm m s I B J h=>by
 rw[ev]at h;exact isTrue_not (ha.one I h.bt λb c1 m1 s1 I x h=>h.now I.mem)
theorem Ea(ha:PT call gv X e E):PW call gv X (.BoolOp .And [e] pos) E:=λz env cm m s I B J h=>isTrue_and (mW (ha _ _ _ _ I B J h) λb s1 q=>by
 cases b with
 |true=>exact isTrue_and_nil q
 |false=>exact q)
theorem F1(ha:PT call gv X e E):PW call gv X (.BoolOp .Or [e] pos) E:=λz env cm m s I B J h=>isTrue_or (mW (ha _ _ _ _ I B J h) λb s1 q=>by
 cases b with
 |true=>exact q
 |false=>exact isTrue_or_nil q)
theorem Dx{d:List SL}(ha:PT call gv X e E)(hb:PW call gv X (.BoolOp .And (f::d) pos) F):PW call gv X (.BoolOp .And (e::f::d) pos) (.and E F):=λz env cm m s I B J h=>by
 rw[ev]at h;refine isTrue_and (ha.one I h.bt λb c1 m1 s1 I x h=>?_);cases b with
 |true=>exact hb z _ _ _ _ I B J h
 |false=>exact h.now I.mem
theorem Gp{d:List SL}(ha:PT call gv X e E)(hb:PW call gv X (.BoolOp .Or (f::d) pos) F):PW call gv X (.BoolOp .Or (e::f::d) pos) (.or E F):=λz env cm m s I B J h=>by
 rw[ev]at h;refine isTrue_or (ha.one I h.bt λb c1 m1 s1 I x h=>?_);cases b with
 |true=>exact h.now I.mem
 |false=>exact hb z _ _ _ _ I B J h
theorem E6(ha:PE call gv X e E):PE call gv X (.UnaryOp .USub e pos) (.neg E):=λenv cm m s I Q J h=>by
 rw[ev]at h;refine UnaryOp_ (ha.one I h λw v c1 m1 s1 I x r h=>?_);obtain⟨t,e1,h⟩:=dE h;obtain⟨x,e2,e1⟩:=RF.mp e1;cases x<;>cases e1;obtain⟨_,rfl⟩:=(al r e2).fe;exact neg_int (I.val h (.int _ _))
theorem Hg(ha:PE call gv X e E)(hb:PE call gv X f F)(hu:X.A.units+64<cLine)(I:Fr X env cm m s)(h:ap X X.tb cm m s (ev call gv (.cmp op E F) env m) J (WK X Q)):RJ X.M X.A (eval e X.env) (λv=>RJ X.M X.A (eval f X.env) (λz=>RJ X.M X.A (Vx op v z) Q J) J) J s:=by
 rw[ev]at h;exact ha.two hb I h λw u v z c1 m1 s1 I x r1 r2 h=>GB op hu I r1 r2 h
theorem Gc{o:Option Bool}(h:eO (o.map .bl) m=.ok w m'):∃c,w=.t (.bl c):=by cases o<;>cases h;exact⟨_,rfl⟩
theorem Eh(ha:PE call gv X e E)(hb:PE call gv X f F)(hm:Xe op f=false)(hu:X.A.units+64<cLine):PE call gv X (.Compare e [op] [f] pos) (.cmp op E F):=λenv cm m s I Q J h=>wpAny_Compare1 (Hg ha hb hu I h) hm
theorem DH(ha:PE call gv X e E)(hb:PE call gv X f F)(hm:Xe op f=false)(hu:X.A.units+64<cLine):PT call gv X (.Compare e [op] [f] pos) (.cmp op E F):=λenv cm m s I B J h=>wpAny_isTrue_Compare1 (Hg ha hb hu I (h.Jd λw m' e=>by
 rw[ev]at e;obtain⟨_,_,_,e⟩:=ar e;obtain⟨_,_,_,e⟩:=ar e;exact Gc e)) hm
end
noncomputable def notStar:SL->Bool
 |.Starred _ _=>false
 |_=>true
theorem dB{env:Td}(h:notStar e=true):US (e::es) env=(false,eval e env)::US es env:=by
 cases e<;>first|rfl|cases h
theorem rR:∀{a:List SL},a.all notStar=true->(backTo pos (US a env)).all (λx=>!x.1)=true
 |[],_=>rfl
 |e::a,h=>by
  rw[Xf,RK]at h;rw[dB h.1];show(!false&&(backTo pos (US a env)).all (λx=>!x.1))=true;rw[rR h.2];rfl
theorem ko{env:Td}{a:List SL}(h:a.all notStar=true):(backTo pos (US a env)).any (·.1)=false:=by
 have c:=rR (pos:=pos) (env:=env) h;rw[List.any_eq_false];intro x b;have:=SX.mp c x b;simpa using this
theorem eZ{t:T}{ts:List T}(q:views ws m=Zz (t::ts)):∃w us,ws=w::us/\view w m=Zz t/\views us m=Zz ts:=by
 cases ws with
 |nil=>cases q
 |cons w us =>
  unfold views at q;cases q1:view w m with
  |none=>rw[q1]at q;cases q
  |some u =>
   rw[q1]at q;cases q2:views us m with
   |none=>rw[q2]at q;cases q
   |some v=>rw[q2]at q;cases q;exact⟨w,us,rfl,q1,q2⟩
theorem rd(q:views ws m=Zz []):ws=[]:=by
 cases ws with
 |nil=>rfl
 |cons w us =>
  unfold views at q;cases q1:view w m with
  |none=>rw[q1]at q;cases q
  |some u =>
   rw[q1]at q;cases q2:views us m with
   |none=>rw[q2]at q;cases q
   |some v=>rw[q2]at q;cases q
theorem ju{f:T->Option T}:∀{ts:List T}{t:T},ie f ts=Zz t->∃x,ts=[x]/\f x=Zz t
 |[],_,h=>by cases h
 |[x],_,h=>⟨x,rfl,h⟩
 |_::_::_,_,h=>by cases h
theorem zQ(h:Gb f ts=Zz t):∃i j,ts=[.int i,.int j]/\f i j=Zz t:=by
 unfold Gb at h;split at h
 ·exact⟨_,_,rfl,h⟩
 ·cases h
theorem di{b:B}(hb:b∉[B.min2,.nj,.G4]):∀ts t,cM b ts=Zz t->ts.length=1:=by
 intro ts t h;have h1:∀f:T->Option T,ie f ts=Zz t->ts.length=1:=λf h=>by
  obtain⟨x,rfl,_⟩:=ju h;rfl
 cases b<;>first|exact h1 _ h|exact Yv hb (by decide)|cases h
theorem nQ{s:R9}{h':SA}(c:∀b x,b∉[s.heap.objs.size]->(s.heap.push o).get? b=Zz x->h'.get? b=Zz x):∀b x,s.heap.get? b=Zz x->h'.get? b=Zz x:=
 λb x e=>c b x (λa=>by rw[RQ.mp a]at e;exact SU _ (Rm e)) (R7 _ e)
theorem Aw{α:Type}(f:List α->Bool)(bs:List Bool)(d:Bool):(Rf bs.length).map (λi=>(bs[i]?).getD d)=bs:=by
 apply Uy;intro i;rw[Rj];by_cases h:i<bs.length
 ·rw[List.getElem?_range h];simp[h]
 ·simp[h]
section
variable{X:Cx}{D:Dm}{env:Mi.Env}{cm cm':List RB}{m m':Mem}{s s':R9}{w u:W}{v z:R3}{ch:List RB}{J Q:VK}{h g:SA}{t x y:T}{l:List T}{ws:List W}{us:List R3}{a:RB}{n:Nat}{i:Nat}{c:Bool}{α β γ:Type}{b:Mi.B}
variable{call:Nat->List W->Mem->Res W}{gv:List T}{e f c:SL}{es:List SL}{E F G:Mi.E}{L:Es}{pos p:Pos}{N:Str}
def Gl(X:Cx)(x:Str):Prop:=X.env.kindOf x=Zz .globalImplicit
theorem xJ{s:R9}{x:Str}{u:R3}{E:VK}(I:Fr X env cm m s)(hg:Gl X x)(hm:X.mg x=Zz u)(h:Q u s)(hd:(x==("__debug__" : Str))=false):RJ X.M X.A (eval (.Name x pos) X.env) Q E s:=
 Calls.Name_function_global I.ok.kind hg (Calls.loadGlobal_global (by rw[I.ok.glob];exact I.ok.mod.glob.keeps I.bs) hm h) hd
theorem dW{s:R9}{x:Str}{u:R3}{E:VK}(I:Fr X env cm m s)(hg:Gl X x)(hm:X.mg x=Zy)(hv:VC x=Zz u)(h:Q u s)(hn:x≠"__name__":=by decide)(hd:(x==("__debug__" : Str))=false:=by decide):RJ X.M X.A (eval (.Name x pos) X.env) Q E s:=by
 obtain⟨k,h1,h2⟩:=I.ok.mod.blt;exact Calls.Name_function_global I.ok.kind hg (Calls.loadGlobal_builtin (by rw[I.ok.glob];exact I.ok.mod.glob.keeps I.bs) hm (by rw[I.ok.blt];exact h1.keeps I.bs) ((h2 x hn).trans hv) h) hd
def VT(K:V5)(u:R3)(t:T):Prop:=∀X:Cx,X.K=K->∀cm m h,be X cm m h->K.In h->(∀b∈X.fs,K.lookup b=Zy)->RT X.D cm m h t u
inductive wP (B:Bs) (x:Str) (t:T):Prop where
 |mk (k:R3) (_:B.mg x=Zz k) (_:VT B.K k t)
theorem Fr.Js(I:Fr X env cm m s):∀b∈X.fs,X.K.lookup b=Zy:=λb hb=>by
 cases e:X.K.lookup b with
 |none=>rfl
 |some o=>have:=I.ok.mod.sR _ _ e;rw[(I.cO b hb).1]at this;cases this
theorem GJ{x:Str}{k:Nat}(hg:Gl X x)(hk:gv[k]?=Zz t)(ok:wP X.toBs x t)(hd:(x==("__debug__" : Str))=false):PE call gv X (.Name x pos) (.gl k):=λenv cm m s I Q J h=>by
 obtain⟨u,h1,h2⟩:=ok;rw[ev,hk]at h;exact xJ I hg h1 (I.val' h (h2 X rfl _ _ _ I.mem I.sR I.Js)) hd
def CB(X:Cx)(f:R3)(b:Mi.B):Prop:=∀env cm m s,Fr X env cm m s->∀ws us,tz X.D cm m s.heap ws us->∀Q J:VK,ap X X.tb cm m s (eO ((views ws m).bind λl=>cM b l) m) J (WK X Q)->RJ X.M X.A (TE f us) Q J s
theorem gY{id:String}(j:CB X (.builtin id) b)(d:VC N=Zz (.builtin id))(h:Gl X N)(g:X.mg N=Zy)(k:PA call gv X (e::es) L)(f:N≠"__name__")(c:(N==("__debug__" : Str))=false)(i:notStar e=true)(a:es.all notStar=true):PE call gv X (.Call (.Name N p) (e::es) [] pos) (.blt b L):=λenv cm m s I Q J q=>by
 rw[ev]at q;exact Sy (dW I h g d (TC (k.one I q λws us c1 m1 s1 I x r q=>j _ _ _ _ I _ _ r _ _ q) (dB i) (ko a)) f c)
theorem nS{id:String}(j:CB X (.type id) b)(d:VC N=Zz (.type id))(h:Gl X N)(g:X.mg N=Zy)(k:PA call gv X (e::es) L)(f:N≠"__name__")(c:(N==("__debug__" : Str))=false)(i:notStar e=true)(a:es.all notStar=true):PE call gv X (.Call (.Name N p) (e::es) [] pos) (.blt b L):=λenv cm m s I Q J q=>by
 rw[ev]at q;exact Sy (dW I h g d (TV (k.one I q λws us c1 m1 s1 I x r q=>j _ _ _ _ I _ _ r _ _ q) (dB i) (ko a)) f c)
theorem oG(r:tz X.D cm m h ws us)(h1:∀l t,cM b l=Zz t->l.length=1)(q:ap X X.tb cm m s (eO ((views ws m).bind λl=>cM b l) m) J (WK X Q)):
  ∃w v t r,ws=[w]/\us=[v]/\RW X.D cm m h w v/\view w m=Zz t/\cM b [t]=Zz r/\ap X X.tb cm m s (.ok (.t r) m) J (WK X Q):=by
 obtain⟨t,e0,ho⟩:=dE q;clear q;obtain⟨l,q,e⟩:=RF.mp e0;clear e0;obtain⟨t1,rfl⟩:=List.length_eq_one_iff.mp (h1 l t e);obtain⟨w,us,rfl,q1,q2⟩:=eZ q;obtain rfl:=rd q2;obtain⟨v,y,rfl,r1,r2⟩:=r.inv;obtain rfl:=RR.mp r2.1.symm;exact⟨w,v,t1,t,rfl,rfl,r1,q1,e,ho⟩
theorem yG:CB X (.builtin "len") .len:=λenv cm m s I ws us r Q J q=>by
 obtain⟨w,v,t,rr,rfl,rfl,r,e,c,q⟩:=oG r (di (by decide)) q;have hl:=line;have hs:Ru=16777216:=TB;cases t with
 |str l =>
  obtain⟨hc,c⟩:=RE.mp c;cases c;obtain⟨_,rfl⟩:=(al r e).j8;exact len_str (by rw[fO];omega) (by rw[fO];exact I.val q (.int _ _))
 |tup l =>
  cases c;obtain⟨a,x,rfl,p,k⟩:=(al r e).iN;have h1:=k.1;rw[k.1]at q;exact len_tuple p.tup (by obtain⟨_,_,_,_,_,_,z⟩:=p;omega) (I.val q (.int _ _))
 |lst l =>
  cases c;obtain⟨a,x,rfl,p,k⟩:=aE I.mem r e;rw[k.1]at q;exact Calls.call_len_list p.pl.isList (by have:=p.2.2;omega) (I.val q (.int _ _))
 |du l =>
  cases c;cases al r e with
  |du l p n _ k =>
   rw[k.1]at q;exact Calls.call_len_list p.pl.isList (by obtain⟨_,_,_,_,_,_,z⟩:=p;omega) (I.val q (.int _ _))
 |_=>cases c
theorem yT:CB X (.type "int") .int:=λenv cm m s I ws us r Q J q=>by
 obtain⟨w,v,t,rr,rfl,rfl,r,e,f,q⟩:=oG r (di (by decide)) q;cases t with
 |int i =>
  cases f;obtain⟨_,rfl⟩:=(al r e).fe;exact call_int_int (I.val' q (.int _ _))
 |bl b =>
  cases f;obtain rfl:=(al r e).IE;exact call_int_bool (I.val q (.int _ _))
 |str a =>
  obtain⟨hc,f⟩:=RE.mp (show(if a≠[]/\a.length<=600/\a.all (λc=>decide (48<=c)&&decide (c<=57))=true then Zz (T.int (Hr a))else Zy)=Zz rr from f);cases f;obtain⟨_,rfl⟩:=(al r e).j8;have hd:NumText.AllDigits (⟨a.toArray⟩:Str).cps.toList:=λc hcm=>by
   have:=SX.mp hc.2.2 c (by simpa using hcm);rw[RK]at this;exact⟨Yw this.1,Yw this.2⟩
  have hz:(⟨a.toArray⟩:Str).length<=600:=by rw[fO];exact hc.2.1
  refine W.KIN.call_text (PySem.intText_digits hd (by simpa using hc.1) (by omega)) (by omega) ?_;rw[show(⟨a.toArray⟩:Str).cps.toList=a from by simp];exact I.val q (.int _ _)
 |_=>cases f
theorem uR(f:X.calm=true):CB X (.type "tuple") .tuple:=λenv cm m s I ws us r Q J q=>by
 obtain⟨w,v,t,rr,rfl,rfl,r,e,k,q⟩:=oG r (di (by decide)) q;have hl:=line;cases t with
 |tup l =>
  cases k;obtain⟨a,x,rfl,p,k⟩:=(al r e).iN;exact call_tuple_same p.tup (I.val' q (.tup p (al r e).tf k.1 k.2))
 |lst l =>
  cases k;obtain⟨a,x,rfl,p,k⟩:=aE I.mem r e;exact call_tuple_list p.pl.isList (λh' kp=>I.tup (y:=x.toList) (n:=s.toks) (d:=s.drawn) q k (λb o e=>R7 _ (kp b o e)) (.new rfl rfl rfl rfl p.2.2) (Fa kp)) p.2.2
 |str g =>
  obtain⟨hc,k⟩:=RE.mp (show(if g.length<=lim then Zz (T.tup (g.map λc=>T.str [c]))else Zy)=Zz rr from k);cases k;obtain⟨_,rfl⟩:=(al r e).j8;have hz:(⟨g.toArray⟩:Str).cps.size=g.length:=by simp
  refine call_tuple_str (I.ok.hd f) ⟨g.toArray⟩ _ (λh' n y kp it=>?_) (by omega);obtain⟨i1,i2⟩:=it;refine I.tup (y:=y.toList) (d:=s.drawn) q ⟨by simp at i1 ⊢;omega,λi t v a b=>?_⟩ (λb o e=>R7 _ (kp b o e)) (.new rfl rfl rfl rfl (by simp;omega)) (Fa kp);obtain⟨c,u,e1,e2⟩:=i2 i v (by simpa using b);rw[Rj,show g[i]?=Zz c from by simpa using e1]at a;cases a;rw[e2];exact .str _ _
 |_=>cases k
theorem vn:CB X (.type "list") .list:=λenv cm m s I ws us r Q J q=>by
 obtain⟨w,v,t,rr,rfl,rfl,r,e,k,q⟩:=oG r (di (by decide)) q;have fin:∀{l:List T}{x:Array R3}{h':SA}{c':Nat},ap X X.tb cm m s (.ok (.t (.lst l)) m) J (WK X Q)->eS X.D cm m s.heap l x.toList->x.size<=Ru->(∀b o',s.heap.get? b=Zz o'->h'.get? b=Zz o')->h'.get? s.heap.objs.size=Zz { cls:=.type "list",data:=.seq x c' }->Q (.ref s.heap.objs.size) { s with heap:=h' }:=λq k z kp e =>
  I.lst (n:=s.toks) (d:=s.drawn) q k kp (hG _) ⟨⟨_,by simpa using e⟩,λhb=>by obtain⟨_,o,ho,_⟩:=I.cO _ hb;exact SU _ (Rm ho),by simpa using z⟩
 cases t with
 |tup l =>
  cases k;obtain⟨a,x,rfl,p,k⟩:=(al r e).iN;obtain⟨o,n,e1,c,d,_,z⟩:=p;exact Wk a (.inr rfl) e1 c d (λh' c' kp e=>fin q k z kp e) z
 |lst l =>
  cases k;obtain⟨a,x,rfl,p,k⟩:=aE I.mem r e;obtain⟨⟨n,e1⟩,_,z⟩:=p;exact Wk a (.inl rfl) e1 rfl rfl (λh' c' kp e=>fin q k z kp e) z
 |_=>cases k
theorem pq:∀{l:List T}{y:List R3}{b:List Bool},eS D cm m h l y->eV l=Zz b->y=b.map Vz
 |[],y,_,r,e=>by cases e;exact RR.mp r.1.symm
 |t::l,_,b,r,e=>by
  obtain⟨v,y,rfl,r1,r2⟩:=r.inv;cases t with
  |bl c =>
   obtain⟨f,q,rfl⟩:=RY.mp (show(eV l).map (c::·)=Zz b from e);rw[pq r2 q,r1.IE];rfl
  |_=>cases e
theorem zN(hc:X.calm=true):CB X (.builtin "all") .all:=λenv cm m s I ws us r Q J q=>by
 obtain⟨w,v,t,rr,rfl,rfl,r,e,k,q⟩:=oG r (di (by decide)) q;have fin:∀{l:List T}{y:Array R3}{a:RB},(eV l).map (λd=>T.bl (d.all id))=Zz rr->eS X.D cm m s.heap l y.toList->(∃o,s.heap.get? a=Zz o)->∃b:List Bool,y=(b.map Vz).toArray/\a≠s.heap.objs.size /\
   TruthOf X.prog X.w X.A.in1 (λi v=>y[i]?=Zz v) (λi=>(b[i]?).getD true)/\∀(h':SA) (tk:Nat),(∀b o,s.heap.get? b=Zz o->h'.get? b=Zz o)->Q (.bool ((Rf y.size).all λi=>(b[i]?).getD true)) { s with heap:=h',toks:=tk }:=λ{l y a} k r ⟨o,ho⟩=>by
  obtain⟨b,q2,rfl⟩:=RY.mp k;obtain⟨y⟩:=y;obtain rfl:=pq r q2;refine⟨b,rfl,Rr (Rm ho),λi v s' Q' E' hP k=>?_,λh' tk kp=>?_⟩
  ·have hP:(b.map Vz)[i]?=Zz v:=by simpa using hP
   rw[Rj]at hP;obtain⟨c,qq,rfl⟩:=RY.mp hP;dsimp only at k;rw[qq]at k;exact Tz k
  ·have e:((Rf (b.map Vz).toArray.size).all λi=>(b[i]?).getD true)=b.all id:=by
    rw[SE,R1];have:=congrArg (λl=>l.all id) (Aw (α:=Nat) (λ_=>true) b true);rw[<-this,List.all_map];rfl
   rw[e];exact q.to (I.up (d:=s.drawn) kp).1 (I.up (ch:=[]) kp).2.mem _ (.bl _)
 cases t with
 |lst l =>
  obtain⟨a,y,rfl,p,r⟩:=aE I.mem r e;obtain⟨⟨n,ho⟩,_⟩:=id p;obtain⟨b,_,hn,tr,fin⟩:=fin (a:=a) k r ⟨_,ho⟩;have j:=p.pl.isList;exact call_all_walk (V0 j ⟨s.heap.objs.size,[s.heap.objs.size,a],[s.heap.objs.size],y.size,_,_,_,rfl,Vw (A:=X.A.in1) (I.ok.hd hc) _ a hn y,⟨⟨_,RM _ rfl,rfl,rfl⟩,j.push _⟩,tr,λh' tk hk=>fin h' tk (nQ hk)⟩)
 |tup l =>
  obtain⟨a,y,rfl,p,r⟩:=(al r e).iN;have j:=p.tup;obtain⟨o,n,ho,_⟩:=id p;obtain⟨b,_,hn,tr,fin⟩:=fin (a:=a) k r ⟨_,ho⟩;exact call_all_walk (WT j ⟨s.heap.objs.size,[s.heap.objs.size,a],[s.heap.objs.size],y.size,_,_,_,rfl,Wg (A:=X.A.in1) (I.ok.hd hc) _ a hn y,⟨⟨_,RM _ rfl,rfl,rfl⟩,(let⟨o,n,r⟩:=j;⟨o,R7 _ n,r⟩)⟩,tr,λh' tk hk=>fin h' tk (nQ hk)⟩)
 |_=>cases k
theorem zv(hc:X.calm=true):CB X (.builtin "min") .min2:=λenv cm m s I ws us r Q J q=>by
 obtain⟨t,e0,ho⟩:=dE q;clear q;obtain⟨l,e1,e⟩:=RF.mp e0;clear e0;obtain⟨i,j,rfl,e⟩:=zQ e;cases e;obtain⟨w1,ws,rfl,v1,e1⟩:=eZ e1;obtain⟨w2,ws,rfl,v2,e1⟩:=eZ e1;obtain rfl:=rd e1;obtain⟨v,y,rfl,r1,r⟩:=r.inv;obtain⟨z,y,rfl,r2,r⟩:=r.inv;obtain rfl:=RR.mp r.1.symm;obtain⟨_,rfl⟩:=(al r1 v1).fe;obtain⟨_,rfl⟩:=(al r2 v2).fe;refine min_two_ints (I.ok.hd hc) λh' tk k=>ho.to (I.up (d:=s.drawn) k).1 (I.up (ch:=[]) k).2.mem _ ?_
 by_cases hj:j<i
 ·rw[Yq hj,Yq hj];exact .int _ _
 ·rw[Yr hj,Yr hj];exact .int _ _
theorem Dq(c:Gl X "len")(b:X.mg "len" = Zy)(f:PA call gv X (e::es) L)(d:notStar e=true)(a:es.all notStar=true):PE call gv X (.Call (.Name "len" p) (e::es) [] pos) (.blt .len L):=gY yG (by decide +kernel) c b f (by decide) (by decide) d a
theorem Bm(c:Gl X "int")(b:X.mg "int" = Zy)(f:PA call gv X (e::es) L)(d:notStar e=true)(a:es.all notStar=true):PE call gv X (.Call (.Name "int" p) (e::es) [] pos) (.blt .int L):=nS yT (by decide +kernel) c b f (by decide) (by decide) d a
theorem wk(c:Gl X "tuple")(b:X.mg "tuple" = Zy)(g:PA call gv X (e::es) L)(d:notStar e=true)(a:es.all notStar=true)(f:X.calm=true:=by rfl):PE call gv X (.Call (.Name "tuple" p) (e::es) [] pos) (.blt .tuple L):=nS (uR f) (by decide +kernel) c b g (by decide) (by decide) d a
theorem yx(c:Gl X "list")(b:X.mg "list" = Zy)(f:PA call gv X (e::es) L)(d:notStar e=true)(a:es.all notStar=true):PE call gv X (.Call (.Name "list" p) (e::es) [] pos) (.blt .list L):=nS vn (by decide +kernel) c b f (by decide) (by decide) d a
theorem Aq(c:Gl X "all")(b:X.mg "all" = Zy)(g:PA call gv X (e::es) L)(d:notStar e=true)(a:es.all notStar=true)(f:X.calm=true:=by rfl):PE call gv X (.Call (.Name "all" p) (e::es) [] pos) (.blt .all L):=gY (zN f) (by decide +kernel) c b g (by decide) (by decide) d a
theorem Bb(c:Gl X "min")(b:X.mg "min" = Zy)(g:PA call gv X (e::es) L)(d:notStar e=true)(a:es.all notStar=true)(f:X.calm=true:=by rfl):PE call gv X (.Call (.Name "min" p) (e::es) [] pos) (.blt .min2 L):=gY (zv f) (by decide +kernel) c b g (by decide) (by decide) d a
end
section
variable{prog:S9}{w:SY}{A:SV}{E:R3->R9->Prop}{s:R9}
theorem u3(n d:Nat)(hd:d<=n)(o:Option Int):aM n d o<=n:=by
 cases o with
 |none=>exact hd
 |some v =>
  show(if v<0 then(v+(n:Int)).toNat else min v.toNat n)<=n;split<;>omega
theorem xm(v:Int)(n d:Nat):(if v<0 then max (v+(n:Int)) 0 else min v (n:Int))=((aM n d (Zz v):Nat):Int):=by
 show _=(((if v<0 then(v+(n:Int)).toNat else min v.toNat n):Nat):Int)
 split<;>omega
theorem wG(lo hi:Option Int)(n:Nat):VH lo hi 1 (n:Int)=(((aM n 0 lo:Nat):Int),((aM n n hi:Nat):Int)):=by
 have h1:¬((1:Int)<0):=by omega
 unfold VH;simp only[h1,if_false];refine Xz ?_ ?_
 ·cases lo with
  |none=>rfl
  |some v=>exact xm v n 0
 ·cases hi with
  |none=>rfl
  |some v=>exact xm v n n
theorem wq(i j:Nat):UG (i:Int) (j:Int) 1=j-i:=by
 unfold UG;have h1:(1:Int)>0:=by omega
 simp only[h1,if_true,Int.ediv_one];split<;>omega
theorem pW{v:R3}{o:Option Int}{Q:Option Int->R9->Prop}(p:Wl v o)(h:Q o s):RJ (Rn prog w) A (Builtin.Slice.slicePartIndex v) Q E s:=by
 cases p with
 |none=>exact slicePart_none h
 |int i t=>exact slicePart_int h
theorem mE{sl:RB}{vl vu:R3}{lo hi:Option Int}{n:Nat}{Q:Int×Int×Nat->R9->Prop}(hs:s.heap.IsSliceOf sl vl vu .none)(pl:Wl vl lo)(pu:Wl vu hi)(h:Q (((aM n 0 lo:Nat):Int),1,aM n n hi-aM n 0 lo) s):RJ (Rn prog w) A (Builtin.Slice.sliceApplied (.ref sl) (pure (n:Int))) Q E s:=by
 obtain⟨os,hos,hcs,hds⟩:=id hs;unfold Builtin.Slice.sliceApplied Builtin.Slice.sliceFields;refine R0 (R0 (TL hos hds (x:=vl) rfl (R0 (TL hos hds (x:=vu) rfl (R0 (TL hos hds (x:=.none) rfl (R4 ?_)))))));refine R0 (slicePart_none ?_);show RJ _ _ (if((1:Int)==0)=true then _ else _) _ _ s;rw[Yr (by decide)];refine R0 (pW pl (R0 (pW pu (R0 (R4 ?_)))));show RJ _ _ (match VH lo hi 1 (n:Int)with|(lo,hi)=>pure (lo,(1:Int),UG lo hi 1)) _ _ s;rw[wG lo hi n];show RJ _ _ (pure (((aM n 0 lo:Nat):Int),(1:Int),UG ((aM n 0 lo:Nat):Int) ((aM n n hi:Nat):Int) 1)) _ _ s;rw[wq];exact R4 h
theorem CN(xs:Array R3)(i k:Nat):((Rf k).filterMap λ(m:Nat)=>xs[((i:Int)+(m:Int)*1).toNat]?).toArray=((xs.toList.drop i).take k).toArray:=by
 have e:(λ(m:Nat)=>xs[((i:Int)+(m:Int)*1).toNat]?)=λm=>xs[i+m]?:=by
  funext m
  have:((i:Int)+(m:Int)*1).toNat=i+m:=by omega
  rw[this]
 rw[e];have:=pick_run xs i k;rw[List.filterMap_map]at this;have e2:((λx=>xs[x]?) ∘ λx=>i+x)=λm=>xs[i+m]?:=rfl
 rw[e2]at this;rw[this]
theorem zd{t sl:RB}{x:Array R3}{vl vu:R3}{lo hi:Option Int}{Q:R3->R9->Prop}(ht:Yg s.heap t x)(hs:s.heap.IsSliceOf sl vl vu .none)(pl:Wl vl lo)(pu:Wl vu hi)(hsz:x.size<=Ru)(h1:cut x.toList lo hi=x.toList->Q (.ref t) s)(h2:Q (.ref s.heap.objs.size) { s with heap:=s.heap.push { cls:=.type "tuple",data:=.seq (cut x.toList lo hi).toArray } }):RJ (Rn prog w) A (WL (.ref t) (.ref sl)) Q E s:=by
 obtain⟨os,hos,hcs,hds⟩:=id hs;have hTs:s.TypeIs (.ref sl) "slice":=⟨os,hos,hcs⟩
 have e:cut x.toList lo hi=(x.toList.drop (aM x.size 0 lo)).take (aM x.size x.size hi-aM x.size 0 lo):=rfl;have hz:(cut x.toList lo hi).toArray.size<=Ru:=by rw[e,SE,Sh,T4,RD];omega
 have hj:aM x.size x.size hi<=x.size:=u3 _ _ (RC _) hi;unfold WL
 try with_reducible refine SH ?_
 first|refine R0 (R4 ?_)|skip
 refine R0 (wpAny_sequenceKey ht.typeIs (by decide) ?_);refine R0 (Sc (name:=Vk "__getitem__") ht.typeIs Vq
  (SW Vq ht.typeIs entry_tuple_getitem ?_ (args_tuple_getitem _ _)))
 show RJ _ _ (Builtin.Tuple.tupleItemsOf (.ref t) >>= _) _ _ s;refine R0 (tupleItemsOf_ ht ?_);refine R0 (Vm hTs ?_);rw[Yq (by decide)];refine R0 (mE hs pl pu ?_);show RJ _ _ (if(((aM x.size 0 lo:Nat):Int)==0&&(1:Int)==1&&(aM x.size x.size hi-aM x.size 0 lo)==x.size)=true then _ else _) _ _ s;split
 ·rename_i q
  rw[RK,RK]at q;have q1:((aM x.size 0 lo:Nat):Int)=0:=eq_of_beq q.1.1;have q2:aM x.size x.size hi-aM x.size 0 lo=x.size:=eq_of_beq q.2;refine R0 ?_;unfold Builtin.Tuple.tupleIsExact;refine R0 (Vm ht.typeIs (R4 ?_));rw[Yq (by decide)];refine R0 (TG (R4 ⟨_,rfl,R4 (h1 ?_)⟩));rw[e,q2,show aM x.size 0 lo=0 by omega,Tt,<-RD,VE]
 ·rw[CN]
  rw[e]at h2 hz
  first
   |exact R0 (m:=Ua _) (So (R4 ⟨_,rfl,R4 h2⟩) hz)
   |exact R0 (m:=Ua _) (So (R0 (R4 (R4 ⟨_,rfl,R4 h2⟩))) hz)
   |exact R0 (R0 (m:=Ua _) (So (R4 (R4 ⟨_,rfl,R4 h2⟩)) hz))
   |exact R0 (R0 (m:=Ua _) (So (R4 ⟨_,rfl,R4 h2⟩) hz))
theorem gQ{α:Type}(xs:List α)(lo hi:Option Int):cut xs lo hi=(xs.drop (aM xs.length 0 lo)).take (aM xs.length xs.length hi-aM xs.length 0 lo):=rfl
theorem Af(x y:Nat):sliceRange (x:Int) (y:Int) 1=(Rf (y-x)).map λk=>x+k:=by
 unfold sliceRange;simp only[show((1:Int)>0)=True from by simp,if_true];by_cases h:(x:Int)<y
 ·have a:(((y:Int)-x+1-1) / 1).toNat=y-x:=by first|omega|(simp;done)|(simp;omega)
  rw[Yq h,a];refine Ud λk _=>?_
  omega
 ·have a:y-x=0:=by omega
  rw[Yr h,a];rfl
theorem kL(n d:Nat)(v:Int):max 0 (min (if v<0 then v+n else v) (n:Int))=((aM n d (Zz v):Nat):Int):=by
 show max 0 (min (if v<0 then v+n else v) (n:Int))=(((if v<0 then(v+(n:Int)).toNat else min v.toNat n):Nat):Int)
 split<;>omega
theorem wo(lo hi:Option Int)(n:Nat):(Builtin.Str.strSliceIndices lo hi 1 n)=(Rf (aM n n hi-aM n 0 lo)).map λk=>aM n 0 lo+k:=by
 rw[<-Af];unfold Builtin.Str.strSliceIndices;cases lo with
 |none =>
  cases hi with
  |none=>rfl
  |some j =>
   rw[<-kL];rfl
 |some i =>
  cases hi with
  |none =>
   rw[<-kL];rfl
  |some j =>
   rw[<-kL,<-kL];rfl
theorem zq{prog:S9}{w:SY}{E:R3->R9->Prop}{s:R9}{lo hi:Option Int}(hs:s.heap.IsSliceOf sl vl vu .none)(pl:Wl vl lo)(pu:Wl vu hi)(hz:cs.length<=lim)(h:∀t' k,Q (.str ⟨(cut cs lo hi).toArray⟩ t') { s with toks:=k }):RJ (Rn prog w) A (WL (.str ⟨cs.toArray⟩ t) (.ref sl)) Q E s:=by
 have hl:=lN;obtain⟨l,e1,e2⟩:∃l:Option (Int×Tok),vl=partValue l/\l.map (·.1)=lo:=by
  cases pl with
  |none=>exact⟨Zy,rfl,rfl⟩
  |int i t=>exact⟨Zz (i,t),rfl,rfl⟩
 obtain⟨u,f1,f2⟩:∃l:Option (Int×Tok),vu=partValue l/\l.map (·.1)=hi:=by
  cases pu with
  |none=>exact⟨Zy,rfl,rfl⟩
  |int i t=>exact⟨Zz (i,t),rfl,rfl⟩
 subst e1 f1;refine wpAny_getItem_str_slice (st:=Zy) hs (by rfl) ?_;have pk:XS ⟨cs.toArray⟩ l u Zy=(Rf (aM cs.length cs.length hi-aM cs.length 0 lo)).map λk=>aM cs.length 0 lo+k:=by
  unfold XS;rw[e2,f2,fO];exact wo lo hi cs.length
 have hn:aM cs.length cs.length hi<=cs.length:=u3 _ _ (RC _) hi;have fm:((XS ⟨cs.toArray⟩ l u Zy).filterMap ((⟨cs.toArray⟩:Str).cps[·]?))=cut cs lo hi:=by
  rw[pk,gQ];by_cases hle:aM cs.length 0 lo<=aM cs.length cs.length hi
  ·have:=StrLaws.picks cs (aM cs.length cs.length hi-aM cs.length 0 lo) (aM cs.length 0 lo) (by omega)
   rw[<-this];simp
  ·have:aM cs.length cs.length hi-aM cs.length 0 lo=0:=by omega
   rw[this];simp
 unfold sliceMade;split
 ·rename_i hw
  rw[RK]at hw;have q:(XS ⟨cs.toArray⟩ l u Zy).length=cs.length:=by rw[eq_of_beq hw.2,fO]
  rw[pk,R1,UR]at q;have e:cut cs lo hi=cs:=by
   rw[gQ];have:aM cs.length 0 lo=0∨cs.length=0:=by omega
   rcases this with c|c
   ·rw[c]at q ⊢
    rw[Tt,q];exact VE
   ·rw[RR]at c
    subst c;simp
  have:=h t s.toks;rw[e]at this;exact this
 ·rw[fm]
  have hc:(cut cs lo hi).length<=cs.length:=by
   rw[gQ,Sh,T4];omega
  exact⟨by show(cut cs lo hi).toArray.size<=_;rw[SE];omega,h _ _⟩
theorem ta(lo hi:Option Int)(n:Nat):(Ve lo hi Zy n).1=((aM n 0 lo:Nat):Int)/\(Ve lo hi Zy n).2.1=((aM n n hi:Nat):Int)/\(Ve lo hi Zy n).2.2=1:=by
 refine⟨?_,?_,rfl⟩
 ·cases lo with
  |none=>simp[Ve,aM]
  |some i =>
   simp only[Ve,aM,Option.getD_none,show(1:Int)>0 by decide,if_true];by_cases h:i<0
   ·simp only[h,if_true]<;>omega
   ·simp only[h,if_false]<;>omega
 ·cases hi with
  |none=>simp[Ve,aM]
  |some i =>
   simp only[Ve,aM,Option.getD_none,show(1:Int)>0 by decide,if_true];by_cases h:i<0
   ·simp only[h,if_true]<;>omega
   ·simp only[h,if_false]<;>omega
theorem qy(its:List R3)(lo hi:Option Int):slicePick its.toArray lo hi Zy=((its.drop (aM its.length 0 lo)).take (aM its.length its.length hi-aM its.length 0 lo)).toArray:=by
 obtain⟨h1,h2,h3⟩:=ta lo hi its.toArray.size;unfold slicePick;rw[h1,h2,h3];simp only[sliceRange_one,pick_run,SE]<;>rfl
theorem lQ{α:Type}{l:List α}{i:Int}{v:α}(h:atT l i=Zz v):∃j,seqIndex? i l.length=Zz j/\l[j]?=Zz v/\-(l.length:Int)<=i/\i<l.length/\(0<=i/\i.toNat=j∨i<0/\(i+(l.length:Int)).toNat=j):=by
 obtain⟨j,e,h⟩:=RF.mp h;unfold fK at e;by_cases h0:0<=i
 ·rw[Yq h0]at e
  obtain⟨h1,e⟩:=RE.mp e;have e:=Sj e;exact⟨j,by rw[seqIndex_of h0 h1,e],h,by omega,h1,.inl ⟨h0,e⟩⟩
 ·rw[Yr h0]at e
  obtain⟨h1,e⟩:=RE.mp e;have e:=Sj e;exact⟨j,by rw[seqIndex_neg (by omega) h1,e],h,h1,by omega,.inr ⟨by omega,e⟩⟩
theorem u0{a:RB}{x:Array R3}{i:Int}{t:Tok}{j:Nat}{z:R3}{value slice:SL}{Q:R3->R9->Prop}(p:Yb s.heap a x)(hz:x.size<=Ru)(h1:-(x.size:Int)<=i)(h2:i<x.size)(h3:0<=i/\i.toNat=j∨i<0/\(i+(x.size:Int)).toNat=j)(e:x[j]?=Zz z)(q:Q z s)(hs:Wh slice false (.ref a) (.int i t)=Yc [.ref a,.int i t] (WL (.ref a) (.int i t))):RJ (Rn prog w) A (Wm value slice (.ref a) (.int i t)) Q E s:=by
 have hl:=line;rcases h3 with⟨h0,hj⟩|⟨h0,hj⟩
 ·exact item_listR p.isList h0 (by omega) (by rw[hj];exact e) q hs
 ·exact subscriptTail_builtinR (x:=z) p.isList.typeIs slot_list_getitem.lookup (wpAny_getItem_list_neg (Q:=λr s'=>r=z/\Q r s') p.isList (by omega) (by omega) (by omega) (by rw[hj];exact e) ⟨rfl,q⟩) hs
theorem Al.take{α β:Type}{R:α->β->Prop}{l:List α}{x:List β}(q:Al R l x)(n:Nat):Al R (l.take n) (x.take n):=⟨by rw[Sh,Sh,q.1],λi t v a b=>by
 rw[Th]at a b;split at a
 ·rw[Yq ‹_›]at b;exact q.2 _ t v a b
 ·cases a⟩
theorem Al.drop{α β:Type}{R:α->β->Prop}{l:List α}{x:List β}(q:Al R l x)(n:Nat):Al R (l.drop n) (x.drop n):=⟨by rw[T4,T4,q.1],λi t v a b=>by
 rw[U9]at a b;exact q.2 _ t v a b⟩
theorem Al.cut{α β:Type}{R:α->β->Prop}{l:List α}{x:List β}(q:Al R l x)(lo hi:Option Int):Al R (Mi.cut l lo hi) (Mi.cut x lo hi):=by
 rw[gQ,gQ,<-q.1];exact(q.drop _).take _
end
section
variable{X:Cx}{env:Mi.Env}{cm:List RB}{m:Mem}{s:R9}{w u:W}{v z:R3}{J Q:VK}{lo hi:Option Int}{α:Type}{k:α->List RB->Mem->R9->Prop}
variable{call:Nat->List W->Mem->Res W}{gv:List T}{e f:SL}{E F G:Mi.E}{pos p2:Pos}
def E0(b:SL):Prop:=∀o i,Wh b false o i=Yc [o,i] (WL o i)
theorem Hc{value slice:SL}(I:Fr X env cm m s)(r1:RW X.D cm m s.heap w v)(r2:RW X.D cm m s.heap u z)(h:ap X X.tb cm m s (eO ((view w m).bind λx=>(view u m).bind λy=>yj x y) m) J (WK X Q))(hs:Wh slice false v z=Yc [v,z] (WL v z)):RJ X.M X.A (Wm value slice v z) Q J s:=by
 obtain⟨x,y,t,e1,e2,e,h⟩:=lA h;have hl:=line;unfold yj at e;split at e
 ·obtain⟨_,rfl⟩:=(al r2 e2).fe
  obtain⟨a,x,rfl,p,q⟩:=(al r1 e1).iN;obtain⟨j,h1,h2,h3,h4,_⟩:=lQ e;obtain⟨v,e3,r⟩:=q.get h2;have hz:x.size<=Ru:=by obtain⟨_,_,_,_,_,_,z⟩:=p;exact z
  have hq:=q.1;simp only[RD]at hq;exact subscriptTail_builtinR (x:=v) p.tup.typeIs slot_tuple_getitem.lookup (getItem_tuple (j:=j) (Q:=λr s'=>r=v/\Q r s') p.tup (by omega) (by omega) (by rw[<-hq];exact h1) (by simpa using e3) ⟨rfl,I.val' h r⟩) hs
 ·obtain⟨_,rfl⟩:=(al r2 e2).fe
  obtain⟨a,x,rfl,p,q⟩:=aE I.mem r1 e1;obtain⟨j,h1,h2,h3,h4,h5⟩:=lQ e;obtain⟨v,e3,r⟩:=q.get h2;have hq:=q.1;simp only[RD]at hq;rw[hq]at h3 h4 h5;exact u0 p.pl p.2.2 h3 h4 h5 (by simpa using e3) (I.val' h r) hs
 ·obtain⟨_,rfl⟩:=(al r2 e2).fe
  cases al r1 e1 with
  |du l p n _ q =>
   obtain⟨c,e',rfl⟩:=RY.mp e;obtain⟨j,h1,h2,h3,h4,h5⟩:=lQ e';obtain⟨v,e3,_,rfl⟩:=q.get h2;have hz:=p;obtain⟨_,_,_,_,_,_,hz⟩:=hz;have hq:=q.1;simp only[RD]at hq;rw[hq]at h3 h4 h5;exact u0 p.pl hz h3 h4 h5 (by simpa using e3) (I.val' h (.int _ _)) hs
 ·obtain⟨hc,e⟩:=RE.mp e
  obtain⟨c,e',rfl⟩:=RY.mp e;obtain⟨_,rfl⟩:=(al r1 e1).j8;obtain⟨_,rfl⟩:=(al r2 e2).fe;obtain⟨j,h1,h2,h3,h4,_⟩:=lQ e';exact tail_any (typeIs_str s _ _) slot_str_getitem.lookup (getItem_str (c:=c) (by rw[Ys (by omega),Ys (by omega),Bool.or_false]) (by rw[fO,h1];simpa using h2) (I.val h (.str _ _))) hs
 ·cases e
theorem FK(ha:PE call gv X e E)(hb:PE call gv X f F)(hs:E0 f):PE call gv X (.Subscript e f pos) (.ix E F):=λenv cm m s I Q J h=>by
 rw[ev]at h;exact YO (ha.two hb I h λw u v z c1 m1 s1 I x r1 r2 h=>Hc I r1 r2 h (hs _ _))
theorem HY{sl:RB}{vl vu:R3}(I:Fr X env cm m s)(r:RW X.D cm m s.heap w v)(h:ap X X.tb cm m s (eO ((view w m).bind λx=>HI x lo hi) m) J (WK X Q))(hs:s.heap.IsSliceOf sl vl vu .none)(pl:Wl vl lo)(pu:Wl vu hi):
  ∃T id,X7 (.type T) "__getitem__" = pure (Zz (.builtin id))/\s.TypeIs v T/\RJ X.M X.A (WL v (.ref sl)) Q J s:=by
 obtain⟨t,e,h⟩:=dE h;obtain⟨x,e1,e⟩:=RF.mp e;have hl:=line;have cl:∀{α:Type}(l:List α),(cut l lo hi).length<=l.length:=λl=>by rw[gQ,Sh,T4];omega
 have lst:∀{l:List T}{a:RB}{x:Array R3},Yb s.heap a x->x.size<=Ru->Al (RT X.D cm m s.heap) (cut l lo hi) (cut x.toList lo hi)->ap X X.tb cm m s (.ok (.t (.lst (cut l lo hi))) m) J (WK X Q)->∃T id,X7 (.type T) "__getitem__" = pure (Zz (.builtin id))/\s.TypeIs (.ref a) T/\RJ X.M X.A (WL (.ref a) (.ref sl)) Q J s:=λ{l a x} p hz q h=>by
  obtain⟨x⟩:=x;refine⟨"list",_,slot_list_getitem.lookup,p.isList.typeIs,wpAny_getItem_list_slice p.isList hs pl pu .none (by simp) ?_ (by omega)⟩;rw[qy,<-gQ];exact I.lst (n:=s.toks) (d:=s.drawn) h q push (hG _) (.new I (by have:=cl x;simp at hz ⊢;omega))
 cases x with
 |tup l =>
  cases e;obtain⟨a,x,rfl,p,q⟩:=(al r e1).iN;have hz:x.size<=Ru:=by obtain⟨_,_,_,_,_,_,z⟩:=p;exact z
  refine⟨"tuple",_,PyProof.Rows.slot_tuple_getitem.lookup,p.tup.typeIs,zd p.tup hs pl pu hz (λec=>?_) (I.tup (n:=s.toks) (d:=s.drawn) h (q.cut lo hi) push (.new rfl rfl rfl rfl (by have:=cl x.toList;simp at this ⊢;omega)))⟩;have:=(q.cut lo hi)
  rw[ec]at this;exact I.val' h (.tup p (al r e1).tf this.1 this.2)
 |lst l =>
  cases e;obtain⟨a,x,rfl,p,q⟩:=aE I.mem r e1;exact lst p.pl p.2.2 (q.cut lo hi) h
 |du l =>
  cases e;cases al r e1 with
  |du l p n _ q =>
   have hz:=p;obtain⟨_,_,_,_,_,_,hz⟩:=hz;have ec:cut (l.map T.int) lo hi=(cut l lo hi).map T.int:=by rw[gQ,gQ,R1,List.map_take,List.map_drop]
   rw[<-ec]at h;refine lst p.pl hz (Al.cut ⟨by rw[R1];exact q.1,λi t v a b=>?_⟩ lo hi) h;rw[Rj]at a;obtain⟨c,a',rfl⟩:=RY.mp a;obtain⟨_,rfl⟩:=q.2 i c v a' b;exact .int _ _
 |str cs =>
  obtain⟨hc,e⟩:=RE.mp (show(if cs.length<=lim then Zz (T.str (cut cs lo hi))else Zy)=Zz t from e);cases e;obtain⟨_,rfl⟩:=(al r e1).j8;exact⟨"str",_,slot_str_getitem.lookup,typeIs_str s _ _,zq hs pl pu hc λt' k=>I.val h (.str _ _)⟩
 |_=>cases e
noncomputable def Ho(call:Nat->List W->Mem->Res W)(gv:List T)(lo:Mi.E)(env:Env)(m:Mem):Res (Option Int):=if aN lo then Res.ok Zy m else(ev call gv lo env m).bind zh
variable(call gv) in
def PO(X:Cx)(e:Option SL)(E:Mi.E):Prop:=∀env cm m s,Fr X env cm m s->∀Q J:VK,ap X X.tb cm m s (Ho call gv E env m) J (λo _ _ s=>∀u,Wl u o->Q u s)->RJ X.M X.A (evalPart e X.env) Q J s
theorem Cz:PO call gv X Zy .hole:=λenv cm m s I Q J h=>by
 rw[evalPart_none];exact R4 (h.now I.mem _ .none)
theorem AL(h:PE call gv X e E)(hn:Ho call gv E=λenv m=>(ev call gv E env m).bind zh):PO call gv X (Zz e) E:=λenv cm m s I Q J q=>by
 rw[hn]at q;rw[evalPart_some];refine h.one I q λw v c1 m1 s1 I x r q=>?_
 unfold zh at q;split at q
 ·obtain⟨_,rfl⟩:=RT.fe r
  exact q.now I.mem _ (.int _ _)
 ·exact q.elim
theorem AX{e:Option SL}{f:Option Int->Mem->Res α}{Q:VK}(h:PO call gv X e E)(I:Fr X env cm m s)(hp:ap X X.tb cm m s ((Ho call gv E env m).bind f) J k)(q:∀o u cm1 m1 s1,Fr X env cm1 m1 s1->bd X.fs X.gs X.tb cm m s cm1 m1 s1->Wl u o->ap X X.tb cm1 m1 s1 (f o m1) J k->Q u s1):RJ X.M X.A (evalPart e X.env) Q J s:=
 h env cm m s I Q J (hp.bind.mono λo c1 m1 s1 x M h u pu=>q o u c1 m1 s1 (I.go x M I.nc) x pu h)
theorem DJ{lo hi:Option SL}(C:PE call gv X e E)(B:PO call gv X lo F)(A:PO call gv X hi G):PE call gv X (.Subscript e (.Slice lo hi Zy p2) pos) (.FU E F G):=λenv cm m s I Q J h=>by
 rw[show ev call gv (.FU E F G) env m=(ev call gv E env m).bind λx m=>(Ho call gv F env m).bind λl m=>(Ho call gv G env m).bind λh m=>eO ((view x m).bind λx=>HI x l h) m by rw[ev];rfl]at h;refine YO (C.one I h λw v c1 m1 s1 I1 x1 r1 h=>wpAny_Slice (AX B I1 h λl vl c2 m2 s2 I2 x2 pl h=>AX A I2 h λu vu c3 m3 s3 I3 x3 pu h=>?_));rw[evalPart_none];refine R4 ?_;obtain⟨x4,I4⟩:=I3.up (t:=s3.toks) (d:=s3.drawn) (ch:=X.tb) (g:=s3.heap.push { cls:=.type "slice",data:=.fields #[vl,vu,.none] }) push;obtain⟨T,id,hT,ht,hg⟩:=HY I4 (((r1.go x2 I1.mem I1.nc.q).go x3 I2.mem I2.nc.q).go x4 I3.mem I3.nc.q) (h.shift x4) (Heap.IsSliceOf.new ..) pl pu;show RJ X.M X.A (Wm e (.Slice lo hi Zy p2) v (.ref s3.heap.objs.size)) Q J { s3 with heap:=s3.heap.push { cls:=.type "slice",data:=.fields #[vl,vu,.none] } };exact tail_any (ops:=[.ref s3.heap.objs.size,v]) ht hT hg (by with_unfolding_all rfl)
end
end Mi
namespace Mi
open PySem PySem.Spec PyProof.Rows PySem.Builtin.Str PySem.StrLaws
section
variable{prog:S9}{w:SY}{A:SV}{E:R3->R9->Prop}{s:R9}{ws:List W}{m:Mem}{t:T}{f:List T->Option T}{ts:List T}{x y:Str}{Q:R3->R9->Prop}
theorem gh(h:views ws m=Zz [t]):∃w,ws=[w]/\view w m=Zz t:=by
 cases ws with
 |nil=>cases h
 |cons w ws =>
  unfold views at h;cases q1:view w m with
  |none=>rw[q1]at h;cases h
  |some t1 =>
   rw[q1]at h;have h:=h;cases q2:views ws m with
   |none=>rw[q2]at h;cases h
   |some ts =>
    rw[q2]at h;cases h;cases ws with
    |nil=>exact⟨w,rfl,by rw[q1]⟩
    |cons d ws =>
     unfold views at q2;cases q3:view d m with
     |none=>rw[q3]at q2;cases q2
     |some t3 =>
      rw[q3]at q2;cases q4:views ws m with
      |none=>rw[q4]at q2;cases q2
      |some t4=>rw[q4]at q2;cases q2
end
section
variable{xs l h ts ys:List T}{r:T×List T}
theorem D5{t:T}(h:ki .insert xs ts=Zz (t,ys)):∃(i:Int) (u:T),ts=[.int i,u]/\(0<=i/\i<=xs.length/\xs.length<lim)/\t=.non/\ys=xs.take i.toNat++u::xs.drop i.toNat:=by
 cases ts with
 |nil=>cases h
 |cons a r =>
  cases r with
  |nil=>cases a<;>cases h
  |cons b r =>
   cases r with
   |nil =>
    cases a with
    |int i =>
     have h:(if 0<=i/\i<=xs.length/\xs.length<lim then Zz (T.non,xs.take i.toNat++b::xs.drop i.toNat)else Zy)=Zz (t,ys):=h;split at h<;>cases h;exact⟨i,b,rfl,‹_›,rfl,rfl⟩
    |_=>cases h
   |cons c r=>cases a<;>cases h
theorem DG{l h:List T}{r:T×List T}(d:ki .append l h=Zz r):∃P,h=[P]:=by
 cases h with
 |nil=>cases d
 |cons P h =>
  cases h with
  |nil=>exact⟨P,rfl⟩
  |cons _ _=>cases d
end
section
variable{X:Cx}{D:Dm}{env:Mi.Env}{cm cm':List RB}{m m':Mem}{s s':R9}{w u:W}{v z:R3}{ch:List RB}{J Q:VK}{h g:SA}{t x:T}{l l':List T}{ws:List W}{us y:List R3}{a:RB}{n:Nat}{i:Nat}{α:Type}{b:Mi.Mt}{k:α->List RB->Mem->R9->Prop}
variable{call:Nat->List W->Mem->Res W}{gv:List T}{e e2 o:SL}{es:List SL}{E:Mi.E}{L:Es}{cpos apos:Pos}
theorem Et(a:notStar e=true):((backTo cpos (US [e] X.env)).all (λx=>!x.1)&&(Yj cpos (YD [] X.env)).all (λx=>x.1.isSome)
  && decide ([e].length+([]:List Y0).length+(if([]:List Y0).isEmpty then 0 else 1)<30))=true:=by
 rw[rR (by rw[Xf,a];rfl)];rfl
theorem IN(a:[e,e2].all notStar=true):((backTo cpos (US [e,e2] X.env)).all (λx=>!x.1)&&(Yj cpos (YD [] X.env)).all (λx=>x.1.isSome)
  && decide ([e,e2].length+([]:List Y0).length+(if([]:List Y0).isEmpty then 0 else 1)<30))=true:=by
 rw[rR a];rfl
def CM(X:Cx)(id:String)(G:W->List W->Mem->Res W):Prop:=∀env cm m s,Fr X env cm m s->∀w ws v us,RW X.D cm m s.heap w v->tz X.D cm m s.heap ws us->∀Q J:VK,ap X X.tb cm m s (G w ws m) J (WK X Q)->RJ X.M X.A (TE (.builtin id) (v::us)) Q J s
def Gk(X:Cx)(b:Mt)(T:String):Prop:=∀env cm m s,Fr X env cm m s->∀w v,RW X.D cm m s.heap w v->Ad b w m=true->s.TypeIs v T/\∀a,v=.ref a->∃o,s.heap.get? a=Zz o/\o.dict=Zy
theorem r8(hb:∀w m,Ad b w m=Ad .append w m):Gk X b "list":=λenv cm m s I w v r h=>by
 rw[hb]at h;cases w with
 |c i =>
  obtain⟨a,h1,rfl⟩:=r;have h:(match m[i]? with|some (Zz _)=>true|_=>false)=true:=h;split at h
  ·obtain⟨b,x,h2,⟨⟨n,e⟩,_⟩,_⟩:=I.mem.at' i _ ‹_›
   rw[h1]at h2;cases h2;exact⟨⟨_,e,rfl⟩,λb z=>by cases z;exact⟨_,e,rfl⟩⟩
  ·cases h
 |_=>cases h
theorem pM{T id:String}{name:Str}{G:W->List W->Mem->Res W}{E':Mi.E}(pa:PlainAttrs T)(slot:Slot T name id)(hty:typeOf (.builtin id)=pure (.type "method_descriptor"))(hm:CM X id G)(he:∀env m,ev call gv E' env m=(ev call gv E env m).bind λw m=>if Ad b w m then(evs call gv L env m).bind λws m=>G w ws m else .stuck)(ty:Gk X b T)(ho:PE call gv X o E)(ha:PA call gv X (e::es) L)(hbase:VN o name X.env (eval o X.env)=eval o X.env)(hfew:((backTo cpos (US (e::es) X.env)).all (λx=>!x.1)&&(Yj cpos (YD [] X.env)).all (λx=>x.1.isSome)
  && decide ((e::es).length+([]:List Y0).length+(if([]:List Y0).isEmpty then 0 else 1)<30))=true)(hline:(apos.endLine==cpos.line)=true)(hs:notStar e=true)(hp:es.all notStar=true):PE call gv X (.Call (.Attribute o name apos) (e::es) [] cpos) E':=λenv cm m s I Q J h=>by
 rw[he]at h;refine wpAny_Call_method_late hbase hfew hline rfl (ho.one I h λw v c1 m1 s1 I1 x1 r1 h=>?_);obtain⟨ht,h⟩:=km h;obtain⟨h1,h2⟩:=ty _ _ _ _ I1 w v r1 ht;refine⟨T,id,pa,slot,hty,h1,h2,?_⟩;have hA:=ha.one (p:=cpos) I1 h λws us c2 m2 s2 I2 x2 r2 h=>hm _ _ _ _ I2 w ws v us (r1.go x2 I1.mem I1.nc.q) r2 Q J h
 rw[dB hs]at hA ⊢;exact Calls.callWith_builtin (by show(false || (backTo cpos (US es X.env)).any (·.1))=false;rw[ko hp];rfl) (Calls.evalArgs_plain hA)
theorem F8(h:ap X ch cm m s (eO ((view w m).bind λx=>(views ws m).bind λts=>y6 b x ts) m) J k'):∃x ts t,view w m=Zz x/\views ws m=Zz ts/\y6 b x ts=Zz t/\ap X ch cm m s (.ok (.t t) m) J k':=by
 obtain⟨t,e0,ho⟩:=dE h;obtain⟨x,e1,e⟩:=RF.mp e0;obtain⟨ts,e2,e⟩:=RF.mp e;exact⟨x,ts,t,e1,e2,e,ho⟩
theorem sI:∀{l:List T}{y:List R3}{a:List (List Nat)},eS D cm m h l y->strs? l=Zz a->Wc y (a.map λc=>(⟨c.toArray⟩:Str))
 |[],y,_,r,e=>by cases e;obtain rfl:=RR.mp r.1.symm;exact .nil
 |t::l,_,a,r,e=>by
  obtain⟨v,y,rfl,r1,r2⟩:=r.inv;cases t with
  |str c =>
   obtain⟨f,q,rfl⟩:=RY.mp (show(strs? l).map (c::·)=Zz a from e);obtain⟨t,rfl⟩:=r1.j8;exact .cons _ t (sI r2 q)
  |_=>cases e
theorem nE(r:tz D cm m h [w] us):∃v,us=[v]/\RW D cm m h w v:=by
 obtain⟨v,y,rfl,r1,r2⟩:=r.inv;obtain rfl:=RR.mp r2.1.symm;exact⟨v,rfl,r1⟩
noncomputable def H3(x:W)(m:Mem):Res W:=match view x m with
 |some (.lst ts)=>.ok (.c m.length) (m++[Zz (false,ts)])
 |some (.tup ts)=>.ok (.c m.length) (m++[Zz (false,ts)])
 |_=>.stuck
theorem im{y y':Array R3}{f:Array R3->Array R3}(I:Fr X env cm m s)(e1:m[i]?=Zz (Zz (false,l)))(e2:cm[i]?=Zz a)(p:dX X.fs s.heap a y)(hf:f y=y')(hz:y'.size<=Ru)(r:eS X.D cm m s.heap l' y'.toList):
  bd X.fs X.gs X.tb cm m s cm (m.set i (Zz (false,l'))) { s with heap:=s.heap.update a (Rh f),toks:=n }/\Fr X env cm (m.set i (Zz (false,l'))) { s with heap:=s.heap.update a (Rh f),toks:=n }:=by
 obtain⟨⟨c,e⟩,nf,_⟩:=p;have q:=PySem.IsL.update e f;rw[hf]at q;have ho:∀b o,b≠a->s.heap.get? b=Zz o->(s.heap.update a (Rh f)).get? b=Zz o:=λb o hb hu=>(Tc s.heap (Rh f) (VQ hb)).trans hu
 obtain⟨x,M⟩:=I.mem.upd (s':={ s with heap:=s.heap.update a (Rh f),toks:=n }) (ch:=X.tb) (q:=Zz (false,l')) e1 e2 ho rfl rfl (λb l z=>by cases z;exact⟨y',⟨⟨_,q⟩,nf,hz⟩,r⟩) (λz=>nomatch z) (I.ok.jG _ _ I.mem.tab λb o hb hu=>ho b o (λz=>by
  obtain⟨v,d⟩:=hb.elim (λh=>((I.nc b h).2 o hu).1) Kc.f;rw[z,e]at hu;cases hu;cases d) hu) λz=>by cases z
 exact⟨x,I.go x M I.nc⟩
theorem oB(hb:∀i ws m,ya b (.c i) ws m=(ig ws m).bind λts m=>match m[i]? with
   |some (Zz (false,xs))=>match ki b xs ts with
    |some (t,ys)=>.ok (.t t) (m.set i (Zz (false,ys)))
    |none=>.stuck
   |_=>.stuck)(h2:∀t ws m,ya b (.t t) ws m=.stuck)(I:Fr X env cm m s)(r:RW X.D cm m s.heap w v)(rs:tz X.D cm m s.heap ws us)(h:ap X X.tb cm m s (ya b w ws m) J (WK X Q)):
  ∃i a m1 xs ts t ys y,v=.ref a/\Fr X env cm m1 s/\m1[i]?=Zz (Zz (false,xs))/\cm[i]?=Zz a/\dX X.fs s.heap a y/\eS X.D cm m1 s.heap xs y.toList/\eS X.D cm m1 s.heap ts us/\ki b xs ts=Zz (t,ys)/\ap X X.tb cm m1 s (.ok (.t t) (m1.set i (Zz (false,ys)))) J (WK X Q):=by
 cases w with
 |t t=>rw[h2]at h;exact h.elim
 |c i =>
  rw[hb]at h;obtain⟨a,e2,rfl⟩:=r;obtain⟨ts,m1,I1,rs,h⟩:=lS I rs h;split at h
  ·rename_i xs e1
   split at h
   ·obtain⟨b,y,q1,p,_,q⟩:=I1.mem.at' i _ e1
    rw[e2]at q1;cases q1;exact⟨i,a,m1,xs,ts,_,_,y,rfl,I1,e1,e2,p,q,rs,‹_›,h⟩
   ·exact h.elim
  ·exact h.elim
theorem vc:CM X "list.append" (ya .append):=λenv cm m s I w ws v us r rs Q J h=>by
 obtain⟨i,a,m1,xs,ts,t,ys,y,rfl,I,e1,e2,p,q,rs,e,h⟩:=oB (λ_ _ _=>rfl) (λ_ _ _=>rfl) I r rs h;obtain⟨P,rfl⟩:=DG e;obtain⟨hl,e⟩:=RE.mp (show(if xs.length<lim then Zz (T.non,xs++[P])else Zy)=Zz (t,ys)from e);cases e;obtain⟨u,us,rfl,r1,r0⟩:=rs.inv;obtain rfl:=RR.mp r0.1.symm;obtain⟨⟨n,e3⟩,_,hz⟩:=id p;have hq:=q.1;simp only[RD]at hq;have hn:=line.1;obtain⟨x,I2⟩:=im (f:=λx=>x.push u) (y':=y.push u) (n:=s.toks) I e1 e2 p rfl (by rw[Array.size_push];omega) (by rw[UO];exact q.app (.cons r1 .nil));exact Tl F.slot_list_append ⟨_,e3,rfl⟩ F.entry_list_append (F.args_list_append_2 _ _) (PySem.list_append a y n u hz) ⟨e3,h.to x I2.mem _ .non⟩
theorem Al.erase{α β:Type}{R:α->β->Prop}:∀{l:List α}{x:List β}(k:Nat),Al R l x->Al R (l.eraseIdx k) (x.eraseIdx k)
 |[],x,k,q=>by obtain rfl:=RR.mp q.1.symm;exact q
 |t::l,_,k,q=>by
  obtain⟨v,y,rfl,r,q⟩:=q.inv;cases k with
  |zero=>exact q
  |succ k=>exact .cons r (q.erase k)
theorem zJ:CM X "list.pop" (ya .dK):=λenv cm m s I w ws v us r rs Q J h=>by
 obtain⟨i,a,m1,xs,ts,t,ys,y,rfl,I,e1,e2,p,q,rs,e,h⟩:=oB (λ_ _ _=>rfl) (λ_ _ _=>rfl) I r rs h;have one:∃j,ts=[.int j]:=by
  rcases ts with _|⟨t,_|⟨t',ts⟩⟩
  ·cases e
  ·cases t<;>first|exact⟨_,rfl⟩|cases e
  ·cases t<;>cases e
 obtain⟨j,rfl⟩:=one;have e:(match fK xs.length j with|some k=>(xs[k]?).map λt=>(t,xs.eraseIdx k)|none=>Zy)=Zz (t,ys):=e;split at e
 rotate_left
 ·cases e
 rename_i k hk;obtain⟨t',e4,e⟩:=RY.mp e;cases e;obtain⟨u,us,rfl,r1,r0⟩:=rs.inv;obtain rfl:=RR.mp r0.1.symm;obtain⟨_,rfl⟩:=r1.fe;obtain⟨⟨n,e3⟩,_,hz⟩:=id p;have hq:=q.1;simp only[RD]at hq;have hn:=line;obtain⟨k',h1,_,h3,h4,h5⟩:=lQ (show atT xs j=Zz t by unfold atT;rw[hk];exact e4);obtain rfl:k'=k:=by
  unfold fK at hk;by_cases h0:0<=j
  ·rw[Yq h0,Yq h4]at hk;have:=Sj hk;omega
  ·rw[Yr h0,Yq h3]at hk;have:=Sj hk;omega
 obtain⟨z,e5,rz⟩:=q.get e4;have hk':k'<y.size:=by have:=(RA.mp e4).1;omega
 have he:(y.eraseIdxIfInBounds k').toList=y.toList.eraseIdx k':=by obtain⟨y⟩:=y;simp
 obtain⟨x,I2⟩:=im (f:=λx=>x.eraseIdxIfInBounds k') (y':=y.eraseIdxIfInBounds k') (n:=s.toks) I e1 e2 p rfl (by rw[<-RD,he];exact Ro (List.length_eraseIdx_le _ _) hz) (by rw[he];exact q.erase k');exact Tl F.slot_list_pop ⟨_,e3,rfl⟩ F.entry_list_pop (F.args_list_pop_2 _ _)
  (MeetsSeq.list_pop_at a y n j _ k' z (XR (by omega) (by omega)) (by rw[<-hq];exact h1) (by rw[<-RZ];exact e5) hz) ⟨e3,h.to x I2.mem _ (rz.go x I.mem I.nc.q)⟩
theorem wl:CM X "list.insert" (ya .insert):=λenv cm m s I w ws v us r rs Q J h=>by
 obtain⟨i,a,m1,xs,ts,t,ys,y,rfl,I,e1,e2,p,q,rs,e,h⟩:=oB (λ_ _ _=>rfl) (λ_ _ _=>rfl) I r rs h;obtain⟨j,P,rfl,⟨h0,h1,hl⟩,rfl,rfl⟩:=D5 e;obtain⟨u,us,rfl,r1,rs⟩:=rs.inv;obtain⟨u2,us,rfl,r2,r0⟩:=rs.inv;obtain rfl:=RR.mp r0.1.symm;obtain⟨_,rfl⟩:=r1.fe;obtain⟨⟨n,e3⟩,_,hz⟩:=id p;have hq:=q.1;simp only[RD]at hq;have hn:=line;have hs:=TB;have f:Builtin.List.listFitsIndex j=true:=XR (by omega) (by omega);have hj:(j.toNat:Int)=j:=by omega
 have ex:∀x:Array R3,x=y->((x.extract 0 (if j<0 then(j+(x.size:Int)).toNat else min j.toNat x.size)).push u2++x.extract (if j<0 then(j+(x.size:Int)).toNat else min j.toNat x.size)).toList=y.toList.take j.toNat++u2::y.toList.drop j.toNat:=λx hx=>by
  subst hx;rw[Yr (by omega),UJ (by omega)];obtain⟨x⟩:=x;simp;exact SC (by rw[T4];exact RC _)
 obtain⟨x,I2⟩:=im (n:=s.toks) (f:=λx=>(x.extract 0 (if j<0 then(j+(x.size:Int)).toNat else min j.toNat x.size)).push u2++x.extract (if j<0 then(j+(x.size:Int)).toNat else min j.toNat x.size)) I e1 e2 p rfl (by rw[<-RD,ex y rfl,RI,Sh,Rp,T4,RD];omega) (by rw[ex y rfl];exact(q.take _).app (.cons r2 (q.drop _)));exact Tl F.slot_list_insert ⟨_,e3,rfl⟩ F.entry_list_insert (F.args_list_insert_3 _ _ _) (AutoListH.list_insert_list_int_val_1 a y n j _ u2 (by rw[f];decide) hz) ⟨e3,h.to x I2.mem _ .non⟩
theorem wM(z:PE call gv X o E)(A:PA call gv X [e] L)(b:VN o "append" X.env (eval o X.env)=eval o X.env:=by rfl)(a:(apos.endLine==cpos.line)=true:=by rfl)(k:notStar e=true:=by rfl):PE call gv X (.Call (.Attribute o "append" apos) [e] [] cpos) (.n8 .append E L):=pM (b:=.append) U0 PySem.F.slot_list_append PySem.F.type_list_append vc (λ_ _=>by rw[ev]) (r8 λ_ _=>rfl) z A b (Et k) a k rfl
theorem xA(z:PE call gv X o E)(A:PA call gv X [e] L)(b:VN o "pop" X.env (eval o X.env)=eval o X.env:=by rfl)(a:(apos.endLine==cpos.line)=true:=by rfl)(k:notStar e=true:=by rfl):PE call gv X (.Call (.Attribute o "pop" apos) [e] [] cpos) (.n8 .dK E L):=pM (b:=.dK) U0 PySem.F.slot_list_pop PySem.F.type_list_pop zJ (λ_ _=>by rw[ev]) (r8 λ_ _=>rfl) z A b (Et k) a k rfl
theorem u7(z:PE call gv X o E)(A:PA call gv X [e,e2] L)(b:VN o "insert" X.env (eval o X.env)=eval o X.env:=by rfl)(a:(apos.endLine==cpos.line)=true:=by rfl)(y:[e,e2].all notStar=true:=by rfl)(C:notStar e=true:=by rfl)(B:[e2].all notStar=true:=by rfl):PE call gv X (.Call (.Attribute o "insert" apos) [e,e2] [] cpos) (.n8 .insert E L):=pM (b:=.insert) U0 PySem.F.slot_list_insert PySem.F.type_list_insert wl (λ_ _=>by rw[ev]) (r8 λ_ _=>rfl) z A b (IN y) a C B
end
end Mi
namespace Mi
open PySem PySem.Spec PyProof.Rows
section
variable{X:Cx}{D:Dm}{env env':Mi.Env}{cm cm':List RB}{m m':Mem}{s s':R9}{w u:W}{v z:R3}{ch ch':List RB}{J Q:VK}{h g:SA}{t x:T}{l l':List T}{ws:List W}{us y:List R3}{a:RB}{n:Nat}{i:Nat}{α:Type}{k:α->List RB->Mem->R9->Prop}
variable{call:Nat->List W->Mem->Res W}{gv:List T}{e e2 c tg o ix:SL}{es:List SL}{E F G C:Mi.E}{L:Es}{pos p:Pos}{N:Str}{rest A B body:List TM}{K S S2:Mi.S}{is:List Nat}{R:YQ->R9->Prop}{U:Unit->R9->Prop}
theorem bd.sub(x:bd X.fs X.gs ch' cm m s cm' m' s')(w:∀b∈ch',b∈ch):bd X.fs X.gs ch cm m s cm' m' s':=x.weak λb h n=>Yv (w b h) n
theorem ap.sub{r:Res α}(h:ap X ch cm m s r J k)(w:∀b∈ch',b∈ch):ap X ch' cm m s r J k:=by
 cases r with
 |ok a m2=>exact λc t x M=>h c t (x.sub w) M
 |stuck=>exact h
theorem bQ:∀b∈X.tb,b∈X.own:=λb h=>R2 _ (Sn _ h)
theorem PE.lq{f:W->Mem->Res α}{Q:VK}(h:PE call gv X e E)(I:Fr X env cm m s)(hp:ap X X.own cm m s ((ev call gv E env m).bind f) J k)(q:∀w v cm1 m1 s1,Fr X env cm1 m1 s1->bd X.fs X.gs X.tb cm m s cm1 m1 s1->RW X.D cm1 m1 s1.heap w v->ap X X.own cm1 m1 s1 (f w m1) J k->Q v s1):RJ X.M X.A (eval e X.env) Q J s:=
 h env cm m s I Q J ((hp.bind.mono λw c1 m1 s1 x M o=>o).sub bQ |>.mono λw c1 m1 s1 x M o v r=>q w v c1 m1 s1 (I.go x M I.nc) x r o)
theorem PT.lq{f:Bool->Mem->Res α}{Q:Bool->R9->Prop}(h:PT call gv X e E)(I:Fr X env cm m s)(hp:ap X X.own cm m s (((ev call gv E env m).bind b8).bind f) J k)(q:∀b cm1 m1 s1,Fr X env cm1 m1 s1->bd X.fs X.gs X.tb cm m s cm1 m1 s1->ap X X.own cm1 m1 s1 (f b m1) J k->Q b s1):RJ X.M X.A (isTrue e X.env (eval e X.env)) Q J s:=
 h env cm m s I Q J ((hp.bind.mono λw c1 m1 s1 x M o=>o).sub bQ |>.mono λw c1 m1 s1 x M o=>q w c1 m1 s1 (I.go x M I.nc) x o)
def FQ(X:Cx)(R:YQ->R9->Prop):Mi.Flow->List RB->Mem->R9->Prop
 |.next env,cm,m,s=>Fr X env cm m s->R .next s
 |.ret w,cm,m,s=>∀env,Fr X env cm m s->∀v,RW X.D cm m s.heap w v->R (.ret v) s
variable(call gv) in
def lM(X:Cx)(sts:List TM)(S:Mi.S):Prop:=∀env cm m s,Fr X env cm m s->∀(R:YQ->R9->Prop) (J:VK),PassesOwn X.M X.A X.env J->ap X X.own cm m s (ex call gv S env m) J (FQ X R)->RJ X.M X.A (execs sts X.env) R J s
theorem Fr.quiet(I:Fr X env cm m s):interactive X.env=false:=by simp[interactive,I.ok.kind]
theorem By:lM call gv X [] .done:=λenv cm m s I R J _ h=>by
 rw[ex]at h;exact XH (h.now I.mem I)
theorem Bq(h:PE call gv X e E):lM call gv X (.Return (Zz e) pos::rest) (.ret E K):=λenv cm m s I R J _ hp=>by
 rw[ex]at hp;exact TD (wpAny_Return_some (h.lq I hp λw v c1 m1 s1 I1 x1 r o=>o.now I1.mem _ I1 v r))
theorem yz(h:PE call gv X e E)(hk:lM call gv X rest K)(l:Y8 e Zy pos.line X.env=pure false:=by rfl):lM call gv X (.Expr e pos::rest) (.expr E K):=λenv cm m s I R J j hp=>by
 rw[ex]at hp;exact TD (wpAny_Expr_any (h.lq I hp λw v c1 m1 s1 I1 x1 r o=>hk _ _ _ _ I1 R J j o) I.quiet l)
theorem AQ(hN:X.N.Nodup)(hi:X.N[i]?=Zz N)(hx:Loc X N)(h:PE call gv X e E)(hk:lM call gv X rest K)(hs:Y8 e (Zz (.Name N p)) pos.line X.env=pure false:=by rfl):lM call gv X (.Assign [.Name N p] e pos::rest) (.asg i E K):=λenv cm m s I R J j hp=>by
 rw[ex]at hp;exact TD (wpAny_Assign_Name (h.lq I hp λw v c1 m1 s1 I1 x1 r o=>store I1 hN hi hx r λs2 x2 I2=>hk _ _ _ _ I2 R J j (o.shift x2)) hs)
theorem Dj(hc:PT call gv X c C)(ha:lM call gv X A S)(hb:lM call gv X B S2)(hk:lM call gv X rest K):lM call gv X (.If c A B pos::rest) (.cT C S S2 K):=λenv cm m s I R J j hp=>by
 rw[ex,<-bO]at hp;refine TD (wpAny_If (hc.lq I hp λb c1 m1 s1 I1 x1 o=>?_));have go:∀{T:Mi.S}{B:List TM},lM call gv X B T->ap X X.own c1 m1 s1 (ex call gv T env m1) J (λfl c2 m2 s2=>ap X X.own c2 m2 s2 (match fl with|.next env=>ex call gv K env m2|fl=>.ok fl m2) J (FQ X R))->RJ X.M X.A (execs B X.env) (λf s'=>match f with|.next=>RJ X.M X.A (execs rest X.env) R J s'|f=>R f s') J s1:=λhB o=>hB _ _ _ _ I1 _ J j (o.mono λfl c2 m2 s2 x2 M2 o=>by
  cases fl with
  |next env'=>exact λI2=>hk _ _ _ _ I2 R J j o
  |ret w=>exact λe2 I2 v r=>o.now M2 e2 I2 v r)
 cases b with
 |true=>exact go ha o.bind
 |false=>exact go hb o.bind
theorem xK{o:Option T}{f:W->Mem->Res α}(h:ap X ch cm m s ((eO o m').bind f) J k):∃t,o=Zz t/\ap X ch cm m s (f (.t t) m') J k:=by
 cases o with
 |none=>exact h.elim
 |some t=>exact⟨t,rfl,h⟩
def PG(X:Cx)(tg:SL)(G:Tg):Prop:=∀env cm m s,Fr X env cm m s->∀t u env',RT X.D cm m s.heap t u->bB G t env=Zz env'->∀(U:Unit->R9->Prop) (J:VK),(∀s',bd X.fs X.gs X.own cm m s cm m s'->Fr X env' cm m s'->U () s')->RJ X.M X.A (assign tg X.env u) U J s
def PL(X:Cx)(tg:SL)(is:List Nat):Prop:=∀env cm m s,Fr X env cm m s->∀l u env',RT X.D cm m s.heap (.lst l) u->bB (.tp is) (.tup l) env=Zz env'->∀(U:Unit->R9->Prop) (J:VK),(∀s',bd X.fs X.gs X.own cm m s cm m s'->Fr X env' cm m s'->U () s')->RJ X.M X.A (assign tg X.env u) U J s
theorem aG(i:Nat)(hN:X.N.Nodup)(hi:X.N[i]?=Zz N:=by rfl)(hx:Loc X N:=by first|exact Yn rfl|exact Yd ⟨rfl,rfl⟩):PG X (.Name N p) (.nm i):=λenv cm m s I t u env' r e U J q=>by
 cases e;exact Wi (store I hN hi hx (w:=.t t) r q)
noncomputable def Fv(X:Cx):List Nat->List SL->Bool
 |[],[]=>true
 |i::is,.Name x _::es=>X.N[i]?==Zz x&&(X.env.scope.names.lookup x==Zz .local || X.env.scope.names.lookup x==Zz .cell&&X.fn x)&&Fv X is es
 |_,_=>false
theorem xr(h:Fv X (i::is) es=true):∃x p r,es=.Name x p::r/\X.N[i]?=Zz x/\Loc X x/\Fv X is r=true:=by
 cases es with
 |nil=>cases h
 |cons e r =>
  cases e with
  |Name x p =>
   have h:(X.N[i]?==Zz x&&(X.env.scope.names.lookup x==Zz .local || X.env.scope.names.lookup x==Zz .cell&&X.fn x)&&Fv X is r)=true:=h;rw[RK,RK,U2]at h;exact⟨_,_,_,rfl,eq_of_beq h.1.1,h.1.2.imp (λh=>eq_of_beq h) (λh=>by rw[RK]at h;exact⟨eq_of_beq h.1,h.2⟩),h.2⟩
  |_=>cases h
theorem inOrder(hN:X.N.Nodup):∀{is:List Nat}{es:List SL}{l:List T}{us:List R3}{env:Mi.Env}{s:R9},Fv X is es=true->l.length=is.length->eS X.D cm m s.heap l us->Fr X env cm m s->(∀s',bd X.fs X.gs X.own cm m s cm m s'->Fr X ((is.zip l).foldl (λenv p=>env.set p.1 (Zz (.t p.2))) env) cm m s'->U () s')->RJ X.M X.A (assignInOrder ((Uq es X.env).map (·.2)) us) U J s
 |[],es,l,us,env,s,h,e,r,I,q=>by
  cases es with
  |nil =>
   obtain rfl:=RR.mp e;obtain rfl:=RR.mp r.1.symm;exact assignInOrder_nil (q s .refl I)
  |cons _ _=>cases h
 |i::is,es,[],us,env,s,h,e,r,I,q=>by cases e
 |i::is,es,t::l,us,env,s,h,e,r,I,q=>by
  obtain⟨x,p,es,rfl,hi,hx,h⟩:=xr h;obtain⟨v,us,rfl,r1,r⟩:=r.inv;have ha:(Uq (.Name x p::es) X.env).map (·.2)=assign (.Name x p) X.env::(Uq es X.env).map (·.2):=rfl;rw[ha];exact assignInOrder_cons (Wi (store I hN hi hx (w:=.t t) r1 λs2 x2 I2=>inOrder hN h (Xx e) (r.mp λ_ _ r=>r.go x2 I.mem I.nq) I2 λs3 x3 I3=>q s3 (x2.trans x3) I3))
theorem iO:∀{is:List Nat}{es:List SL},Fv X is es=true->(Uq es X.env).length=is.length/\(Uq es X.env).findIdx? (·.1)=Zy
 |[],[],_=>⟨rfl,rfl⟩
 |[],_::_,h=>by cases h
 |i::is,es,h=>by
  obtain⟨x,p,es,rfl,_,_,h⟩:=xr h;obtain⟨h1,h2⟩:=iO h;exact⟨congrArg (·+1) h1,by rw[show Uq (.Name x p::es) X.env=(false,assign (.Name x p) X.env)::Uq es X.env from rfl,List.findIdx?_cons,h2];rfl⟩
theorem pC(e:bB (.tp is) (.tup l) env=Zz env'):l.length=is.length/\env'=(is.zip l).foldl (λenv p=>env.set p.1 (Zz (.t p.2))) env:=by
 obtain⟨h,e⟩:=RE.mp (show(if l.length=is.length then Zz ((is.zip l).foldl (λenv p=>env.set p.1 (Zz (.t p.2))) env)else Zy)=Zz env' from e);cases e;exact⟨h,rfl⟩
theorem bz{kk:Nat}(is:List Nat)(hc:X.calm=true)(hN:X.N.Nodup)(ok:Fv X is es=true:=by with_unfolding_all rfl):PG X (.Tuple es kk pos) (.tp is):=λenv cm m s I t u env' r e U J q=>by
 cases t with
 |tup l =>
  obtain⟨h1,rfl⟩:=pC e;obtain⟨a,x,rfl,p,k⟩:=r.iN;have hk:=k.1;simp only[RD]at hk;refine assign_Tuple_tuple (I.ok.hd hc) p.tup (by rw[(iO ok).1];omega) (iO ok).2 λh' hx=>?_
  obtain⟨x1,I1⟩:=I.up (t:=s.toks) (d:=s.drawn) (ch:=X.own) λb o e=>hx b o (Rr (Rm e)) e
  exact inOrder hN ok h1 (k.mp λ_ _ r=>r.go x1 I.mem I.nq) I1 λs2 x2 I2=>q s2 (x1.trans x2) I2
 |_=>cases e
theorem DS{kk:Nat}(is:List Nat)(hc:X.calm=true)(hN:X.N.Nodup)(ok:Fv X is es=true:=by with_unfolding_all rfl):PL X (.Tuple es kk pos) is:=λenv cm m s I l u env' r e U J q=>by
 obtain⟨h1,rfl⟩:=pC e;obtain⟨a,x,rfl,p,k⟩:=aE I.mem (w:=.t (.lst l)) r rfl;have hk:=k.1;simp only[RD]at hk;rw[assign_Tuple];refine R0 (Tq ?_);unfold unpack;rw[(iO ok).1,(iO ok).2,show is.length=x.size by omega];refine R0 (SH (PySem.W.kun_itemsOf (I.ok.hd hc) p.pl.isList λh' hx=>?_));obtain⟨x1,I1⟩:=I.up (t:=s.toks) (d:=s.drawn) (ch:=X.own) λb o e=>hx b o (Rr (Rm e)) e
 exact inOrder hN ok h1 (k.mp λ_ _ r=>r.go x1 I.mem I.nq) I1 λs2 x2 I2=>q s2 (x1.trans x2) I2
theorem Cd(h:PE call gv X e E)(O:PG X tg (.tp is))(L:lM call gv X rest K)(J':Xg [tg] e pos.line X.env=pure false:=by rfl)(I':Xh [tg] e X.env=pure Zy:=by rfl)(R':(Uq [tg] X.env).map (·.2)=[assign tg X.env]:=by rfl):lM call gv X (.Assign [tg] e pos::rest) (.EG is E K):=λenv cm m s I R J j hp=>by
 rw[ex]at hp;refine TD (WG (h.lq I hp λw v c1 m1 s1 I1 x1 r o=>?_) J' I');rw[R'];cases w with
 |t t =>
  have o:ap X X.own c1 m1 s1 (match bB (.tp is) t env with|some env=>ex call gv K env m1|none=>.stuck) J (FQ X R):=o;split at o
  ·exact O _ _ _ _ I1 t v _ r ‹_› _ J λs2 x2 I2=>L _ _ _ _ I2 R J j (o.shift x2)
  ·exact o.elim
 |_=>exact o.elim
theorem yt(h:PE call gv X e E)(O:PL X tg is)(L:lM call gv X rest K)(J':Xg [tg] e pos.line X.env=pure false:=by rfl)(I':Xh [tg] e X.env=pure Zy:=by rfl)(R':(Uq [tg] X.env).map (·.2)=[assign tg X.env]:=by rfl):lM call gv X (.Assign [tg] e pos::rest) (.De is E K):=λenv cm m s I R J j hp=>by
 rw[ex]at hp;refine TD (WG (h.lq I hp λw v c1 m1 s1 I1 x1 r o=>?_) J' I');rw[R'];cases w with
 |t t =>
  cases t with
  |lst l =>
   have o:ap X X.own c1 m1 s1 (match bB (.tp is) (.tup l) env with|some env=>ex call gv K env m1|none=>.stuck) J (FQ X R):=o;split at o
   ·exact O _ _ _ _ I1 l v _ r ‹_› _ J λs2 x2 I2=>L _ _ _ _ I2 R J j (o.shift x2)
   ·exact o.elim
  |_=>exact o.elim
 |_=>exact o.elim
theorem A6{V:Mi.E}(hv:PE call gv X e V)(ho:PE call gv X o E)(hi:PE call gv X ix F)(hk:lM call gv X rest K)(ha:∀v,assign (.Subscript o ix p) X.env v=(do
   let ov <-XY [v] (eval o X.env)
   let iv <-XY [v,ov] (eval ix X.env)
   VR p
   XY [v,ov,iv] (setItem ov iv v)
   release [v,ov,iv] []):=by intro _;rfl)(hs:Xg [.Subscript o ix p] e pos.line X.env=pure false:=by rfl)(hw:Xh [.Subscript o ix p] e X.env=pure Zy:=by rfl)(h1:(Uq [.Subscript o ix p] X.env).map (·.2)=[assign (.Subscript o ix p) X.env]:=by rfl):lM call gv X (.Assign [.Subscript o ix p] e pos::rest) (.set E F V K):=λenv cm m s I R J j hp=>by
 rw[ex]at hp;refine TD (WG (hv.lq I hp λw v c1 m1 s1 I1 x1 r1 d=>?_) hs hw);rw[h1];show RJ X.M X.A (assign (.Subscript o ix p) X.env v) _ J s1;rw[ha];refine R0 (SH (ho.lq I1 d λu ov c2 m2 s2 I2 x2 r2 d=>?_));refine R0 (SH (hi.lq I2 d λw' iv c3 m3 s3 I3 x3 r3 d=>?_));have r4:=(r1.go x2.toExtK I1.mem I1.nc.q).go x3.toExtK I2.mem I2.nc.q;have r5:=r2.go x3.toExtK I2.mem I2.nc.q;refine R0 (Tq (R0 (SH ?_)));unfold setM at d;split at d
 ·rename_i cc kk _
  rw[bO]at d;cases q:Fy w m3 with
  |stuck=>rw[q]at d;exact d.elim
  |ok t m4 =>
   rw[q]at d;obtain⟨x4,I4,r6⟩:=pV I3 r4 q;obtain⟨a,e2,rfl⟩:=r5;obtain⟨tk,rfl⟩:=RT.fe r3;have d:ap X X.own c3 m3 s3 ((match m4[cc]? with
     |some (Zz (false,xs))=>match fK xs.length kk with
      |some j=>Res.ok () (m4.set cc (Zz (false,xs.set j t)))
      |none=>.stuck
     |_=>.stuck).bind λ_ m=>ex call gv K env m) J (FQ X R):=d
   split at d
   ·rename_i xs e1
    split at d
    ·rename_i jj hj
     obtain⟨b,y,q1,pl,_,q4⟩:=I4.mem.at' cc _ e1;rw[e2]at q1;cases q1;have hq:=q4.1;simp only[RD]at hq;have hl:=line;obtain⟨⟨n,e3⟩,_,hz⟩:=id pl;have q5:eS X.D c3 m4 s3.heap (xs.set jj t) (y.setIfInBounds jj v).toList:=⟨by simp[hq],λi t' v' a b=>by
      rw[U8]at b;rw[List.getElem?_set]at a b;by_cases hi:jj=i
      ·subst hi
       rw[Yq rfl]at a b;split at a<;>cases a;rw[Yq (by simp;omega)]at b;cases b;exact r6
      ·rw[Yr hi]at a b
       exact q4.2 i t' v' a b⟩
     obtain⟨x5,I5⟩:=im (f:=λx=>x.setIfInBounds jj v) (n:=s3.toks) I4 e1 e2 pl rfl (by simpa using hz) q5;have fin:=wpAny_release (M:=X.M) (A:=X.A) (E:=J) (vs:=[v,.ref a,.int kk tk]) (keep:=[]) (Q:=λ_ s'=>RJ X.M X.A (execs rest X.env) R J s') (hk _ _ _ _ I5 R J j ((d.shift (x4.sub bQ)).shift (x5.sub bQ)));unfold fK at hj;by_cases h0:0<=kk
     ·rw[Yq h0]at hj
      obtain⟨h4,hj⟩:=RE.mp hj;cases hj;exact PySem.W.ki_setAt e3 h0 (by omega) (by rw[<-hq];exact h4) fin
     ·rw[Yr h0]at hj
      obtain⟨h4,hj⟩:=RE.mp hj;cases hj;rw[hq]at fin;exact PySem.W.ki_setBack e3 (by omega) (by rw[<-hq];exact h4) (by omega) fin
    ·exact d.elim
   ·exact d.elim
 ·exact d.elim
theorem vr(i:Nat)(d:X.N[i]?=Zz N:=by rfl)(b:Ip X.env.scope N:=by first|exact Yn rfl|exact Yd (Yn rfl)|exact Yd (Yd rfl))(c:(N==("__debug__" : Str))=false:=by decide)(a:(N==("__classdict__" : Str))=false:=by decide):PE call gv X (.Name N pos) (.var i):=Du d b c a
theorem sg(i:Nat)(g:X.N.Nodup)(h:PE call gv X e E)(d:lM call gv X rest K)(hi:X.N[i]?=Zz N:=by rfl)(a:Loc X N:=by first|exact Yn rfl|exact Yd ⟨rfl,rfl⟩)(b:Y8 e (Zz (.Name N p)) pos.line X.env=pure false:=by rfl):lM call gv X (.Assign [.Name N p] e pos::rest) (.asg i E K):=AQ g hi a h d b
end
inductive SrcL (X:Cx) (cm:List RB) (m:Mem) (h:SA) (a:RB) (l:List T):Prop
 |own {x:Array R3}(_:aF cm m a) (_:dX X.fs h a x) (_:eS X.D cm m h l x.toList)
 |oD {j:Nat}(_:m[j]?=Zz (Zz (true,l))) (_:cm[j]?=Zz a)
 |du {x:Array R3}(_:aF cm m a) (_:mG "list" h a x) (_:a∉X.fs) (_:eS X.D cm m h l x.toList)
section
variable{P:S9}{w:SY}{A:SV}{E:R3->R9->Prop}{s:R9}
theorem AK(hj:s.heap.IsTupleIter j a k)(ha:s.heap.IsTuple a vs)(hv:vs[k]?=Zz v)(q:∀g,g.IsTupleIter j a (k+1)->Up j s.heap g->Q v { s with heap:=g }):RJ (Rn P w) A (UH (.ref j)) Q E s:=by
 obtain⟨oj,ej,cj,dj⟩:=id hj;obtain⟨oa,ea,_,na,da⟩:=ha;unfold UH;refine R0 (Sc hj.typeIs UD (SW UD hj.typeIs F.entry_tuple_iterator_next ?_ (F.args_tuple_iterator_next_1 _)));show RJ _ _ (field (.ref j) 0 >>= _) _ _ s;refine R0 (TL ej dj rfl ?_);show RJ _ _ (if(VY a==VW)=true then _ else _) _ _ s;rw[Yr (show ¬(VY a==VW)=true from RL)];refine R0 (TL ej dj rfl ?_);refine R0 (Tb ea da ?_);simp only[T8,hv];refine R0 (Tv ej dj (by simp) (R4 ⟨v,rfl,R4 (q _ ⟨_,TN _ ej (UF (Sx dj _)),(Vl ..).trans cj,?_⟩ (Se ..))⟩));rw[Sx dj];simp[rawInt]
theorem AY(hA:A.handled=Zy)(hj:s.heap.IsTupleIter j a k)(ha:s.heap.IsTuple a vs)(hv:vs[k]?=Zy)(q:∀g e,Vb j s.heap g->(∃o,g.get? e=Zz o/\o.cls=.type "StopIteration")->E (.ref e) { s with heap:=g }):RJ (Rn P w) A (UH (.ref j)) Q E s:=by
 obtain⟨oj,ej,cj,dj⟩:=id hj;obtain⟨oa,ea,_,na,da⟩:=ha;unfold UH;refine R0 (Sc hj.typeIs UD (SW UD hj.typeIs F.entry_tuple_iterator_next ?_ (F.args_tuple_iterator_next_1 _)));show RJ _ _ (field (.ref j) 0 >>= _) _ _ s;refine R0 (TL ej dj rfl ?_);show RJ _ _ (if(VY a==VW)=true then _ else _) _ _ s;rw[Yr (show ¬(VY a==VW)=true from RL)];refine R0 (TL ej dj rfl ?_);refine R0 (Tb ea da ?_);simp only[T8,hv];refine R0 (TG (R0 (Tv ej dj (by simp) ?_)));refine R0 ?_;simp only[newExc,newTuple];refine R0 (So ?_ (by size_fits));refine R0 (XO (by first|rfl|(simp only[firstArgMember];rfl)) (So ?_ (by size_fits)));simp only[Yf];refine R0 (wpAny_handled ?_)
 first|rw[show A.in1.handled=Zy from hA]|rw[hA]
 exact R0 (R4 (wpAny_throw (q _ _ (((Se ..).extBut.push _).push _) ⟨_,RM _ rfl,rfl⟩)))
structure zr (z TI TO i j a b:RB) (k:Nat) (h:SA):Prop where
 zip:YW h z TI TO .none
 its:Ye h TI (.ref i) (.ref j)
 out:∃p q,Ye h TO p q
 one:h.IsTupleIter i a k
 two:h.IsListIter j b k
theorem y7{z TI TO i j a b:RB}{xs ys:Array R3}{Q:R3->R9->Prop}(D:Yk z TI TO i j a b)(S:zr z TI TO i j a b k s.heap)(ha:s.heap.IsTuple a xs)(hb:s.heap.IsList b ys)(hx:xs[k]?=Zz x)(hy:ys[k]?=Zz y)(q:∀(g g':SA),g.objs.size=s.heap.objs.size->(∀c o,c≠z->c≠TO->c≠i->c≠j->s.heap.get? c=Zz o->g.get? c=Zz o) ->
   (∀c o,c≠z->(g.push { cls:=.type "tuple",data:=.seq #[x,y] }).get? c=Zz o->g'.get? c=Zz o)->YW g' z TI TO (rawInt s.heap.objs.size)->Ye g' TO x y->g'.IsTupleIter i a (k+1)->g'.IsListIter j b (k+1) ->
   Q (.ref s.heap.objs.size) { s with heap:=g' }):RJ (Rn P w) A (Builtin.«zip.__next__» ⟨[.ref z],[]⟩) (λfin s'=>∃v,fin=.done (.ret v)/\Q v s') E s:=by
 obtain⟨hz,hI,⟨p,r,hO⟩,h1,h2⟩:=S;show RJ _ _ (field (.ref z) 2 >>= _) _ _ _;refine R0 (TL hz rfl rfl ?_);refine R0 (TL hz rfl rfl (R0 (Tb hI rfl ?_)));refine R0 ?_;unfold Builtin.SmallTypes.ownedTupleIsFree;refine R0 (TL hz rfl rfl (R4 ?_));simp only[if_true];refine R0 (TG (R0 (TL hz rfl rfl (R0 (Ur hz (by simp) λg1 z1 e1=>?_)))));replace z1:YW g1 z TI TO .ellipsis:=z1;refine R0 ?_;simp only[Wq,List.zipIdx_nil,UK,WN];refine R0 (R0 (Xi ?_));refine R0 (AK (h1.extBut e1.extBut D.i1z) (ha.extBut e1.extBut D.l1z) hx λg2 k2 e2=>R4 ?_);have o2:=e2.extBut _ _ D.TOi1 (e1.extBut _ _ D.TOz hO);refine R0 (Tb o2 rfl (R0 (wpAny_updateSeq_pair o2 λg3 o3 e3=>?_)));replace o3:Ye g3 TO x r:=o3;refine R0 (YB (R4 (R0 (R0 (Xi ?_)))));refine R0 (wpAny_nextOf_list_item (((h2.extBut e1.extBut D.i2z).extBut e2.extBut D.i12.symm).extBut e3.extBut D.TOi2.symm) (((hb.extBut e1.extBut D.l2z).extBut e2.extBut D.l2i1).extBut e3.extBut D.l2TO) hy λg4 k4 e4=>R4 ?_);have o4:=e4.extBut _ _ D.TOi2 o3;refine R0 (Tb o4 rfl (R0 (wpAny_updateSeq_pair o4 λg5 o5 e5=>?_)));replace o5:Ye g5 TO x y:=o5;refine R0 (YB (R4 (R4 (R0 (Tb o5 rfl (R0 (WM ?_)))))));have sz:g5.objs.size=s.heap.objs.size:=by rw[e5.1,e4.1,e3.1,e2.1,e1.1]
 have z5:=e5.extBut _ _ D.TOz.symm (e4.extBut _ _ D.i2z.symm (e3.extBut _ _ D.TOz.symm (e2.extBut _ _ D.i1z.symm z1)));have kp:∀c o,c≠z->c≠TO->c≠i->c≠j->s.heap.get? c=Zz o->g5.get? c=Zz o:=λc o n1 n2 n3 n4 e =>
  e5.extBut _ _ n2 (e4.extBut _ _ n4 (e3.extBut _ _ n2 (e2.extBut _ _ n3 (e1.extBut _ _ n1 e))))
 have k5:=((k2.extBut e3.extBut D.TOi1.symm).extBut e4.extBut D.i12).extBut e5.extBut D.TOi1.symm;have l5:=k4.extBut e5.extBut D.TOi2.symm;refine R0 ?_;unfold Builtin.SmallTypes.ownedTupleHandOut;have z6:YW (g5.push { cls:=.type "tuple",data:=.seq #[x,y] }) z TI TO .ellipsis:=R7 _ z5;refine R0 (Ur z6 (by simp) λg7 z7 e7=>?_);replace z7:YW g7 z TI TO (rawInt g5.objs.size):=z7;refine Ur z7 (by simp) λg8 z8 e8=>?_
 replace z8:YW g8 z TI TO (rawInt g5.objs.size):=z8;have up:∀c o,c≠z->(g5.push { cls:=.type "tuple",data:=.seq #[x,y] }).get? c=Zz o->g8.get? c=Zz o:=λc o n e=>e8.extBut _ _ n (e7.extBut _ _ n e)
 have up':=λc o n e=>up c o n (R7 _ e)
 refine R4 ⟨_,rfl,?_⟩;rw[sz]at z8 ⊢;exact q g5 g8 sz kp up z8 (up' _ _ D.TOz o5) (k5.at λo e=>up' _ o D.i1z e) (l5.at λo e=>up' _ o D.i2z e)
theorem AW{z TI TO i j a b:RB}(hA:A.handled=Zy)(D:Yk z TI TO i j a b)(S:zr z TI TO i j a b k s.heap)(ha:s.heap.IsTuple a xs)(hx:xs[k]?=Zy)(q:∀(g:SA) (e:RB),(∀c o,c≠z->c≠i->s.heap.get? c=Zz o->g.get? c=Zz o)->(∃o,g.get? e=Zz o/\o.cls=.type "StopIteration")->E (.ref e) { s with heap:=g }):
  RJ (Rn P w) A (Builtin.«zip.__next__» ⟨[.ref z],[]⟩) Q E s:=by
 obtain⟨hz,hI,_,h1,h2⟩:=S;show RJ _ _ (field (.ref z) 2 >>= _) _ _ _;refine R0 (TL hz rfl rfl ?_);refine R0 (TL hz rfl rfl (R0 (Tb hI rfl ?_)));refine R0 ?_;unfold Builtin.SmallTypes.ownedTupleIsFree;refine R0 (TL hz rfl rfl (R4 ?_));simp only[if_true];refine R0 (TG (R0 (TL hz rfl rfl (R0 (Ur hz (by simp) λg1 z1 e1=>?_)))));replace z1:YW g1 z TI TO .ellipsis:=z1;refine R0 ?_;simp only[Wq,List.zipIdx_nil,UK,WN];refine R0 (R0 (Xi ?_));refine R0 (AY hA (h1.extBut e1.extBut D.i1z) (ha.extBut e1.extBut D.l1z) hx λg2 e k2 he=>?_);obtain⟨oe,hoe,hce⟩:=he;have z2:=k2 _ _ D.i1z.symm z1;have ne:e≠z:=λx=>by subst x;rw[z2]at hoe;cases hoe;simp at hce
 exact Ur z2 (by simp) λg3 _ e3=>q g3 e (λc o n1 n2 x=>e3.extBut _ _ n1 (k2 _ _ n2 (e1.extBut _ _ n1 x))) ⟨oe,e3.extBut _ _ ne hoe,hce⟩
end
inductive Src (X:Cx) (cm:List RB) (m:Mem) (h:SA) (it:RB) (i:Nat) (l:List T):List RB->Prop
 |lst {a:RB}(_:h.IsListIter it a i) (_:SrcL X cm m h a l):Src X cm m h it i l [it]
 |tup {a:RB}{x:Array R3}(_:h.IsTupleIter it a i) (_:mG "tuple" h a x) (_:a∉X.fs) (_:eS X.D cm m h l x.toList):Src X cm m h it i l [it]
 |str {c:List Nat}{t:Tok}(k:Bool) (_:h.IsStrIter it (if k then "str_ascii_iterator" else "str_iterator") ⟨c.toArray⟩ t i) (_:l=c.map λc=>.str [c]):Src X cm m h it i l [it]
 |C6 {lo:Int}{n:Nat}(_:IsRangeIter h it (lo+(i:Nat)*1) ((n:Int)-(i:Nat)) 1) (_:l=rangeT lo n):Src X cm m h it i l [it]
 |C3 {j a:RB}{old:R3}{ts:List T}(_:it≠j) (_:IsEnum h it j (i:Int) old) (_:h.IsListIter j a i) (_:SrcL X cm m h a ts) (_:l=hH ts):Src X cm m h it i l [it,j]
 |zip {TI TO j j' a b:RB}{x:Array R3}{ts us:List T}(_:Yk it TI TO j j' a b) (_:zr it TI TO j j' a b i h) (_:mG "tuple" h a x) (_:a∉X.fs) (_:eS X.D cm m h ts x.toList) (_:SrcL X cm m h b us) (_:ts.length=us.length) (_:l=Dg ts us):Src X cm m h it i l [it,TI,TO,j,j']
noncomputable def isTup:List RB->RB->Bool
 |[_,TI,TO,_,_],b=>b==TI || b==TO
 |_,_=>false
structure On (X:Cx) (cm:List RB) (m:Mem) (h:SA) (it:RB) (fp:List RB) (i:Nat) (l:List T):Prop where
 src:Src X cm m h it i l fp
 nb:∀b∈fp,X.base.get? b=Zy
 no:∀b∈fp,b∉X.own
 nf:∀b∈fp,if isTup fp b then b∈X.fs/\b∉frs X.stack else b∉X.fs
section
variable{X:Cx}{D:Dm}{env:Mi.Env}{cm cm' cm0:List RB}{m m' m0 m1 m2:Mem}{s s' s0 s1:R9}{w u:W}{v z:R3}{ch fp:List RB}{J Q:VK}{h g:SA}{t:T}{l ts:List T}{a it:RB}{n:Nat}{i:Nat}{tk:Nat}{tg:SL}{α:Type}
theorem SrcL.now(M:be X cm m h)(q:SrcL X cm m h a l):∃x,h.IsList a x/\x.size<=Ru/\eS X.D cm m h l x.toList:=by
 cases q with
 |own n p r=>exact⟨_,p.pl.isList,p.2.2,r⟩
 |du n p _ r=>obtain⟨_,_,_,_,_,_,z⟩:=id p;exact⟨_,p.pl.isList,z,r⟩
 |oD e1 e2 =>
  obtain⟨b,x,h1,p,_,r⟩:=M.at' _ _ e1;rw[e2]at h1;cases h1;exact⟨x,p.pl.isList,p.2.2,r⟩
theorem SrcL.go(x:ExtK X.fs X.gs ch cm m s cm' m' s')(lt:∀(i:Nat) l,m[i]?=Zz (Zz (true,l))->m'[i]?=Zz (Zz (true,l)))(M:be X cm m s.heap)(N:Nq X.fs ch s.heap)(q:SrcL X cm m s.heap a l):SrcL X cm' m' s'.heap a l:=by
 cases q with
 |own n p r=>exact .own (p.go x N n).2 (p.go x N n).1 (r.mp λ_ _ r=>r.go x M N)
 |du n p f r=>exact .du (p.go x N n f).2 (p.go x N n f).1 f (r.mp λ_ _ r=>r.go x M N)
 |oD e1 e2=>exact .oD (lt _ _ e1) (x.pre _ _ e2)
theorem zr.keep{TI TO j j' a b:RB}(S:zr it TI TO j j' a b i h)(k:∀c∈[it,TI,TO,j,j'],∀o,h.get? c=Zz o->g.get? c=Zz o):zr it TI TO j j' a b i g:=by
 obtain⟨hz,hI,⟨p,q,hO⟩,⟨o1,e1,c1⟩,⟨o2,e2,c2⟩⟩:=S;exact⟨k _ (by simp) _ hz,k _ (by simp) _ hI,⟨p,q,k _ (by simp) _ hO⟩,⟨o1,k _ (by simp) _ e1,c1⟩,⟨o2,k _ (by simp) _ e2,c2⟩⟩
theorem Src.go(x:ExtK X.fs X.gs ch cm m s cm' m' s')(lt:∀(i:Nat) l,m[i]?=Zz (Zz (true,l))->m'[i]?=Zz (Zz (true,l)))(M:be X cm m s.heap)(N:Nq X.fs ch s.heap)(k:∀b∈fp,∀o,s.heap.get? b=Zz o->s'.heap.get? b=Zz o)(q:Src X cm m s.heap it i l fp):Src X cm' m' s'.heap it i l fp:=by
 cases q with
 |lst q r=>obtain⟨o,e,c⟩:=q;exact .lst ⟨o,k _ R6 o e,c⟩ (r.go x lt M N)
 |tup q p f r=>obtain⟨o,e,c⟩:=q;exact .tup ⟨o,k _ R6 o e,c⟩ (p.go x N (p.nl M) f).1 f (r.mp λ_ _ r=>r.go x M N)
 |str b q e1=>obtain⟨o,e,c⟩:=q;exact .str b ⟨o,k _ R6 o e,c⟩ e1
 |C6 q e1=>exact .C6 (k _ R6 _ q) e1
 |C3 n q r c e1=>obtain⟨o,e,d⟩:=r;exact .C3 n (k _ R6 _ q) ⟨o,k _ (by simp) o e,d⟩ (c.go x lt M N) e1
 |zip A S p f r c e1 e2=>exact .zip A (S.keep k) (p.go x N (p.nl M) f).1 f (r.mp λ_ _ r=>r.go x M N) (c.go x lt M N) e1 e2
theorem Src.obj(q:Src X cm m h it i l fp):∀b∈fp,∃o,h.get? b=Zz o/\((∃vs c,o.data=.fields vs/\o.cls=.type c/\c≠"traceback"/\∀x t,vs[1]?≠Zz (.str x t))/\isTup fp b=false∨(∃x n,o.data=.seq x n)/\isTup fp b=true):=by
 have one:∀{j:RB}{o:Obj}{c vs},h.get? j=Zz o->o.cls=.type c->o.data=.fields vs->(c≠"traceback"/\∀x t,vs[1]?≠Zz (.str x t))->∀b∈[j],∃o,h.get? b=Zz o/\((∃vs c,o.data=.fields vs/\o.cls=.type c/\c≠"traceback"/\∀x t,vs[1]?≠Zz (.str x t))/\isTup [j] b=false∨(∃x n,o.data=.seq x n)/\isTup [j] b=true):=λe c d n b hb=>by
  rw[RQ.mp hb];exact⟨_,e,.inl ⟨⟨_,_,d,c,n⟩,rfl⟩⟩
 cases q with
 |lst q _=>obtain⟨o,e,c,d⟩:=q;exact one e c d ⟨by decide,λ_ _ z=>by simp at z⟩
 |tup q _ _ _=>obtain⟨o,e,c,d⟩:=q;exact one e c d ⟨by decide,λ_ _ z=>by simp at z⟩
 |str k q _=>obtain⟨o,e,c,d⟩:=q;exact one e c d (⟨by cases k<;>decide,λ_ _ z=>by simp at z⟩)
 |C6 q _=>exact one q rfl rfl ⟨by decide,λ_ _ z=>by simp[rawInt]at z⟩
 |C3 _ q r _ _ =>
  obtain⟨o,e,c,d⟩:=r;intro b hb;rcases R5.mp hb with rfl|hb
  ·exact⟨_,q,.inl ⟨⟨_,_,rfl,rfl,by decide,λ_ _ z=>by simp at z⟩,rfl⟩⟩
  ·rw[RQ.mp hb];exact⟨_,e,.inl ⟨⟨_,_,d,c,by decide,λ_ _ z=>by simp at z⟩,rfl⟩⟩
 |zip A S _ _ _ _ _ _ =>
  obtain⟨hz,hI,⟨p,q,hO⟩,⟨o1,e1,c1,d1⟩,⟨o2,e2,c2,d2⟩⟩:=S;intro b hb;simp only[R5,RV,or_false]at hb;rcases hb with rfl|rfl|rfl|rfl|rfl
  ·exact⟨_,hz,.inl ⟨⟨_,_,rfl,rfl,by decide,λ_ _ z=>by simp at z⟩,by simp[isTup,A.TIz.symm,A.TOz.symm]⟩⟩
  ·exact⟨_,hI,.inr ⟨⟨_,_,rfl⟩,by simp[isTup]⟩⟩
  ·exact⟨_,hO,.inr ⟨⟨_,_,rfl⟩,by simp[isTup]⟩⟩
  ·exact⟨_,e1,.inl ⟨⟨_,_,d1,c1,by decide,λ_ _ z=>by simp at z⟩,by simp[isTup,A.TIi1.symm,A.TOi1.symm]⟩⟩
  ·exact⟨_,e2,.inl ⟨⟨_,_,d2,c2,by decide,λ_ _ z=>by simp at z⟩,by simp[isTup,A.TIi2.symm,A.TOi2.symm]⟩⟩
theorem On.pt(q:On X cm m h it fp i l):∀b∈fp,∃o,h.get? b=Zz o/\((∃vs c,o.data=.fields vs/\o.cls=.type c/\c≠"traceback"/\∀x t,vs[1]?≠Zz (.str x t))/\b∉X.fs∨(∃x n,o.data=.seq x n)/\b∈X.fs/\b∉frs X.stack):=λb hb=>by
 obtain⟨o,e,p⟩:=q.src.obj b hb;have f:=q.nf b hb;rcases p with⟨p,k⟩|⟨p,k⟩
 ·rw[Yr (by rw[k];decide)]at f;exact⟨o,e,.inl ⟨p,f⟩⟩
 ·rw[Yq k]at f;exact⟨o,e,.inr ⟨p,f⟩⟩
theorem On.gp(x:ExtK X.fs X.gs ch cm m s cm' m' s')(M:be X cm m s.heap)(c:∀b∈fp,b∉ch)(q:On X cm m s.heap it fp i l):∀b∈fp,∀o,s.heap.get? b=Zz o->s'.heap.get? b=Zz o:=λb hb o e=>by
 obtain⟨o',e',p⟩:=q.pt b hb;rw[e]at e';cases e';rcases p with⟨⟨vs,cc,d,_,_⟩,f⟩|⟨⟨y,n,d⟩,f,_⟩
 ·obtain⟨_,o',e',r⟩:=x.keep b o e (c b hb) (wv M e λx n z=>by rw[d]at z;cases z)
  rcases r with rfl|⟨r,_⟩
  ·exact e'
  ·exact Yv r f
 ·obtain⟨_,o',e',r⟩:=x.keep b o e (c b hb) (C4 M f)
  rcases r with rfl|⟨_,r,_⟩
  ·exact e'
  ·exact Yv d (r _ _)
theorem On.go(x:ExtK X.fs X.gs ch cm m s cm' m' s')(lt:∀(i:Nat) l,m[i]?=Zz (Zz (true,l))->m'[i]?=Zz (Zz (true,l)))(M:be X cm m s.heap)(N:Nq X.fs ch s.heap)(c:∀b∈fp,b∉ch)(q:On X cm m s.heap it fp i l):On X cm' m' s'.heap it fp i l:=
 ⟨q.src.go x lt M N (q.gp x M c),q.nb,q.no,q.nf⟩
theorem On.nq(q:On X cm m h it fp i l):Nq X.fs fp h:=λb hb o e f=>by
 obtain⟨o',e',p⟩:=q.pt b hb;rw[e]at e';cases e';rcases p with⟨⟨vs,c,d,e1,e2⟩,_⟩|⟨⟨y,n,d⟩,g,_⟩
 ·cases f with
  |seq x n z=>rw[d]at z;cases z
  |dict x n z=>rw[d]at z;cases z
  |ref C v z=>rw[e1]at z;cases z
  |trace v z=>rw[e1]at z;exact e2.1 (Value.type.inj z)
 ·cases f with
  |seq x n z f=>exact f g
  |dict x n z=>rw[d]at z;cases z
  |ref C v _ z=>rw[d]at z;cases z
  |trace v _ z=>rw[d]at z;cases z
theorem On.stp(I:Fr X env cm m s)(q:On X cm m s.heap it fp i l)(kk:∀b o,b∉fp->s.heap.get? b=Zz o->h.get? b=Zz o)(pp:∀b∈fp,b∈X.fs->∃o x n,h.get? b=Zz o/\o.data=.seq x n):ExtK X.fs X.gs fp cm m s cm m { s with heap:=h,toks:=tk }/\Fr X env cm m { s with heap:=h,toks:=tk }:=by
 have x:ExtK X.fs X.gs fp cm m s cm m { s with heap:=h,toks:=tk }:=⟨rfl,id,λ_ _ h=>h,RC _,λb o e c n=>⟨n,o,kk b o c e,.inl rfl⟩⟩
 have M:=I.mem.go q.nq x kk (I.ok.jG _ _ I.mem.tab λb o hb e=>kk b o (λz=>by
  rcases hb with hb|⟨v,x,u,d,k⟩
  ·exact q.no b z (bQ b hb)
  obtain⟨o',e',p⟩:=q.pt b z;rw[e]at e';cases e';rcases p with⟨⟨w,c,g,_,n⟩,_⟩|⟨⟨y,n,g⟩,_⟩
  ·rw[d]at g;cases g;exact n.2 _ _ k
  ·rw[d]at g;cases g) e)
 have no:∀{b o},s.heap.get? b=Zz o->(∀v,o.data≠.fields v)->(∀x n,o.data≠.seq x n)->b∉fp:=λe n k z=>by
  obtain⟨o',e',p⟩:=q.pt _ z;rw[e]at e';cases e';rcases p with⟨⟨_,_,d,_⟩,_⟩|⟨⟨_,_,d⟩,_⟩
  ·exact n _ d
  ·exact k _ _ d
 have cell:∀{c v},s.heap.IsCell c v->h.IsCell c v:=λ⟨o,e,d⟩=>⟨o,kk _ _ (no e (λv z=>by rw[d]at z;cases z) λx n z=>by rw[d]at z;cases z) e,d⟩
 obtain⟨f,⟨oL,es,ep,eL,dL,r⟩,hl⟩:=I.loc;refine⟨x,⟨I.ok,M,I.bare,λb o e=>kk b o (λz=>by rw[q.nb b z]at e;cases e) (I.bs b o e),⟨f,⟨oL,es,ep,kk _ _ (no eL (λv z=>by rw[dL]at z;cases z) λx n z=>by rw[dL]at z;cases z) eL,dL,r⟩,λi y w h1 h2 h3=>?_⟩,λy c h=>(I.cell y c h).elim λv z=>⟨v,cell z⟩,λb hb=>?_,I.len⟩⟩
 ·obtain⟨u,h4,h5⟩:=hl i y w h1 h2 h3
  exact⟨u,h4.go x I.mem q.nq,h5.imp id λ⟨k,c,h6,h7⟩=>⟨k,c,h6,cell h7⟩⟩
 ·obtain⟨g1,o,e,n⟩:=I.cO b hb
  refine⟨g1,?_⟩;by_cases z:b∈fp
  ·obtain⟨o',y,c,e',d⟩:=pp b z hb
   refine⟨o',e',(λv z=>by rw[d]at z;cases z),λw=>?_⟩;obtain⟨_,_,⟨_,f⟩|⟨_,_,f⟩⟩:=q.pt b z
   ·exact Yv hb f
   ·exact Yv w f
  ·exact⟨o,kk b o z e,n⟩
theorem On.fin{j:Nat}(I:Fr X env cm m s)(q:On X cm m s.heap it fp i l)(kk:∀b o,b∉fp->s.heap.get? b=Zz o->h.get? b=Zz o)(S:ExtK X.fs X.gs fp cm m s cm m { s with heap:=h,toks:=tk }->Src X cm m h it j l fp):ExtK X.fs X.gs fp cm m s cm m { s with heap:=h,toks:=tk }/\Fr X env cm m { s with heap:=h,toks:=tk }/\On X cm m h it fp j l:=by
 have S:=S ⟨rfl,id,λ_ _ h=>h,RC _,λb o e c n=>⟨n,o,kk b o c e,.inl rfl⟩⟩;have on:On X cm m h it fp j l:=⟨S,q.nb,q.no,q.nf⟩
 obtain⟨x,I'⟩:=q.stp (tk:=tk) I kk λb hb f=>by
  obtain⟨o,e,⟨_,g⟩|⟨⟨x,n,d⟩,_⟩⟩:=on.pt b hb
  ·exact Yv f g
  ·exact⟨o,x,n,e,d⟩
 exact⟨x,I',on⟩
theorem bd.mW{fs e:List RB}(x0:bd fs gs ch cm0 m0 s0 cm m s)(x:ExtK fs gs e cm m s cm m s1)(n:∀b∈e,s0.heap.get? b=Zy)(t:∀b o,b∉e->s.heap.get? b=Zz o->∃o',s1.heap.get? b=Zz o'/\Kd o o'):bd fs gs ch cm0 m0 s0 cm m s1:=by
 have ne:∀{b o},s0.heap.get? b=Zz o->b∉e:=λq z=>by rw[n _ z]at q;cases q
 refine .of (λb o e=>?_) x0.lent ⟨x.os.trans x0.os,λh=>x.bare (x0.bare h),x0.pre,x0.len,λb o e c nl=>?_⟩
 ·obtain⟨o1,e1,q⟩:=x0.thr b o e
  obtain⟨o2,e2,q2⟩:=t b o1 (ne e) e1;exact⟨o2,e2,q2.1 ∘ q.1,q2.2 ∘ q.2⟩
 ·obtain⟨n1,o1,e1,r⟩:=x0.keep b o e c nl
  obtain⟨n2,o2,e2,q⟩:=x.keep b o1 e1 (ne e) n1;refine⟨n2,o2,e2,?_⟩;rcases r with rfl|⟨hf,hn,hg,sl,rfl⟩
  ·exact q
  ·rcases q with rfl|⟨_,_,_,sl',rfl⟩
   ·exact .inr ⟨hf,hn,hg,sl,rfl⟩
   ·exact .inr ⟨hf,hn,hg,sl',rfl⟩
theorem bd.past(x0:bd X.fs X.gs ch cm0 m0 s0 cm m s)(x:ExtK X.fs X.gs fp cm m s cm m s1)(n:∀b∈fp,s0.heap.get? b=Zy)(kk:∀b o,b∉fp->s.heap.get? b=Zz o->s1.heap.get? b=Zz o):bd X.fs X.gs ch cm0 m0 s0 cm m s1:=x0.mW x n λb o n e=>⟨o,kk b o n e,.r⟩
theorem Hv{M:Yo}{A:SV}{E:R3->R9->Prop}{s:R9}{u:R3}{o:Obj}{n:String}{vs:Array R3}{Q:Unit->R9->Prop}(ho:s.heap.get? it=Zz o)(hc:o.cls=.type n)(hd:o.data=.fields vs)(hn:["enumerate","zip","dict_itemiterator","dict_reverseitemiterator","odict_iterator","itertools.zip_longest","itertools.pairwise"].contains n=false)(hQ:Q () s):RJ M A (Te tg (.ref it) u) Q E s:=by
 unfold Te;cases tg<;>first
  |exact R4 hQ
  |(cases u<;>first
   |exact R4 hQ
   |(
    refine R0 (wpAny_load ho ?_);rw[hc,hd];show RJ M A (if(["enumerate","zip","dict_itemiterator","dict_reverseitemiterator","odict_iterator","itertools.zip_longest","itertools.pairwise"].contains n&&vs[0]?==Zz (rawInt _))=true then _ else _) Q E s;rw[Yr (by intro h;rw[hn,Bool.false_and]at h;cases h)];exact R4 hQ))
theorem D2{lo:Int}{k:Nat}(e:(rangeT lo n)[k]?=Zz t):k<n/\t=.int (lo+(k:Int)):=by
 unfold rangeT at e;rw[Rj]at e;obtain⟨j,e1,rfl⟩:=RY.mp e;obtain⟨h,e2⟩:=RA.mp e1;rw[UR]at h;rw[WU]at e2;subst e2;exact⟨h,rfl⟩
theorem ri{l':RB}{o:Obj}{x:Array R3}{c:Nat}(q:h.IsListIter it l' i∨h.IsTupleIter it l' i)(e:h.get? a=Zz o)(d:o.data=.seq x c):a≠it:=λz=>by
 rcases q with⟨o',e',_,d'⟩|⟨o',e',_,d'⟩<;>(rw[z,e']at e;cases e;rw[d']at d;cases d)
def rU(fp:List RB)(tg:SL):Prop:=fp.length=1∨∃es kk pos,tg=.Tuple es kk pos
theorem E2{i:Nat}(e:(hH l)[i]?=Zz t):∃t',l[i]?=Zz t'/\t=.tup [.int (i:Int),t']:=by
 unfold hH at e;rw[List.getElem?_zipWith]at e;split at e
 ·rename_i a b h1 h2
  cases e;obtain⟨_,h3⟩:=RA.mp h1;rw[WU]at h3;subst h3;exact⟨b,h2,rfl⟩
 ·cases e
theorem GN{us:List T}{i:Nat}(e:(Dg l us)[i]?=Zz t):∃t' u',l[i]?=Zz t'/\us[i]?=Zz u'/\t=.tup [t',u']:=by
 unfold Dg at e;rw[List.getElem?_zipWith]at e;split at e
 ·cases e;exact⟨_,_,‹_›,‹_›,rfl⟩
 ·cases e
theorem On.next(hc:X.A.handled=Zy)(I:Fr X env cm m s)(q:On X cm m s.heap it fp i l)(tk0:rU fp tg)(e:l[i]?=Zz t)(k:∀u h tk,(∀b o,b∉fp->s.heap.get? b=Zz o->h.get? b=Zz o)->ExtK X.fs X.gs fp cm m s cm m { s with heap:=h,toks:=tk }->Fr X env cm m { s with heap:=h,toks:=tk }->On X cm m h it fp (i+1) l->RT X.D cm m h t u->Q u { s with heap:=h,toks:=tk }):
  RJ X.M X.A (pyNext (.ref it)) (λr s1=>∃u,r=Zz u/\RJ X.M X.A (Te tg (.ref it) u) (λ_ s2=>Q u s2) J s1) J s:=by
 have fin:∀v h' tk,RT X.D cm m s.heap t v->(∃o c vs,h'.get? it=Zz o/\o.cls=.type c/\o.data=.fields vs/\["enumerate","zip","dict_itemiterator","dict_reverseitemiterator","odict_iterator","itertools.zip_longest","itertools.pairwise"].contains c=false)->(∀b o,b∉fp->s.heap.get? b=Zz o->h'.get? b=Zz o)->(ExtK X.fs X.gs fp cm m s cm m { s with heap:=h',toks:=tk }->Src X cm m h' it (i+1) l fp)->∃u,Zz v=Zz u/\RJ X.M X.A (Te tg (.ref it) u) (λ_ s2=>Q u s2) J { s with heap:=h',toks:=tk }:=λv h' tk r ⟨o,c,vs,e1,e2,e3,e4⟩ kk S=>by
  obtain⟨x,I',on⟩:=q.fin (tk:=tk) I kk S;exact⟨v,rfl,Hv (s:={ s with heap:=h',toks:=tk }) e1 e2 e3 e4 (k v h' tk kk x I' on (r.go x I.mem q.nq))⟩
 have hl:=(RA.mp e).1;have S:=q.src;have S0:=q.src;cases S with
 |lst hi hs =>
  obtain⟨y,hy,_,r⟩:=hs.now I.mem;obtain⟨v,e1,rv⟩:=r.get e;have hr:=r.1;simp only[RD]at hr;obtain⟨o,ho,_,c,d⟩:=id hy;refine(Vw (prog:=X.prog) (w:=X.w) hc it _ (ri (.inl hi) ho d) y).item i s _ _ (by omega) ⟨hi,hy⟩ λv' h' tk hv st kk=>?_
  have hv:y[i]?=Zz v':=hv;rw[<-RZ,e1]at hv;cases hv;exact fin v h' tk rv (let⟨o,e,c,d⟩:=st.1;⟨o,_,_,e,c,d,by decide⟩) kk λx=>.lst st.1 (hs.go x (λ_ _ h=>h) I.mem q.nq)
 |tup hi hp hf r =>
  obtain⟨v,e1,rv⟩:=r.get e;have hr:=r.1;simp only[RD]at hr;obtain⟨o,c,ho,_,d,_⟩:=id hp;refine(Wg (prog:=X.prog) (w:=X.w) hc it _ (ri (.inr hi) ho d) _).item i s _ _ (by omega) ⟨hi,hp.tup⟩ λv' h' tk hv st kk=>?_
  have hv:(_:Array R3)[i]?=Zz v':=hv;rw[<-RZ,e1]at hv;cases hv;exact fin v h' tk rv (let⟨o,e,c,d⟩:=st.1;⟨o,_,_,e,c,d,by decide⟩) kk λx=>.tup st.1 (hp.go x q.nq (hp.nl I.mem) hf).1 hf (r.mp λ_ _ r=>r.go x I.mem q.nq)
 |@str c t' b hi el =>
  subst el;rw[Rj]at e;obtain⟨d,e1,rfl⟩:=RY.mp e;rw[R1]at hl;have rv:∀v,SignAt ⟨c.toArray⟩ i v->RT X.D cm m s.heap (.str [d]) v:=λv ⟨d',u,e2,ev⟩=>by
   have e2:c[i]?=Zz d':=by simpa using e2
   rw[e1]at e2;cases e2;rw[ev];exact .str _ _
  cases b with
  |true=>exact(XT (prog:=X.prog) (w:=X.w) hc it ⟨c.toArray⟩ t').item i s _ _ (by simpa using hl) hi λv h' tk hv st kk=>fin v h' tk (rv v hv) (let⟨o,e,c,d⟩:=st;⟨o,_,_,e,c,d,by decide⟩) kk λx=>.str true st rfl
  |false=>exact(Xj (prog:=X.prog) (w:=X.w) hc it ⟨c.toArray⟩ t').item i s _ _ (by simpa using hl) hi λv h' tk hv st kk=>fin v h' tk (rv v hv) (let⟨o,e,c,d⟩:=st;⟨o,_,_,e,c,d,by decide⟩) kk λx=>.str false st rfl
 |@C6 lo n hi el =>
  subst el;obtain⟨h1,rfl⟩:=D2 e;refine(YE (prog:=X.prog) (w:=X.w) hc it lo 1 n).item i s _ _ h1 hi λv h' tk hv st kk=>?_
  obtain⟨t,rfl⟩:=hv;exact fin _ h' tk (by rw[Int.mul_one];exact .int _ _) ⟨_,_,_,st,rfl,rfl,by decide⟩ kk λx=>.C6 st rfl
 |@C3 j a old ts n0 q1 hi hs el =>
  subst el;obtain⟨t',e1,rfl⟩:=E2 e;obtain⟨y,hy,_,r⟩:=hs.now I.mem;obtain⟨u,hu,ru⟩:=r.get e1;rcases tk0 with z|⟨es,kk0,pos,rfl⟩
  ·cases z
  refine wpAny_pyNext_enum_item q1 hi hy (by rw[<-RZ];exact hu) n0 λh' heo hit' ht hz kp=>⟨_,rfl,wpAny_letOwnedTupleGo_enum heo λh2 he2 sb=>?_⟩
  have fresh:s.heap.get? s.heap.objs.size=Zy:=hG _;have ne:∀b∈[it,j],b≠s.heap.objs.size:=λb hb z=>by
   obtain⟨o,e,_⟩:=q.pt b hb;rw[z,fresh]at e;cases e
  have kk:∀b o,b∉[it,j]->s.heap.get? b=Zz o->h2.get? b=Zz o:=λb o n e=>sb.extBut b o (λz=>n (by simp[z])) (kp b o (λz=>n (by simp[z])) (λz=>n (by simp[z])) e)
  have hT:=sb.extBut _ _ (ne it (by simp)).symm ht;obtain⟨x,I',on⟩:=q.fin (tk:=s.toks+1) I kk λx=>.C3 n0 he2 (hit'.extBut sb.extBut n0.symm) (hs.go x (λ_ _ h=>h) I.mem q.nq) rfl
  refine k _ h2 _ kk x I' on (.tup ⟨_,_,hT,rfl,rfl,rfl,by unfold Ru;simp⟩ (λhb=>?_) rfl (Al.cons (.int _ _) (.cons (ru.go x I.mem q.nq) .nil)).2);obtain⟨_,o,e,_⟩:=I.cO _ hb;rw[fresh]at e;cases e
 |@zip TI TO j j' a b y ts us A Sd p f r c el1 el =>
  subst el;obtain⟨t1,t2,e1,e2,rfl⟩:=GN e;obtain⟨y2,hy2,_,r2⟩:=c.now I.mem;obtain⟨u,hu,ru⟩:=r.get e1;obtain⟨v,hv,rv⟩:=r2.get e2;rcases tk0 with z|⟨es,kk0,pos,rfl⟩
  ·cases z
  have hT:s.TypeIs (.ref it) "zip":=⟨_,Sd.zip,rfl⟩
  unfold pyNext;refine R0 (UX (Sc hT WC (SW WC hT F.entry_zip_next
   (y7 A Sd p.tup hy2 (by rw[<-RZ];exact hu) (by rw[<-RZ];exact hv) λg g' sz kp up z8 o8 k8 l8=>R4 ?_) (F.args_zip_next_1 _))))
  refine⟨_,rfl,wpAny_letOwnedTupleGo_zip z8 λh2 z9 e9=>?_⟩;have fresh:s.heap.get? s.heap.objs.size=Zy:=hG _;have ne:∀b∈[it,TI,TO,j,j'],b≠s.heap.objs.size:=λb hb z=>by
   obtain⟨o,e,_⟩:=q.pt b hb;rw[z,fresh]at e;cases e
  have kk:∀b o,b∉[it,TI,TO,j,j']->s.heap.get? b=Zz o->h2.get? b=Zz o:=λb o n e=>e9.extBut _ _ (λz=>n (by simp[z])) (up b o (λz=>n (by simp[z])) (R7 _ (kp b o (λz=>n (by simp[z])) (λz=>n (by simp[z])) (λz=>n (by simp[z])) (λz=>n (by simp[z])) e)))
  have hI:=e9.extBut _ _ A.TIz (up _ _ A.TIz (R7 _ (kp _ _ A.TIz A.TITO A.TIi1 A.TIi2 Sd.its)));have hT2:h2.get? s.heap.objs.size=Zz _:=e9.extBut _ _ (ne it (by simp)).symm (up _ _ (ne it (by simp)).symm (by rw[<-sz];exact RM _ rfl));obtain⟨x,I',on⟩:=q.fin (tk:=s.toks) I kk λx=>.zip A ⟨z9,hI,⟨_,_,e9.extBut _ _ A.TOz o8⟩,k8.extBut e9.extBut A.i1z,l8.extBut e9.extBut A.i2z⟩ (p.go x q.nq (p.nl I.mem) f).1 f (r.mp λ_ _ r=>r.go x I.mem q.nq) (c.go x (λ_ _ h=>h) I.mem q.nq) el1 rfl
  refine k _ h2 _ kk x I' on (.tup ⟨_,_,hT2,rfl,rfl,rfl,by unfold Ru;simp⟩ (λhb=>?_) rfl (Al.cons (ru.go x I.mem q.nq) (.cons (rv.go x I.mem q.nq) .nil)).2);obtain⟨_,o,e,_⟩:=I.cO _ hb;rw[fresh]at e;cases e
theorem On.done(hc:X.A.handled=Zy){R:R9->Prop}(I:Fr X env cm m s)(q:On X cm m s.heap it fp i l)(e:i=l.length)(k:∀h tk,(∀b o,b∉fp->s.heap.get? b=Zz o->h.get? b=Zz o)->ExtK X.fs X.gs fp cm m s cm m { s with heap:=h,toks:=tk }->Fr X env cm m { s with heap:=h,toks:=tk }->R { s with heap:=h,toks:=tk }):
  RJ X.M X.A (pyNext (.ref it)) (λr s1=>r=Zy/\R s1) J s:=by
 have S:=q.src;have fin:∀{j} h' tk,fp=[j]->(∀b o,b∉[j]->s.heap.get? b=Zz o->h'.get? b=Zz o)->(Zy:Option R3)=Zy/\R { s with heap:=h',toks:=tk }:=λ{j} h' tk ef kk=>by
  subst ef;have p:=q.stp (tk:=tk) I kk λb hb f=>Yv f (by have:=q.nf b hb;rw[Yr (by simp[isTup])]at this;exact this)
  exact⟨rfl,k h' tk kk p.1 p.2⟩
 cases S with
 |lst hi hs =>
  obtain⟨y,hy,_,r⟩:=hs.now I.mem;have hr:=r.1;simp only[RD]at hr;obtain⟨o,ho,_,c,d⟩:=id hy;exact(Vw (prog:=X.prog) (w:=X.w) hc it _ (ri (.inl hi) ho d) y).done s _ _ ⟨by rw[<-hr,<-e];exact hi,hy⟩ λh tk=>fin h tk rfl
 |tup hi hp hf r =>
  have hr:=r.1;simp only[RD]at hr;obtain⟨o,c,ho,_,d,_⟩:=id hp;exact(Wg (prog:=X.prog) (w:=X.w) hc it _ (ri (.inr hi) ho d) _).done s _ _ ⟨by rw[<-hr,<-e];exact hi,hp.tup⟩ λh tk=>fin h tk rfl
 |@str c t' b hi el =>
  subst el;rw[R1]at e;have e:i=(⟨c.toArray⟩:Str).cps.size:=by simpa using e
  rw[e]at hi;cases b with
  |true=>exact(XT (prog:=X.prog) (w:=X.w) hc it ⟨c.toArray⟩ t').done s _ _ hi λh tk=>fin h tk rfl
  |false=>exact(Xj (prog:=X.prog) (w:=X.w) hc it ⟨c.toArray⟩ t').done s _ _ hi λh tk=>fin h tk rfl
 |@C6 lo n hi el =>
  subst el;have e:i=n:=by rw[e];simp[rangeT]
  subst e;exact(YE (prog:=X.prog) (w:=X.w) hc it lo 1 i).done s _ _ hi λh tk=>fin h tk rfl
 |@C3 j a old ts n0 q1 hi hs el =>
  subst el;obtain⟨y,hy,_,r⟩:=hs.now I.mem;have hr:=r.1;simp only[RD]at hr;have e:i=ts.length:=by rw[e];simp[hH]
  refine wpAny_pyNext_enum_end hc q1 hi hy (by rw[V4];omega) λh' kp=>?_
  have kk:∀b o,b∉[it,j]->s.heap.get? b=Zz o->h'.get? b=Zz o:=λb o n=>kp b o λz=>n (by simp[z])
  have p:=q.stp (tk:=s.toks) I kk λb hb f=>Yv f (by have:=q.nf b hb;rw[Yr (by simp[isTup])]at this;exact this)
  exact⟨rfl,k h' _ kk p.1 p.2⟩
 |@zip TI TO j j' a b y ts us A Sd p f r c el1 el =>
  subst el;have hr:=r.1;simp only[RD]at hr;have e:i=ts.length:=by rw[e];simp[Dg,el1]
  have hT:s.TypeIs (.ref it) "zip":=⟨_,Sd.zip,rfl⟩
  unfold pyNext;refine R0 (UX (Sc hT WC (SW WC hT F.entry_zip_next
   (AW hc A Sd p.tup (by rw[V4];omega) λg e kp he=>?_) (F.args_zip_next_1 _))))
  obtain⟨o,ho,hce⟩:=he;refine R0 (Wv ⟨o,ho,hce⟩ isSubtype_stop (R4 ⟨rfl,?_⟩));have kk:∀b o,b∉[it,TI,TO,j,j']->s.heap.get? b=Zz o->g.get? b=Zz o:=λb o n=>kp b o (λz=>n (by simp[z])) λz=>n (by simp[z])
  obtain⟨_,hI,⟨p1,p2,hO⟩,_⟩:=Sd;have p:=q.stp (tk:=s.toks) I kk λb hb f=>by
   have nf:=q.nf b hb;by_cases ht:isTup [it,TI,TO,j,j'] b=true
   ·simp only[isTup,U2,beq_iff_eq]at ht
    rcases ht with rfl|rfl
    ·exact⟨_,_,_,kp _ _ A.TIz A.TIi1 hI,rfl⟩
    ·exact⟨_,_,_,kp _ _ A.TOz A.TOi1 hO,rfl⟩
   ·rw[Yr ht]at nf;exact Yv f nf
  exact k g _ kk p.1 p.2
end
section
variable{X:Cx}{D:Dm}{env:Mi.Env}{cm cm' cm1:List RB}{m m' m0 m1 m2:Mem}{s s' s0 s1 s2:R9}{w u:W}{v z:R3}{ch:List RB}{J Q:VK}{h g:SA}{t:T}{l ts:List T}{a it:RB}{n:Nat}{i:Nat}{tk:Nat}{tg:SL}{α:Type}{r:Res α}{β:Type}{k:β->List RB->Mem->R9->Prop}
variable{call:Nat->List W->Mem->Res W}{gv:List T}{e c iter tgt:SL}{es:List SL}{E C:Mi.E}{L:Es}{pos p:Pos}{rest body:List TM}{K S:Mi.S}{G:Tg}
theorem ap.Fo{f:α->Mem->Res β}(h:ap X ch cm m s (r.bind f) J k):ap X ch cm m s r J λa _ m' _=>ap X ch cm m s (f a m') J k:=by
 cases r with
 |ok a m2=>exact λ_ _ _ _=>h
 |stuck=>exact h
theorem dz(I:Fr X env cm m s)(e:aU w m=.ok ts m'):bd X.fs X.gs ch cm m s cm m' s/\Fr X env cm m' s:=by
 cases w with
 |t t =>
  unfold aU at e;dsimp only at e;split at e<;>cases e;exact⟨.refl,I⟩
 |c i =>
  unfold aU at e;dsimp only at e;split at e<;>cases e;obtain⟨a,y,h1,p,_,r⟩:=I.mem.at' i _ ‹_›;have u:=λch=>I.mem.upd (s':=s) (ch:=ch) (q:=Zz (true,ts)) ‹_› h1 (λ_ _ _ e=>e) rfl rfl (λb l z=>by cases z;exact⟨y,p,r⟩) (λz=>nomatch z) I.mem.tab λz=>⟨_,rfl,rfl⟩
  exact⟨(u _).1,I.go (u []).1.toExtK (u []).2 λ_ z=>nomatch z⟩
theorem jg(M:be X cm' m' s'.heap)(x:bd X.fs X.gs ch cm m s cm' m' s')(lt:∀(i:Nat) l,m1[i]?=Zz (Zz (true,l))->m'[i]?=Zz (Zz (true,l)))(e:aU w m=.ok ts m1):
  bd X.fs X.gs ch cm m s cm' (giveBack w m m') s'/\be X cm' (giveBack w m m') s'.heap/\∀ch,ExtK X.fs X.gs ch cm' m' s' cm' (giveBack w m m') s':=by
 cases w with
 |t t=>exact⟨x,M,λ_=>bd.refl.toExtK⟩
 |c i =>
  unfold aU at e;dsimp only at e;split at e
  ·rename_i b us h
   cases e;have h':=lt i ts (S6 (RA.mp h).1);have eg:giveBack (.c i) m m'=m'.set i (Zz (b,ts)):=by unfold giveBack;dsimp only;rw[h]
   rw[eg];obtain⟨a,y,h1,p,_,r⟩:=M.at' i _ h';have u:=λch=>M.HR (s':=s') (ch:=ch) (q:=Zz (b,ts)) h' h1 (λ_ _ _ e=>e) rfl rfl (λb l z=>by cases z;exact⟨y,p,r⟩) M.tab
   refine⟨.of x.thr (λj l e=>?_) (x.toExtK.trans (u _).1),(u []).2,λch=>(u ch).1⟩;by_cases hj:j=i
   ·subst hj
    rw[h]at e;cases e;exact S6 (RA.mp h').1
   ·rw[Rs (VQ hj)];exact x.lent j l e
  ·cases e
theorem Fr.pY(I:Fr X env cm m s)(z:a∈frs X.stack):s.heap.get? a≠Zy:=λhb=>by
 obtain⟨e,h1,h2⟩:=UC.mp z;obtain⟨_,L,h3,h4⟩:=I.ok.C2 e h1;rw[h2]at h4;cases h4;obtain⟨_,o,g,_⟩:=I.cO a h3;rw[hb]at g;cases g
theorem Fr.HH{F fp:List RB}(I:Fr X env cm m s)(n:∀b∈fp,s.heap.get? b=Zy)(S:Src { X with fs:=F } cm m h it 0 l fp)(nf:∀b∈fp,if isTup fp b then b∈F else b∉F):On { X with fs:=F } cm m h it fp 0 l:=by
 have no:∀{b o},b∈fp->s.heap.get? b≠Zz o:=λhb z=>by rw[n _ hb]at z;cases z
 refine⟨S,λb hf=>?_,λb hf hb=>?_,λb hf=>?_⟩
 ·cases q:X.base.get? b with
  |none=>rfl
  |some o=>exact Yv (I.bs _ _ q) (no hf)
 ·rcases R5.mp hb with rfl|hb
  ·obtain⟨f,⟨o,_,_,e,_⟩,_⟩:=I.loc
   exact no hf e
  ·rcases RN.mp hb with hb|hb
   ·obtain⟨o,e⟩:=I.ok.qm _ I.mem.tab _ hb
    exact no hf e
   ·obtain⟨y,_,hm⟩:=mf.mp hb
    obtain⟨v,o,e,_⟩:=I.cell y b hm;exact no hf e
 ·have q:=nf b hf
  by_cases ht:isTup fp b=true
  ·rw[Yq ht]at q ⊢;exact⟨q,λz=>I.pY z (n b hf)⟩
  ·rw[Yr ht]at q ⊢;exact q
variable(call gv) in
def PI(z:Bool)(X:Cx)(tgt iter:SL)(E:Mi.E):Prop:=∀env cm m s,Fr X env cm m s->∀(α:Type) (f:W->List T->Mem->Mem->Res α) (k:α->List RB->Mem->R9->Prop) (Q:VK) (J:VK),ap X X.own cm m s ((ev call gv E env m).bind λw m1=>(aU w m1).bind λts m2=>f w ts m1 m2) J k ->
 (∀F fp w ts cm1 m1 m2 s1 it s2,(z=false->F=X.fs)->(∀b∈X.fs,b∈F)->(∀b∈F,b∈X.fs∨s1.heap.get? b=Zy)->bd X.fs X.gs X.tb cm m s cm1 m1 s1->Fr X env cm1 m1 s1->aU w m1=.ok ts m2->ap X X.own cm1 m1 s1 (f w ts m1 m2) J k->(∀ch,bd F X.gs ch cm1 m2 s1 cm1 m2 s2)->Fr { X with fs:=F } env cm1 m2 s2->On { X with fs:=F } cm1 m2 s2.heap it fp 0 ts->rU fp tgt->(∀b∈fp,s1.heap.get? b=Zy)->Q (.ref it) s2) ->
 RJ X.M X.A (eval iter X.env) (λv s1=>RJ X.M X.A (pyIter v) Q J s1) J s
variable(call gv) in
def Ju(X:Cx)(fp1:RB->List RB)(iter:SL)(E:Mi.E):Prop:=∀env cm m s,Fr X env cm m s->∀(α:Type) (f:W->List T->Mem->Mem->Res α) (k:α->List RB->Mem->R9->Prop) (Q:VK) (J:VK),ap X X.own cm m s ((ev call gv E env m).bind λw m1=>(aU w m1).bind λts m2=>f w ts m1 m2) J k ->
 (∀w ts cm1 m1 m2 s1 it s2,bd X.fs X.gs X.tb cm m s cm1 m1 s1->Fr X env cm1 m1 s1->aU w m1=.ok ts m2->ap X X.own cm1 m1 s1 (f w ts m1 m2) J k->(∀ch,bd X.fs X.gs ch cm1 m2 s1 cm1 m2 s2)->Fr X env cm1 m2 s2->Src X cm1 m2 s2.heap it 0 ts (fp1 it)->(∀b∈fp1 it,s1.heap.get? b=Zy)->Q (.ref it) s2) ->
 RJ X.M X.A (eval iter X.env) (λv s1=>RJ X.M X.A (pyIter v) Q J s1) J s
theorem F0{z:Bool}{fp1:RB->List RB}(ok:∀it,rU (fp1 it) tgt)(nt:∀it b,isTup (fp1 it) b=false)(h:Ju call gv X fp1 iter E):PI call gv z X tgt iter E:=λenv cm m s I α f k Q J hp q=>h env cm m s I α f k Q J hp λw ts c1 m1 m2 s1 it s2 x1 I1 eb o xb I2 S n =>
 q X.fs (fp1 it) w ts c1 m1 m2 s1 it s2 (λ_=>rfl) (λ_ h=>h) (λ_ h=>.inl h) x1 I1 eb o xb I2 ((dz (ch:=[]) I1 eb).2.HH n S λb hb=>by
  rw[Yr (by rw[nt];decide)];intro hf;obtain⟨_,o,e,_⟩:=I1.cO b hf;rw[n b hb]at e;cases e) (ok it) n
theorem Hm{z:Bool}(h:PE call gv X iter E):PI call gv z X tgt iter E:=F0 (fp1:=λit=>[it]) (λ_=>.inl rfl) (λ_ _=>rfl) λenv cm m s I α f k Q J hp q=>h.lq I hp λw v c1 m1 s1 I1 x1 r o=>by
 cases eb:aU w m1 with
 |stuck=>rw[eb]at o;exact o.elim
 |ok ts m2 =>
  rw[eb]at o;obtain⟨_,Ib⟩:=dz (ch:=[]) I1 eb;have fin:∀ob:Obj,Src X c1 m2 (s1.heap.push ob) s1.heap.objs.size 0 ts [s1.heap.objs.size]->Q (.ref s1.heap.objs.size) { s1 with heap:=s1.heap.push ob }:=λob S=>by
   have u:=λch=>Ib.up (g:=s1.heap.push ob) (t:=s1.toks) (d:=s1.drawn) (ch:=ch) push
   exact q w ts c1 m1 m2 s1 _ _ x1 I1 eb o (λch=>(u ch).1) (u []).2 S λb hb=>by rw[RQ.mp hb];exact hG _
  have lst:∀a,SrcL X c1 m2 s1.heap a ts->v=.ref a->RJ X.M X.A (pyIter v) Q J s1:=λa S e=>by
   subst e;obtain⟨x,hx,_,_⟩:=S.now Ib.mem;exact V0 hx (fin _ (.lst ⟨_,RM _ rfl,rfl,rfl⟩ (S.go (s':={ s1 with heap:=s1.heap.push _ }) (bd.kept (ch:=[]) (t:=s1.toks) (d:=s1.drawn) push).toExtK (λ_ _ h=>h) Ib.mem Nq.nil)))
  cases w with
  |c i =>
   obtain⟨a,h1,rfl⟩:=r;unfold aU at eb;dsimp only at eb;split at eb<;>cases eb;exact lst a (.oD (S6 (RA.mp ‹_›).1) h1) rfl
  |t t =>
   unfold aU at eb;cases t with
   |tup l =>
    cases eb;have tf:=r;obtain⟨a,x,rfl,p,r⟩:=RT.iN r;have g:=λob=>(bd.kept (s:=s1) (cm:=c1) (m:=m1) (fs:=X.fs) (gs:=X.gs) (ch:=[]) (t:=s1.toks) (d:=s1.drawn) (push (o:=ob))).toExtK
    exact WT p.tup (fin _ (.tup ⟨_,RM _ rfl,rfl,rfl⟩ (p.go (g _) Nq.nil (p.nl Ib.mem) (RT.tf tf)).1 (RT.tf tf) (r.mp λ_ _ r=>r.go (g _) Ib.mem Nq.nil)))
   |lst l =>
    cases eb;cases r with
    |lst p n q1 q2=>exact lst _ (.own n p ⟨q1,q2⟩) rfl
   |du l =>
    cases eb;cases r with
    |du _ p n f r=>exact lst _ (.du n p f ⟨by rw[R1];exact r.1,λi t v a b=>by
      rw[Rj]at a;obtain⟨c,a',rfl⟩:=RY.mp a;obtain⟨_,rfl⟩:=r.2 i c v a' b;exact .int _ _⟩) rfl
   |str cs =>
    unfold Cs at eb;dsimp only at eb;split at eb
    ·rename_i ts e
     split at e<;>cases e;cases eb;obtain⟨t,rfl⟩:=RT.j8 r;cases ha:(⟨cs.toArray⟩:Str).cps.all (·<128)
     ·exact wpAny_pyIter_wide ha (fin _ (.str false ⟨_,RM _ rfl,rfl,rfl⟩ rfl))
     ·exact wpAny_pyIter_ascii ha (fin _ (.str true ⟨_,RM _ rfl,rfl,rfl⟩ rfl))
    ·cases eb
   |_=>cases eb
theorem Ct(hc:X.calm=true)(hi:PI call gv false X tgt iter E)(hg:PG X tgt G)(hb:lM call gv X body S)(hk:lM call gv X rest K)(hs:∀x,UV iter X.env x=pure x:=by intro _;rfl):lM call gv X (.For tgt iter body [] pos::rest) (.dJ G E S K):=λenv cm m s I R J j hp=>by
 rw[ex]at hp;have hd:=I.ok.hd hc;refine TD (wpAny_For (hi env cm m s I _ (λw ts m1 m2=>(aJ (λenv m=>ex call gv S env m) G ts env m2).bind λfl m=>match fl with|.next env=>ex call gv K env (giveBack w m1 m)|.ret w'=>.ok (.ret w') (giveBack w m1 m)) _ _ J hp λF fp w ts c1 m1 m2 s1 it s2 hz _ _ x1 I1 eb o xb I2 on tk fr=>?_) hs);obtain rfl:=hz rfl;have I2:Fr X env c1 m2 s2:=I2;have on:On X c1 m2 s2.heap it fp 0 ts:=on;have o:=o.Fo;have xb:=(dz (ch:=X.own) I1 eb).1.trans (xb _);refine codeAny_forLoop_any (λn s'=>∃i env' cm m,n=ts.length-i/\i<=ts.length/\bd X.fs X.gs X.own c1 m1 s1 cm m s'/\(∀(j:Nat) l,m2[j]?=Zz (Zz (true,l))->m[j]?=Zz (Zz (true,l)))/\Fr X env' cm m s'/\On X cm m s'.heap it fp i ts /\
  ap X X.own c1 m1 s1 (aJ (λenv m=>ex call gv S env m) G (ts.drop i) env' m) J λfl _ m _=>ap X X.own c1 m1 s1 (match fl with|.next env=>ex call gv K env (giveBack w m1 m)|.ret w'=>.ok (.ret w') (giveBack w m1 m)) J (FQ X R)) ?_ ts.length ⟨0,env,c1,m2,rfl,SI _,xb,λ_ _ h=>h,I2,on,o⟩
 rintro n s3 ⟨i,e3,c3,m3,rfl,hi,x3,l3,I3,on3,o3⟩;cases e:ts[i]? with
 |none =>
  have hi:i=ts.length:=by have:=List.getElem?_eq_none_iff.mp e;omega
  rw[List.drop_eq_nil_iff.mpr (by omega),aJ]at o3;refine UL j (mW (on3.done hd I3 hi (R:=λs4=>RJ X.M X.A (execs rest X.env) R J s4) λh tk kk x I4=>?_) λr s4 ⟨hr,q⟩=>?_)
  ·have x4:=x3.past x fr kk
   obtain⟨xg,Mg,xk⟩:=jg I4.mem x4 l3 eb;exact hk _ _ _ _ (I4.go (xk []) Mg λ_ z=>nomatch z) R J j ((o3 c3 s3 x3 I3.mem).shift xg)
  ·subst hr
   exact XH q
 |some t =>
  have hlt:=(RA.mp e).1;have ed:ts.drop i=t::ts.drop (i+1):=by rw[SQ hlt,(RA.mp e).2]
  rw[ed,aJ]at o3;split at o3
  ·exact o3.elim
  rename_i env' eb';refine UL j (mW (on3.next (tg:=tgt) (Q:=λu s5=>Fr X e3 c3 m3 s5/\On X c3 m3 s5.heap it fp (i+1) ts/\RT X.D c3 m3 s5.heap t u/\bd X.fs X.gs X.own c1 m1 s1 c3 m3 s5) hd I3 tk e λu h tk kk x I4 on4 r4=>⟨I4,on4,r4,x3.past x fr kk⟩) λr s4 ⟨u,hr,h4⟩=>?_);subst hr;refine UL j (mW h4 λ_ s5 ⟨I5,on5,r5,x5⟩=>?_);refine UL j (hg _ _ _ _ I5 t u env' r5 eb' _ J λs6 x6 I6=>?_);have on6:=on5.go x6.toExtK x6.lent I5.mem I5.nq on5.no;refine UL j (hb _ _ _ _ I6 _ J j ((o3.Fo.shift (x5.trans x6)).mono λfl c7 m7 s7 x7 M7 q7=>?_));cases fl with
  |next e7=>exact λI7=>⟨ts.length-(i+1),by omega,i+1,e7,c7,m7,rfl,by omega,(x5.trans x6).trans x7,λj l h=>x7.lent j l (l3 j l h),I7,on6.go x7.toExtK x7.lent I6.mem I6.nq on5.no,q7⟩
  |ret w7 =>
   have x57:=(x5.trans x6).trans x7;obtain⟨xg,Mg,xk⟩:=jg M7 x57 (λj l h=>x7.lent j l (l3 j l h)) eb;exact λe8 I8 v rv=>(q7 c7 s7 x57 M7).to xg Mg e8 (I8.go (xk []) Mg λ_ z=>nomatch z) v (rv.go (xk []) M7 Nq.nil)
theorem vX(hc:PT call gv X c C)(hb:lM call gv X body S)(hk:lM call gv X rest K):lM call gv X (.While c body [] pos::rest) (.FT C S K):=λenv cm m s I R J j hp=>by
 rw[ex]at hp;refine TD (wpAny_While (codeAny_whileLoop (λn s'=>∃env cm m,Fr X env cm m s'/\ap X X.own cm m s' (iG (λenv m=>(ev call gv C env m).bind b8) (λenv m=>ex call gv S env m) n env m) J λfl cm m s=>ap X X.own cm m s (match fl with|.next env=>ex call gv K env m|fl=>.ok fl m) J (FQ X R)) ?_ turns ⟨env,cm,m,I,hp.bind⟩));rintro n s3 ⟨e3,c3,m3,I3,o3⟩;cases n with
 |zero=>exact o3.elim
 |succ n =>
  rw[iG]at o3;refine UL j (hc.lq I3 o3 λb c4 m4 s4 I4 x4 o4=>?_);cases b with
  |false =>
   rw[Yr RL];exact XH (hk _ _ _ _ I4 R J j (o4.now I4.mem))
  |true =>
   rw[Yq rfl];refine UL j (hb _ _ _ _ I4 _ J j (o4.bind.mono λfl c5 m5 s5 x5 M5 o5=>?_));cases fl with
   |next e5=>exact λI5=>⟨n,by omega,e5,c5,m5,I5,o5⟩
   |ret w=>exact λe6 I6 v rv=>(o5.now M5).now M5 e6 I6 v rv
end
noncomputable def Io:Ty->String
 |.int=>"int"
 |.bool=>"bool"
 |.str=>"str"
 |.tuple=>"tuple"
 |.list=>"list"
 |.dict=>"dict"
noncomputable def I9:T->String
 |.non=>"NoneType"
 |.bl _=>"bool"
 |.int _=>"int"
 |.str _=>"str"
 |.tup _=>"tuple"
 |.lst _=>"list"
 |.dct _ _=>"dict"
 |.du _=>"list"
section
variable{K:V5}
theorem EF(t:T)(ty:Ty):PySem.W.kitOne K (.type (I9 t)) (.type (Io ty))=Zz (hV t ty):=by cases t<;>cases ty<;>rfl
end
section
variable{X:Cx}{D:Dm}{env:Mi.Env}{cm:List RB}{m:Mem}{s:R9}{w u:W}{v z:R3}{J Q:VK}{t:T}{α:Type}{k:α->List RB->Mem->R9->Prop}
variable{call:Nat->List W->Mem->Res W}{gv:List T}{a e:SL}{es:List SL}{E:Mi.E}{L:Es}{pos p p2:Pos}{N:Str}{ty:Mi.Ty}
theorem PA.lq{f:List W->Mem->Res α}{Q:List R3->R9->Prop}(h:PA call gv X es L)(I:Fr X env cm m s)(hp:ap X X.own cm m s ((evs call gv L env m).bind f) J k)(q:∀w v cm1 m1 s1,Fr X env cm1 m1 s1->bd X.fs X.gs X.tb cm m s cm1 m1 s1->tz X.D cm1 m1 s1.heap w v->ap X X.own cm1 m1 s1 (f w m1) J k->Q v s1):RJ X.M X.A (Ya (backTo p (US es X.env))) Q J s:=
 h p env cm m s I Q J ((hp.bind.mono λw c1 m1 s1 x M o=>o).sub bQ |>.mono λw c1 m1 s1 x M o v r=>q w v c1 m1 s1 (I.go x M I.nc) x r o)
theorem GU{lo hi:Int}{t u x:Tok}{n:Nat}(I:Fr X env cm m s)(h1:-(2^62)<=lo)(h2:lo<2^62)(h3:-(2^62)<=hi)(h4:hi<2^62)(q:∀it s2,(∀ch,bd X.fs X.gs ch cm m s cm m s2)->Fr X env cm m s2->Src X cm m s2.heap it 0 (rangeT lo (hi-lo).toNat) [it]->(∀b∈[it],s.heap.get? b=Zy)->Q (.ref it) s2):RJ X.M X.A (pyIter (.ref s.heap.objs.size)) Q J { s with heap:=s.heap.push { cls:=.type "range",data:=.fields #[.int lo t,.int hi u,.int 1 x] },toks:=n }:=by
 refine wpAny_pyIter_range (IsRange.new ..) (small_one h1 h2 h3 h4) ?_;have u:=λch=>I.up (g:=(s.heap.push { cls:=.type "range",data:=.fields #[.int lo t,.int hi u,.int 1 x] }).push { cls:=.type "range_iterator",data:=.fields #[rawInt lo,rawInt (Builtin.Range.rangeSize lo hi 1),rawInt 1] }) (t:=n) (d:=s.drawn) (ch:=ch) λb o e=>push _ _ (push _ _ e)
 refine q _ _ (λch=>(u ch).1) (u []).2 (.C6 (lo:=lo) (n:=(hi-lo).toNat) ?_ rfl) λb hb=>by rw[RQ.mp hb];exact Rt (by simp[Heap.push])
 ·have e1:lo+((0:Nat):Int)*1=lo:=by simp
  have e2:(((hi-lo).toNat:Nat):Int)-((0:Nat):Int)=Builtin.Range.rangeSize lo hi 1:=by rw[rangeSize_one];split<;>omega
  rw[e1,e2];exact RM _ rfl
theorem vM{zz:Bool}{tg:SL}(hg:Gl X "range")(hm:X.mg "range" = Zy)(ha:PA call gv X [a] L)(hs:notStar a=true:=by rfl):PI call gv zz X tg (.Call (.Name "range" p) [a] [] pos) (.blt .cK L):=F0 (fp1:=λit=>[it]) (λ_=>.inl rfl) (λ_ _=>rfl) λenv cm m s I α f k Q J hp q=>by
 rw[ev,bO]at hp;refine Call_ (dW I hg hm boot_range (TV (ha.lq I hp λws us c1 m1 s1 I1 x1 r o=>?_) (dB hs) rfl));obtain⟨t,e0,o2⟩:=xK o;obtain⟨l,e1,e2⟩:=RF.mp e0;obtain⟨b,rfl,e3⟩:=ju e2;obtain⟨w,rfl,e4⟩:=gh e1;obtain⟨v,rfl,r1⟩:=nE r;cases b with
 |int i =>
  obtain⟨hc,e5⟩:=RE.mp (show(if i<2^62/\-(2^62)<=i then Zz (T.lst (rangeT 0 i.toNat))else Zy)=Zz t from e3);cases e5;obtain⟨_,rfl⟩:=(al r1 e4).fe;exact call_range_1 (GU I1 (by omega) (by omega) hc.2 hc.1 λit s2 x2 I2 on n=>q _ _ c1 m1 m1 s1 it s2 x1 I1 rfl o2 x2 I2 (by rw[Int.sub_zero]at on;exact on) n)
 |_=>cases e3
theorem EV{E:VK}(I:Fr X env cm m s)(r:RW X.D cm m s.heap w v)(ew:view w m=Zz t)(h:∀tk,Q (.bool (hV t ty)) { s with toks:=tk }):RJ X.M X.A (TE (.builtin "isinstance") [v,.type (Io ty)]) Q E s:=by
 have k:=EF (K:=X.K) t ty;have lst:∀{a:RB}{x:Array R3},Yb s.heap a x->I9 t = "list"->RJ X.M X.A (TE (.builtin "isinstance") [.ref a,.type (Io ty)]) Q E s:=λp et=>by
  obtain⟨o,n,e,c,_⟩:=p;rw[et]at k;exact XZ PySem.W.kitx_list I.sR ⟨o,e,c⟩ k (λz=>nomatch z) h
 cases t with
 |non=>cases al r ew;exact XZ PySem.W.kitx_none I.sR WV k (λz=>nomatch z) h
 |bl b=>cases al r ew;exact XZ PySem.W.kitx_bool I.sR WV k (λz=>nomatch z) h
 |int i=>cases al r ew;exact XZ PySem.W.kitx_int I.sR WV k (λz=>nomatch z) h
 |str c=>cases al r ew;exact XZ PySem.W.kitx_str I.sR WV k (λz=>nomatch z) h
 |tup l =>
  obtain⟨a,x,rfl,⟨o,n,e,c,_⟩,_⟩:=(al r ew).iN;exact XZ PySem.W.kitx_tuple I.sR ⟨o,e,c⟩ k (λz=>nomatch z) h
 |lst l =>
  obtain⟨a,x,rfl,p,_⟩:=aE I.mem r ew;exact lst p.pl rfl
 |du l=>cases al r ew with|du l p n _ q=>exact lst p.pl rfl
 |dct ks l =>
  cases al r ew with
  |dct p _ _ _ _ =>
   obtain⟨_,_,⟨o,es,ep,h1,h2,_⟩,_⟩:=p;exact XZ PySem.W.kitx_dict I.sR ⟨o,h1,h2.1⟩ k (λz=>nomatch z) h
theorem Em(r:PE call gv X a E)(o:Gl X "isinstance")(n:X.mg "isinstance" = Zy)(c:Gl X N)(b:X.mg N=Zy)(k:VC N=Zz (.type (Io ty)))(l:N≠"__name__":=by decide)(q:(N==("__debug__" : Str))=false:=by decide)(f:notStar a=true:=by rfl):
  PE call gv X (.Call (.Name "isinstance" p) [a,.Name N p2] [] pos) (.HD E ty):=λenv cm m s I Q J h=>by
 rw[ev]at h;refine Sy (dW (u:=.builtin "isinstance") I o n (by decide +kernel) (TC ?_ (dB f) (ko rfl)));rw[dB f,dB (e:=.Name N p2) rfl];refine Tk (r.one I h λw v c1 m1 s1 I1 x1 r1 h=>Tk (dW I1 c b k (UT ?_) l q));obtain⟨t,e,h⟩:=dE h;obtain⟨x,e1,rfl⟩:=RY.mp e;exact EV I1 r1 e1 λtk=>I1.val h (.bl _)
end
def H8(i:SL):Prop:=∀ov iv,Wh i false ov iv=Yc [ov,iv] (WL ov iv)
section
variable{f:List L2.Key->List T->Option T}{t:T}{o:Option T}
theorem DT{prog:S9}{w:SY}{A:SV}{E:R3->R9->Prop}{s:R9}{env:Td}{value slice:SL}{pos:Pos}{T id:String}{Q:R3->R9->Prop}(hl:X7 (.type T) "__getitem__" = pure (Zz (.builtin id)))(hs:H8 slice)(h:RJ (Rn prog w) A (eval value env) (λo s₁=>RJ (Rn prog w) A (eval slice env) (λi s₂=>s₂.TypeIs o T/\RJ (Rn prog w) A (WL o i) Q E s₂) E s₁) E s):
  RJ (Rn prog w) A (eval (.Subscript value slice pos) env) Q E s:=by
 refine YO (Ta h (λo s₁ h₁=>Ta h₁ (λi s₂ h₂=>?_) λ_ _ x=>x) λ_ _ x=>x);obtain⟨hT,h₂⟩:=h₂;unfold Wm;refine R0 ?_;rw[getitemInPython_of_ne hT.not_modules];refine R0 (wpAny_specialOf hT hl ?_);have fin:RJ (Rn prog w) A (Wh slice false o i) (λr s₃=>RJ (Rn prog w) A (letTemporaryGo value o r >>= λ_=>pure r) Q E s₃) E s₂:=by
  rw[hs o i];exact wpAny_operating (Ta h₂ (λr s₃ h₃=>R0 (wpAny_letTemporaryGo (R4 h₃))) λ_ _ x=>x)
 first
  |exact R4 (R0 fin)
  |exact R0 (R4 (R0 fin))
  |exact R0 fin
end
def Fp(K:V5)(us:List R3)(ts:List T):Prop:=∀X:Cx,X.K=K->∀cm m h,be X cm m h->K.In h->(∀b∈X.fs,K.lookup b=Zy)->eS X.D cm m h ts us
inductive Ja (B:Bs) (x:Str) (ks:List L2.Key) (ts:List T):Prop where
 |mk (a:RB) (us:List R3) (_:B.mg x=Zz (.ref a)) (_:∀h:SA,B.K.In h->h.DictOf (L2.bx B.prog B.w) a (ks.zip us)) (_:(a==sysModules)=false) (_:ks.length=us.length) (_:Fp B.K us ts)
section
variable{X:Cx}{D:Dm}{env:Mi.Env}{cm:List RB}{m m':Mem}{s:R9}{h:SA}{w:W}{v u:R3}{J Q:VK}{t:T}{α:Type}{ks:List L2.Key}{ts:List T}{kk:L2.Key}{f:List L2.Key->List T->L2.Key->Option T}
variable{call:Nat->List W->Mem->Res W}{gv:List T}{a b e:SL}{es:List SL}{E:Mi.E}{L:Es}{pos p p2 cpos apos:Pos}{N:Str}{k:Nat}{neg:Bool}
theorem yl{R:T->R3->Prop}:∀{ks:List L2.Key}{ts:List T}{us:List R3}(_:Al R ts us) (k:L2.Key),(∃t u,iC ks ts k=Zz t/\X8 (ks.zip us) k=Zz u/\R t u)∨(iC ks ts k=Zy/\X8 (ks.zip us) k=Zy)
 |[],_,_,_,k=>.inr ⟨by simp[iC],by simp[X8]⟩
 |_::_,[],us,q,k=>by obtain rfl:=RR.mp q.1.symm;exact .inr ⟨by simp[iC],by simp[X8]⟩
 |b::ks,t::ts,_,q,k=>by
  obtain⟨v,us,rfl,r,q⟩:=q.inv;by_cases h:b=k
  ·subst h
   exact .inl ⟨t,v,by simp[iC],by simp[X8],r⟩
  ·rw[show iC (b::ks) (t::ts) k=iC ks ts k by simp[iC,List.find?_cons,h],show X8 ((b::ks).zip (v::us)) k=X8 (ks.zip us) k by simp[X8,List.find?_cons,h]]
   exact yl q k
theorem key_is{P:S9}{W:SY}(r:RW D cm m h w v)(e:view w m=Zz t)(a:yM t=Zz kk):(L2.bx P W).is kk v=true:=by
 unfold yM at a;split at a<;>cases a
 ·obtain⟨_,rfl⟩:=(al r e).fe;exact L2.uh P W _ _
 ·obtain⟨_,rfl⟩:=(al r e).j8;exact L2.mY P W _ _
end
section
variable{X:Cx}{D:Dm}{env:Mi.Env}{cm:List RB}{m:Mem}{s:R9}{w u:W}{v z:R3}{J Q:VK}{t:T}{l:List T}{α:Type}{k:α->List RB->Mem->R9->Prop}
variable{call:Nat->List W->Mem->Res W}{gv:List T}{a b e:SL}{es:List SL}{E F:Mi.E}{L:Es}{pos p p2:Pos}{N:Str}
theorem kU(env:Mi.Env)(m:Mem):evs call gv (.cons E .nil) env m=(ev call gv E env m).bind λw m=>.ok [w] m:=by
 rw[evs];cases ev call gv E env m with
 |ok w f=>simp only[Res.bind,evs]
 |_=>rfl
theorem Bn(hg:Gl X "list")(hm:X.mg "list" = Zy)(ha:PA call gv X [e] (.cons E .nil))(he:notStar e=true):PE call gv X (.Call (.Name "list" p) [e] [] pos) (.Gg E):=λenv cm m s I Q J h=>by
 rw[ev]at h;have h:ap X X.tb cm m s ((evs call gv (.cons E .nil) env m).bind λws m=>match ws with|[w]=>H3 w m|_=>.stuck) J (WK X Q):=by rw[kU,bO];exact h
 refine Sy (dW (u:=.type "list") I hg hm (by decide +kernel) (TV (ha.one I h λws us c1 m1 s1 I1 x1 r h=>?_) (dB he) (ko rfl)));split at h
 rotate_left
 ·exact h.elim
 rename_i w;obtain⟨v,rfl,r1⟩:=nE r;have fin:∀{l:List T}{x:Array R3}{h':SA}{c':Nat},ap X X.tb c1 m1 s1 (.ok (.c m1.length) (m1++[Zz (false,l)])) J (WK X Q)->eS X.D c1 m1 s1.heap l x.toList->x.size<=Ru->(∀b o',s1.heap.get? b=Zz o'->h'.get? b=Zz o')->h'.get? s1.heap.objs.size=Zz { cls:=.type "list",data:=.seq x c' }->Q (.ref s1.heap.objs.size) { s1 with heap:=h' }:=λq k z kp e =>
  I1.oD (n:=s1.toks) (d:=s1.drawn) q k kp (hG _) ⟨⟨_,by simpa using e⟩,λhb=>by obtain⟨_,o,ho,_⟩:=I1.cO _ hb;exact SU _ (Rm ho),by simpa using z⟩
 unfold H3 at h;split at h
 ·obtain⟨a,x,rfl,p,k⟩:=aE I1.mem r1 ‹_›
  obtain⟨⟨n,e1⟩,_,z⟩:=p;exact Wk a (.inl rfl) e1 rfl rfl (λh' c' kp e=>fin h k z kp e) z
 ·obtain⟨a,x,rfl,p,k⟩:=(al r1 ‹_›).iN
  obtain⟨o,n,e1,c,d,_,z⟩:=p;exact Wk a (.inr rfl) e1 c d (λh' c' kp e=>fin h k z kp e) z
 ·exact h.elim
theorem AM(ha:PE call gv X a E)(hb:PE call gv X b F):PE call gv X (.BinOp a .Add b pos) (.GS E F):=λenv cm m s I Q J h=>by
 rw[ev]at h;refine wpAny_BinOp (ha.two hb I h λw u v z c1 m1 s1 I x r1 r2 h=>?_);unfold F4 at h;split at h
 ·rename_i e
  obtain⟨x,e1,e⟩:=RF.mp e;obtain⟨y,e2,e⟩:=RF.mp e;unfold wF at e;split at e
  ·cases e
  ·split at e<;>cases e
  ·split at e<;>cases e
  ·split at e<;>cases e
   obtain⟨a,x,rfl,p1,q1⟩:=aE I.mem r1 e1;obtain⟨b,y,rfl,p2,q2⟩:=aE I.mem r2 e2;have l1:=q1.1;have l2:=q2.1;obtain⟨⟨_,e1⟩,_⟩:=id p1;obtain⟨⟨_,e2⟩,_⟩:=id p2;have hz:=line;have z:x.size+y.size<=Ru:=by simp at l1 l2;omega
   exact PySem.P.add_list e1 e2 (I.oD (y:=x.toList++y.toList) h (q1.app q2) push (hG _) (by rw[AE];exact .new I (by simpa using z))) z
  ·cases e
 ·exact h.elim
end
theorem pI:∀{a b:List Nat},gx a b=false->gx b a=false->a=b
 |[],[],_,_=>rfl
 |[],_::_,h,_=>by simp[gx]at h
 |_::_,[],_,h=>by simp[gx]at h
 |a::x,b::y,d,c=>by
  unfold gx at d c;by_cases h:a<b
  ·simp[h]at d
  ·by_cases h':b<a
   ·simp[h']at c
   ·have e:a=b:=by omega
    subst e;simp at d c;rw[pI d c]
theorem Br:∀{a b c:List Nat},gx b a=false->gx c b=false->gx c a=false
 |a,b,[],d,f=>by
  cases b with
  |nil=>cases a with
   |nil=>rfl
   |cons _ _=>simp[gx]at d
  |cons _ _=>simp[gx]at f
 |[],_,_::_,_,_=>rfl
 |a::x,[],c::z,d,f=>by simp[gx]at d
 |a::x,b::y,c::z,d,f=>by
  unfold gx at d f ⊢;by_cases p1:b<a
  ·simp[p1]at d
  ·by_cases p2:c<b
   ·simp[p2]at f
   ·by_cases p3:a<b
    ·have:¬c<a:=by omega
     have q:a<c:=by omega
     simp[this,q]
    ·have e:a=b:=by omega
     subst e;by_cases p4:a<c
     ·simp[p4,p2]
     ·have e:c=a:=by omega
      subst e;simp at d f ⊢;exact Br d f
theorem B4:∀a b:List Nat,ltCps a b=gx a b
 |[],[]=>by simp[ltCps,gx]
 |[],_::_=>by simp[ltCps,gx]
 |_::_,[]=>by simp[ltCps,gx]
 |a::x,b::y=>by
  unfold ltCps gx;rw[B4 x y];by_cases h:a<b
  ·simp[h]
  ·by_cases h2:b<a
   ·have:¬a=b:=by omega
    simp[h,h2,this]
   ·have:a=b:=by omega
    subst this;simp
theorem yb:∀(l:List (List Nat)) (x:List Nat),risingS ⟨x.toArray⟩ (l.map λc=>(⟨c.toArray⟩:Str))=true->(x::l).Pairwise (λa b=>gx b a=false)
 |[],x,_=>Sb _ _
 |y::l,x,h=>by
  rw[RG,risingS.eq_2,RK]at h;have g:gx y x=false:=by
   have:=h.1;rw[B4]at this;simpa using this
  have f:=yb l y h.2;refine Rv.mpr ⟨λz e=>?_,f⟩;rcases R5.mp e with rfl|e
  ·exact g
  ·exact Br g ((Rv.mp f).1 z e)
theorem wY(a:List Nat):gx a a=false:=by rw[su];simp
theorem Ae(e:gx a b=true)(d:gx b c=true):gx a c=true:=by
 rw[su]at *;have e:=Yw e;have d:=Yw d;exact Yt (List.lt_trans e d)
theorem Eu(h:gx a b=true):gx b a=false:=by
 cases q:gx b a with
 |false=>rfl
 |true =>
  have:=Ae h q;rw[wY]at this;cases this
theorem pO(x y:List Nat):∀l,y∈tX x l↔y=x∨y∈l
 |[]=>by simp[tX]
 |z::l=>by
  unfold tX;split
  ·simp
  ·split
   ·rw[R5,pO x y l,R5]
    constructor
    ·rintro (h|h|h)
     ·exact .inr (.inl h)
     ·exact .inl h
     ·exact .inr (.inr h)
    ·rintro (h|h|h)
     ·exact .inr (.inl h)
     ·exact .inl h
     ·exact .inr (.inr h)
   ·rename_i h1 h2
    have e:=pI (by simpa using h1) (by simpa using h2);subst e;simp
theorem xo(x:List Nat):∀l,l.Pairwise (λa b=>gx a b=true)->(tX x l).Pairwise (λa b=>gx a b=true)
 |[],_=>Sb _ _
 |z::l,h=>by
  unfold tX;obtain⟨f,g⟩:=Rv.mp h;split
  ·rename_i hx
   refine Rv.mpr ⟨λy d=>?_,h⟩;rcases R5.mp d with rfl|d
   ·exact hx
   ·exact Ae hx (f y d)
  ·split
   ·rename_i hz
    refine Rv.mpr ⟨λy d=>?_,xo x l g⟩;rcases(pO x y l).mp d with rfl|d
    ·exact hz
    ·exact f y d
   ·exact h
theorem fw(y:List Nat):∀xs,y∈aW xs↔y∈xs
 |[]=>by simp[aW]
 |x::xs=>by
  show y∈tX x (aW xs)↔_;rw[pO,fw y xs,R5]
theorem kq:∀xs,(aW xs).Pairwise (λa b=>gx a b=true)
 |[]=>.nil
 |x::xs=>xo x _ (kq xs)
theorem jQ(xs:List (List Nat)):(aW xs).Nodup:=(kq xs).imp λ{a b} h e=>by
 subst e;rw[wY]at h;cases h
theorem BZ(a:Nat->Str)(x:Str):∀n,x∈dd a n↔∃i,i<n/\a i=x
 |0=>by simp[dd]
 |n+1=>by
  have b:=BZ a x n;unfold dd;split
  ·rename_i h
   rw[b];constructor
   ·rintro ⟨i,c,e⟩
    exact⟨i,by omega,e⟩
   ·rintro ⟨i,c,e⟩
    by_cases hn:i=n
    ·subst hn
     rw[e]at h;exact b.mp h
    ·exact⟨i,by omega,e⟩
  ·rw[RN,b,RQ]
   constructor
   ·rintro (⟨i,c,e⟩|e)
    ·exact⟨i,by omega,e⟩
    ·exact⟨n,by omega,e.symm⟩
   ·rintro ⟨i,c,e⟩
    by_cases hn:i=n
    ·subst hn;exact .inr e.symm
    ·exact .inl ⟨i,by omega,e⟩
theorem xz{a b:List Nat}(h:(⟨a.toArray⟩:Str)=⟨b.toArray⟩):a=b:=by
 injection h with h;simpa using h
theorem Gj{xs:List (List Nat)}(h:Wc its (xs.map λc=>(⟨c.toArray⟩:Str))):∀(i:Nat) v,its[i]?=Zz v->∃t,v=.str ((xs.map λc=>(⟨c.toArray⟩:Str)).getD i ⟨#[]⟩) t:=by
 generalize xs.map (λc=>(⟨c.toArray⟩:Str))=ss at h
 induction h with
 |nil=>intro i v e;simp at e
 |cons y t _ ih =>
  intro i v e;cases i with
  |zero=>simp at e;exact⟨t,by rw[<-e];rfl⟩
  |succ i =>
   obtain⟨t',h'⟩:=ih i v (by simpa using e);exact⟨t',by rw[h'];rfl⟩
section
variable{X:Cx}{D:Dm}{env:Mi.Env}{cm:List RB}{m:Mem}{s:R9}{h:SA}
variable{call:Nat->List W->Mem->Res W}{gv:List T}{e:SL}{es:List SL}{E:Mi.E}{L:Es}{pos p p2 pos2:Pos}
theorem yv{us:List R3}{ss:List Str}(q:Wc us ss):∃ys:List (List Nat),ss=ys.map (λc=>(⟨c.toArray⟩:Str))/\eS D cm m h (ys.map T.str) us:=by
 induction q with
 |nil=>exact⟨[],rfl,.nil⟩
 |cons y t _ ih =>
  obtain⟨ys,rfl,h2⟩:=ih;obtain⟨⟨y⟩⟩:=y;exact⟨y::ys,rfl,.cons (.str _ _) h2⟩
end
end Mi
namespace Mi
open PySem PySem.Spec PyProof.Rows PySem.W
structure Jm (K:V5) (C:RB):Prop where
 ga:findIn K (.ref C) "__getattribute__" = Zz (Zz (.builtin "BaseException.__getattribute__"))
 gn:findIn K (.ref C) "__getattr__" = Zz Zy
 mb:mroIn K C (.type "BaseException")=Zz true
 hd:hasDictIn K C=true
 ca:findIn K (.ref C) "__class__" = Zz (Zz (.builtin "object.__class__"))
 mo:mroIn K C (.type "object")=Zz true
structure Jr (K:V5):Prop where
 hn:specialIn K (.builtin "object.__class__") "__get__" = Zz (Zz (.builtin "getset_descriptor.__get__"))
 htk:takesIn K (.builtin "object.__class__")=Zz true
end Mi
namespace Mi
open PySem PySem.Spec PyProof.Rows
theorem qt(hg:gens[d]?=Zz ⟨target,iter,ifs,0⟩)(hn:gens[d+1]?=Zy):
  Vo (.ListComp elt gens scope pos) d it acc env=(do
   VR iter.pos
   match <-pyNext it with
   |none=>pure (.done .next)
   |some v =>
    Te target it v
    assign target env v
    let mut ok:=true
    for c in ifs do
     if ok then ok <-isTrue c env (eval c env)
    if ok then
     (do let _ <-call (.builtin "list.append") [acc,<-eval elt env])
    again (.compLoop (.ListComp elt gens scope pos) d it acc env)):=by
 unfold Vo;simp only[hg,hn];rfl
theorem qu(hg:gens[d]?=Zz ⟨target,iter,ifs,0⟩)(hn:gens[d+1]?=Zz ⟨target',iter',ifs',0⟩):
  Vo (.ListComp elt gens scope pos) d it acc env=(do
   VR iter.pos
   match <-pyNext it with
   |none=>pure (.done .next)
   |some v =>
    Te target it v
    assign target env v
    let mut ok:=true
    for c in ifs do
     if ok then ok <-isTrue c env (eval c env)
    if ok then
     let x <-eval iter' env
     VR iter'.pos
     let x <-UV iter' env x
     let _ <-runOwn (.compStart (.ListComp elt gens scope pos) (d+1) (<-XY [x] (pyIter x)) acc env) env
    again (.compLoop (.ListComp elt gens scope pos) d it acc env)):=by
 unfold Vo;simp only[hg,hn];rfl
theorem m8{E:R3->R9->Prop}(h:Q false s):∀ifs:List SL,
  RJ M A (forIn ifs false λc r=>if r=true then do let ok <-isTrue c env (eval c env);pure (TR ok)else pure (TR r)) Q E s
 |[]=>R4 h
 |_::r=>by
  simp only[UK,Ri,if_false];exact R0 (R4 (m8 h r))
noncomputable def qC:Tg->List Nat
 |.nm i=>[i]
 |.tp is=>is
noncomputable def fv:E->List Nat
 |.more _ tg _ inner=>qC tg++fv inner
 |_=>[]
theorem iY(h:mK w m=.ok ts m'):w=.t (.lst ts)/\m'=m:=by
 unfold mK at h;split at h<;>cases h;exact⟨rfl,rfl⟩
noncomputable abbrev turnF(call:Nat->List W->Mem->Res W)(gv:List T)(cs:Es)(inner:E):Env->Mem->Res (List T):=λenv m=>(tests call gv cs env m).bind λk m=>if k then(ev call gv inner env m).bind mK else .ok [] m
noncomputable abbrev Cw(target iter:SL)(ifs:List SL)(env:Td)(it:R3)(c:Code)(br:Sem XX):Sem XX:=
 VR iter.pos >>= λ_=>pyNext it >>= λr=>match r with
  |none=>pure (.done .next)
  |some v=>Te target it v >>= λ_=>assign target env v >>= λ_ =>
   (forIn ifs true λc r=>if r=true then do let ok <-isTrue c env (eval c env);pure (TR ok)else pure (TR r)) >>= λok=>if ok=true then br else again c
theorem oJ(h:∀x,(x,Ry)∈scope.names->∃c,env.cells.lookup x=Zz c):
  ∃cl,YR scope env=pure cl/\(∀x c,cl.lookup x=Zz c->env.cells.lookup x=Zz c)/\∀x,(x,Ry)∈scope.names->∃c,cl.lookup x=Zz c:=by
 have go:∀(ns:List (Str×V6)) (acc:List (Str×RB)),(∀x,(x,Ry)∈ns->∃c,env.cells.lookup x=Zz c)->(∀x c,acc.lookup x=Zz c->env.cells.lookup x=Zz c) ->
   ∃cl,(forIn ns acc λ(x:Str×V6) cs=>(match x with|(name,kind)=>if(kind==Ry)=true then do let a <-cellOf env name;pure (TR ((name,a)::cs))else pure (TR cs):Sem (ForInStep (List (Str×RB)))))=pure cl /\
    (∀x c,cl.lookup x=Zz c->env.cells.lookup x=Zz c)/\(∀x,(x,Ry)∈ns->∃c,cl.lookup x=Zz c)/\∀x c,acc.lookup x=Zz c->∃c,cl.lookup x=Zz c:=by
  intro ns
  induction ns with
  |nil=>intro acc _ h2;exact⟨acc,rfl,h2,λx hx=>Yv hx (by simp),λx c e=>⟨c,e⟩⟩
  |cons p ns ih =>
   intro acc h1 h2;obtain⟨n,k⟩:=p;have h1':=λx hx=>h1 x (R2 _ hx)
   by_cases hk:k=.free
   ·subst hk
    obtain⟨c,hc⟩:=h1 n R6;have h2':∀x d,((n,c)::acc).lookup x=Zz d->env.cells.lookup x=Zz d:=λx d e=>by
     rw[Sk]at e;cases hx:x==n with
     |true=>rw[hx]at e;cases e;rw[eq_of_beq hx];exact hc
     |false=>rw[hx]at e;exact h2 x d e
    obtain⟨cl,e1,e2,e3,e4⟩:=ih ((n,c)::acc) h1' h2';refine⟨cl,?_,e2,λx hx=>?_,λx d e=>?_⟩
    ·rw[UK]
     simp only[beq_self_eq_true,if_true,cellOf,hc,pure_bind];exact e1
    ·rcases R5.mp hx with z|z
     ·cases z
      exact e4 n c (by rw[Sk,beq_self_eq_true])
     ·exact e3 x z
    ·by_cases hx:x=n
     ·subst hx;exact e4 x c (by rw[Sk,beq_self_eq_true])
     ·exact e4 x d (by rw[Sk,Yu.mpr hx];exact e)
   ·obtain⟨cl,e1,e2,e3,e4⟩:=ih acc h1' h2
    have hb:=Yu.mpr hk;refine⟨cl,?_,e2,λx hx=>?_,e4⟩
    ·rw[UK]
     simp only[hb,Ri,if_false,pure_bind];exact e1
    ·rcases R5.mp hx with z|z
     ·cases z;exact Yv rfl hk
     ·exact e3 x z
 obtain⟨cl,e1,e2,e3,_⟩:=go scope.names [] h (λx c e=>by simp at e);refine⟨cl,?_,e2,e3⟩;unfold YR;have:(forIn scope.names ([]:List (Str×RB)) λ(x:Str×V6) cs=>(match x with|(name,kind)=>if(kind==Ry)=true then do let a <-cellOf env name;pure (TR ((name,a)::cs))else pure (TR cs):Sem (ForInStep (List (Str×RB))))) >>= (λcs=>pure cs)=(pure cl:Sem (List (Str×RB))):=by rw[e1];rfl
 exact this
theorem iD(hg:(clausesOf node)[d]?=Zz ⟨target,iter,ifs,0⟩)(hd:(Rn prog w).den (.compStart node d it acc env)=(YX node d it acc env).onRaise (λx=>do YY x env;VR theWindowsPlace))(hA:A.under (.compStart node d it acc env)=A)(h0:Ux (Rn prog w) A (.compLoop node d it acc env) R s)(h:RJ (Rn prog w) A (pyIter it) (λit' s'=>Ux (Rn prog w) A (.compLoop node d it' acc env) R s') (notedBy (Rn prog w) A env λx s'=>R (.error x) s') s):
  Ux (Rn prog w) A (.compStart node d it acc env) R s:=by
 refine XD ?_;rw[hd,hA];refine wpAny_notedAt ?_;unfold YX;rw[hg];refine R0 (Uf (wpAny_ite ?_));split
 ·first
   |exact R0 (R4 (R4 (Rw rfl h0)))
   |exact R4 (Rw rfl h0)
 ·first
   |exact R0 (TG (R0 (Tq (R0 (Ta h (λit' s' h'=>R4 (Rw rfl h')) λ_ _ x=>x)))))
   |(refine R0 (TG ?_);show RJ _ _ (VR iter.pos >>= _) _ _ s;exact R0 (Tq (R0 (Ta h (λit' s' h'=>R4 (Rw rfl h')) λ_ _ x=>x))))
noncomputable def Cc(own:Nat)(keep:List Nat)(env:Env):Env:=Rx own Zy++keep.map λi=>(env[i]?).join
section
variable{X Y:Cx}{env env':Mi.Env}{cm cm' cm0:List RB}{m m' m0 m1 m2:Mem}{s s' s0:R9}{w:W}{v u:R3}{ch:List RB}{J Q:VK}{h h':SA}{t:T}{l ts out:List T}{vs:List R3}{a it D C:RB}{n d L:Nat}{i:Nat}{tk:Nat}{o o':Obj}{f:List RB}
variable{call:Nat->List W->Mem->Res W}{gv:List T}{e elt target iter:SL}{ifs:List SL}{gens gs:List Ub}{E inner:Mi.E}{cs:Es}{tg:Tg}{pos p:Pos}{Acc:SA->List R3->Prop}
variable{own:Nat}{keep:List Nat}{it:Mi.E} in
theorem gc(h:ev call gv (.comp own keep it tg cs inner) env m=.ok w m'):∃a,w=.t (.lst a):=by
 rw[ev]at h;obtain⟨_,_,_,h⟩:=ar h;obtain⟨_,_,_,h⟩:=ar h;obtain⟨a,_,_,h⟩:=ar h;split at h<;>cases h;exact⟨_,rfl⟩
theorem PE.run(h:PE call gv X e E)(I:Fr X env cm m s)(ok:ev call gv E env m=.ok w m'):RJ X.M X.A (eval e X.env) (λv s'=>∃cm',bd X.fs X.gs X.tb cm m s cm' m' s'/\Fr X env cm' m' s'/\RW X.D cm' m' s'.heap w v) J s:=
 h env cm m s I _ J (by rw[ok];exact λc t x M v r=>⟨c,x,I.go x M I.nc,r⟩)
theorem PI.run{z:Bool}{ts:List T}(h:PI call gv z X target e E)(I:Fr X env cm m s)(ok:ev call gv E env m=.ok w m1)(eb:aU w m1=.ok ts m2):RJ X.M X.A (eval e X.env) (λv s'=>RJ X.M X.A (pyIter v) (λv s2=>∃F fp it cm1 s1,v=.ref it/\(z=false->F=X.fs)/\(∀b∈X.fs,b∈F)/\(∀b∈F,b∈X.fs∨s1.heap.get? b=Zy)/\bd X.fs X.gs X.tb cm m s cm1 m1 s1/\Fr X env cm1 m1 s1/\(∀ch,bd F X.gs ch cm1 m2 s1 cm1 m2 s2)/\Fr { X with fs:=F } env cm1 m2 s2/\On { X with fs:=F } cm1 m2 s2.heap it fp 0 ts/\rU fp target/\∀b∈fp,s1.heap.get? b=Zy) J s') J s:=
 h env cm m s I (W×List T×Mem×Mem) (λw ts m1 m2=>.ok (w,ts,m1,m2) m2) (λp _ _ _=>p=(w,ts,m1,m2)) _ J (by rw[ok];show ap _ _ _ _ _ ((aU w m1).bind _) _ _;rw[eb];exact λ_ _ _ _=>rfl) λF fp w' ts' c1 n1 n2 s1 it s2 z1 z2 z3 x1 I1 e1 o x2 I2 on tk fr=>by
  have o:=o.to (dz I1 e1).1 (dz (ch:=[]) I1 e1).2.mem;cases o;exact⟨F,fp,it,c1,s1,rfl,z1,z2,z3,x1,I1,x2,I2,on,tk,fr⟩
theorem PT.run{b:Bool}(h:PT call gv X e E)(I:Fr X env cm m s)(ok:(ev call gv E env m).bind b8=.ok b m'):RJ X.M X.A (isTrue e X.env (eval e X.env)) (λc s'=>c=b/\∃cm',bd X.fs X.gs X.tb cm m s cm' m' s'/\Fr X env cm' m' s') J s:=
 h env cm m s I _ J (by rw[ok];exact λc t x M=>⟨rfl,c,x,I.go x M I.nc⟩)
variable(call gv) in
def E5(X:Cx):Es->List SL->Prop
 |.nil,[]=>True
 |.cons a es,e::r=>PT call gv X e a/\E5 X es r
 |_,_=>False
theorem rM:∀{cs:Es}{ifs:List SL}{cm:List RB}{m m':Mem}{s:R9}{k:Bool},E5 call gv X cs ifs->Fr X env cm m s->tests call gv cs env m=.ok k m' ->
  RJ X.M X.A (forIn ifs true λc r=>if r=true then do let ok <-isTrue c X.env (eval c X.env);pure (TR ok)else pure (TR r))
   (λb s'=>b=k/\∃cm',bd X.fs X.gs X.tb cm m s cm' m' s'/\Fr X env cm' m' s') J s
 |.nil,[],cm,m,m',s,k,_,I,ok=>by
  unfold tests at ok;cases ok;exact R4 ⟨rfl,cm,.refl,I⟩
 |.cons a es,e::r,cm,m,m',s,k,hp,I,ok=>by
  unfold tests at ok;obtain⟨h1,h2⟩:=hp;simp only[UK,if_true];rw[<-bO]at ok;obtain⟨b,m2,e2,ok⟩:=ar ok;refine R0 (R0 (mW (h1.run I e2) λc s1 ⟨hb,cm1,x1,I1⟩=>R4 ?_));subst hb;cases c with
  |true =>
   rw[Yq rfl]at ok;exact mW (rM h2 I1 ok) λb' s2 ⟨hb',cm2,x2,I2⟩=>⟨hb',cm2,x1.trans x2,I2⟩
  |false =>
   rw[Yr RL]at ok;cases ok;exact m8 ⟨rfl,cm1,x1,I1⟩ r
 |.nil,_::_,_,_,_,_,_,hp,_,_=>hp.elim
 |.cons _ _,[],_,_,_,_,_,hp,_,_=>hp.elim
variable(call gv) in
inductive G5 (X:Cx) (elt:SL) (gens:List Ub):Nat->Mi.E->Prop
 |emit {d:Nat}{a:Mi.E}:gens[d+1]?=Zy->PE call gv X elt a->G5 X elt gens d (.emit a)
 |more {d:Nat}{it inner:Mi.E}{tg:Tg}{cs:Es}{target iter:SL}{ifs:List SL}:gens[d+1]?=Zz ⟨target,iter,ifs,0⟩->PI call gv false X target iter it->(∀x,UV iter X.env x=pure x)->PG X target tg->E5 call gv X cs ifs ->
  (∀i∈qC tg,i∉fv inner)->(∀i∈qC tg++fv inner,i<X.N.length)->G5 X elt gens (d+1) inner->G5 X elt gens d (.more it tg cs inner)
theorem tC(e:bB tg t env=Zz env'):env'.length=env.length/\∀i,i∉qC tg->env'[i]?=env[i]?:=by
 cases tg with
 |nm j =>
  cases e;refine⟨U1,λi hi=>?_⟩;rw[Rs];intro z;exact hi (by simp[qC,z])
 |tp is =>
  cases t with
  |tup ts =>
   obtain⟨_,rfl⟩:=pC e;clear e
   suffices ∀(is:List Nat) (ts:List T) (env:Mi.Env),((is.zip ts).foldl (λenv p=>env.set p.1 (Zz (.t p.2))) env).length=env.length/\∀i,i∉is->((is.zip ts).foldl (λenv p=>env.set p.1 (Zz (.t p.2))) env)[i]?=env[i]? from this is ts env
   intro is
   induction is with
   |nil=>exact λts env=>⟨rfl,λ_ _=>rfl⟩
   |cons j is ih =>
    intro ts env;cases ts with
    |nil=>exact⟨rfl,λ_ _=>rfl⟩
    |cons t ts =>
     rw[Us,UI];obtain⟨h1,h2⟩:=ih ts (env.set j (Zz (.t t)));refine⟨h1.trans U1,λi h=>?_⟩;rw[R5]at h;rw[h2 i λz=>h (.inr z),Rs λz=>h (.inl z.symm)]
  |_=>cases e
theorem Fr.less(I:Fr X env' cm m s)(e:env'.length=env.length)(k:∀(i:Nat) w,env[i]?=Zz (Zz w)->env'[i]?=Zz (Zz w)):Fr X env cm m s:=by
 obtain⟨f,hn,hl⟩:=I.loc;exact⟨I.ok,I.mem,I.bare,I.bs,⟨f,hn,λi x w h1 h2=>hl i x w h1 (k i w h2)⟩,I.cell,I.cO,e.symm.trans I.len⟩
theorem SrcL.fr{Y:Cx}(T:Y.toBs=X.toBs)(n:∀b∈Y.fs,b∈X.fs∨h.get? b=Zy)(k:∀b o,h.get? b=Zz o->h'.get? b=Zz o)(q:SrcL X cm m h a l):SrcL Y cm m h' a l:=by
 obtain⟨B,A,N,env,stack,fs,fn,calm⟩:=Y;cases T;cases q with
 |own c p r=>exact .own c (p.fr n k) (r.mp λ_ _ r=>r.fr n k)
 |oD e1 e2=>exact .oD e1 e2
 |du c p f r=>exact .du c (p.fr k) (λb=>(n _ b).elim f λb=>(let⟨_,_,e,_⟩:=p;by rw[b]at e;cases e)) (r.mp λ_ _ r=>r.fr n k)
theorem Src.fr{Y:Cx}{fp:List RB}(T:Y.toBs=X.toBs)(n:∀b∈Y.fs,b∈X.fs∨h.get? b=Zy)(k:∀b o,h.get? b=Zz o->h'.get? b=Zz o)(q:Src X cm m h it i l fp):Src Y cm m h' it i l fp:=by
 obtain⟨B,A,N,env,stack,fs,fn,calm⟩:=Y;cases T;have nf:∀{a:RB}{x:Array R3},mG "tuple" h a x->a∉X.fs->a∉fs:=λp f b=>(n _ b).elim f λb=>(let⟨_,_,e,_⟩:=p;by rw[b]at e;cases e)
 cases q with
 |lst q r=>obtain⟨o,e,c⟩:=q;exact .lst ⟨o,k _ o e,c⟩ (SrcL.fr (X:=X) rfl n k r)
 |tup q p f r=>obtain⟨o,e,c⟩:=q;exact .tup ⟨o,k _ o e,c⟩ (p.fr k) (nf p f) (r.mp λ_ _ r=>r.fr n k)
 |str b q e1=>obtain⟨o,e,c⟩:=q;exact .str b ⟨o,k _ o e,c⟩ e1
 |C6 q e1=>exact .C6 (k _ _ q) e1
 |C3 n0 q r c e1=>obtain⟨o,e,d⟩:=r;exact .C3 n0 (k _ _ q) ⟨o,k _ o e,d⟩ (SrcL.fr (X:=X) rfl n k c) e1
 |zip A S p f r c e1 e2=>exact .zip A (S.keep λc _ o=>k c o) (p.fr k) (nf p f) (r.mp λ_ _ r=>r.fr n k) (SrcL.fr (X:=X) rfl n k c) e1 e2
theorem On.self{fp:List RB}(hc:X.A.handled=Zy)(I:Fr X env cm m s)(q:On X cm m s.heap it fp i l)(h:Q (.ref it) s):RJ X.M X.A (pyIter (.ref it)) Q J s:=by
 have S:=q.src;cases S with
 |lst hi hs =>
  obtain⟨y,hy,_,r⟩:=hs.now I.mem;obtain⟨o,ho,_,c,d⟩:=id hy;exact(Vw (prog:=X.prog) (w:=X.w) hc it _ (ri (.inl hi) ho d) y).self i s _ _ ⟨hi,hy⟩ h
 |tup hi hp _ r =>
  obtain⟨o,c,ho,_,d,_⟩:=id hp;exact(Wg (prog:=X.prog) (w:=X.w) hc it _ (ri (.inr hi) ho d) _).self i s _ _ ⟨hi,hp.tup⟩ h
 |@str c t' b hi el =>
  cases b with
  |true=>exact(XT (prog:=X.prog) (w:=X.w) hc it ⟨c.toArray⟩ t').self i s _ _ hi h
  |false=>exact(Xj (prog:=X.prog) (w:=X.w) hc it ⟨c.toArray⟩ t').self i s _ _ hi h
 |@C6 lo n hi el=>exact(YE (prog:=X.prog) (w:=X.w) hc it lo 1 n).self i s _ _ hi h
 |C3 _ q1 _ _ _=>exact wpAny_pyIter_enum q1 h
 |zip _ S1 _ _ _ _ _ _=>exact wpAny_pyIter_zip S1.zip h
def Hp(fs:List RB)(D:RB)(h:SA):Prop:=∃o,h.get? D=Zz o/\¬G2 fs D o/\(∀v,o.data≠.fields v)/\∀v,o.data≠.cell v
theorem Cx.Ok.fs(K:X.Ok)(g:∀b∈X.fs,b∈f):Cx.Ok { X with fs:=f }:={ K with C2:=λe h=>(K.C2 e h).imp id λ⟨L,h1,h2⟩=>⟨L,g L h1,h2⟩,fr:=g _ K.fr }
theorem Fr.GW(I:Fr X env cm m s)(K:Cx.Ok { X with fs:=f })(sub:∀b∈f,b∈X.fs)(hD:D∈X.fs)(ne:D≠X.env.locals)(e:Hp X.fs D s.heap)(kk:∀b o,b≠D->s.heap.get? b=Zz o->h.get? b=Zz o)(e':D∈f->∃o',h.get? D=Zz o'/\NF X D o'):
  ExtK X.fs X.gs [D] cm m s cm m { s with heap:=h,toks:=tk }/\Nq X.fs [D] s.heap/\Fr { X with fs:=f } env cm m { s with heap:=h,toks:=tk }:=by
 obtain⟨o,e,nx,nf,nc⟩:=e;have kk':∀b o,b∉[D]->s.heap.get? b=Zz o->h.get? b=Zz o:=λb o n=>kk b o λz=>n (RQ.mpr z)
 have x:ExtK X.fs X.gs [D] cm m s cm m { s with heap:=h,toks:=tk }:=⟨rfl,id,λ_ _ h=>h,RC _,λb o e c n=>⟨n,o,kk' b o c e,.inl rfl⟩⟩
 have nq:Nq X.fs [D] s.heap:=λb z q g k=>by
  obtain rfl:=RQ.mp z;rw[e]at g;cases g;exact nx k
 have M:=I.mem.go nq x kk' (I.ok.jG _ _ I.mem.tab λb o hb g=>kk b o (λz=>by
  obtain⟨v,q⟩:=hb.elim (λh=>((I.nc b h).2 o g).1) Kc.f;rw[z,e]at g;cases g;exact nf v q) g)
 have sub':∀b∈f,b∈X.fs∨h.get? b=Zy:=λb h=>.inl (sub b h)
 obtain⟨g,⟨oL,es,ep,eL,r⟩,hl⟩:=I.loc;have cell:∀{c v},s.heap.IsCell c v->h.IsCell c v:=λ⟨q,g,k⟩=>⟨q,kk _ _ (λz=>by rw[z,e]at g;cases g;exact nc _ k) g,k⟩
 refine⟨x,nq,K,M.fr (X:=X) rfl sub' (λ_ _ e=>e) id,I.bare,λb o g=>kk b o (λz=>by rw[z,(I.cO D hD).1]at g;cases g) (I.bs b o g),⟨g,⟨oL,es,ep,kk _ _ (VQ ne) eL,r⟩,λi y w h1 h2 h3=>?_⟩,λy c h=>(I.cell y c h).elim λv z=>⟨v,cell z⟩,λb hb=>?_,I.len⟩
 ·obtain⟨u,h4,h5⟩:=hl i y w h1 h2 h3
  exact⟨u,(h4.go x I.mem nq).fr sub' λ_ _ e=>e,h5.imp id λ⟨k,c,h6,h7⟩=>⟨k,c,h6,cell h7⟩⟩
 ·obtain⟨hq,q,g,n⟩:=I.cO b (sub b hb)
  refine⟨hq,?_⟩;by_cases z:b=D
  ·subst z;exact e' hb
  ·exact⟨q,kk b q z g,n⟩
theorem Fr.acc(I:Fr X env cm m s)(hD:D∈X.fs)(ne:D≠X.env.locals)(e:Hp X.fs D s.heap)(kk:∀b o,b≠D->s.heap.get? b=Zz o->h.get? b=Zz o)(e':∃o',h.get? D=Zz o'/\NF X D o'/\∀o,s.heap.get? D=Zz o->(∀x n,o.data≠.seq x n)->∀x n,o'.data≠.seq x n):
  bd X.fs X.gs (D::ch) cm m s cm m { s with heap:=h,toks:=tk }/\Fr X env cm m { s with heap:=h,toks:=tk }:=
 ⟨.heap (λb o n e=>kk b o (λz=>n (z▸R6)) e) λb _ q g=>by
  by_cases z:b=D
  ·subst z;exact e'.imp λ_ h=>⟨h.1,λ_=>h.2.1.1,h.2.2 _ g⟩
  ·exact⟨q,kk b q z g,.r⟩,(I.GW (f:=X.fs) I.ok (λ_ h=>h) hD ne e kk λ_=>e'.imp λ_ h=>⟨h.1,h.2.1⟩).2.2⟩
structure vL (fs:List RB) (D:RB) (Acc:SA->List R3->Prop):Prop where
 obj:∀{h vs},Acc h vs->Hp fs D h
 keep:∀{h h' vs},Acc h vs->(∀o,h.get? D=Zz o->h'.get? D=Zz o)->Acc h' vs
def AccAt(D:RB)(h:SA)(vs:List R3):Prop:=vs.length<=Ru/\∃n,h.get? D=Zz { cls:=.type "list",data:=.seq vs.toArray n }
theorem dQ(hD:D∈f):vL f D (AccAt D):=⟨λ⟨_,n,e⟩=>⟨_,e,λk=>(by
 cases k with
 |seq _ _ _ z=>exact z hD
 |dict _ _ z=>cases z
 |ref _ _ z=>cases z
 |trace _ z=>exact Yv (Value.type.inj z) (by decide)),(λv z=>by cases z),λv z=>by cases z⟩,λ⟨z,n,e⟩ k=>⟨z,n,k _ e⟩⟩
theorem vL.go(A:vL X.fs D Acc)(I:Fr X env cm m s)(hD:D∈X.fs)(x:ExtK X.fs X.gs ch cm m s cm' m' s')(n:D∉ch)(hs:D∉X.gs)(a:Acc s.heap vs):Acc s'.heap vs:=A.keep a λo e=>by
 obtain⟨_,o',e',q⟩:=x.keep D o e n (C4 I.mem hD);rcases q with rfl|⟨_,_,q,_⟩
 ·exact e'
 ·exact Yv q hs
theorem oY(A:vL X.fs D Acc)(I:Fr X env cm m s)(a:Acc s.heap vs):Nq X.fs (D::X.own) s.heap:=λb hb o e k=>by
 rcases R5.mp hb with rfl|hb
 ·obtain⟨o',e',n,_⟩:=A.obj a
  rw[e]at e';cases e';exact n k
 ·exact I.nq b hb o e k
inductive vz (Y:Cx) (Acc:SA->List R3->Prop) (D:RB) (env:Mi.Env) (vs:List R3) (cm:List RB) (m:Mem) (s:R9) (out:List T) (m':Mem) (s':R9):Prop
 |mk (cm' vs') (_:bd Y.fs Y.gs (D::Y.own) cm m s cm' m' s') (_:Fr Y env cm' m' s') (_:eS Y.D cm' m' s'.heap out vs') (_:Acc s'.heap (vs++vs'))
variable(call gv) in
inductive LA (Y:Cx) (Acc:SA->List R3->Prop) (D it:RB) (fp:List RB) (tg:Tg) (cs:Es) (inner:Mi.E) (ts:List T) (env:Mi.Env) (vs:List R3) (cm0:List RB) (m0:Mem) (s0:R9) (out:List T) (m':Mem) (n:Nat) (s:R9):Prop
 |mk (i cm m vs1 done rest) (_:bd Y.fs Y.gs (D::Y.own) cm0 m0 s0 cm m s) (_:Fr Y env cm m s) (_:On Y cm m s.heap it fp i ts) (_:eS Y.D cm m s.heap done vs1) (_:Acc s.heap (vs++vs1)) (_:b7 (turnF call gv cs inner) tg (ts.drop i) env m=.ok rest m') (_:out=done++rest) (_:n=ts.length+1-i) (_:i<=ts.length)
theorem lR(hc:Y.calm=true){ce:SL}(hA:vL Y.fs D Acc)(hD:D∈Y.fs)(hDo:D∉Y.own)(hs:D∉Y.gs){Pt:T->Prop}{br:Sem XX}(hu:Y.A.under (.compLoop ce d (.ref it) (.ref D) Y.env)=Y.A)(hd:(Rn Y.prog Y.w).den (.compLoop ce d (.ref it) (.ref D) Y.env)=(Vo ce d (.ref it) (.ref D) Y.env).onRaise (λx=>do YY x Y.env;theTreesLotGoes x))(code:Vo ce d (.ref it) (.ref D) Y.env=Cw target iter ifs Y.env (.ref it) (.compLoop ce d (.ref it) (.ref D) Y.env) br)(hg:PG Y target tg)(ht:E5 call gv Y cs ifs)(hdis:∀i∈qC tg,i∉fv inner)(hbr:∀{s:R9}{cm:List RB}{m m':Mem}{env:Mi.Env}{out:List T}{vs:List R3}{J:VK},Fr Y env cm m s->Acc s.heap vs->(∀i∈fv inner,∀w,env[i]?≠Zz (Zz w)) ->
   (ev call gv inner env m).bind mK=.ok out m'->vs.length+out.length<=L->(∀t∈out,Pt t) ->
   RJ Y.M Y.A br (λfin s'=>fin=.again (.compLoop ce d (.ref it) (.ref D) Y.env)/\vz Y Acc D env vs cm m s out m' s') J s)(x0:bd Y.fs Y.gs (D::Y.own) cm0 m0 s0 cm m s){fp:List RB}(tk:rU fp target)(hDf:D∉fp)(fr:∀b∈fp,s0.heap.get? b=Zy)(I:Fr Y env cm m s)(on:On Y cm m s.heap it fp 0 ts)(ha:Acc s.heap vs)(hn:∀i∈qC tg++fv inner,∀w,env[i]?≠Zz (Zz w))(ok:b7 (turnF call gv cs inner) tg ts env m=.ok out m')(hl:vs.length+out.length<=L)(hpt:∀t∈out,Pt t):
  Ux Y.M Y.A (.compLoop ce d (.ref it) (.ref D) Y.env) (λr s'=>r=.ok .next/\vz Y Acc D env vs cm0 m0 s0 out m' s') s:=by
 refine codeAny_loop rfl (LA call gv Y Acc D it fp tg cs inner ts env vs cm0 m0 s0 out m') ?_ (ts.length+1) ⟨0,cm,m,[],[],out,x0,I,on,.nil,by rw[SZ];exact ha,by rw[Tt];exact ok,rfl,rfl,SI _⟩;rintro n s1 ⟨i,cm1,m1,vs1,done,rest,x1,I1,on1,r1,a1,ok1,eo,rfl,hi⟩;have hh:=I1.ok.hd hc;rw[hu,hd];refine wpAny_noted ?_;rw[code];refine R0 (Tq (R0 ?_));have toD:∀{h1:SA}{tk:Nat},(∀b o,b∉fp->s1.heap.get? b=Zz o->h1.get? b=Zz o)->Acc h1 (vs++vs1):=λkk=>hA.keep a1 λo e=>kk D o hDf e
 cases et:ts[i]? with
 |none =>
  have hi:i=ts.length:=by have:=List.getElem?_eq_none_iff.mp et;omega
  refine mW (on1.done hh I1 hi (R:=vz Y Acc D env vs cm0 m0 s0 out m') λh tk kk x I2=>?_) λr s2 ⟨hr,q⟩=>?_
  ·rw[hi,List.drop_length,b7]at ok1
   cases ok1;rw[SZ]at eo;subst eo;exact⟨cm1,vs1,x1.past x fr kk,I2,r1.mp λ_ _ r=>r.go x I1.mem on1.nq,toD (tk:=tk) kk⟩
  ·subst hr
   exact R4 ⟨rfl,q⟩
 |some t =>
  have hit:=(RA.mp et).1;rw[SQ hit,(RA.mp et).2,b7]at ok1;split at ok1
  ·cases ok1
  rename_i env' eb;obtain⟨xs,m2,ok2,ok3⟩:=ar ok1;obtain⟨ys,m3,ok4,ok5⟩:=ar ok3;cases ok5;obtain⟨k,m4,okt,okb⟩:=ar ok2;obtain⟨el,eg⟩:=tC eb;refine mW (on1.next (tg:=target) (Q:=λu s2=>Fr Y env cm1 m1 s2/\On Y cm1 m1 s2.heap it fp (i+1) ts/\RT Y.D cm1 m1 s2.heap t u/\bd Y.fs Y.gs (D::Y.own) cm0 m0 s0 cm1 m1 s2/\eS Y.D cm1 m1 s2.heap done vs1/\Acc s2.heap (vs++vs1)) hh I1 tk et λu h tk kk x I2 on2 r2=>⟨I2,on2,r2,x1.past x fr kk,r1.mp λ_ _ r=>r.go x I1.mem on1.nq,toD (tk:=tk) kk⟩) λr s2 ⟨u,hr,h2⟩=>?_
  subst hr;refine R0 (mW h2 λ_ s3 ⟨I3,on3,r3,x3,rd3,a3⟩=>?_);refine R0 (hg _ _ _ _ I3 t u env' r3 eb _ _ λs4 x4 I4=>?_);have own:∀b∈Y.own,b∈D::Y.own:=λb hb=>R2 _ hb
  have tbo:∀b∈Y.tb,b∈D::Y.own:=λb hb=>own b (bQ b hb)
  refine R0 (mW (rM ht I4 okt) λb s5 ⟨hb,cm5,x5,I5⟩=>?_);have x35:=(x4.sub own).trans (x5.sub tbo);have n3:=oY hA I3 a3;have itD:∀b∈fp,b∉D::Y.own:=λb hb z=>(R5.mp z).elim (λz=>hDf (z▸hb)) (on3.no b hb)
  have a4:=hA.go I3 hD x4.toExtK hDo hs a3;have a5:=hA.go I4 hD x5.toExtK (λz=>hDo (bQ _ z)) hs a4;have on5:=on3.go x35.toExtK x35.lent I3.mem n3 itD;have r5:=rd3.mp λ_ _ r=>r.go x35.toExtK I3.mem n3
  have le:∀(j:Nat) w,env[j]?=Zz (Zz w)->env'[j]?=Zz (Zz w):=λj w e=>by rw[eg j λz=>hn j (Sn _ z) w e];exact e
  subst hb;cases b with
  |false =>
   rw[Yr RL]at okb ⊢;cases okb;rw[Sz]at eo;exact R4 ⟨rfl,_,by omega,i+1,cm5,m2,vs1,done,ys,x3.trans x35,I5.less el le,on5,r5,a5,ok4,eo,rfl,hit⟩
  |true =>
   rw[Yq rfl]at okb ⊢;have hv:=r5.1;refine mW (hbr I5 a5 (λj hj w=>by rw[eg j λz=>hdis j z hj];exact hn j (Sa _ hj) w) okb (by
    rw[eo,RI,RI]at hl;rw[RI,<-hv];omega) λt ht'=>hpt t (by rw[eo];exact Sa _ (Sn _ ht'))) λfin s6 ⟨hfin,cm6,vs6,x6,I6,r6,a6⟩=>?_
   subst hfin;have n5:=oY hA I5 a5;exact⟨rfl,_,by omega,i+1,cm6,m2,vs1++vs6,done++xs,ys,(x3.trans x35).trans x6,I6.less el le,on5.go x6.toExtK x6.lent I5.mem n5 itD,(r5.mp λ_ _ r=>r.go x6.toExtK I5.mem n5).app r6,by rw[<-Rg];exact a6,ok4,by rw[eo,Rg],rfl,hit⟩
end
noncomputable def Ci(scope osc:Uk):Bool:=scope.kind==.function&&scope.names.all λp=>scope.names.lookup p.1==Zz p.2&&(p.2 != .free || osc.names.lookup p.1==Zz .cell || osc.names.lookup p.1==Zz .free)
noncomputable def mu(N' N:List Str)(own:Nat)(keep:List Nat)(scope:Uk):Bool:=N'.length==own+keep.length&&(Rf keep.length).all λi=>match N'[own+i]?,keep[i]? with
 |some x,Zz j=>N[j]?==Zz x&&scope.names.any λp=>p.1==x&&p.2==.free
 |_,_=>false
structure BQ (X:Cx) (N':List Str) (scope:Uk):Prop where
 kind:scope.kind=.function
 look:∀p∈scope.names,scope.names.lookup p.1=Zz p.2
 free:∀x,(x,Ry)∈scope.names->X.env.kindOf x=Zz .cell∨X.env.kindOf x=Zz .free
theorem lP(look:∀p∈scope.names,scope.names.lookup p.1=Zz p.2)(h:(relabel scope env).names.lookup x=Zz k):
  ∃k',scope.names.lookup x=Zz k'/\(k=k'∨(k'=.free/\k=.cell)):=by
 have go:∀(ns:List (Str×V6)),(ns.map λ(n,k)=>if(k==Ry&&env.scope.kind==.function&&env.kindOf n==Zz .cell)then(n,Wn)else(n,k)).lookup x=Zz k->∃k',ns.lookup x=Zz k'/\(k=k'∨(k'=.free/\k=.cell)):=by
  intro ns
  induction ns with
  |nil=>intro h;simp at h
  |cons p r ih =>
   obtain⟨n,q⟩:=p;intro h;rw[RG]at h;by_cases hc:(q==Ry&&env.scope.kind==.function&&env.kindOf n==Zz .cell)=true
   ·simp only[hc,if_true]at h
    rw[Sk]at h ⊢;cases hx:x==n with
    |true =>
     rw[hx]at h;cases h;rw[RK,RK]at hc;exact⟨q,rfl,.inr ⟨eq_of_beq hc.1.1,rfl⟩⟩
    |false=>rw[hx]at h;exact ih h
   ·simp only[hc,Ri,if_false]at h
    rw[Sk]at h ⊢;cases hx:x==n with
    |true=>rw[hx]at h;cases h;exact⟨_,rfl,.inl rfl⟩
    |false=>rw[hx]at h;exact ih h
 exact go scope.names h
theorem mM{ns:List (Str×V6)}(h:ns.lookup x=Zz k):(x,k)∈ns:=T6 h
structure CA (h:SA) (lo:Nat) (cs:List (Str×RB)):Prop where
 lt:∀x c,cs.lookup x=Zz c->c<h.objs.size
 inj:∀x y c,cs.lookup x=Zz c->cs.lookup y=Zz c->x=y
 new:∀x c,cs.lookup x=Zz c->lo<=c->h.IsCell c Zy
theorem fW{α:Type}{a c:α}{l:List (Str×α)}(h:List.lookup x ((y,a)::l)=Zz c):(x=y/\c=a)∨l.lookup x=Zz c:=by
 rw[Sk]at h;cases e:x==y with
 |true=>rw[e]at h;cases h;exact .inl ⟨eq_of_beq e,rfl⟩
 |false=>rw[e]at h;exact .inr h
theorem rQ:∀(names:List (Str×V6)) (h:SA) (lo:Nat) (acc:List (Str×RB)),CA h lo acc->lo<=h.objs.size->CA (pushCells h names) lo (Vf h.objs.size names acc)
 |[],_,_,_,x,_=>x
 |(name,kind)::r,h,lo,acc,x,hlo=>by
  unfold pushCells Vf;split
  ·have:=rQ r (h.push { cls:=.type "cell",data:=.cell Zy }) lo ((name,h.objs.size)::acc)
    ⟨λn c hm=>by
      rw[T3];rcases fW hm with⟨_,rfl⟩|hm
      ·exact VB _
      ·exact SG (x.lt n c hm),
     λn n' c h1 h2=>by
      rcases fW h1 with⟨e1,z1⟩|h1<;>rcases fW h2 with⟨e2,z2⟩|h2
      ·rw[e1,e2]
      ·exact Yv (x.lt _ _ h2) (by rw[z1];exact SU _)
      ·exact Yv (x.lt _ _ h1) (by rw[z2];exact SU _)
      ·exact x.inj n n' c h1 h2,
     λn c hm hc=>by
      rcases fW hm with⟨_,rfl⟩|hm
      ·exact⟨_,RM _ rfl,rfl⟩
      ·exact(x.new n c hm hc).keeps λb o e=>R7 _ e⟩ (by rw[T3];omega)
   rwa [T3]at this
  ·exact rQ r h lo acc x hlo
theorem lf{c:RB}:∀(names:List (Str×V6)) (n:Nat) (acc:List (Str×RB)),(Vf n names acc).lookup x=Zz c->(n<=c/\(x,Wn)∈names)∨acc.lookup x=Zz c
 |[],_,_,h=>.inr h
 |(y,k)::r,n,acc,h=>by
  unfold Vf at h;split at h
  ·rename_i hk
   have hk:=eq_of_beq hk;rcases lf r (n+1) _ h with⟨h1,h2⟩|h1
   ·exact .inl ⟨by omega,R2 _ h2⟩
   ·rcases fW h1 with⟨rfl,rfl⟩|h1
    ·exact .inl ⟨RC _,by rw[hk];exact R6⟩
    ·exact .inr h1
  ·rcases lf r n _ h with⟨h1,h2⟩|h1
   ·exact .inl ⟨h1,R2 _ h2⟩
   ·exact .inr h1
theorem mv:∀(names:List (Str×V6)) (n:Nat) (acc:List (Str×RB)),names.lookup x=Zz .cell->(Vf n names acc).lookup x=Zz c->n<=c
 |[],_,_,h,_=>by cases h
 |(y,k)::r,n,acc,h,e=>by
  unfold Vf at e;rw[Sk]at h;cases q:x==y with
  |true =>
   rw[q]at h;cases h;have e:=e;rcases lf r (n+1) _ e with⟨h1,_⟩|h1
   ·omega
   ·rw[Sk,q]at h1
    cases h1;exact RC _
  |false =>
   rw[q]at h;split at e
   ·have:=mv r (n+1) _ h e
    omega
   ·exact mv r n _ h e
structure Je (X:Cx) (scope:Uk) (cl:List (Str×RB)) (C:RB) (h:SA):Prop where
 one:∀x c,cl.lookup x=Zz c->(C<c/\(x,Wn)∈scope.names/\h.IsCell c Zy)∨X.env.cells.lookup x=Zz c
 own:∀x c,scope.names.lookup x=Zz .cell->cl.lookup x=Zz c->C<c
 inj:∀x y c,cl.lookup x=Zz c->cl.lookup y=Zz c->x=y
 has:∀x,(x,Ry)∈scope.names∨scope.names.lookup x=Zz .cell->∃c,cl.lookup x=Zz c
section
variable{X:Cx}
theorem vw{E:R3->R9->Prop}(hcl1:∀x c,cl0.lookup x=Zz c->X.env.cells.lookup x=Zz c)(hcl2:∀x,(x,Ry)∈scope.names->∃c,cl0.lookup x=Zz c)(hlt:∀x c,X.env.cells.lookup x=Zz c->c<s.heap.objs.size)(hinj:∀x y c,X.env.cells.lookup x=Zz c->X.env.cells.lookup y=Zz c->x=y)(h:∀h1 cl,(∃m,h1.Ns s.heap.objs.size m)->(∀b o,s.heap.get? b=Zz o->h1.get? b=Zz o)->Je X scope cl s.heap.objs.size h1->Q (newEnv scope s.heap.objs.size X.env.globals cl X.env.qual Zy .none (Zz X.env) VX) { s with heap:=h1 }):
  RJ M A (newFunctionEnv scope X.env.globals cl0 [] X.env.qual Zy .none (Zz X.env)) Q E s:=by
 simp only[newFunctionEnv,Option.isSome_some,if_true];refine R0 (YC ?_);refine R0 (wpAny_layCells _ (λname kind cells=>by cases hkc:kind==Wn<;>simp[hkc]) _ _ _ _ ?_);have hz:(s.heap.push { cls:=.type "dict",data:=.dict #[] }).objs.size=s.heap.objs.size+1:=T3 ..;have ok:=rQ scope.names (s.heap.push { cls:=.type "dict",data:=.dict #[] }) (s.heap.objs.size+1) cl0
  ⟨λx c e=>by rw[hz];exact SG (hlt x c (hcl1 x c e)),λx y c e1 e2=>hinj x y c (hcl1 x c e1) (hcl1 y c e2),λx c e z=>Yv (hlt x c (hcl1 x c e)) (YI.mpr (Nat.le_of_succ_le z))⟩ (by rw[hz];exact RC _)
 rw[WN];refine R0 (R4 (R4 ?_));refine h _ _ ⟨_,(Heap.Ns.new s.heap (.type "dict")).keeps (pushCells_keeps _ _)⟩ (λb o e=>pushCells_keeps _ _ b o (R7 _ e)) ⟨λx c e=>?_,λx c hx e=>?_,ok.inj,λx hx=>?_⟩
 ·rcases lf _ _ _ e with⟨h1,h2⟩|h1
  ·rw[show({ s with heap:=s.heap.push { cls:=.type "dict",data:=.dict #[] } }:R9).heap.objs.size=s.heap.objs.size+1 from hz]at h1
   exact .inl ⟨h1,h2,ok.new x c e h1⟩
  ·exact .inr (hcl1 x c h1)
 ·have:=mv _ _ _ hx e
  rw[show({ s with heap:=s.heap.push { cls:=.type "dict",data:=.dict #[] } }:R9).heap.objs.size=s.heap.objs.size+1 from hz]at this;exact this
 ·refine Tr.mp (XU _ _ _ ?_)
  rcases hx with hx|hx
  ·obtain⟨c,e⟩:=hcl2 x hx
   exact .inr (by rw[e];rfl)
  ·exact .inl hx
end
section
variable{X Y:Cx}{env env':Mi.Env}{cm cm' cm0:List RB}{m m' m0 m1 m2:Mem}{s s' s0:R9}{w:W}{v u:R3}{ch:List RB}{J Q:VK}{h h':SA}{t:T}{l ts out:List T}{vs:List R3}{a it D C:RB}{n d L:Nat}{i:Nat}{tk:Nat}{o o':Obj}{f:List RB}
variable{call:Nat->List W->Mem->Res W}{gv:List T}{e elt target iter:SL}{ifs:List SL}{gens gs:List Ub}{E inner:Mi.E}{cs:Es}{tg:Tg}{pos p:Pos}{Acc:SA->List R3->Prop}{scope:Uk}{N':List Str}{cl:List (Str×RB)}
theorem v9(I:Fr X env cm m s)(hD:D∈X.fs)(ne:D≠X.env.locals)(hs:D∉frs X.stack)(a:AccAt D s.heap vs)(hz:vs.length<Ru)(q:∀s',bd X.fs X.gs (D::X.own) cm m s cm m s'->Fr X env cm m s'->AccAt D s'.heap (vs++[u])->Q .none s'):RJ X.M X.A (TE (.builtin "list.append") [.ref D,u]) Q J s:=by
 have fl:=(dQ hD).obj a;obtain⟨z,n,e⟩:=a;refine Tl F.slot_list_append ⟨_,e,rfl⟩ F.entry_list_append (F.args_list_append_2 _ _) (PySem.list_append D vs.toArray n u (by simpa using T7 hz)) ⟨e,?_⟩;have e2:=PySem.IsL.update e (·.push u);rw[show vs.toArray.push u=(vs++[u]).toArray by simp]at e2;obtain⟨x,I'⟩:=I.acc (ch:=X.own) (tk:=s.toks) hD ne fl (λb o hb eb=>(Tc s.heap (Rh (·.push u)) (VQ hb)).trans eb) ⟨_,e2,⟨(λv z=>by cases z),λz=>Yv z hs⟩,λo e' n=>by rw[e]at e';cases e';exact Yv rfl (n _ _)⟩;exact q _ x I' ⟨by rw[RI,S3];omega,_,e2⟩
theorem E7(hc:Y.calm=true)(hD:D∈Y.fs)(hDo:D∉Y.own)(hs:D∉frs Y.stack)(hin:G5 call gv Y elt gens d inner):∀{target iter:SL}{ifs:List SL}{tg:Tg}{cs:Es},gens[d]?=Zz ⟨target,iter,ifs,0⟩ ->
  PG Y target tg->E5 call gv Y cs ifs->(∀i∈qC tg,i∉fv inner) ->
  ∀{s0 s:R9}{cm0 cm:List RB}{m0 m m':Mem}{env:Mi.Env}{ts out:List T}{it:RB}{fp:List RB}{vs:List R3},bd Y.fs Y.gs (D::Y.own) cm0 m0 s0 cm m s->rU fp target->D∉fp->(∀b∈fp,s0.heap.get? b=Zy)->Fr Y env cm m s->On Y cm m s.heap it fp 0 ts->AccAt D s.heap vs ->
   (∀i∈qC tg++fv inner,∀w,env[i]?≠Zz (Zz w))->b7 (turnF call gv cs inner) tg ts env m=.ok out m'->vs.length+out.length<=lim ->
   Ux Y.M Y.A (.compLoop (.ListComp elt gens scope pos) d (.ref it) (.ref D) Y.env) (λr s'=>r=.ok .next/\vz Y (AccAt D) D env vs cm0 m0 s0 out m' s') s:=by
 have hz:=lN;have tbo:∀b∈Y.tb,b∈D::Y.own:=λb hb=>R2 _ (bQ b hb)
 have neL:D≠Y.env.locals:=λz=>hDo (z▸R6)
 induction hin with
 |@emit d a l pe =>
  intro target iter ifs tg cs hg pg pt q s0 s cm0 cm m0 m m' env ts out it fp vs x0 tk hDf fr I on ha hn ok hl;refine lR hc (dQ hD) hD hDo hs (Pt:=λ_=>True) rfl rfl (qt hg l) pg pt q ?_ x0 tk hDf fr I on ha hn ok hl (λ_ _=>trivial);intro s cm m m' env out vs J I ha hn ok hl _;obtain⟨w,m1,j,ok2⟩:=ar ok;obtain⟨rfl,rfl⟩:=iY ok2;rw[ev]at j;obtain⟨w1,m2,ok3,ok4⟩:=ar j;obtain⟨t,m3,h,ok6⟩:=ar ok4;cases ok6;refine R0 (R0 (mW (pe.run I ok3) λu s1 ⟨cm1,x1,I1,r1⟩=>?_));obtain⟨x2,I2,r2⟩:=pV I1 r1 h;have a2:=(dQ hD).go I1 hD x2.toExtK (λz=>hDo (bQ _ z)) hs ((dQ hD).go I hD x1.toExtK (λz=>hDo (bQ _ z)) hs ha);have n2:=oY (dQ hD) I2 a2;refine R0 (v9 I2 hD neL hs a2 (by simp at hl;omega) λs3 x3 I3 a3=>R4 (R4 ⟨rfl,cm1,[u],((x1.trans x2).sub tbo).trans x3,I3,.cons (r2.go x3.toExtK I2.mem n2) .nil,a3⟩))
 |@more d it' inner' tg' cs' target' iter' ifs' l pi hfs pg' pt' hdis' hlt' hin' ih =>
  intro target iter ifs tg cs hg pg pt q s0 s cm0 cm m0 m m' env ts out it fp vs x0 tk hDf fr I on ha hn ok hl;refine lR hc (dQ hD) hD hDo hs (Pt:=λ_=>True) rfl rfl (qu hg l) pg pt q ?_ x0 tk hDf fr I on ha hn ok hl (λ_ _=>trivial);intro s cm m m' env out vs J I ha hn ok hl _;obtain⟨w,m1,j,ok2⟩:=ar ok;obtain⟨rfl,rfl⟩:=iY ok2;rw[ev]at j;obtain⟨w1,m2,ok3,ok4⟩:=ar j;obtain⟨ts',m3,h,ok6⟩:=ar ok4;obtain⟨out',m4,ok7,ok8⟩:=ar ok6;cases ok8;refine R0 (mW (pi.run I ok3 h) λxv s1 h1=>?_);refine R0 (Tq (R0 (XO (hfs xv) (R0 (SH (mW h1 λitv s2 h2=>?_))))));obtain⟨F,fp2,it2,cm1,s1',rfl,z1,_,_,x1,I1,x2,I2,on2,tk2,fr2⟩:=h2;obtain rfl:=z1 rfl;have I2:Fr Y env cm1 m3 s2:=I2;have on2:On Y cm1 m3 s2.heap it2 fp2 0 ts':=on2;have hb:=dz (ch:=D::Y.own) I1 h;have a1:=(dQ hD).go I hD x1.toExtK (λz=>hDo (bQ _ z)) hs ha;have a2:=(dQ hD).go hb.2 hD (x2 []).toExtK (λz=>nomatch z) hs a1;have hDf2:D∉fp2:=λz=>by
   obtain⟨_,_,e⟩:=a1;rw[fr2 D z]at e;cases e
  have go:=ih l pg' pt' hdis' (x2 _) tk2 hDf2 fr2 I2 on2 a2 hn ok7 hl;refine R0 (wpAny_runOwn (Ul (iD l rfl rfl go (on2.self (I2.ok.hd hc) I2 go)) λr s3 ⟨hr,cm3,vs3,x3,I3,r3,a3⟩=>?_));subst hr;obtain⟨x4,M4,sm⟩:=jg I3.mem (hb.1.trans x3) (λj l h=>x3.lent j l h) h;exact R4 ⟨rfl,cm3,vs3,(x1.sub tbo).trans x4,I3.go (sm []) M4 (λ_ z=>nomatch z),r3.mp λ_ _ r=>r.go (sm []) I3.mem Nq.nil,a3⟩
noncomputable abbrev bf(X:Cx)(N':List Str)(scope:Uk)(cl:List (Str×RB))(C:RB)(F:List RB):Cx:=
 { X with N:=N',env:=compEnvC scope cl C X.env,fs:=F,fn:=λx=>scope.names.lookup x==Zz .cell }
theorem wy(I:Fr X env cm m s)(S:BQ X N' scope)(hD:s.heap.get? D=Zy)(eD:∃o,h.get? D=Zz o/\∀v,o.data≠.fields v)(hC:s.heap.objs.size<=C)(hns:∃f,h.Ns C f)(k:∀b o,s.heap.get? b=Zz o->h.get? b=Zz o)(kc:Je X scope cl C h)(hl:env'.length=N'.length)(hσ:∀(i:Nat) (x:Str) (w:W),N'[i]?=Zz x->env'[i]?=Zz (Zz w)->∃j:Nat,X.N[j]?=Zz x/\env[j]?=Zz (Zz w)/\(x,Ry)∈scope.names):
  Fr (bf X N' scope cl C (D::C::X.fs)) env' cm m { s with heap:=h,toks:=tk }:=by
 have gone:∀b,s.heap.objs.size<=b->s.heap.get? b=Zy:=λb hb=>Rt hb
 have nb:∀b,s.heap.get? b=Zy->X.base.get? b=Zy:=λb hb=>by
  cases q:X.base.get? b with
  |none=>rfl
  |some o=>rw[I.bs _ _ q]at hb;cases hb
 have nst:∀b,s.heap.get? b=Zy->b∉frs X.stack:=λb hb z=>I.pY z hb
 have hfree:∀x k,(relabel scope X.env).names.lookup x=Zz k->(k=.cell∨k=.free)->(x,Ry)∈scope.names∨scope.names.lookup x=Zz .cell:=λx k h hk'=>by
  obtain⟨k',h1,h2⟩:=lP S.look h;rcases h2 with rfl|⟨rfl,_⟩
  ·rcases hk' with rfl|rfl
   ·exact .inr h1
   ·exact .inl (mM h1)
  ·exact .inl (mM h1)
 have nn:∀b∈D::C::X.fs,b∈X.fs∨s.heap.get? b=Zy:=λb hb=>by
  rcases R5.mp hb with rfl|hb
  ·exact .inr hD
  ·rcases R5.mp hb with rfl|hb
   ·exact .inr (gone _ hC)
   ·exact .inl hb
 obtain⟨mm,hns⟩:=hns;refine⟨⟨I.ok.mod,S.kind,I.ok.glob,I.ok.blt,kc.inj,λx hx=>?_,I.ok.hd,I.ok.frames,λe he=>(I.ok.C2 e he).imp id λ⟨L,h1,h2⟩=>⟨L,R2 _ (R2 _ h1),h2⟩,R2 _ R6,λx c e=>?_,I.ok.tab,I.ok.jG,I.ok.qm⟩,
  I.mem.fr (X:=X) rfl nn k λT=>I.ok.jG _ _ T λb o _=>k b o,I.bare,λb o e=>k b o (I.bs b o e),⟨mm,hns,λi x w e1 e2 e3=>?_⟩,λx c e=>?_,λb hb=>?_,hl⟩
 ·rcases hx with hx|hx
  ·exact kc.has x (hfree x _ hx (.inl rfl))
  ·exact kc.has x (hfree x _ hx (.inr rfl))
 ·rcases kc.one x c e with⟨q,_⟩|q
  ·exact nb _ (gone _ (Ro hC (T7 q)))
  ·exact I.ok.cb x c q
 ·obtain⟨j,h1',h2',h3'⟩:=hσ i x w e1 e2
  obtain⟨m0,hn0,hl0⟩:=I.loc;have kx:=S.free x h3';obtain⟨u,ru,lu⟩:=hl0 j x w h1' h2' (kx.elim (λz=>.inr (.inl z)) λz=>.inr (.inr z));refine⟨u,ru.fr nn k,.inr ?_⟩;obtain⟨c,ec,ic⟩:∃c,X.env.cells.lookup x=Zz c/\s.heap.IsCell c (Zz u):=by
   rcases lu with⟨q,_⟩|⟨_,c,q1,q2⟩
   ·rcases kx with z|z
    ·rw[z]at q;cases q
    ·rw[z]at q;cases q
   ·exact⟨c,q1,q2⟩
  obtain⟨c',ec'⟩:=kc.has x (.inl h3');have:c'=c:=by
   rcases kc.one x c' ec' with⟨_,q,_⟩|this
   ·have q1:=S.look _ q
    rw[S.look _ h3']at q1;cases q1
   ·rw[ec]at this;exact(Sj this).symm
  subst this;obtain⟨o,ho,hd⟩:=ic;refine⟨?_,c',ec',o,k _ _ ho,hd⟩;rcases e3 with e3|e3|e3
  ·obtain⟨k',q1,q2⟩:=lP S.look e3
   rw[S.look _ h3']at q1;cases q1;rcases q2 with q2|⟨_,q2⟩<;>cases q2
  ·exact .inl e3
  ·exact .inr e3
 ·rcases kc.one x c e with⟨_,_,q⟩|q
  ·exact⟨_,q⟩
  ·obtain⟨v,o,ho,hd⟩:=I.cell x c q
   exact⟨v,o,k _ _ ho,hd⟩
 ·rcases R5.mp hb with rfl|hb
  ·obtain⟨o,e,n⟩:=eD
   exact⟨nb _ hD,o,e,n,λz=>Yv z (nst _ hD)⟩
  ·rcases R5.mp hb with rfl|hb
   ·obtain⟨o,es,ep,e,d,_⟩:=hns
    exact⟨nb _ (gone _ hC),o,e,λv z=>(by rw[d]at z;cases z),λz=>Yv z (nst _ (gone _ hC))⟩
   ·obtain⟨h1,o,e,d⟩:=I.cO b hb
    exact⟨h1,o,k _ _ e,d⟩
end
section
variable{X Y:Cx}{env env':Mi.Env}{cm cm' cm0:List RB}{m m' m0 m1 m2:Mem}{s s' s0:R9}{w:W}{v u:R3}{ch:List RB}{J Q:VK}{h h':SA}{t:T}{l ts out:List T}{vs:List R3}{a D C:RB}{n d L own:Nat}{i:Nat}{tk:Nat}{o o':Obj}{f:List RB}
variable{call:Nat->List W->Mem->Res W}{gv:List T}{e elt target iter node:SL}{ifs:List SL}{gens gs:List Ub}{E inner it:Mi.E}{cs:Es}{tg:Tg}{pos p px spos pos':Pos}{Acc:RB->SA->List R3->Prop}{scope:Uk}{N':List Str}{cl:List (Str×RB)}{keep:List Nat}{oN:Obj}{nw:Sem R3}{use:Option (R3->Sem Unit)}{x:Str}{rest:List TM}{K:Mi.S}
variable(call gv) in
def FJ(X:Cx)(N':List Str)(scope:Uk)(elt target:SL)(ifs:List SL)(gens:List Ub)(tg:Tg)(cs:Es)(inner:Mi.E):Prop:=
 ∀(cl:List (Str×RB)) (C:RB) (F:List RB),PG (bf X N' scope cl C F) target tg/\E5 call gv (bf X N' scope cl C F) cs ifs/\G5 call gv (bf X N' scope cl C F) elt gens 0 inner
variable(call gv) in
structure oO (X:Cx) (N':List Str) (scope:Uk) (own:Nat) (keep:List Nat) (target iter:SL) (it:Mi.E) (tg:Tg) (inner:Mi.E) (P:Prop):Prop where
 sc:BQ X N' scope
 hown:N'.length=own+keep.length
 hkeep:∀(i:Nat) x,N'[own+i]?=Zz x->∃j,keep[i]?=Zz j/\X.N[j]?=Zz x/\(x,Ry)∈scope.names
 pi:PI call gv true X target iter it
 fs:∀x,UV iter X.env x=pure x
 ins:P
 dis:∀i∈qC tg,i∉fv inner
 Hh:∀i∈qC tg++fv inner,i<own
variable(call gv) in
abbrev ry(X:Cx)(N':List Str)(scope:Uk)(own:Nat)(keep:List Nat)(elt target iter:SL)(ifs:List SL)(gs:List Ub)(it:Mi.E)(tg:Tg)(cs:Es)(inner:Mi.E):Prop:=
 oO call gv X N' scope own keep target iter it tg inner (FJ call gv X N' scope elt target ifs (⟨target,iter,ifs,0⟩::gs) tg cs inner)
theorem t5{P:Prop}(h1:Ci scope X.env.scope=true)(h2:mu N' X.N own keep scope=true)(pi:PI call gv true X target iter it)(fs:∀x,UV iter X.env x=pure x)(ins:P)(dis:∀i∈qC tg,i∉fv inner)(Hh:∀i∈qC tg++fv inner,i<own):
  oO call gv X N' scope own keep target iter it tg inner P:=by
 unfold Ci at h1;rw[RK]at h1;obtain⟨hk,h1⟩:=h1;have h1:=SX.mp h1;unfold mu at h2;rw[RK]at h2;obtain⟨hl,h2⟩:=h2;have h2:=SX.mp h2;refine⟨⟨eq_of_beq hk,λp hp=>?_,λx hx=>?_⟩,eq_of_beq hl,λi x e=>?_,pi,fs,ins,dis,Hh⟩
 ·have:=h1 p hp
  simp only[RK]at this;exact eq_of_beq this.1
 ·have:=h1 _ hx
  simp only[RK,U2]at this;rcases this.2 with(h|h)|h
  ·cases h
  ·exact .inl (eq_of_beq h)
  ·exact .inr (eq_of_beq h)
 ·have hlen:=eq_of_beq hl
  have hi:i<keep.length:=by
   have:=(RA.mp e).1;omega
  have h:=h2 i (Su.mpr hi);rw[e]at h;cases q:keep[i]? with
  |none=>rw[q]at h;cases h
  |some j =>
   rw[q]at h;have h:=h;rw[RK]at h;refine⟨j,rfl,eq_of_beq h.1,?_⟩;obtain⟨p,hp,hq⟩:=Vy.mp h.2;rw[RK]at hq;rw[<-eq_of_beq hq.1];have:p.2=Ry:=eq_of_beq hq.2;rw[<-this];exact hp
structure uw (X:Cx) (Acc:RB->SA->List R3->Prop) (env:Mi.Env) (cm:List RB) (m:Mem) (s:R9) (out:List T) (m':Mem) (D C:RB) (s3:R9) (cm3:List RB) (vs:List R3):Prop where
 ext:bd (C::X.fs) X.gs X.tb cm m s cm3 m' s3
 fr:Fr { X with fs:=C::X.fs } env cm3 m' s3
 rel:eS (Cx.D { X with fs:=C::X.fs }) cm3 m' s3.heap out vs
 acc:Acc D s3.heap vs
 nf:D∉C::X.fs
 nl:aF cm3 m' D
 ns:∃f,s3.heap.Ns C f
 nC:s.heap.get? C=Zy
 nD:s.heap.get? D=Zy
 nb:X.base.get? D=Zy
 gl:Rz<D
theorem lU(hc:X.calm=true){P:Prop}(k:oO call gv X N' scope own keep target iter it tg inner P)(hcl:clausesOf node=⟨target,iter,ifs,0⟩::gs)(hal:oN.isFreed=false)(hof:∀v,oN.data≠.fields v)(hd:∀it acc env,(Rn X.prog X.w).den (.compStart node 0 it acc env)=(YX node 0 it acc env).onRaise (λx=>do YY x env;VR theWindowsPlace))(hA:∀it acc env,X.A.under (.compStart node 0 it acc env)=X.A)(hnw:∀{A:SV}{E:R3->R9->Prop}{s:R9}{Q:R3->R9->Prop},Q (.ref s.heap.objs.size) { s with heap:=s.heap.push oN }->RJ (Rn X.prog X.w) A nw Q E s)(h0:∀{h:SA}{D:RB},h.get? D=Zz oN->Acc D h [])(loop:∀(cl:List (Str×RB)) (C D:RB) (F:List RB) {s0 s:R9}{cm0 cm:List RB}{m0 m m':Mem}{env:Mi.Env}{ts:List T}{it:RB}{fp:List RB},D∈F->D∉(bf X N' scope cl C F).own->D∉frs X.stack->bd F X.gs (D::(bf X N' scope cl C F).own) cm0 m0 s0 cm m s->rU fp target->D∉fp->(∀b∈fp,s0.heap.get? b=Zy)->Fr (bf X N' scope cl C F) env cm m s->On (bf X N' scope cl C F) cm m s.heap it fp 0 ts->Acc D s.heap [] ->
   (∀i∈qC tg++fv inner,∀w,env[i]?≠Zz (Zz w))->b7 (turnF call gv cs inner) tg ts env m=.ok out m'->out.length<=lim ->
   Ux X.M X.A (.compLoop node 0 (.ref it) (.ref D) (compEnvC scope cl C X.env)) (λr s'=>r=.ok .next/\vz (bf X N' scope cl C F) (Acc D) D env [] cm0 m0 s0 out m' s') s)(I:Fr X env cm m s)(ok:ev call gv (.comp own keep it tg cs inner) env m=.ok (.t (.lst out)) m')(fin:∀D C s3 cm3 vs,uw X Acc env cm m s out m' D C s3 cm3 vs->compPost X.M X.A J use Q (.ref D) C (.ok .next) s3):
  RJ X.M X.A (comprehension node scope X.env pos' nw false (eval iter X.env) use) Q J s:=by
 obtain⟨cl0,hclos,hcl1,hcl2⟩:=oJ λx hx=>I.ok.has x (k.sc.free x hx)
 rw[ev]at ok;obtain⟨w1,m1,ok0,ok2⟩:=ar ok;have ok1:=ok0;obtain⟨ts,m2,ok3,ok4⟩:=ar ok2;obtain⟨out',m3,ok5,ok6⟩:=ar ok4;split at ok6<;>cases ok6;rename_i hlen;have ok5':=ok5;refine wpAny_comprehension_free hcl k.fs hclos k.sc.kind (λx hx e=>by rw[k.sc.look x hx,e]) (mW (k.pi.run I ok1 ok3) λxv s1' h1=>mW h1 λitv s2 h2=>?_);obtain⟨F,fp,itA,c1,s1,rfl,_,z2,z3,x1,I1,x2,I2,on2,tk2,fr2⟩:=h2;refine hnw (vw hcl1 hcl2 (λx c e=>?_) I2.ok.inj λh₁ cl hns₁ hsb₁ kc=>?_)
 ·obtain⟨v,o,e,_⟩:=I2.cell x c e
  exact TA (Rm e) (by show _<=(Heap.push _ _).objs.size;rw[T3];exact UQ _)
 dsimp only at hns₁ hsb₁ kc ⊢;generalize hP:s2.heap.push oN=P2 at hns₁ hsb₁ kc ⊢;have hCs:P2.objs.size=s2.heap.objs.size+1:=by rw[<-hP,T3]
 generalize hC:P2.objs.size=C at hns₁ kc hCs ⊢;generalize hD:s2.heap.objs.size=D at hCs ⊢;have gone2:∀b,D<=b->s2.heap.get? b=Zy:=λb hb=>Rt (hD▸hb)
 have gone:∀b,D<=b->s.heap.get? b=Zy:=λb hb=>by
  cases e:s.heap.get? b with
  |none=>rfl
  |some o =>
   obtain⟨o,e,_⟩:=x1.thr b o e;obtain⟨o,e,_⟩:=(x2 []).thr b o e;rw[gone2 b hb]at e;cases e
 have old:=λb o e=>hsb₁ b o (hP▸R7 oN e)
 have hacc:h₁.get? D=Zz oN:=hsb₁ _ _ (by rw[<-hP,<-hD];exact RM _ hal);have gone1:∀b,D<=b->s1.heap.get? b=Zy:=λb hb=>by
  cases e:s1.heap.get? b with
  |none=>rfl
  |some o =>
   obtain⟨o,e,_⟩:=(x2 []).thr b o e;rw[gone2 b hb]at e;cases e
 have J0:Fr (bf X N' scope cl C (D::C::F)) (Cc own keep env) c1 m2 { s2 with heap:=h₁ }:=wy (X:={ X with fs:=F }) I2 ⟨k.sc.kind,k.sc.look,k.sc.free⟩ (gone2 D (RC _)) ⟨_,hacc,hof⟩ (by omega) hns₁ old ⟨kc.one,kc.own,kc.inj,kc.has⟩ (by unfold Cc;simp[k.hown]) λi x w e1 e2=>by
  unfold Cc at e2;by_cases hi:i<own
  ·rw[S7 (by simpa using hi),Vg]at e2
   split at e2<;>cases e2
  ·rw[S4 (by simpa using hi),List.length_replicate,Rj]at e2
   obtain⟨j,q1,q2,q3⟩:=k.hkeep (i-own) x (by rw[show own+(i-own)=i by omega];exact e1);rw[q1]at e2;have e3:(env[j]?).join=Zz w:=Sj e2;refine⟨j,q2,?_,q3⟩;cases r:env[j]? with
   |none=>rw[r]at e3;cases e3
   |some o=>rw[r]at e3;exact congrArg Zz e3
 have up0:∀b∈F,b∈D::C::F:=λb h=>R2 _ (R2 _ h)
 have up:∀b∈X.fs,b∈D::C::F:=λb h=>up0 b (z2 b h)
 have nn:∀b∈D::C::F,b∈F∨s2.heap.get? b=Zy:=λb hb=>by
  rcases R5.mp hb with rfl|hb
  ·exact .inr (gone2 _ (RC _))
  ·rcases R5.mp hb with rfl|hb
   ·exact .inr (gone2 _ (by omega))
   ·exact .inl hb
 have nF:∀b∈F,b∈X.fs∨s.heap.get? b=Zy:=λb hb=>(z3 b hb).imp id λz=>by
  cases e:s.heap.get? b with
  |none=>rfl
  |some o =>
   obtain⟨o,e,_⟩:=x1.thr b o e;rw[z]at e;cases e
 have DC:D<C:=by omega
 have ownY:∀b∈(bf X N' scope cl C (D::C::F)).own,b∈X.tb∨D<b:=λb hb=>by
  rcases R5.mp hb with z|hb
  ·exact .inr (Nat.lt_of_lt_of_eq DC z.symm)
  ·rcases RN.mp hb with hb|hb
   ·exact .inl hb
   ·obtain⟨x,h1,h2⟩:=mf.mp hb
    have:=kc.own x b (eq_of_beq h1) h2;exact .inr (Y1 DC this)
 have tbD:D∉X.tb:=λz=>by
  obtain⟨o,e⟩:=I2.ok.qm _ I2.mem.tab D z;rw[gone2 D (RC _)]at e;cases e
 have hDo:D∉(bf X N' scope cl C (D::C::F)).own:=λz=>(ownY D z).elim tbD λz=>SU _ z
 have fpD:∀b∈fp,b<D:=λb hb=>by
  obtain⟨o,e,_⟩:=on2.pt b hb;exact hD▸Rm e
 have on3:On (bf X N' scope cl C (D::C::F)) c1 m2 h₁ itA fp 0 ts:=⟨on2.src.fr (X:={ X with fs:=F }) rfl nn old,on2.nb,λb hb z=>(ownY _ z).elim (λz=>on2.no b hb (bQ (X:={ X with fs:=F }) _ z)) (λz=>Nat.lt_asymm z (fpD b hb)),λb hb=>by
  have q:=on2.nf b hb;by_cases ht:isTup fp b=true
  ·rw[Yq ht]at q ⊢;exact⟨up0 b q.1,q.2⟩
  ·rw[Yr ht]at q ⊢
   intro z;rcases R5.mp z with z|z
   ·exact Yv (fpD b hb) (by rw[z];exact SU _)
   ·rcases R5.mp z with z|z
    ·exact Yv (fpD b hb) (by rw[z];exact YI.mpr (T7 DC))
    ·exact q z⟩
 have x3:bd (D::C::F) X.gs (D::(bf X N' scope cl C (D::C::F)).own) c1 m2 s1 c1 m2 { s2 with heap:=h₁ }:=((x2 _).fr λb h=>.inl (up0 b h)).trans (.kept old);have hnone:∀i∈qC tg++fv inner,∀w,(Cc own keep env)[i]?≠Zz (Zz w):=λi hi w e=>by
  unfold Cc at e;rw[S7 (by simpa using k.Hh i hi),Vg]at e;split at e<;>cases e
 have go:=loop cl C D (D::C::F) R6 hDo (λz=>I2.pY (X:={ X with fs:=F }) z (gone2 D (RC _))) x3 tk2 (λz=>Yv (fpD D z) (SU _)) fr2 J0 on3 (h0 hacc) hnone ok5' hlen;refine Ul (iD (by rw[hcl];rfl) (hd _ _ _) (hA _ _ _) go (On.self (X:=bf X N' scope cl C (D::C::F)) (s:={ s2 with heap:=h₁ }) (I2.ok.hd hc) J0 on3 go)) λr s3 ⟨hr,cm3,vs3,x4,I4,r4,a4⟩=>?_
 subst hr;obtain⟨x5,M5,sm⟩:=jg I4.mem (((dz (ch:=D::(bf X N' scope cl C (D::C::F)).own) I1 ok3).1.fr λb h=>.inl (up b h)).trans x4) (λj l h=>x4.lent j l h) ok3;have xt:=((((x1.fr λb h=>.inl (up b h)).sub (ch:=D::(bf X N' scope cl C (D::C::F)).own) λb hb=>R2 _ (bQ (X:=bf X N' scope cl C (D::C::F)) b hb)).trans x5).fr (fs:=C::X.fs) (λb hb=>by
  rcases R5.mp hb with z|hb
  ·exact .inr (by rw[z];exact gone D (RC _))
  ·rcases R5.mp hb with z|hb
   ·exact .inl (by rw[z];exact R6)
   ·exact(nF b hb).imp (λz=>R2 _ z) id)).weak (ch':=X.tb) λb hb n=>by
  rcases R5.mp hb with rfl|hb
  ·exact gone _ (RC _)
  ·exact(ownY b hb).elim (λz=>Yv z n) λz=>gone _ (T7 z)
 have upC:∀b∈X.fs,b∈C::X.fs:=λb h=>R2 _ h
 have dn:∀b∈C::X.fs,b∈D::C::F:=λb h=>(R5.mp h).elim (λz=>by rw[z];simp) (up b)
 have MX:be { X with fs:=C::X.fs } cm3 (giveBack w1 m1 m3) s3.heap:=M5.fr (X:=bf X N' scope cl C (D::C::F)) rfl (λb h=>.inl (dn b h)) (λ_ _ e=>e) id;refine fin D C s3 cm3 vs3 ⟨xt,I.Il (f:=C::X.fs) (I.ok.fs upC) (λb h=>(R5.mp h).elim (λz=>.inr (by rw[z];exact gone C (T7 DC))) .inl) (λb h _=>I4.cO b (dn b h)) xt.toExtK MX I.nc,r4.mp λ_ _ r=>(RT.go (sm []) I4.mem Nq.nil r).fr (f:=D::C::F) (λb h=>.inl (dn b h)) λ_ _ e=>e,?_,λz=>?_,C4 (X:=bf X N' scope cl C (D::C::F)) M5 R6,?_,gone _ (by omega),gone _ (RC _),(I4.cO D R6).1,(let⟨_,_,_,e,_⟩:=I2.ok.mod.glob;hD▸Rm (I2.bs _ _ e))⟩
 ·rw[Sz]at a4;exact a4
 ·rcases R5.mp z with z|z
  ·exact Yv z (Rr DC)
  ·obtain⟨_,o,e,_⟩:=I2.cO D (z2 D z)
   rw[gone2 D (RC _)]at e;cases e
 ·obtain⟨f,h,_⟩:=I4.loc
  exact⟨f,h⟩
section
variable{D C:RB}{s3:R9}{cm3:List RB}
theorem uw.ne(F:uw X Acc env cm m s out m' D C s3 cm3 vs)(I:Fr X env cm m s):C≠X.env.locals/\C∉X.own/\C∉X.fs:=by
 have no:∀{o},s.heap.get? C≠Zz o:=λz=>by rw[F.nC]at z;cases z
 have nl:C≠X.env.locals:=λz=>by
  obtain⟨f,⟨o,_,_,e,_⟩,_⟩:=I.loc;exact no (z▸e)
 refine⟨nl,λhb=>?_,λhb=>?_⟩
 ·rcases R5.mp hb with z|hb
  ·exact nl z
  ·rcases RN.mp hb with hb|hb
   ·obtain⟨o,e⟩:=I.ok.qm _ I.mem.tab _ hb
    exact no e
   ·obtain⟨y,_,hm⟩:=mf.mp hb
    obtain⟨v,o,e,_⟩:=I.cell y C hm;exact no e
 ·obtain⟨_,o,e,_⟩:=I.cO _ hb
  exact no e
theorem FV(h:∃f,h'.Ns C f)(n:C∈f):Hp f C h':=by
 obtain⟨g,o,es,ep,e,d,_⟩:=h;refine⟨o,e,λk=>?_,λv z=>(by rw[d]at z;cases z),λv z=>(by rw[d]at z;cases z)⟩;cases k with
 |seq _ _ z=>rw[d]at z;cases z
 |dict _ _ _ z=>exact z n
 |ref _ _ _ z=>rw[d]at z;cases z
 |trace _ _ z=>rw[d]at z;cases z
theorem uw.go(F:uw X Acc env cm m s out m' D C s3 cm3 vs)(I:Fr X env cm m s){s4:R9}{ch:List RB}(I4:Fr { X with fs:=C::X.fs } env' cm3 m' s4)(x4:bd (C::X.fs) X.gs ch cm m s cm3 m' s4)(ns:∃f,s4.heap.Ns C f)(hs:Up C s4.heap h'):
  ExtK (C::X.fs) X.gs [C] cm3 m' s4 cm3 m' { s4 with heap:=h' }/\Nq (C::X.fs) [C] s4.heap/\bd X.fs X.gs ch cm m s cm3 m' { s4 with heap:=h' }/\Fr X env' cm3 m' { s4 with heap:=h' }:=by
 obtain⟨n1,_,n3⟩:=F.ne I;have kk:∀b o,b≠C->s4.heap.get? b=Zz o->h'.get? b=Zz o:=λb o n e=>(hs.2 b n).trans e
 obtain⟨x,nq,I5⟩:=I4.GW (f:=X.fs) (tk:=s4.toks) I.ok (λb h=>R2 _ h) R6 n1 (FV ns R6) kk λz=>Yv z n3
 exact⟨x,nq,(bd.past (X:={ X with fs:=C::X.fs }) x4 x (λb hb=>by rw[RQ.mp hb];exact F.nC) λb o n e=>kk b o (λz=>n (RQ.mpr z)) e).fr λb h=>(R5.mp h).elim (λz=>.inr (by rw[z];exact F.nC)) .inl,I5⟩
theorem uw.val(F:uw X AccAt env cm m s out m' D C s3 cm3 vs):RT (Cx.D { X with fs:=C::X.fs }) cm3 m' s3.heap (.lst out) (.ref D):=by
 obtain⟨z,n,e⟩:=F.acc;exact .lst (x:=vs.toArray) ⟨⟨n,e⟩,F.nf,by simpa using z⟩ F.nl (by simpa using F.rel.1) (by simpa using F.rel.2)
end
theorem tY(hc:X.calm=true)(k:ry call gv X N' scope own keep elt target iter ifs gs it tg cs inner)(I:Fr X env cm m s)(ok:ev call gv (.comp own keep it tg cs inner) env m=.ok (.t (.lst out)) m')(fin:∀D C s3 cm3 vs,uw X AccAt env cm m s out m' D C s3 cm3 vs->compPost X.M X.A J use Q (.ref D) C (.ok .next) s3):
  RJ X.M X.A (comprehension (.ListComp elt (⟨target,iter,ifs,0⟩::gs) scope pos) scope X.env pos' (newList []) false (eval iter X.env) use) Q J s:=
 lU hc k rfl rfl (λv z=>(by cases z)) (λ_ _ _=>rfl) (λ_ _ _=>rfl) (λh=>So h) (λh=>⟨SI _,0,h⟩) (λcl C D F s0 s cm0 cm m0 m m' env ts it fp hDF hDo hDs x0 tk hDf fr I on ha hn ok hl =>
  E7 (Y:=bf X N' scope cl C F) hc hDF hDo hDs (k.ins cl C F).2.2 rfl (k.ins cl C F).1 (k.ins cl C F).2.1 k.dis x0 tk hDf fr I on ha hn ok (by rw[T2,X9];exact hl)) I ok fin
theorem bh(hc:X.calm=true)(k:ry call gv X N' scope own keep elt target iter ifs gs it tg cs inner):
  PE call gv X (.ListComp elt (⟨target,iter,ifs,0⟩::gs) scope pos) (.comp own keep it tg cs inner):=λenv cm m s I Q J hp=>by
 cases h:ev call gv (.comp own keep it tg cs inner) env m with
 |stuck=>rw[h]at hp;exact hp.elim
 |ok w m' =>
  obtain⟨out,rfl⟩:=gc h;rw[h]at hp;rw[eval_ListComp];refine tY hc k I h λD C s3 cm3 vs F=>⟨_,F.ns.choose_spec,λh' hs=>?_⟩
  obtain⟨x,nq,x5,I5⟩:=F.go I F.fr F.ext F.ns hs;exact hp.to x5 I5.mem _ ((RT.go x F.fr.mem nq F.val).fr (f:=C::X.fs) (λb h=>.inl (R2 _ h)) λ_ _ e=>e)
theorem lI(hc:X.calm=true)(kk:ry call gv X N' scope own keep elt target iter ifs gs it tg cs inner)(hN:X.N.Nodup)(hi:X.N[i]?=Zz x)(hx:Loc X x)(hk:lM call gv X rest K)(hsw:Y8 (.ListComp elt (⟨target,iter,ifs,0⟩::gs) scope pos) (Zz (.Name x px)) spos.line X.env=pure true:=by rfl):
  lM call gv X (.Assign [.Name x px] (.ListComp elt (⟨target,iter,ifs,0⟩::gs) scope pos) spos::rest) (.asg i (.comp own keep it tg cs inner) K):=λenv cm m s I R J j hp=>by
 rw[ex]at hp;cases h:ev call gv (.comp own keep it tg cs inner) env m with
 |stuck=>rw[h]at hp;exact hp.elim
 |ok w m' =>
  obtain⟨out,rfl⟩:=gc h;rw[h]at hp;refine TD ?_;rw[exec_Assign_Name_used _ _ _ _ hsw];refine R0 (Tq (R0 ?_));refine R0 (mW (Q:=λ_ s'=>RJ X.M X.A (execs rest X.env) R J s') (tY (use:=Zz (assign (.Name x px) X.env)) hc kk I h λD C s3 cm3 vs F=>?_) λ_ s' h=>R4 (R4 h));refine Wi (store (X:={ X with fs:=C::X.fs }) F.fr hN hi hx (w:=.t (.lst out)) F.val λs4 x4 I4=>?_);have ns:∃f,s4.heap.Ns C f:=by
   obtain⟨f,o,es,ep,e,d,r⟩:=F.ns;obtain⟨_,o',e',q⟩:=x4.keep C o e (F.ne I).2.1 (C4 F.fr.mem R6);refine⟨f,o',es,ep,e',?_,r⟩;rcases q with rfl|⟨_,_,_,sl,rfl⟩<;>exact d
  refine⟨_,ns.choose_spec,λh' hs=>?_⟩;obtain⟨_,_,x5,I5⟩:=F.go I I4 ((F.ext.sub bQ).trans x4) ns hs;exact hk _ _ _ _ I5 R J j ((show ap X X.own cm m s (ex call gv K (env.set i (Zz (.t (.lst out)))) m') J (FQ X R)from hp).shift x5)
end
noncomputable def fB(s:TM):Xa:=match s with
 |.FunctionDef _ a _ _ _ _ _ _ _ _=>a
 |_=>{ posonlyargs:=[],args:=[],vararg:=Zy,kwonlyargs:=[],kw_defaults:=[],kwarg:=Zy,defaults:=[] }
noncomputable def cq(s:TM):List TM:=match s with
 |.FunctionDef _ _ b _ _ _ _ _ _ _=>b
 |_=>[]
noncomputable def ag(s:TM):Uk:=match s with
 |.FunctionDef _ _ _ _ _ _ sc _ _ _=>sc
 |_=>{ kind:=.function,names:=[],isGenerator:=false,isCoroutine:=false }
structure eK (k:Nat) (A:SV):Prop where
 hd:A.handled=Zy
 dp:A.depth+3*k+5<Vp
 un:A.units+16*k+200<cLine
theorem eK.depth{k:Nat}{A:SV}(r:eK k A):A.depth<Vp:=by have:=r.dp;omega
theorem eK.units{k:Nat}{A:SV}(r:eK k A):A.units+64<cLine:=by have:=r.un;omega
def Binds(K:V5)(fd:UW)(ps:List Str)(ds:List R3):Prop:=
 ∀(s:R9) (us:List R3),K.In s.heap->(us++ds).length=ps.length->Y2 s fd ⟨us,[]⟩ (ps.zip (us++ds))
theorem Binds.all{K:V5}{fd:UW}{ps:List Str}(h:∀us:List R3,us.length=ps.length->Tf fd ⟨us,[]⟩=pure (ps.zip us)):Binds K fd ps []:=λs us _ hl=>by
 rw[SZ]at hl ⊢;exact .of_eq (h us hl)
structure ao (N P:List Str) (sc:Uk):Prop where
 kind:sc.kind=.function
 co:sc.isCoroutine=false
 gen:sc.isGenerator=false
 nd:N.Nodup
 pre:N.take P.length=P
 G6:∀x∈P,sc.names.lookup x=Zz .local∨sc.names.lookup x=Zz .cell
 FZ:∀y∈sc.names,y.2≠.free
theorem rH{kindOf:Str->Option V6}{x:Str}:∀{binds:List (Str×R3)}{m:Str->Option R3},(∀v,(x,v)∉binds)->bindL kindOf binds m x=m x
 |[],_,_=>rfl
 |(n,v)::r,m,h=>by
  unfold bindL;rw[rH λw hw=>h w (R2 _ hw)];split
  ·have:x≠n:=by rintro rfl;exact h v R6
   simp[this]
  ·rfl
theorem qW{kindOf:Str->Option V6}{x:Str}:∀{binds:List (Str×R3)}{m:Str->Option R3},(∀v,(x,v)∉binds)->bindC kindOf binds m x=m x
 |[],_,_=>rfl
 |(n,v)::r,m,h=>by
  unfold bindC;rw[qW λw hw=>h w (R2 _ hw)];split
  ·rfl
  ·have:x≠n:=by rintro rfl;exact h v R6
   simp[this]
theorem rc{kindOf:Str->Option V6}{x:Str}{v:R3}:∀{P:List Str}{vs:List R3}{i:Nat}{m:Str->Option R3},P.Nodup->P[i]?=Zz x->vs[i]?=Zz v->kindOf x=Zz .local ->
  bindL kindOf (P.zip vs) m x=Zz v
 |[],_,_,_,_,h,_,_=>by simp at h
 |_::_,[],_,_,_,_,h,_=>by simp at h
 |p::P,w::vs,0,m,nd,h1,h2,hk=>by
  simp at h1 h2;subst h1;subst h2;show bindL kindOf ((p,w)::P.zip vs) m p=_;unfold bindL;rw[rH λv hv=>(Ss.mp nd).1 (VS hv).1,Yq hk];simp
 |p::P,w::vs,i+1,m,nd,h1,h2,hk=>by
  show bindL kindOf ((p,w)::P.zip vs) m x=_;unfold bindL;exact rc (i:=i) (Ss.mp nd).2 (by simpa using h1) (by simpa using h2) hk
theorem qK{kindOf:Str->Option V6}{x:Str}{v:R3}:∀{P:List Str}{vs:List R3}{i:Nat}{m:Str->Option R3},P.Nodup->P[i]?=Zz x->vs[i]?=Zz v->kindOf x≠Zz .local ->
  bindC kindOf (P.zip vs) m x=Zz v
 |[],_,_,_,_,h,_,_=>by simp at h
 |_::_,[],_,_,_,_,h,_=>by simp at h
 |p::P,w::vs,0,m,nd,h1,h2,hk=>by
  simp at h1 h2;subst h1;subst h2;show bindC kindOf ((p,w)::P.zip vs) m p=_;unfold bindC;rw[qW λv hv=>(Ss.mp nd).1 (VS hv).1,Yr hk];simp
 |p::P,w::vs,i+1,m,nd,h1,h2,hk=>by
  show bindC kindOf ((p,w)::P.zip vs) m x=_;unfold bindC;exact qK (i:=i) (Ss.mp nd).2 (by simpa using h1) (by simpa using h2) hk
theorem uZ{sc:Uk}{n:Nat}{x:Str}(h:sc.names.lookup x=Zz .cell):∃c,(Vf n sc.names []).lookup x=Zz c:=by
 have q:=XU sc.names n [] (.inl h);exact Tr.mp q
structure DN (K:V5) (x qual:Str) (st:TM) (f:RB) (fd:UW):Prop where
 ex:∃(oc:R3) (od:Option RB) (kV doc pm:R3) (an:Option RB) (cdv ct:R3) (osl:Array (Option R3)),
  fd=fnOf x qual (fB st) (cq st) (ag st) .none kV doc pm an cdv ct/\K.lookup f=Zz ⟨oc,od,.func fd,osl⟩/\codeIn K cdv qual=true
 kp:keepIn K (.ref f)=true
theorem eK.deeper{k:Nat}{A:SV}(r:eK (k+1) A)(env:Td):eK k (A.deeper env):=
 ⟨r.hd,by have:=r.dp;show A.depth+1+3*k+5<_;omega,by have:=r.un;show A.units+3+16*k+200<_;omega⟩
section
variable{K:V5}
theorem DN.binds{x qual:Str}{st:TM}{f:RB}{fd:UW}{ps:List Str}(F:DN K x qual st f fd)(h:∀(kV doc pm:R3) (an:Option RB) (cdv ct:R3) (us:List R3),us.length=ps.length->Tf (fnOf x qual (fB st) (cq st) (ag st) .none kV doc pm an cdv ct) ⟨us,[]⟩=pure (ps.zip us)):Binds K fd ps []:=by
 obtain⟨oc,od,kV,doc,pm,an,cdv,ct,osl,rfl,lk,hcd⟩:=F.ex;exact .all (h kV doc pm an cdv ct)
theorem As{x qual:Str}{st:TM}{f:RB}{oc:R3}{od an:Option RB}{osl:Array (Option R3)}{kV doc pm cdv ct:R3}(l:K.lookup f=Zz ⟨oc,od,.func (fnOf x qual (fB st) (cq st) (ag st) .none kV doc pm an cdv ct),osl⟩)(c:codeIn K cdv qual=true)(k:keepIn K (.ref f)=true):DN K x qual st f (fnOf x qual (fB st) (cq st) (ag st) .none kV doc pm an cdv ct):=⟨⟨oc,od,kV,doc,pm,an,cdv,ct,osl,rfl,l,c⟩,k⟩
end
structure Jf (fr:List RB) (h:SA) (e:RB) (oe:Obj) (mk:R3) (h':SA):Prop where
 keep:∀b o,b∉fr->b≠e->h.get? b=Zz o->h'.get? b=Zz o
 slot:∀b o,b∈fr->h.get? b=Zz o->∃sl,h'.get? b=Zz { o with slots:=sl }
 new:∃T oT ts vs,h.get? T=Zy/\T≠e/\h'.get? T=Zz oT/\oT.cls=.type "traceback"/\oT.data=.fields ts/\ts[3]?=Zz mk/\h'.get? e=Zz { oe with data:=.fields vs }/\vs[1]?=Zz (.ref T)
section
variable{X Y:Cx}{env env':Mi.Env}{cm cm' cm0 c:List RB}{m m' m0 m1 m2:Mem}{s s' s0 s1 t:R9}{w:W}{v u:R3}{ch:List RB}{J Q:VK}{h h':SA}{l ts out:List T}{vs us:List R3}{ws:List W}{a e C:RB}{n k fi:Nat}{i:Nat}{tk:Nat}{o o':Obj}{fs:List RB}
theorem be.sel(M:be X cm m h)(g:Nat->Nat)(len:cm'.length=m'.length)(sl:∀(j:Nat) p,m'[j]?=Zz (Zz p)->m[g j]?=Zz (Zz p)/\cm'[j]?=cm[g j]?)(inj:∀(i j:Nat) p q,m'[i]?=Zz (Zz p)->m'[j]?=Zz (Zz q)->g i=g j->i=j):be X cm' m' h/\∀a,aF cm m a->aF cm' m' a:=by
 have nl:∀a,aF cm m a->aF cm' m' a:=λa n j p e z=>n (g j) p (sl j p e).1 ((sl j p e).2▸z)
 refine⟨⟨len,λi j a p q e1 e2 c1 c2=>?_,λi p e=>?_,M.tab⟩,nl⟩
 ·obtain⟨h1,h2⟩:=sl i p e1
  obtain⟨h3,h4⟩:=sl j q e2;exact inj i j p q e1 e2 (M.inj _ _ a p q h1 h3 (h2▸c1) (h4▸c2))
 ·obtain⟨h1,h2⟩:=sl i p e
  obtain⟨a,x,h3,h4,h5,h6⟩:=M.at' _ p h1;exact⟨a,x,h2.trans h3,h4,h5,h6.mp λ_ _ r=>r.gen nl (λ_ h=>.inl h) λ_ _ e=>e⟩
theorem bd.sel(x:bd fs gs ch cm m s c m2 t)(pre:∀(i:Nat) a,cm[i]?=Zz a->cm'[i]?=Zz a)(len:m.length<=m'.length)(lent:∀(i:Nat) l,m[i]?=Zz (Zz (true,l))->m'[i]?=Zz (Zz (true,l)))(nl:∀a,aF c m2 a->aF cm' m' a):bd fs gs ch cm m s cm' m' t:=
 .of x.thr lent ⟨x.os,x.bare,pre,len,λb o e c n=>let⟨n',r⟩:=x.keep b o e c n;⟨nl _ n',r⟩⟩
theorem F3{cell:Bool}{fl:Mi.Flow}(hl:cm.length=m.length)(x:bd X.fs X.gs X.tb cm m s c m2 t)(M:be X c m2 t.heap)(hp:ap X X.tb cm m s (fin m.length cell fl m2) J (WK X Q)):match fl with|.next _=>Q .none t|.ret w=>∀v,RW X.D c m2 t.heap w v->Q v t:=by
 have ml:=x.len;have cl:=M.len;have lt1:∀{α:Type}{l:List α}{j:Nat}{p:α},(l.take m.length)[j]?=Zz p->j<m.length/\l[j]?=Zz p:=λe=>by
  rw[Th]at e;split at e
  ·exact⟨‹_›,e⟩
  ·cases e
 have lt2:∀{α:Type}{l:List α}{j:Nat},j<m.length->(l.take m.length)[j]?=l[j]?:=λh=>by rw[Th,Yq h]
 have at1:∀{α:Type}{l:List α}{j:Nat}{p:α},l[j]?=Zz p->j<l.length:=λe=>(RA.mp e).1
 have tc:(c.take m.length).length=m.length:=by rw[Sh];omega
 have tm:(m2.take m.length).length=m.length:=by rw[Sh];omega
 obtain⟨Mt,nl⟩:=M.sel (cm':=c.take m.length) (m':=m2.take m.length) id (by rw[tc,tm]) (λj p e=>⟨(lt1 e).2,lt2 (lt1 e).1⟩) λ_ _ _ _ _ _ h=>h
 have pre:∀(i:Nat) a,cm[i]?=Zz a->i<m.length/\(c.take m.length)[i]?=Zz a:=λi a e=>⟨hl▸at1 e,by rw[lt2 (hl▸at1 e)];exact x.pre i a e⟩
 have len:∀(i:Nat) l,m[i]?=Zz (Zz (true,l))->i<m.length/\(m2.take m.length)[i]?=Zz (Zz (true,l)):=λi l e=>⟨at1 e,by rw[lt2 (at1 e)];exact x.lent i l e⟩
 have xt:bd X.fs X.gs X.tb cm m s (c.take m.length) (m2.take m.length) t:=x.sel (λi a e=>(pre i a e).2) (by omega) (λi l e=>(len i l e).2) nl;cases fl with
 |next _=>exact hp.to xt Mt _ .non
 |ret w =>
  intro v r;cases w with
  |t t'=>exact hp.to xt Mt v (RT.gen nl (λ_ h=>.inl h) (λ_ _ e=>e) r)
  |c i =>
   obtain⟨a,h1,h2⟩:=r;unfold fin at hp;dsimp only at hp;split at hp
   ·exact hp.to xt Mt v ⟨a,by rw[lt2 ‹_›];exact h1,h2⟩
   rename_i hi;split at hp
   rotate_left
   ·exact hp.elim
   rename_i ts e;split at hp
   ·have lt3:∀{α:Type}{l:List α}{b:α}{j:Nat}{p:α},l.length=m.length->(l++[b])[j]?=Zz p->(j<m.length/\l[j]?=Zz p)∨(j=m.length/\p=b):=λ{α l b j p} hl e=>by
     rcases Nat.lt_trichotomy j m.length with h|h|h
     ·rw[S7 (by omega)]at e;exact .inl ⟨h,e⟩
     ·subst h;rw[<-hl]at e;simp at e;exact .inr ⟨rfl,e.symm⟩
     ·rw[Vt (by simp;omega)]at e;cases e
    have lt4:∀{α:Type}{l:List α}{b:α}{j:Nat},l.length=m.length->j<m.length->(l++[b])[j]?=l[j]?:=λhl h=>S7 (by omega)
    have top:∀{α:Type}{l:List α}{b:α},l.length=m.length->(l++[b])[m.length]?=Zz b:=λ{α l b} hl=>by rw[<-hl];simp
    obtain⟨Mn,nn⟩:=M.sel (cm':=c.take m.length++[a]) (m':=m2.take m.length++[Zz (false,ts)]) (λj=>if j<m.length then j else i) (by simp[tc,tm]) (λj p ej=>by
     rcases lt3 tm ej with⟨hj,eq⟩|⟨hj,eq⟩
     ·rw[Yq hj,lt4 tc hj,lt2 hj];exact⟨(lt1 eq).2,rfl⟩
     ·rw[hj,Yr (SU _),top tc,h1,e];cases eq;exact⟨rfl,rfl⟩) λj1 j2 p q e1 e2 ej=>by
     rcases lt3 tm e1 with⟨k1,_⟩|⟨k1,_⟩<;>rcases lt3 tm e2 with⟨k2,_⟩|⟨k2,_⟩
     ·rw[Yq k1,Yq k2]at ej;exact ej
     ·rw[Yq k1,Yr (by omega)]at ej;omega
     ·rw[Yr (by omega),Yq k2]at ej;omega
     ·omega
    exact hp.to (x.sel (λi a e=>by rw[lt4 tc (pre i a e).1];exact(pre i a e).2) (by simp[tm]) (λi l e=>by rw[lt4 tm (len i l e).1];exact(len i l e).2) nn) Mn v ⟨a,top tc,h2⟩
   ·subst h2
    obtain⟨b,y,q1,q2,q3,q4⟩:=M.at' i _ e;rw[h1]at q1;cases q1;have na:aF (c.take m.length) (m2.take m.length) a:=λj q ej z=>by
     have:=M.inj j i a _ _ (lt1 ej).2 e (lt1 z).2 h1;have:=(lt1 ej).1;omega
    have q5:=q4.mp λ_ _ r=>r.gen nl (λ_ h=>.inl h) λ_ _ e=>e
    exact hp.to xt Mt _ (RT.lst q2 na q5.1 q5.2)
end
noncomputable abbrev Ep(B:Bs)(N:List Str)(qual:Str)(scope:Uk)(f:RB)(cd:R3)(A:SV)(st:List Td)(fs:List RB)(n:Nat):Cx:=
 { B with A:=A.deeper (envOfC qual scope n f cd),N:=N,env:=envOfC qual scope n f cd,stack:=envOfC qual scope n f cd::st,fs:=n::fs,fn:=λ_=>true,calm:=true }
def CR(Q J:VK)(r:Result)(s:R9):Prop:=match r with
 |.ok (.ret u)=>Q u s
 |.ok _=>False
 |.error e=>J e s
structure Ca (X:Cx) (cm:List RB) (m:Mem) (s:R9):Prop where
 mod:Mod X.K X.mg X.base
 frames:X.A.frames=Zz X.stack
 C2:∀e∈X.stack,e.scope.kind≠.module/\∃L∈X.fs,e.frame=Zz L
 tab:∀h,X.Tab h->Nc X.base X.tb h
 jG:∀h h',X.Tab h->(∀b o,b∈X.tb∨Kc o->h.get? b=Zz o->h'.get? b=Zz o)->X.Tab h'
 qm:∀h,X.Tab h->∀b∈X.tb,∃o,h.get? b=Zz o
 mem:be X cm m s.heap
 bare:XW s.gens
 bs:∀b o,X.base.get? b=Zz o->s.heap.get? b=Zz o
 cO:∀b∈X.fs,X.base.get? b=Zy/\∃o,s.heap.get? b=Zz o/\NF X b o
theorem Fr.ca{X:Cx}{env:Mi.Env}{cm:List RB}{m:Mem}{s:R9}(I:Fr X env cm m s):Ca X cm m s:=⟨I.ok.mod,I.ok.frames,I.ok.C2,I.ok.tab,I.ok.jG,I.ok.qm,I.mem,I.bare,I.bs,I.cO⟩
def zX(B:Bs)(call:List W->Mem->Res W)(k:Nat)(f:RB)(fd:UW)(ps:List Str):Prop:=
 ∀X:Cx,X.toBs=B->eK k X.A->∀cm m s,Ca X cm m s->∀args us ws,(∃env,Fr X env cm m s)∨(∃w m',call ws m=.ok w m')->Y2 s fd args (ps.zip us)->us.length=ps.length->tz X.D cm m s.heap ws us->∀Q J,ap X X.tb cm m s (call ws m) J (WK X Q)->Ux X.M X.A (.call (.ref f) args) (CR Q J) s
inductive eI (B:Bs) (fns:List Fn) (gv:List T) (k:Nat) (x:Str) (fi:Nat):Prop where
 |mk (f fd ps) (_:B.mg x=Zz (.ref f)) (_:keepIn B.K (.ref f)=true) (_:Binds B.K fd ps []) (_:∀ws m,c6 fns gv k fi ws m=.stuck∨ws.length=ps.length) (_:zX B (c6 fns gv k fi) k f fd ps)
section
variable{X Y:Cx}{B:Bs}{env env':Mi.Env}{cm cm' cm0 c:List RB}{m m' m0 m1 m2:Mem}{s s' s0 s1 t:R9}{w:W}{v u:R3}{ch:List RB}{J Q:VK}{h h':SA}{l ts out:List T}{vs us:List R3}{ws:List W}{a C f:RB}{n k fi np:Nat}{i:Nat}{tk:Nat}{o o':Obj}{fs:List RB}
variable{fns:List Fn}{gv:List T}{e:SL}{es:List SL}{L:Es}{x qual:Str}{p pos:Pos}{scope:Uk}{N ps:List Str}{cd:R3}{st:TM}{fd:UW}{body:Mi.S}{cell:Bool}
theorem Ar(F:eI X.toBs fns gv k x fi)(q:eK k X.A)(t:Gl X x)(y:PA (c6 fns gv k) gv X (e::es) L)(c:(x==("__debug__" : Str))=false:=by decide)(u:notStar e=true:=by rfl)(b:es.all notStar=true:=by rfl):PE (c6 fns gv k) gv X (.Call (.Name x p) (e::es) [] pos) (.call fi L):=λenv cm m s I Q J h=>by
 obtain⟨f,fd,ps,hm,hk,hb,len,F⟩:=F;rw[ev]at h;refine Sy (xJ I t hm ?_ c);refine PySem.W.callWith_K (h₀:=X.base) I.ok.mod.sR hk (y.one I h λws us c1 m1 s1 I1 x1 r o=>⟨I1.sR,?_⟩) (dB u) (ko b);have hl:us.length=ps.length:=by
  rcases len ws m1 with z|z
  ·rw[z]at o;exact o.elim
  ·rw[<-r.1];exact z
 have hb:=hb s1 us I1.sR (by simpa using hl);rw[SZ]at hb;refine YJ (Ul (F X rfl q c1 m1 s1 I1.ca ⟨us,[]⟩ us ws (.inl ⟨_,I1⟩) hb hl r Q J o) λr s' hq=>?_);cases r with
 |error e=>exact hq
 |ok fl =>
  cases fl with
  |ret u=>exact hq
  |next=>exact WW hq
  |brk=>exact WW hq
  |cont=>exact WW hq
theorem CG(S:ao N ps scope)(hd:X.A.handled=Zy)(I:Ca X cm m s)(hl:us.length=ps.length)(r:tz X.D cm m s.heap ws us)(x:InCallC s s.heap.objs.size (bindL (envOfC qual scope s.heap.objs.size f cd).kindOf (ps.zip us) λ_=>Zy) (Vf (s.heap.objs.size+1) scope.names []) (bindC (envOfC qual scope s.heap.objs.size f cd).kindOf (ps.zip us) λ_=>Zy) s1):
  Fr (Ep X.toBs N qual scope f cd X.A X.stack X.fs s.heap.objs.size) (ws.map Zz++Rx (N.length-ps.length) Zy) cm m s1:=by
 have hpl:ps.length<=N.length:=by have:=congrArg W7 S.pre;rw[Sh]at this;omega
 obtain⟨h1,tk,rfl,hk⟩:=x.done;have gone:∀b,s.heap.objs.size<=b->s.heap.get? b=Zy:=λb hb=>Rt hb
 have nb:∀b,s.heap.get? b=Zy->X.base.get? b=Zy:=λb hb=>by
  cases q:X.base.get? b with
  |none=>rfl
  |some o=>rw[I.bs _ _ q]at hb;cases hb
 have nn:∀b∈s.heap.objs.size::X.fs,b∈X.fs∨s.heap.get? b=Zy:=λb hb=>(R5.mp hb).elim (λz=>.inr (gone b (by rw[z];exact RC _))) .inl
 obtain⟨oN,_,_,eN,dN,_⟩:=id x.toInCall.ns;refine⟨⟨I.mod,S.kind,rfl,rfl,λy z c h1 h2=>?_,λy hy=>?_,λ_=>hd,Around.frames_deeper I.frames,λe he=>?_,R6,λy c h=>nb c (gone c (T7 (x.above y c (T6 h)))),I.tab,I.jG,I.qm⟩,
  I.mem.fr (X:=X) rfl nn hk λT=>I.jG _ _ T λb o _=>hk b o,I.bare,λb o e=>hk b o (I.bs b o e),⟨_,x.toInCall.ns,λi y w h1 h2 h3=>?_⟩,λy c h=>⟨_,x.cell y c h⟩,λb hb=>?_,?_⟩
 ·exact name_of_addr x.apart (T6 h1) (T6 h2)
 ·have hy:scope.names.lookup y=Zz .cell∨scope.names.lookup y=Zz .free:=hy
  rcases hy with hy|hy
  ·exact uZ hy
  ·exact Yv rfl (S.FZ _ (T6 hy))
 ·rcases R5.mp he with rfl|he
  ·exact⟨by rw[show(envOfC qual scope s.heap.objs.size f cd).scope.kind=scope.kind from rfl,S.kind];decide,_,R6,rfl⟩
  ·exact(I.C2 e he).imp id λ⟨L,h1,h2⟩=>⟨L,R2 _ h1,h2⟩
 ·have hw:=r.1
  have hi:i<ws.length:=by
   by_cases hi:i<ws.length
   ·exact hi
   ·rw[S4 (by simpa using hi),Vg]at h2
    split at h2<;>cases h2
  rw[S7 (by simpa using hi),Rj]at h2;obtain⟨w',ew,e⟩:=RY.mp h2;cases e;obtain⟨u,hu,rv⟩:=r.get ew;have hp:ps[i]?=Zz y:=by
   rw[<-S.pre,List.getElem?_take_of_lt (by omega)];exact h1
  have ndP:ps.Nodup:=by rw[<-S.pre];exact S.nd.sublist (List.take_sublist _ _)
  refine⟨u,rv.fr nn hk,?_⟩;rcases S.G6 y (SS hp)with k|k
  ·exact .inl ⟨k,rc ndP hp hu k⟩
  ·obtain⟨c,e⟩:=uZ (n:=s.heap.objs.size+1) k
   refine .inr ⟨.inl k,c,e,?_⟩;have q:=x.cell y c e;rw[qK ndP hp hu (by show scope.names.lookup y≠_;rw[k];decide)]at q;exact q
 ·rcases R5.mp hb with rfl|hb
  ·exact⟨nb _ (gone _ (RC _)),oN,eN,(λv z=>by rw[dN]at z;cases z),λ_ x n z=>by rw[dN]at z;cases z⟩
  ·obtain⟨g,o,e,n⟩:=I.cO b hb
   refine⟨g,o,hk _ _ e,n.1,λz=>n.2 ?_⟩;obtain⟨en,z1,z2⟩:=UC.mp z;rcases R5.mp z1 with rfl|z1
   ·cases z2
    exact Yv (Rm e) (SU _)
   ·exact UC.mpr ⟨en,z1,z2⟩
 ·show _=N.length
  rw[RI,R1,List.length_replicate,r.1];omega
theorem wm(F:DN B.K x qual st f fd)(S:ao N ps (ag st))(r:fns[fi]?=Zz ⟨np,n,body,cell⟩)(hnp:np=ps.length)(hn:N.length=n)(hb:∀cd:R3,codeIn B.K cd qual=true->∀(A:SV) (sk:List Td) (fs:List RB) (z:Nat),eK (k+1) A->lM (c6 fns gv k) gv (Ep B N qual (ag st) f cd A sk fs z) (cq st) body):
  (∀ws m,c6 fns gv (k+1) fi ws m=.stuck∨ws.length=ps.length)/\zX B (c6 fns gv (k+1) fi) (k+1) f fd ps:=by
 subst hn hnp;refine⟨λws m=>?_,?_⟩
 ·rw[c6,r]
  dsimp only;by_cases h:ws.length=ps.length
  ·exact .inr h
  ·exact .inl (Yr h)
 rintro X rfl hr cm m s I args us ws he hbd hl rv Q J hp;obtain⟨oc,od,kV,doc,pm,an,cdv,ct,osl,rfl,lk,hcd⟩:=F.ex;rw[c6,r]at hp he;dsimp only at hp;dsimp only at he;obtain⟨hq,hp⟩:=km hp;rw[Yq hq]at he;have lim:s.heap.NoLimit:=I.mod.nolimit.keeps I.bs;have sR:X.K.In s.heap:=I.mod.sR.keeps I.bs;have hkind:∀y∈ps.zip us,(ag st).names.lookup y.1=Zz .local∨((ag st).names.lookup y.1=Zz .cell/\((Vf (s.heap.objs.size+1) (ag st).names []).lookup y.1).isSome=true):=λ⟨n,v⟩ hy=>by
  rcases S.G6 n (VS hy).1 with q|q
  ·exact .inl q
  ·exact .inr ⟨q,XU _ _ _ (.inl q)⟩
 refine codeAny_call_function hr.depth (sR _ _ lk) rfl S.co S.gen rfl (PySem.W.codeRec_of sR hcd) (hbd _ _ _ _ ?_)
 refine wpAny_newFunctionEnv_cells S.kind hkind λenv1 he s1 x=>?_
 subst he;refine⟨lim.keeps x.toInCall.keep,codeAny_func ?_⟩;have I1:=CG S hr.hd I hl rv x;obtain⟨h1,tk,rfl,hk⟩:=x.done;have gone:∀b,s.heap.objs.size<=b->s.heap.get? b=Zy:=λb hb=>Rt hb
 have up:∀{c m2 t},bd (s.heap.objs.size::X.fs) (s.heap.objs.size::X.gs) (Ep X.toBs N qual (ag st) f cdv X.A X.stack X.fs s.heap.objs.size).own cm m { s with heap:=h1,toks:=tk } c m2 t->bd (s.heap.objs.size::X.fs) (s.heap.objs.size::X.gs) X.tb cm m s c m2 t:=λx=>((bd.kept (d:=s.drawn) hk).trans x).weak λb hb n=>by
  have hb:b=s.heap.objs.size∨b∈X.tb∨s.heap.objs.size<b:=by
   rcases R5.mp hb with z|hb
   ·exact .inl z
   ·rcases RN.mp hb with hb|hb
    ·exact .inr (.inl hb)
    ·obtain⟨y,_,h2⟩:=mf.mp hb
     exact .inr (.inr ((‹InCallC _ _ _ _ _ _›).above y b (T6 h2)))
  rcases hb with z|z|z
  ·exact gone b (by rw[z];exact RC _)
  ·exact Yv z n
  ·exact gone b (T7 z)
 have nn:∀l:List RB,∀b∈s.heap.objs.size::l,b∈l∨s.heap.get? b=Zy:=λ_ b hb=>(R5.mp hb).elim (λz=>.inr (gone b (by rw[z];exact RC _))) .inl
 have dn:∀{c m2 t},be (Ep X.toBs N qual (ag st) f cdv X.A X.stack X.fs s.heap.objs.size) c m2 t->be X c m2 t:=λM=>M.fr (X:=Ep X.toBs N qual (ag st) f cdv X.A X.stack X.fs s.heap.objs.size) rfl (λb h=>.inl (R2 _ h)) (λ_ _ e=>e) id
 refine hb cdv hcd X.A X.stack X.fs s.heap.objs.size hr _ _ _ _ I1 _ _ PassesOwn.leaving ?_;cases eb:ex (c6 fns gv k) gv body (ws.map Zz++Rx (N.length-ps.length) Zy) m with
 |stuck=>rw[eb]at hp;exact hp.elim
 |ok fl m2 =>
  rw[eb]at hp;intro c t xY MY;have fin:=F3 I.mem.len ((up xY).fr (nn _) (nn _)) (dn MY) hp;cases fl with
  |next env'=>exact λ_=>fin
  |ret w=>exact λ_ _ v r=>fin v (RW.fr (f':=X.fs) (λb h=>.inl (R2 _ h)) (λ_ _ e=>e) r)
end
end Mi
namespace Mi
open PySem PySem.Spec PyProof.Rows PySem.W PySem.Builtin.ObjectAttr
noncomputable def Fs:List R3->Bool
 |.ref _::r=>Fs r
 |l=>l==[.type "ValueError",.type "Exception",.type "BaseException",.type "object"]
noncomputable def H4(K:V5)(C:RB):Bool:=(clsIn K C).any λcd=>Fs cd.mro
structure IT (K:V5) (C:RB) (f:Str):Prop where
 sa:findIn K (.ref C) "__setattr__" = Zz (Zz (.builtin "object.__setattr__"))
 ov:H4 K C=true
 na:findIn K (.ref C) f=Zz Zy
 hd:hasDictIn K C=true
noncomputable def Jl:List R3:=[.type "ValueError",.type "Exception",.type "BaseException",.type "object"]
noncomputable def Ix(K:V5)(C:RB):Bool:=match K.lookup C with
 |some ⟨.type "type",_,.cls cd,sl⟩=>(match cd.mro,sl.toList with
  |.ref C'::bm,[_,_,_,_,Zz (.builtin n),_]=>C'==C&&n == "ValueError.__new__" && !cd.hasDel&&tailIn K Jl bm
  |_,_=>false)
 |_=>false
structure IZ (K:V5) (C:RB) (nm:Str):Prop where
 xc:Ix K C=true
 kp:keepIn K (.ref C)=true
 xs:IT K C nm
 fn:∃f fd x qual st a b p1 p2 p3 p4,findIn K (.ref C) "__init__" = Zz (Zz (.ref f))/\typeIn K (.ref f)=Zz (.type "function")/\DN K x qual st f fd/\ao [a,b] [a,b] (ag st)/\cq st=[.Assign [.Attribute (.Name a p1) nm p2] (.Name b p3) p4] /\
  Binds K fd [a,b] []/\(a==("__debug__" : Str))=false/\(b==("__debug__" : Str))=false/\(a==("__classdict__" : Str))=false/\(b==("__classdict__" : Str))=false
end Mi
namespace Mi
open PySem PySem.Spec PyProof.Rows
section
variable{X:Cx}{env:Mi.Env}{cm:List RB}{m:Mem}{s:R9}{J Q:VK}{α:Type}{k:α->List RB->Mem->R9->Prop}{z:Bool}
variable{call:Nat->List W->Mem->Res W}{gv:List T}{a b e:SL}{es ts:List SL}{E:Mi.E}{L:Es}{pos p tp:Pos}
theorem PA.It{f:List W->Mem->Res α}{Q:List R3->R9->Prop}(h:PA call gv X es L)(I:Fr X env cm m s)(hp:ap X X.own cm m s ((evs call gv L env m).bind f) J k)(q:∀w v cm1 m1 s1,evs call gv L env m=.ok w m1->Fr X env cm1 m1 s1->bd X.fs X.gs X.tb cm m s cm1 m1 s1->tz X.D cm1 m1 s1.heap w v->ap X X.own cm1 m1 s1 (f w m1) J k->Q v s1):RJ X.M X.A (Ya (backTo p (US es X.env))) Q J s:=by
 refine h p env cm m s I Q J ?_;cases e:evs call gv L env m with
 |stuck=>rw[e]at hp;exact hp
 |ok w m' =>
  rw[e]at hp;exact λc t x M v r=>q w v c m' t e (I.go x M I.nc) x r (ap.shift (r:=f w m') hp (x.sub bQ))
theorem PE.tree(h:PE call gv X e E):PE call gv X e (.tr E):=λenv cm m s I Q J hp=>by
 rw[ev]at hp;exact h.one I hp λw v c1 m1 s1 I1 x1 r o=>by
  cases w with
  |t x=>exact o.now I1.mem v r
  |c i=>exact o.elim
theorem Ba{kk}(hg:Gl X "enumerate")(hm:X.mg "enumerate" = Zy)(ha:PA call gv X [a] (.cons (.tr E) .nil))(hs:notStar a=true:=by rfl):PI call gv z X (.Tuple ts kk tp) (.Call (.Name "enumerate" p) [a] [] pos) (.blt .enum (.cons (.tr E) .nil)):=F0 (fp1:=λit=>[it,it-1]) (λ_=>.inr ⟨_,_,_,rfl⟩) (λ_ _=>rfl) λenv cm m s I α f k Q J hp q=>by
 rw[ev,bO]at hp;refine Call_ (dW I hg hm (show VC "enumerate" = Zz (.type "enumerate")from by decide +kernel) (TV (ha.It I hp λws us c1 m1 s1 ee I1 x1 r o=>?_) (dB hs) rfl));obtain⟨t,e0,o2⟩:=xK o;obtain⟨l,e1,e2⟩:=RF.mp e0;obtain⟨b,rfl,e3⟩:=ju e2;obtain⟨w,rfl,e4⟩:=gh e1;obtain⟨v,rfl,r1⟩:=nE r;have hw:∃t,w=.t t:=by
  rw[evs]at ee;obtain⟨w0,n1,h1,h2⟩:=ar ee;obtain⟨ws',n2,h3,h4⟩:=ar h2;cases h4;rw[ev]at h1;obtain⟨w1,n3,h5,h6⟩:=ar h1;cases w1 with
  |t t=>cases h6;exact⟨t,rfl⟩
  |c i=>cases h6
 obtain⟨t0,rfl⟩:=hw;cases e4;cases b with
 |lst l =>
  obtain⟨hc,e5⟩:=RE.mp (show(if l.length<=lim then Zz (T.lst (hH l))else Zy)=Zz t from e3);cases e5;cases r1 with
  |lst p1 n1 q1 q2 =>
   refine call_enumerate_list p1.pl.isList λg hE hI hsz hk=>wpAny_pyIter_enum hE ?_
   have u:=λch=>I1.up (g:=g) (t:=s1.toks) (d:=s1.drawn) (ch:=ch) hk
   refine q _ _ c1 m1 m1 s1 _ _ x1 I1 rfl o2 (λch=>(u ch).1) (u []).2 (.C3 (Nat.succ_ne_self _) hE hI ((SrcL.own n1 p1 ⟨q1,q2⟩).go (u []).1.toExtK (λ_ _ h=>h) I1.mem Nq.nil) rfl) λb hb=>?_
   refine Rt ?_;rcases R5.mp hb with rfl|hb
   ·exact UQ _
   ·rw[RQ.mp hb];exact RC _
 |_=>cases e3
end
structure Bd (call:Nat->List W->Mem->Res W) (gv:List T) (X:Cx) (st:List TM) (S:Mi.S):Prop where
 h:lM call gv X st S
section
variable{K:V5}{B:Bs}{fns:List Fn}{gv:List T}{x qual:Str}{st:TM}{f a:RB}{fd:UW}{N ps:List Str}{fi np n k:Nat}{body:Mi.S}{cell:Bool}{y:Str}{t:Tok}{cs:List Nat}{i:Int}{its:Array R3}{nn:Nat}{sl:Array (Option R3)}{us:List R3}{ts:List T}{u:R3}{tt:T}{css:List (List Nat)}
theorem GI(F:DN B.K x qual st f fd)(m:B.mg x=Zz (.ref f))(b:Binds B.K fd ps [])(S:ao N ps (ag st))(r:fns[fi]?=Zz ⟨np,n,body,cell⟩)(hnp:np=ps.length)(hn:N.length=n)(hb:∀(cd:R3) (A:SV) (sk:List Td) (fs:List RB) (z:Nat),eK k (A.deeper (envOfC qual (ag st) z f cd))->Bd (c6 fns gv k) gv (Ep B N qual (ag st) f cd A sk fs z) (cq st) body):eI B fns gv (k+1) x fi:=
 let q:=wm F S r hnp hn λcd _ A sk fs z h=>(hb cd A sk fs z (h.deeper _)).h
 ⟨f,fd,ps,m,F.kp,b,q.1,q.2⟩
theorem DI(F:DN B.K x qual st f fd)(m:B.mg x=Zz (.ref f))(b:Binds B.K fd ps [])(S:ao N ps (ag st))(r:fns[fi]?=Zz ⟨np,n,body,cell⟩)(hnp:np=ps.length)(hn:N.length=n)(hb:∀cd:R3,codeIn B.K cd qual=true->∀(A:SV) (sk:List Td) (fs:List RB) (z:Nat),eK (k+1) A->Bd (c6 fns gv k) gv (Ep B N qual (ag st) f cd A sk fs z) (cq st) body):eI B fns gv (k+1) x fi:=
 let q:=wm F S r hnp hn λcd hcd A sk fs z h=>(hb cd hcd A sk fs z h).h
 ⟨f,fd,ps,m,F.kp,b,q.1,q.2⟩
theorem DO(F:DN B.K x qual st f fd)(m:B.mg x=Zz (.ref f))(b:Binds B.K fd ps []):eI B fns gv 0 x fi:=⟨f,fd,ps,m,F.kp,b,λ_ _=>.inl rfl,λX _ _ cm m s _ _ _ _ _ _ _ _ Q J h=>by rw[c6]at h;exact h.elim⟩
theorem Gq(h:y.cps.toList=cs):VT K (.str y t) (.str cs):=λX _ cm m hh _ _ _=>by
 obtain⟨⟨v⟩⟩:=y;dsimp at h;subst h;exact .str _ _
theorem Fp.nil:Fp K [] []:=λ_ _ _ _ _ _ _ _=>.nil
theorem Fp.cons(a:VT K u tt)(b:Fp K us ts):Fp K (u::us) (tt::ts):=λX e cm m h M k n=>.cons (a X e cm m h M k n) (b X e cm m h M k n)
theorem F2(l:K.lookup a=Zz ⟨.type "tuple",Zy,.seq its nn,sl⟩)(hz:its.size<=Ru)(hs:Fp K its.toList ts):VT K (.ref a) (.tup ts):=λX e cm m h M k n =>
 let q:=hs X e cm m h M k n
 .tup ⟨_,nn,k _ _ l,rfl,rfl,rfl,hz⟩ (λhb=>by rw[n a hb]at l;cases l) q.1 q.2
inductive oP:List (List Nat)->List R3->Prop where
 |nil:oP [] []
 |cons {y:Str}{t:Tok}{cs:List Nat}{r:List (List Nat)}{us:List R3}:y.cps.toList=cs->oP r us->oP (cs::r) (.str y t::us)
theorem oP.Jc:∀{l:List (List Nat)}{us:List R3},oP l us->Fp K us (l.map .str)
 |_,_,.nil=>.nil
 |_,_,.cons h r=>.cons (Gq h) r.Jc
theorem yr{b:List (List Nat)}(h:B.mg x=Zz (.ref a))(l:B.K.lookup a=Zz ⟨.type "tuple",Zy,.seq its nn,sl⟩)(hz:its.size<=Ru)(g:oP b its.toList):wP B x (.tup (b.map .str)):=⟨_,h,F2 l hz g.Jc⟩
end
open L2 in
section
theorem vT{ks:List (List Nat)}(h:ks.Nodup):(ks.map λk=>(W1 ⟨k.toArray⟩:Key)).Nodup:=by
 refine List.Pairwise.map _ (λa b c z=>c ?_) h;have:=congrArg (λq:Key=>match q with|.inr x=>x.cps.toList|.inl _=>[]) z;simpa using this
end
inductive Gm (w:SY):List (List Nat)->List R3->List DictEntry->Prop where
 |nil:Gm w [] [] []
 |cons {y:Str}{t:Tok}{cs:List Nat}{h:Int}{u:R3}{css:List (List Nat)}{us:List R3}{es:List DictEntry}:y.cps.toList=cs->h=hashStr w y->Gm w css us es->Gm w (cs::css) (u::us) (⟨h,.str y t,u⟩::es)
theorem wQ{vs:List R3}{ns:List Int}(h:TU vs ns):Al (λn v=>∃t,v=.int n t) ns vs:=by
 induction h with
 |nil=>exact .nil
 |cons n t _ ih=>exact .cons ⟨t,rfl⟩ ih
end Mi
section
set_option maxHeartbeats 1000000
namespace Mi
open PySem PySem.Spec PyProof.Rows
noncomputable def dg:List Str:=["row_of","first_meeting"]
noncomputable def hZ(q:Str):Str:=(q++".<locals>.")++"<lambda>"
noncomputable def eG(o:Obj):Option (Str×RB):=match o.data with
 |.fields vs=>match vs[1]?,vs[11]? with
  |some (YU q _),Zz (VY P)=>if dg.contains q then Zz (q,P)else Zy
  |_,_=>Zy
 |_=>Zy
def mV(K:V5)(q:Str)(P:RB):Prop:=∃c o,K.lookup c=Zz o/\eG o=Zz (q,P)/\K.lookup P=Zy
def F9(q:Str)(h:SA)(ps:Array R3):Prop:=Xb ps.toList/\∀pos cv,X0 pos ps.toList=Zz cv->h.CodeRec cv (hZ q)
def uL(K:V5)(tb:List RB)(base h:SA):Prop:=(∀P∈tb,base.get? P=Zy/\∃ps,h.get? P=Zz (tabObj ps)/\Xb ps.toList)/\∀q P,mV K q P->P∈tb/\∃ps,h.get? P=Zz (tabObj ps)/\F9 q h ps
structure wf (X:Bs):Prop where
 tab:X.Tab=uL X.K X.tb X.base
 AS:∀q q' P,mV X.K q P->mV X.K q' P->q=q'
 hd:∀c q,codeIn X.K (.ref c) q=true->dg.contains q=true->∃P,WX X.K c P=true/\mV X.K q P
theorem CodeRec.go{h h':SA}{cv:R3}{q:Str}(c:h.CodeRec cv q)(k:∀b o,Kc o->h.get? b=Zz o->h'.get? b=Zz o):h'.CodeRec cv q:=by
 obtain⟨a,o,vs,t,e,g,d,n⟩:=c;exact⟨a,o,vs,t,e,k a o ⟨vs,q,t,d,n⟩ g,d,n⟩
theorem uL.nc{K:V5}{tb:List RB}{base h:SA}(T:uL K tb base h):Nc base tb h:=λb hb=>by
 obtain⟨n,ps,e,_⟩:=T.1 b hb;refine⟨n,λo g=>?_⟩;rw[e]at g;cases g;exact⟨⟨_,rfl⟩,λ_ z=>(by cases z),λz=>by cases z⟩
theorem uL.go{K:V5}{tb:List RB}{base h h':SA}(T:uL K tb base h)(k:∀b o,b∈tb∨Kc o->h.get? b=Zz o->h'.get? b=Zz o):uL K tb base h':=
 ⟨λP hP=>(T.1 P hP).imp id λ⟨ps,e,t⟩=>⟨ps,k _ _ (.inl hP) e,t⟩,λq P i=>by
  obtain⟨hP,ps,e,t,c⟩:=T.2 q P i;exact⟨hP,ps,k _ _ (.inl hP) e,t,λpos cv z=>CodeRec.go (c pos cv z) λb o kc=>k b o (.inr kc)⟩⟩
theorem wx{pos:Pos}{a b:Int}{c v:R3}(l:List R3)(h:Xb l)(e:X0 pos (l++[rawInt a,rawInt b,c])=Zz v):X0 pos l=Zz v∨v=c:=by
 fun_induction Xb l with
 |case1 =>
  simp only[Sz,rawInt,X0]at e;split at e
  ·cases e;exact .inr rfl
  ·cases e
 |case2 a' t b' u x rest ih =>
  simp only[Wr,X0]at e ⊢;split at e
  ·rename_i q
   cases e;rw[Yq q];exact .inl rfl
  ·rename_i q
   rw[Yr q];exact ih h e
 |case3 l h1 h2=>exact h.elim
theorem o6:∀{l:List R3}{x:Str}{t:Tok},Xb l->l[1]?≠Zz (.str x t)
 |[],_,_,_,z=>by simp at z
 |.int _ _::.int _ _::_::rest,_,_,_,z=>by simp at z
theorem Fr.code{X:Cx}{env:Mi.Env}{cm cm':List RB}{m m':Mem}{s s':R9}{cv:R3}{q:Str}(I:Fr X env cm m s)(LK:wf X.toBs)(c:s.heap.CodeRec cv q)(x:bd X.fs X.gs ch cm m s cm' m' s')(w:∀b∈ch,b∈X.tb∨b∈X.fs):s'.heap.CodeRec cv q:=by
 obtain⟨a,o,vs,t,e,g,d,n⟩:=c;have nf:a∉X.fs:=λz=>by
  obtain⟨_,o',g',k⟩:=I.cO a z;rw[g]at g';cases g';exact k.1 _ d
 have nt:a∉X.tb:=λz=>by
  have TT:=I.mem.tab;rw[show X.Tab=_ from LK.tab]at TT;obtain⟨_,ps,g',k⟩:=TT.1 a z;rw[g]at g';cases g';cases d;exact o6 k (by simpa using n)
 have nl:aF cm m a:=λi p z1 z2=>by
  obtain⟨b,y,h1,⟨⟨_,h2⟩,_⟩,_⟩:=I.mem.at' i p z1;rw[h1]at z2;cases z2;rw[g]at h2;cases h2;cases d
 obtain⟨_,o',g',r⟩:=x.keep a o g (λz=>(w a z).elim nt nf) nl;rcases r with rfl|⟨r,_⟩
 ·exact⟨a,_,vs,t,e,g',d,n⟩
 ·exact Yv r nf
section
variable{X:Cx}{env:Mi.Env}{cm:List RB}{m m':Mem}{s:R9}{params:Xa}{body:SL}{scope:Uk}{pos:Pos}{q y:Str}{cl:List (Str×RB)}{Q:R3->R9->Prop}{f:RB}{pm cv ct x:R3}{w w':W}{call:Nat->List W->Mem->Res W}{gv:List T}{eb:Mi.E}{N':List Str}{keep:List Nat}{tk:Nat}{h₁:SA}
noncomputable abbrev lT(q:Str)(params:Xa)(body:SL)(scope:Uk)(cl:List (Str×RB))(pm cv ct:R3):Obj:={ cls:=.type "function",data:=.func (kla_fn "<lambda>" (hZ q) params body scope cl pm cv ct) }
theorem Cb{E:R3->R9->Prop}(I:Fr X env cm m s)(LK:wf X.toBs)(hq:X.env.qual=q++".<locals>.")(hn:dg.contains q=true)(hcd:codeIn X.K X.env.code q=true)(hdef:YS params X.env=([],[]))(hcl:YR scope X.env=pure cl)(h:∀f pm cv ct s',bd X.fs X.gs X.tb cm m s cm m s'->Fr X env cm m s'->s.heap.get? f=Zy->s'.heap.get? f=Zz (lT q params body scope cl pm cv ct)->s'.heap.CodeRec cv (hZ q)->Q (.ref f) s'):
  RJ X.M X.A (eval (.Lambda params body scope pos) X.env) Q E s:=by
 obtain⟨c,hc⟩:∃c,X.env.code=.ref c:=by
  cases e:X.env.code with
  |ref c=>exact⟨c,rfl⟩
  |_=>rw[e]at hcd;cases hcd
 rw[hc]at hcd;obtain⟨P,hP,hT⟩:=LK.hd c q hcd hn;have TT:=I.mem.tab;rw[show X.Tab=_ from LK.tab]at TT;obtain⟨htb,ps,gP,ht⟩:=TT.2 q P hT;have CH:PySem.W.CodeHd s.heap c P:=PySem.W.codeHd_of_K I.sR hP;have hg:s.heap.Ns Rz X.mg:=I.ok.mod.glob.keeps I.bs;have hgP:Rz≠P:=λz=>by
  obtain⟨o,es,ep,e,hd,_⟩:=hg;rw[z,gP]at e;cases e;cases hd
 obtain⟨bm,ob,b1,b2,b3,b4,b5,b6⟩:=I.ok.mod.bm;have b3':=I.bs _ _ b3;have hbP:bm≠P:=λz=>by rw[z,gP]at b3';cases b3';cases b4
 have hbG:bm≠Rz:=λz=>by
  obtain⟨o,es,ep,e,hd,_⟩:=hg;rw[z,e]at b3';cases b3';rw[hd]at b6;cases b6
 have hb:s.heap.BuiltinsAt X.mg P:=⟨bm,ob,b1,b2,hbG,hbP,b3',b4,b5,b6⟩
 refine PySem.W.kla_eval hdef ?_;have eq:X.env.qual++"<lambda>" = hZ q:=by rw[hq];rfl
 rw[eq];have gone:∀b,s.heap.objs.size<=b->s.heap.get? b=Zy:=λb hb=>Rt hb
 cases hca:X0 pos ps.toList with
 |some cv =>
  refine PySem.W.kla_makeFunctionHit hcl I.ok.glob hg hc CH gP ht.1 hca hb λctv h' tk hk hz=>?_
  have kp:∀b o,s.heap.get? b=Zz o->(h'.push (lT q params body scope cl ((X.mg "__name__").getD .none) cv ctv)).get? b=Zz o:=λb o e=>R7 _ (hk b o e)
  obtain⟨x1,I1⟩:=I.up (t:=tk) (d:=s.drawn) (ch:=X.tb) kp;exact h _ _ _ _ _ x1 I1 (gone _ hz) (RM _ rfl) (CodeRec.go (ht.2 pos cv hca) λb o _=>kp b o)
 |none =>
  refine PySem.W.kla_makeFunction hcl I.ok.glob hg hc CH gP ht.1 hca hgP hb λc' ctv h' tk hx hge hlt hrec htb'=>?_
  have hz:s.heap.objs.size<=h'.objs.size:=Ro hge (T7 hlt);generalize hfo:PySem.W.kla_obj "<lambda>" (hZ q) params body scope cl ((X.mg "__name__").getD .none) c' ctv=fo;have kp:∀b o,b≠P->s.heap.get? b=Zz o->(h'.push fo).get? b=Zz o:=λb o n e=>R7 _ (hx b o n e)
  have x1:bd X.fs X.gs X.tb cm m s cm m { s with heap:=h'.push fo,toks:=tk }:=.heap (λb o n e=>kp b o (λz=>n (z▸htb)) e) λb n o e=>by
   by_cases z:b=P
   ·subst z;rw[gP]at e;cases e
    exact⟨_,R7 _ htb',λn=>Yv rfl (n _),λ_ _ _ z=>nomatch z⟩
   ·exact⟨o,kp b o z e,.r⟩
  have kc:∀b o,Kc o->s.heap.get? b=Zz o->(h'.push fo).get? b=Zz o:=λb o ⟨v,a,t,d,n⟩ e=>kp b o (λz=>by
   rw[z,gP]at e;cases e;cases d;exact o6 ht.1 (by simpa using n)) e
  have hrec':(h'.push fo).CodeRec (.ref c') (hZ q):=CodeRec.go hrec λb o _ e=>R7 _ e
  have T':X.Tab (h'.push fo):=by
   rw[show X.Tab=_ from LK.tab];refine⟨λb hb=>?_,λq' P' i=>?_⟩
   ·obtain⟨n,qs,e,t⟩:=TT.1 b hb
    by_cases z:b=P
    ·exact⟨n,_,by rw[z];exact R7 _ htb',by simpa using TriplesOk_snoc pos.line pos.col (.ref c') ps.toList ht.1⟩
    ·exact⟨n,_,kp _ _ z e,t⟩
   ·obtain⟨n,qs,e,t,k⟩:=TT.2 q' P' i
    refine⟨n,?_⟩;by_cases z:P'=P
    ·subst z
     obtain rfl:=LK.AS _ _ _ hT i;refine⟨_,R7 _ htb',by simpa using TriplesOk_snoc pos.line pos.col (.ref c') ps.toList ht.1,λpos' cv e=>?_⟩;rcases wx _ ht.1 (by simpa using e)with e|rfl
     ·exact CodeRec.go (ht.2 pos' cv e) kc
     ·exact hrec'
    ·exact⟨_,kp _ _ z e,t,λpos' cv e=>CodeRec.go (k pos' cv e) kc⟩
  have M:=I.mem.go I.nc.q x1.toExtK (λb o n e=>kp b o (λz=>n (z▸htb)) e) T';subst hfo;exact h _ _ _ _ _ x1 (I.go x1 M I.nc) (gone _ hz) (RM _ rfl) hrec'
noncomputable abbrev mX(X:Cx)(N':List Str)(q:Str)(scope:Uk)(cl:List (Str×RB))(f:RB)(cv:R3)(n:RB):Cx:=
 { X with A:=X.A.in1.in1.deeper (envX (hZ q) scope n f cv cl),N:=N',env:=envX (hZ q) scope n f cv cl,stack:=envX (hZ q) scope n f cv cl::X.stack,fs:=n::X.fs,fn:=λ_=>false }
structure rA (X:Cx) (y:Str) (scope:Uk):Prop where
 kind:scope.kind=.function
 co:scope.isCoroutine=false
 gen:scope.isGenerator=false
 vB:∀x∈scope.names,x.2≠.cell
 G6:scope.names.lookup y=Zz .local
 look:∀p∈scope.names,scope.names.lookup p.1=Zz p.2
 free:∀x,(x,Ry)∈scope.names->X.env.kindOf x=Zz .cell∨X.env.kindOf x=Zz .free
noncomputable def stK(keep:List Nat)(env:Mi.Env):Mi.Env:=keep.map λi=>(env[i]?).join
theorem yU(I:Fr X env cm m s)(S:rA X y scope)(hcl1:∀x c,cl.lookup x=Zz c->X.env.cells.lookup x=Zz c)(hcl2:∀x,(x,Ry)∈scope.names->∃c,cl.lookup x=Zz c)(rx:RW X.D cm m s.heap w x)(hy:N'[0]?=Zz y)(hown:N'.length=1+keep.length)(hkeep:∀(i:Nat) x,N'[1+i]?=Zz x->∃j,keep[i]?=Zz j/\X.N[j]?=Zz x/\(x,Ry)∈scope.names)(hns:∃g,h₁.Ns s.heap.objs.size g/\g y=Zz x)(hk:∀b o,s.heap.get? b=Zz o->h₁.get? b=Zz o):
  Fr (mX X N' q scope cl f cv s.heap.objs.size) (Zz w::stK keep env) cm m { s with heap:=h₁,toks:=tk }:=by
 have gone:∀b,s.heap.objs.size<=b->s.heap.get? b=Zy:=λb hb=>Rt hb
 have nb:∀b,s.heap.get? b=Zy->X.base.get? b=Zy:=λb hb=>by
  cases q:X.base.get? b with
  |none=>rfl
  |some o=>rw[I.bs _ _ q]at hb;cases hb
 have nn:∀b∈s.heap.objs.size::X.fs,b∈X.fs∨s.heap.get? b=Zy:=λb hb=>(R5.mp hb).elim (λz=>.inr (gone b (by rw[z];exact RC _))) .inl
 obtain⟨g,hns,gy⟩:=hns;obtain⟨oN,_,_,eN,dN,_⟩:=id hns;refine⟨⟨I.ok.mod,S.kind,rfl,rfl,λa b c h1 h2=>I.ok.inj a b c (hcl1 a c h1) (hcl1 b c h2),λz hz=>?_,λh=>I.ok.hd h,Around.frames_deeper I.ok.frames,λe he=>?_,R6,λz c h=>I.ok.cb z c (hcl1 z c h),I.ok.tab,I.ok.jG,I.ok.qm⟩,
  I.mem.fr (X:=X) rfl nn hk λT=>I.ok.jG _ _ T λb o _=>hk b o,I.bare,λb o e=>hk b o (I.bs b o e),⟨_,hns,λi z u h1 h2 h3=>?_⟩,λz c h=>?_,λb hb=>?_,?_⟩
 ·have hz:scope.names.lookup z=Zz .cell∨scope.names.lookup z=Zz .free:=hz
  rcases hz with hz|hz
  ·exact Yv rfl (S.vB _ (T6 hz))
  ·exact hcl2 z (T6 hz)
 ·rcases R5.mp he with rfl|he
  ·exact⟨by rw[show(envX (hZ q) scope s.heap.objs.size f cv cl).scope.kind=scope.kind from rfl,S.kind];decide,_,R6,rfl⟩
  ·exact(I.ok.C2 e he).imp id λ⟨L,h1,h2⟩=>⟨L,R2 _ h1,h2⟩
 ·cases i with
  |zero =>
   have e1:z=y:=by rw[show(mX X N' q scope cl f cv s.heap.objs.size).N[0]?=N'[0]? from rfl,hy]at h1;exact(Sj h1).symm
   have e2:u=w:=by have h2:Zz (Zz w)=Zz (Zz u):=h2;cases h2;rfl
   subst e1;subst e2;exact⟨x,rx.fr nn hk,.inl ⟨S.G6,gy⟩⟩
  |succ i =>
   obtain⟨j,q1,q2,q3⟩:=hkeep i z (by rw[Nat.add_comm];exact h1);have h2:(stK keep env)[i]?=Zz (Zz u):=h2;unfold stK at h2;rw[Rj,q1]at h2;have e3:(env[j]?).join=Zz u:=Sj h2;have e4:env[j]?=Zz (Zz u):=by
    cases r:env[j]? with
    |none=>rw[r]at e3;cases e3
    |some o=>rw[r]at e3;exact congrArg Zz e3
   obtain⟨m0,hn0,hl0⟩:=I.loc;have kx:=S.free z q3;obtain⟨v,ru,lu⟩:=hl0 j z u q2 e4 (kx.elim (λz=>.inr (.inl z)) λz=>.inr (.inr z));obtain⟨c,ec,ic⟩:∃c,X.env.cells.lookup z=Zz c/\s.heap.IsCell c v:=by
    rcases lu with⟨q,_⟩|⟨_,c,q1,q2⟩
    ·rcases kx with k|k
     ·rw[k]at q;cases q
     ·rw[k]at q;cases q
    ·exact⟨c,q1,q2⟩
   obtain⟨c',ec'⟩:=hcl2 z q3;obtain rfl:c'=c:=by have:=hcl1 z c' ec';rw[ec]at this;exact(Sj this).symm
   obtain⟨o,ho,hd⟩:=ic;exact⟨v,ru.fr nn hk,.inr ⟨.inr (S.look _ q3),c',ec',o,hk _ _ ho,hd⟩⟩
 ·obtain⟨v,o,ho,hd⟩:=I.cell z c (hcl1 z c h)
  exact⟨v,o,hk _ _ ho,hd⟩
 ·rcases R5.mp hb with rfl|hb
  ·exact⟨nb _ (gone _ (RC _)),oN,eN,(λv z=>by rw[dN]at z;cases z),λ_ x n z=>by rw[dN]at z;cases z⟩
  ·obtain⟨g,o,e,n⟩:=I.cO b hb
   refine⟨g,o,hk _ _ e,n.1,λz=>n.2 ?_⟩;obtain⟨en,z1,z2⟩:=UC.mp z;rcases R5.mp z1 with rfl|z1
   ·cases z2
    exact Yv (Rm e) (SU _)
   ·exact UC.mpr ⟨en,z1,z2⟩
 ·show(Zz w::stK keep env).length=N'.length
  unfold stK;rw[Rp,R1,hown,Nat.add_comm]
theorem AH(I:Fr X env cm m s)(ho:s.heap.get? f=Zz (lT q params body scope cl pm cv ct))(cf:s.heap.CodeRec cv (hZ q))(S:rA X y scope)(hcl1:∀x c,cl.lookup x=Zz c->X.env.cells.lookup x=Zz c)(hcl2:∀x,(x,Ry)∈scope.names->∃c,cl.lookup x=Zz c)(hroom:X.A.depth<Vp)(hbind:Tf (kla_fn "<lambda>" (hZ q) params body scope cl pm cv ct) ⟨[x],[]⟩=pure [(y,x)])(rx:RW X.D cm m s.heap w x)(hy:N'[0]?=Zz y)(hown:N'.length=1+keep.length)(hkeep:∀(i:Nat) x,N'[1+i]?=Zz x->∃j,keep[i]?=Zz j/\X.N[j]?=Zz x/\(x,Ry)∈scope.names)(hb:∀n,PE call gv (mX X N' q scope cl f cv n) body eb)(ok:ev call gv eb (Zz w::stK keep env) m=.ok w' m'){E:R3->R9->Prop}:
  RJ X.M X.A.in1.in1 (TE (.ref f) [x]) (λv s'=>∃cm',bd X.fs X.gs X.tb cm m s cm' m' s'/\Fr X env cm' m' s'/\RW X.D cm' m' s'.heap w' v) E s:=by
 refine YJ (Ul (R:=λr s'=>∃v,r=.ok (.ret v)/\∃cm',bd X.fs X.gs X.tb cm m s cm' m' s'/\Fr X env cm' m' s'/\RW X.D cm' m' s'.heap w' v) (PySem.W.kla_callFunE (A:=X.A.in1.in1) hroom ho rfl S.co S.gen rfl cf ?_) λr s' hq=>?_)
 ·rw[hbind]
  refine R4 (wpAny_newFunctionEnv S.vB (λz hz=>?_) (λh₁ hns hsb=>⟨(I.ok.mod.nolimit.keeps I.bs).fresh _ hsb,?_⟩) S.kind)
  ·obtain rfl:z=(y,x):=RQ.mp hz
   exact S.G6
  show Ux _ _ (.expr body (envX (hZ q) scope s.heap.objs.size f cv cl)) _ _;have hk:∀b o,s.heap.get? b=Zz o->h₁.get? b=Zz o:=λb o e=>hsb.extBut b o (Rr (Rm e)) (R7 _ e)
  have J:=yU (q:=q) (f:=f) (cv:=cv) (tk:=s.toks+1) I S hcl1 hcl2 rx hy hown hkeep ⟨_,hns,by simp⟩ hk;have nn:∀l:List RB,∀b∈s.heap.objs.size::l,b∈l∨s.heap.get? b=Zy:=λ_ b hb=>(R5.mp hb).elim (λz=>.inr (Rt (by rw[z];exact RC _))) .inl
  refine PySem.W.kla_codeExpr (Ta ((hb _).run (J:=λ_ _=>False) J ok) (λv s' ⟨cm',x1,I1,r1⟩=>⟨v,rfl,cm',?_⟩) λ_ _ z=>z.elim);have x2:bd X.fs X.gs X.tb cm m s cm' m' s':=((bd.kept (d:=s.drawn) hk).trans x1).fr (nn X.fs) (nn X.gs);have M2:be X cm' m' s'.heap:=I1.mem.fr (X:=mX X N' q scope cl f cv s.heap.objs.size) rfl (λb h=>.inl (R2 _ h)) (λ_ _ e=>e) id;exact⟨x2,I.go x2 M2 I.nc,RW.fr (f':=X.fs) (λb h=>.inl (R2 _ h)) (λ_ _ e=>e) r1⟩
 ·obtain⟨u,rfl,hc⟩:=hq
  exact hc
end
theorem c9:∀{x y:List Int},aC x y=true->aC y x=false
 |[],[],h=>by cases h
 |[],_::_,_=>rfl
 |_::_,[],h=>by cases h
 |a::x,b::y,h=>by
  rw[aC]at h ⊢;by_cases e:a=b
  ·subst e
   rw[Yq rfl]at h ⊢;exact c9 h
  ·rw[Yr e]at h
   rw[Yr (VQ e)];have:=Yw h;exact Ys (by omega)
theorem cQ:∀{x y:List Int},aC x y=false->aC y x=false->x=y
 |[],[],_,_=>rfl
 |[],_::_,h,_=>by cases h
 |_::_,[],_,h=>by cases h
 |a::x,b::y,h1,h2=>by
  rw[aC]at h1 h2;by_cases e:a=b
  ·subst e
   rw[Yq rfl]at h1 h2;rw[cQ h1 h2]
  ·rw[Yr e]at h1
   rw[Yr (VQ e)]at h2;have h1:=of_decide_eq_false h1;have h2:=of_decide_eq_false h2;omega
theorem dG:∀{x y z:List Int},aC y x=false->aC z y=false->aC z x=false
 |[],[],_,_,h=>h
 |[],_::_,[],_,_=>rfl
 |[],_::_,_::_,_,_=>rfl
 |_::_,[],_,h,_=>by cases h
 |_::_,_::_,[],_,h=>by cases h
 |a::x,b::y,c::z,h1,h2=>by
  rw[aC]at h1 h2 ⊢;by_cases e1:b=a
  ·by_cases e2:c=b
   ·rw[Yq e1]at h1
    rw[Yq e2]at h2;rw[Yq (e2.trans e1)];exact dG h1 h2
   ·rw[Yr e2]at h2
    have h2:=of_decide_eq_false h2;rw[Yr (by omega)];exact Ys (by omega)
  ·rw[Yr e1]at h1
   have h1:=of_decide_eq_false h1;by_cases e2:c=b
   ·rw[Yr (by omega)]
    exact Ys (by omega)
   ·rw[Yr e2]at h2
    have h2:=of_decide_eq_false h2;rw[Yr (by omega)];exact Ys (by omega)
theorem fF:∀{ts:List T}{ns:List Int},cn ts=Zz ns->ts=ns.map .int
 |[],_,h=>by cases h;rfl
 |t::r,ns,h=>by
  cases t with
  |int c =>
   have h:(cn r).map (c::·)=Zz ns:=h;cases q:cn r with
   |none=>rw[q]at h;cases h
   |some ms=>rw[q]at h;cases h;rw[fF q];rfl
  |_=>cases h
theorem ints_get:∀{vs:List R3}{ns:List Int},TU vs ns->∀(i:Nat) (v:R3) (x:Int),vs[i]?=Zz v->ns[i]?=Zz x->∃t,v=.int x t
 |_,_,.nil,i,v,x,h,_=>by simp at h
 |_,_,.cons n t r,0,v,x,h1,h2=>by
  simp at h1 h2;exact⟨t,by rw[<-h1,<-h2]⟩
 |_,_,.cons n t r,i+1,v,x,h1,h2=>ints_get r i v x (by simpa using h1) (by simpa using h2)
open AutoSeq1 (wpAny_loadPart') in
open MeetsSeq MeetsSeq2 MeetsSeq3 in
theorem EP(l b:RB)(items items2:Array R3)(n n2:Nat)(xs ys:List Int)(g1:TU items.toList xs)(g2:TU items2.toList ys):∀(k i:Nat),items.size-i=k->i<=items.size->i<=items2.size ->
  Yh (Builtin.«list.__eq__.loop» ⟨[.ref l,.ref b,rawInt i,rawInt 0],[]⟩)
   (λA R s=>s.heap.get? l=Zz { cls:=.type "list",data:=.seq items n }/\s.heap.get? b=Zz { cls:=.type "list",data:=.seq items2 n2 }/\R (.ok (.ret (.bool (aC (xs.drop i) (ys.drop i))))) s):=by
 have z1:xs.length=items.size:=by rw[<-g1.length,RD]
 have z2:ys.length=items2.size:=by rw[<-g2.length,RD]
 intro k
 induction k with
 |zero =>
  intro i hk hi1 hi2 prog w A R s h;obtain⟨hp,g,d,tk,os⟩:=s;obtain⟨hl,hb,h⟩:=h
  wp_walk using SP hl,SP hb
  have e:i=items.size:=by omega
  have ii1:items[((i:Nat):Int).toNat]?=Zy:=by simp;omega
  rw[ii1];have hd:xs.drop i=[]:=SD (by omega);have hx:aC (xs.drop i) (ys.drop i)=decide (items.size<items2.size):=by
   rw[hd];cases hy:ys.drop i with
   |nil =>
    have:=List.drop_eq_nil_iff.mp hy;rw[Ys (by omega)];rfl
   |cons y r =>
    have:¬ys.length<=i:=λz=>by rw[SD z]at hy;cases hy
    rw[Yt (by omega)];rfl
  rw[hx]at h
  wp_walk using SP hl,SP hb
  exact h
 |succ k ih =>
  intro i hk hi1 hi2 prog w A R s h;obtain⟨hp,g,d,tk,os⟩:=s;obtain⟨hl,hb,h⟩:=h
  wp_walk using SP hl,SP hb
  have hlt:i<items.size:=by omega
  have ii1:items[((i:Nat):Int).toNat]?=Zz items[i]:=by simp[hlt]
  rw[ii1];by_cases hlt2:i<items2.size
  ·have ii2:items2[((i:Nat):Int).toNat]?=Zz items2[i]:=by simp[hlt2]
   have l1:i<xs.length:=by omega
   have l2:i<ys.length:=by omega
   obtain⟨t,et⟩:∃t,items[i]=.int xs[i] t:=ints_get g1 i _ _ (by rw[RZ,Array.getElem?_eq_getElem hlt]) (R8 l1);obtain⟨u,eu⟩:∃t,items2[i]=.int ys[i] t:=ints_get g2 i _ _ (by rw[RZ,Array.getElem?_eq_getElem hlt2]) (R8 l2);rw[ii2,et,eu];rw[SQ l1,SQ l2,aC]at h;refine R0 (Wo ?_);have hc:((i:Int)+1)=((i+1:Nat):Int):=by push_cast;rfl
   by_cases he:xs[i]=ys[i]
   ·rw[Yq he]at h
    have hb':(xs[i]==ys[i])=true:=by rw[he];exact beq_self_eq_true _
    rw[hb']
    wp_walk
    rw[hc];exact⟨UY plain_eq_loop _,TQ entry_eq_loop (by
     rw[Sw plain_eq_loop _];exact ih (i+1) (by omega) (by omega) (by omega) prog w A R _ ⟨hl,hb,h⟩)⟩
   ·rw[Yr he]at h
    have hb':(xs[i]==ys[i])=false:=Yu.mpr he;rw[hb']
    wp_walk using SP hl,SP hb
    rw[ii1,ii2,et,eu];refine R0 (wpAny_lt_int ?_);exact R4 h
  ·have ii2:items2[((i:Nat):Int).toNat]?=Zy:=by simp;omega
   rw[ii2];have hd:ys.drop i=[]:=SD (by omega);have hx:aC (xs.drop i) (ys.drop i)=decide (items.size<items2.size):=by
    rw[hd,SQ (show i<xs.length by omega),Ys (by omega)];rfl
   rw[hx]at h
   wp_walk using SP hl,SP hb
   exact h
open AutoSeq1 (wpAny_loadPart') in
open MeetsSeq MeetsSeq2 MeetsSeq3 in
theorem uY(l b:RB)(items items2:Array R3)(n n2:Nat)(xs ys:List Int)(g1:TU items.toList xs)(g2:TU items2.toList ys):
  Yh (Builtin.«list.__lt__» ⟨[.ref l,.ref b],[]⟩)
   (λA R s=>s.heap.get? l=Zz { cls:=.type "list",data:=.seq items n }/\s.heap.get? b=Zz { cls:=.type "list",data:=.seq items2 n2 }/\R (.ok (.ret (.bool (aC xs ys)))) s):=by
 intro prog w A R s h;obtain⟨hp,g,d,tk,os⟩:=s;obtain⟨hl,hb,h⟩:=h;have f3:=AutoSeq1.sub_list_list
 wp_walk using SP hl,SP hb
 exact⟨UY plain_eq_loop _,TQ entry_eq_loop (by
  rw[Sw plain_eq_loop _];exact EP l b items items2 n n2 xs ys g1 g2 _ 0 rfl (SI _) (SI _) prog w A R _ ⟨hl,hb,by simpa using h⟩)⟩
inductive LI (h:SA) (v:R3) (k:List Int)  : Prop where
 |mk (a its n) (_:v=.ref a) (_:h.get? a=Zz { cls:=.type "list",data:=.seq its n }) (_:TU its.toList k)
section
variable{prog:S9}{w:SY}{A:SV}{E:R3->R9->Prop}{s:R9}
theorem HA(hx:LI s.heap x xs)(hy:LI s.heap y ys)(hu:A.units<cLine)(h:Q (aC xs ys) s):RJ (Rn prog w) A (keyLt' Y3 x y) Q E s:=by
 obtain⟨a,its,n,rfl,e2,e3⟩:=hx;obtain⟨b,jts,k,rfl,f2,f3⟩:=hy;rw[keyLt'_oneType,oneLt'_eq];simp only[if_true];refine R0 (wpAny_cRoomFor hu ?_);refine R0 (wpAny_callSpecialIfBound?_slot (T:="list") ⟨_,e2,rfl⟩ W8 (Tl W8 ⟨_,e2,rfl⟩ PySem.F.entry_list_lt (PySem.F.args_list_lt_2 _ _) (uY a b its jts n k xs ys e3 f3) ⟨e2,f2,?_⟩));exact Tz h
theorem zW{ks vs:List R3}{kf:R3->List Int}(hv:∀v∈ks,LI s.heap v (kf v))(inj:∀x∈ks.zip vs,∀y∈ks.zip vs,kf x.1=kf y.1->x=y)(hu:A.units<cLine):
  Ts.gH prog w A s Y3 (λx=>x∈ks.zip vs) (λx y=>aC (kf x.1) (kf y.1)):=by
 refine⟨λx y hx hy E Q q=>?_,λx y z _ _ _=>dG,λx y _ _=>c9,λx y hx hy h1 h2=>inj x hx y hy (cQ h1 h2)⟩;exact HA (hv _ (VS hx).1) (hv _ (VS hy).1) hu q
theorem mP:∀(vs:List R3) {Q:List (Option R3)->R9->Prop},(∀v∈vs,∃k,LI s.heap v k)->Q (vs.map λ_=>Zy) s->RJ (Rn prog w) A (vs.mapM firstOfTuple') Q E s
 |[],_,_,h=>by rw[List.mapM_nil];exact R4 h
 |v::vs,Q,t,h=>by
  obtain⟨_,a,its,n,rfl,ho,_⟩:=t v R6;rw[List.mapM_cons];refine R0 ?_;rw[PySem.W.kas_first_eq];refine R0 (PySem.W.Looks.here (show YT (Rn prog w) s.heap (typeOf (.ref a)) (.type "list")from(PySem.W.Looks.ld ho).andThen .now) ?_);rw[Yq (by first|decide|simp)];refine R4 ?_;exact R0 (mP vs (Q:=λbs s'=>RJ (Rn prog w) A (pure (Zy::bs)) Q E s') (λu hu=>t u (R2 _ hu)) (R4 h))
theorem vN{vs:List R3}(hv:∀v∈vs,∃k,LI s.heap v k)(h0:0<vs.length){Q:TX->R9->Prop}(h:Q Y3 s):RJ (Rn prog w) A (XK vs.toArray) Q E s:=by
 obtain⟨v,vr,rfl⟩:∃v vr,vs=v::vr:=by
  cases vs with
  |nil=>exact Yv h0 (SU _)
  |cons v vr=>exact⟨v,vr,rfl⟩
 rw[kat_kind_eq,List.mapM_toArray,map_eq_pure_bind];refine R0 (R0 (mP _ hv (R4 ?_)));have hall:¬(((v::vr).map λ_=>(Zy:Option R3)).toArray.all λx=>x.isSome)=true:=by simp
 rw[Yr hall];have hf:¬(((((v::vr).map λ_=>(Zy:Option R3)).toArray)[0]?.bind id).isSome=true):=by simp
 rw[Yr hf,oneTypeOnly'_eq,List.mapM_toArray,map_eq_pure_bind];refine R0 (R0 (R0 (PySem.W.kas_mapM (r:=.type "list") _ (λv hv' Q' hq=>?_) (R4 ?_))))
 ·obtain⟨_,a,its,n,rfl,ho,_⟩:=hv v hv'
  exact PySem.W.Looks.here (show YT (Rn prog w) s.heap (typeOf (.ref a)) (.type "list")from(PySem.W.Looks.ld ho).andThen .now) hq
 have hall2:((Yl (λ_=>VV "list") (v::vr)).toArray.all λx=>x==VV "list")=true:=by
  simp only[List.all_toArray,List.all_map,SX];intro _ _;rfl
 have h0:(Yl (λ_=>VV "list") (v::vr)).toArray[0]?=Zz (VV "list"):=by simp
 rw[h0];simp only[hall2,if_true];exact R4 (R4 h)
end
theorem mn(x:List Int×T):∀l:List (List Int×T),(nu x l).Perm (x::l)
 |[]=>.refl _
 |y::r=>by
  rw[nu];split
  ·exact((mn x r).cons y).trans (.swap _ _ _)
  ·exact .refl _
theorem j7:∀xs:List (List Int×T),(iM xs).Perm xs
 |[]=>.refl _
 |x::r=>(mn x _).trans ((j7 r).cons x)
theorem xn(x:List Int×T):∀{l:List (List Int×T)},l.Pairwise (λa b=>aC b.1 a.1=false)->(nu x l).Pairwise (λa b=>aC b.1 a.1=false)
 |[],_=>Sb _ _
 |y::r,h=>by
  rw[nu];obtain⟨h1,h2⟩:=Rv.mp h;split
  ·rename_i q
   refine Rv.mpr ⟨λz hz=>?_,xn x h2⟩;rcases R5.mp ((mn x r).mem_iff.mp hz)with rfl|hz
   ·exact c9 q
   ·exact h1 z hz
  ·rename_i q
   have q:aC y.1 x.1=false:=by simpa using q
   refine Rv.mpr ⟨λz hz=>?_,h⟩;rcases R5.mp hz with rfl|hz
   ·exact q
   ·exact dG q (h1 z hz)
theorem oV:∀xs:List (List Int×T),(iM xs).Pairwise (λa b=>aC b.1 a.1=false)
 |[]=>.nil
 |x::r=>xn x (oV r)
theorem mD{α β:Type}:∀{xs:List (α×β)},(xs.map (·.1)).Nodup->∀{a b:α×β},a∈xs->b∈xs->a.1=b.1->a=b
 |[],_,_,_,h,_,_=>by cases h
 |x::xs,hn,a,b,ha,hb,e=>by
  obtain⟨h1,h2⟩:=Ss.mp (hn);rcases R5.mp ha with z1|z1
  ·rcases R5.mp hb with z2|z2
   ·rw[z1,z2]
   ·exact(h1 (RS.mpr ⟨b,z2,by rw[<-z1];exact e.symm⟩)).elim
  ·rcases R5.mp hb with z2|z2
   ·exact(h1 (RS.mpr ⟨a,z1,by rw[<-z2];exact e⟩)).elim
   ·exact mD h2 z1 z2 e
theorem CY(hn:(xs.map (·.1)).Nodup)(hp:ys.Perm xs)(hw:ys.Pairwise (λa b=>aC b.1 a.1=false)):ys=iM xs:=
 Uc (λa b ha hb h1 h2=>mD hn (hp.mem_iff.mp ha) ((j7 xs).mem_iff.mp hb) (cQ h2 h1)) hw (oV xs) (hp.trans (j7 xs).symm)
theorem y0{α β:Type}(f:α->β){out ys:List β}(h:out.Perm ys):∀l:List α,ys=l.map f->∃l':List α,l'.Perm l/\out=l'.map f:=by
 induction h with
 |nil =>
  intro l e;cases l with
  |nil=>exact⟨[],.nil,rfl⟩
  |cons=>cases e
 |cons x _ ih =>
  intro l e;cases l with
  |nil=>cases e
  |cons a l =>
   injection e with e1 e2;obtain⟨l',p,q⟩:=ih l e2;exact⟨a::l',p.cons a,by rw[q,e1];rfl⟩
 |swap x y r =>
  intro l e;cases l with
  |nil=>cases e
  |cons a l =>
   cases l with
   |nil=>cases e
   |cons b l =>
    injection e with e1 e2;injection e2 with e2 e3;exact⟨b::a::l,.swap _ _ _,by rw[e1,e2,e3];rfl⟩
 |trans _ _ ih1 ih2 =>
  intro l e;obtain⟨l2,p2,q2⟩:=ih2 l e;obtain⟨l1,p1,q1⟩:=ih1 l2 q2;exact⟨l1,p1.trans p2,q1⟩
theorem qP:∀{ts:List T}{m m':Mem}{ks:List (List Int)},dP f kept ts m=.ok ks m'->ks.length=ts.length
 |[],_,_,_,h=>by cases h;rfl
 |t::ts,m,m',ks,h=>by
  rw[dP]at h;obtain⟨w,m1,_,h⟩:=ar h;cases q:yF w with
  |none=>rw[q]at h;cases h
  |some k =>
   rw[q]at h;obtain⟨ks',m2,h1,h2⟩:=ar h;cases h2;rw[Rp,Rp,qP h1]
theorem zD(h:yF w=Zz k):w=.t (.lst (k.map .int)):=by
 cases w with
 |t x =>
  cases x with
  |lst us=>rw[fF (h)]
  |_=>cases h
 |_=>cases h
theorem lD{α β:Type}:∀{as:List α}{bs:List β},as.length=bs.length->(as.zip bs).map (·.1)=as
 |[],[],_=>rfl
 |a::as,b::bs,h=>by rw[Us,RG,lD (by simpa using h)]
 |[],_::_,h=>by cases h
 |_::_,[],h=>by cases h
theorem tG{α β:Type}:∀{as:List α}{bs:List β},as.length=bs.length->(as.zip bs).map (·.2)=bs
 |[],[],_=>rfl
 |a::as,b::bs,h=>by rw[Us,RG,tG (by simpa using h)]
 |[],_::_,h=>by cases h
 |_::_,[],h=>by cases h
theorem Az{α β:Type}{as:List α}{bs:List β}{p:α×β}(h:p∈as.zip bs):∃i:Nat,as[i]?=Zz p.1/\bs[i]?=Zz p.2:=by
 obtain⟨i,hi,e⟩:=Sf h;rw[W0]at e;rw[TP]at hi;exact⟨i,by rw[<-e];exact R8 (by omega),by rw[<-e];exact R8 (by omega)⟩
theorem fD{D:Dm}{cm:List RB}{m:Mem}{h:SA}:∀{k:List Int}{y:List R3},eS D cm m h (k.map .int) y->TU y k
 |[],y,r=>by
  obtain rfl:y=[]:=Uj r.1.symm;exact .nil
 |i::k,y,r=>by
  obtain⟨v,z,rfl,r1,r2⟩:=r.inv;cases r1;exact .cons i _ (fD r2)
theorem RT.li{D:Dm}{cm:List RB}{m:Mem}{h:SA}{k:List Int}{v:R3}(r:RT D cm m h (.lst (k.map .int)) v):LI h v k:=by
 cases r with
 |lst p nl el r =>
  obtain⟨⟨n,e⟩,_,_⟩:=p;exact⟨_,_,n,rfl,e,fD ⟨el,r⟩⟩
noncomputable def CL(h:SA)(v:R3):List Int:=match v with
 |.ref a=>match h.get? a with
  |some o=>match o.data with
   |.seq its _=>its.toList.filterMap λu=>match u with
    |.int i _=>Zz i
    |_=>Zy
   |_=>[]
  |_=>[]
 |_=>[]
theorem xq:∀{y:List R3}{k:List Int},TU y k->(y.filterMap λu=>match u with
  |.int i _=>Zz i
  |_=>Zy)=k
 |_,_,.nil=>rfl
 |_,_,.cons n t r=>by rw[WF];dsimp only;rw[xq r]
theorem vO{h:SA}{v:R3}{k:List Int}(t:LI h v k):CL h v=k:=by
 obtain⟨a,its,n,rfl,e,r⟩:=t;unfold CL;dsimp only;rw[e];exact xq r
section
variable{X:Cx}{env:Mi.Env}{cm:List RB}{m m':Mem}{s:R9}{params:Xa}{body:SL}{scope:Uk}{pos:Pos}{q y:Str}{cl:List (Str×RB)}{Q E:R3->R9->Prop}{f l:RB}{pm cv ct:R3}{w w':W}{call:Nat->List W->Mem->Res W}{gv:List T}{eb:Mi.E}{N':List Str}{keep:List Nat}{ts:List T}{vs:List R3}{kI:List (List Int)}
theorem yK(I:Fr X env cm m s)(LK:wf X.toBs)(ho:s.heap.get? f=Zz (lT q params body scope cl pm cv ct))(hf:f∉X.fs)(cf:s.heap.CodeRec cv (hZ q))(S:rA X y scope)(hcl1:∀x c,cl.lookup x=Zz c->X.env.cells.lookup x=Zz c)(hcl2:∀x,(x,Ry)∈scope.names->∃c,cl.lookup x=Zz c)(hdp:X.A.depth<Vp)(hun:X.A.units+64<cLine)(hbind:∀x,Tf (kla_fn "<lambda>" (hZ q) params body scope cl pm cv ct) ⟨[x],[]⟩=pure [(y,x)])(hy:N'[0]?=Zz y)(hown:N'.length=1+keep.length)(hkeep:∀(i:Nat) x,N'[1+i]?=Zz x->∃j,keep[i]?=Zz j/\X.N[j]?=Zz x/\(x,Ry)∈scope.names)(hb:∀fs n,PE call gv (mX { X with fs:=fs } N' q scope cl f cv n) body eb)(r1:eS X.D cm m s.heap ts vs)(hl:s.heap.IsList l vs.toArray)(ok:dP (λenv m=>ev call gv eb env m) (stK keep env) ts m=.ok kI m')(hn:kI.Nodup)(h64:kI.length<=900000)(fin:∀D cm' s' us,bd X.fs X.gs X.tb cm m s cm' m' s'->Fr X env cm' m' s'->eS X.D cm' m' s'.heap ((iM (kI.zip ts)).map (·.2)) us->dX X.fs s'.heap D us.toArray->aF cm' m' D->s.heap.get? D=Zy->Q (.ref D) s'):
  RJ X.M X.A (TE (.builtin "sorted") [.ref l] [(Vk "key",.ref f)]) Q E s:=by
 have lt:=r1.1;have lk:=qP ok;refine Ts.D7 hl (by omega) λD kS e1 h' hD hDS gD gS kp=>?_
 have hS:=Ro hD (T7 hDS);have gone:∀b,s.heap.objs.size<=b->s.heap.get? b=Zy:=λb hb=>Rt hb
 have nb:∀b,s.heap.get? b=Zy->X.base.get? b=Zy:=λb hb=>by
  cases q:X.base.get? b with
  |none=>rfl
  |some o=>rw[I.bs _ _ q]at hb;cases hb
 have nfr:∀b,s.heap.get? b=Zy->b∉frs X.stack:=λb hb z=>I.pY z hb
 generalize eF:D::kS::X.fs=F;have dF:D∈F:=by rw[<-eF];exact R6
 have kF:kS∈F:=by rw[<-eF];exact R2 _ R6
 have sF:∀b∈X.fs,b∈F:=λb h=>by rw[<-eF];exact R2 _ (R2 _ h)
 have cF:∀b∈F,b=D∨b=kS∨b∈X.fs:=λb h=>by rw[<-eF]at h;simpa using h
 have nn:∀b∈F,b∈X.fs∨s.heap.get? b=Zy:=λb hb=>by
  rcases cF b hb with rfl|rfl|h
  ·exact .inr (gone _ hD)
  ·exact .inr (gone _ hS)
  ·exact .inl h
 have nfF:f∉F:=λz=>by
  rcases cF f z with rfl|rfl|h
  ·rw[gone _ hD]at ho;cases ho
  ·rw[gone _ hS]at ho;cases ho
  ·exact hf h
 have K':Cx.Ok { X with fs:=F }:=Cx.Ok.fs I.ok sF;have I0:Fr { X with fs:=F } env cm m { s with heap:=h' }:=I.Il (f:=F) (ch:=[]) (s':={ s with heap:=h' }) K' nn (λb hb n=>by
  rcases cF b hb with rfl|rfl|h
  ·exact⟨nb _ (gone _ hD),_,gD,(λv z=>by cases z),λz=>Yv z (nfr _ (gone _ hD))⟩
  ·exact⟨nb _ (gone _ hS),_,gS,(λv z=>by cases z),λz=>Yv z (nfr _ (gone _ hS))⟩
  ·exact Yv h n) (bd.kept kp).toExtK (I.mem.fr (X:=X) rfl nn kp λT=>I.ok.jG _ _ T λb o _=>kp b o) λb z=>nomatch z
 have S':rA { X with fs:=F } y scope:=⟨S.kind,S.co,S.gen,S.vB,S.G6,S.look,S.free⟩
 have noF:∀{b:RB}{h:SA}{x n},b∈F->h.get? b=Zz (seqObj "list" x n)->∀o,h.get? b=Zz o->¬G2 F b o:=λhF e o e' k=>by
  rw[e]at e';cases e';cases k with
  |seq _ _ _ n=>exact n hF
  |dict _ _ z=>cases z
  |ref _ _ _ z=>cases z
  |trace _ _ z=>cases z
 generalize ec:kS::D::X.tb=ch;have tc:∀b∈X.tb,b∈ch:=λb h=>by rw[<-ec];exact R2 _ (R2 _ h)
 have cc:∀b∈ch,b=kS∨b=D∨b∈X.tb:=λb h=>by rw[<-ec]at h;simpa using h
 have nqc:∀{c m1 t x1 n1 x2 n2},Fr { X with fs:=F } env c m1 t->t.heap.get? D=Zz (seqObj "list" x1 n1)->t.heap.get? kS=Zz (seqObj "list" x2 n2)->Nq F ch t.heap:=λI1 aD aS b hb o e=>by
  rcases cc b hb with rfl|rfl|h
  ·exact noF kF aS o e
  ·exact noF dF aD o e
  ·exact(I1.nc.q (fs:=F)) b h o e
 have pD:D≠X.env.locals:=λz=>by
  obtain⟨_,hN,_⟩:=I.loc;obtain⟨o,_,_,e,_⟩:=hN;rw[<-z,gone _ hD]at e;cases e
 have pS:kS≠X.env.locals:=λz=>by
  obtain⟨_,hN,_⟩:=I.loc;obtain⟨o,_,_,e,_⟩:=hN;rw[<-z,gone _ hS]at e;cases e
 have wr:∀{b:RB}{c m1 t x n}(g:Array R3->Array R3),b=D∨b=kS->Fr { X with fs:=F } env c m1 t->t.heap.get? b=Zz (seqObj "list" x n)->∃n',(t.heap.update b (Rh g)).get? b=Zz (seqObj "list" (g x) n')/\bd F X.gs ch c m1 t c m1 { t with heap:=t.heap.update b (Rh g) }/\Fr { X with fs:=F } env c m1 { t with heap:=t.heap.update b (Rh g) }:=λ{b c m1 t x n} g hb I1 e=>by
  have e':=VP e g;have hF:b∈F:=by rcases hb with rfl|rfl;exact dF;exact kF
  have hne:b≠X.env.locals:=by rcases hb with rfl|rfl;exact pD;exact pS
  have hg:s.heap.get? b=Zy:=by rcases hb with rfl|rfl;exact gone _ hD;exact gone _ hS
  obtain⟨x1,I2⟩:=I1.acc (X:={ X with fs:=F }) (ch:=ch) (tk:=t.toks) hF hne ⟨_,e,noF hF e _ e,(λv z=>by cases z),λv z=>by cases z⟩ (λb' o ne q=>by rw[T5 _ _ _ _ ne];exact q)
   ⟨_,e',⟨(λv z=>by cases z),λz=>Yv z (nfr _ hg)⟩,λo q k=>by rw[e]at q;cases q;exact Yv rfl (k _ _)⟩
  refine⟨_,e',x1.weak λb' hb' n'=>?_,I2⟩;rcases R5.mp hb' with rfl|h
  ·refine Yv ?_ n'
   rw[<-ec];rcases hb with rfl|rfl
   ·exact R2 _ R6
   ·exact R6
  ·exact Yv h n'
 refine⟨λks s1=>∃cm1 m1,Fr { X with fs:=F } env cm1 m1 s1/\s1.heap.get? D=Zz (seqObj "list" #[] e1)/\(∃e,s1.heap.get? kS=Zz (seqObj "list" ks.toArray e))/\bd F X.gs ch cm m { s with heap:=h' } cm1 m1 s1/\s1.heap.get? f=Zz (lT q params body scope cl pm cv ct)/\s1.heap.CodeRec cv (hZ q) /\
  dP (λenv m=>ev call gv eb env m) (stK keep env) (ts.drop ks.length) m1=.ok (kI.drop ks.length) m'/\Al (λk v=>RT ⟨X.prog,X.w,F⟩ cm1 m1 s1.heap (.lst (k.map .int)) v) (kI.take ks.length) ks,?_,?_,?_,?_⟩
 ·exact⟨cm,m,I0,gD,⟨0,gS⟩,.refl,kp _ _ ho,CodeRec.go cf λb o _=>kp b o,ok,.nil⟩
 ·rintro ks s1 ⟨_,_,_,_,g,_⟩
  exact g
 ·rintro ks x r s1 hd ⟨cm1,m1,I1,aD,⟨e,aS⟩,x1,hof,hcf,run,kr⟩
  have hi:ks.length<vs.length:=by
   have:=congrArg W7 hd;rw[T4,Rp]at this;omega
  have hiT0:ks.length<ts.length:=by omega
  have ex:vs[ks.length]?=Zz x:=by
   have:=congrArg (·[0]?) hd;simpa using this
  obtain⟨t,et⟩:∃t,ts[ks.length]?=Zz t:=⟨_,R8 hiT0⟩
  have rt:RT ⟨X.prog,X.w,F⟩ cm1 m1 s1.heap t x:=RT.go (D:=⟨X.prog,X.w,F⟩) (X:={ X with fs:=F }) x1.toExtK I0.mem (nqc I0 gD gS) (RT.fr nn kp (r1.2 _ _ _ et ex));have edr:ts.drop ks.length=t::ts.drop (ks.length+1):=by
   rw[SQ hiT0];rw[R8 hiT0]at et;rw[Sj et]
  rw[edr,dP]at run;obtain⟨w,m2,run1,run2⟩:=ar run;cases hk:yF w with
  |none=>rw[hk]at run2;cases run2
  |some k =>
  rw[hk]at run2;obtain⟨ks',m3,run3,run4⟩:=ar run2;injection run4 with e4 e5;subst e5;have ekd:kI.drop (ks.length+1)=ks':=by
   rw[<-Ue,<-e4];rfl
  have ekt:kI.take (ks.length+1)=kI.take ks.length++[k]:=by
   have:kI[ks.length]?=Zz k:=by
    have:=congrArg (·[0]?) e4;simpa using this.symm
   rw[WZ,this];rfl
  refine Ta (AH (X:={ X with fs:=F }) I1 hof hcf S' hcl1 hcl2 hdp (hbind x) (w:=.t t) rt hy hown hkeep (hb F) run1) (λu s2 ⟨cm2,x2,I2,rw2⟩=>?_) λ_ _ z=>z
  obtain rfl:=zD hk;have st:∀{b:RB}{xs n},b∈F->s1.heap.get? b=Zz (seqObj "list" xs n)->s2.heap.get? b=Zz (seqObj "list" xs n):=λhF e=>by
   obtain⟨_,o',e',r⟩:=x2.keep _ _ e (λz=>by
    obtain⟨⟨v,k⟩,_⟩:=(I1.nc _ z).2 _ e;cases k) (C4 I1.mem hF)
   rcases r with rfl|⟨_,r,_⟩
   ·exact e'
   ·exact Yv rfl (r _ _)
  obtain⟨n',e',x3,I3⟩:=wr (·.push u) (.inr rfl) I2 (st kF aS);have keepf:s2.heap.get? f=Zz (lT q params body scope cl pm cv ct):=by
   obtain⟨_,o',e',r⟩:=x2.keep _ _ hof (λz=>by
    obtain⟨⟨v,k⟩,_⟩:=(I1.nc _ z).2 _ hof;cases k) (yg I1.mem hof (by simp))
   rcases r with rfl|⟨r,_⟩
   ·exact e'
   ·exact Yv r nfF
  have x2':bd F X.gs ch cm1 m1 s1 cm2 m2 s2:=x2.weak λb hb n=>Yv (tc b hb) n
  have c2:=I1.code LK hcf x2 λb h=>.inl h
  refine⟨e,st kF aS,cm2,m2,I3,?_,⟨n',by rw[e',List.push_toArray]⟩,(x1.trans x2').trans x3,?_,?_,?_,?_⟩
  ·rw[T5 _ _ _ _ (Rr hDS)];exact st dF aD
  ·rw[T5 _ _ _ _ (by rintro rfl;exact nfF kF)];exact keepf
  ·exact I2.code (X:={ X with fs:=F }) LK c2 x3 λb h=>by
    rcases cc b h with rfl|rfl|h
    ·exact .inr kF
    ·exact .inr dF
    ·exact .inl h
  ·rw[RI,S3,run3,ekd]
  ·rw[RI,S3,ekt]
   have g1:∀{k:List Int}{v:R3},RT ⟨X.prog,X.w,F⟩ cm1 m1 s1.heap (.lst (k.map .int)) v->RT ⟨X.prog,X.w,F⟩ cm2 m2 s2.heap (.lst (k.map .int)) v:=λr=>RT.go (D:=⟨X.prog,X.w,F⟩) (X:={ X with fs:=F }) x2.toExtK I1.mem I1.nc.q r
   have g2:∀{k:List Int}{v:R3},RT ⟨X.prog,X.w,F⟩ cm2 m2 s2.heap (.lst (k.map .int)) v->RT ⟨X.prog,X.w,F⟩ cm2 m2 (s2.heap.update kS (Rh (·.push u))) (.lst (k.map .int)) v:=λr=>RT.go (D:=⟨X.prog,X.w,F⟩) (X:={ X with fs:=F }) x3.toExtK I2.mem (nqc I2 (st dF aD) (st kF aS)) r
   exact(kr.mp λ_ _ r=>g2 (g1 r)).app (.cons (g2 rw2) .nil)
 ·rintro ks s1 hl ⟨cm1,m1,I1,aD,⟨e,aS⟩,x1,hof,hcf,run,kr⟩
  have ekl:kI.length=ks.length:=by omega
  have etl:ts.length=ks.length:=by omega
  rw[SD (by first|exact Vj etl|exact Vj ekl),SD (by first|exact Vj ekl|exact Vj etl)]at run;injection run with _ em;subst em;rw[SC (Vj ekl)]at kr;have kv:∀v∈ks,LI s1.heap v (CL s1.heap v):=λv hv=>by
   obtain⟨i,hi,e'⟩:=Sf hv;have:=(kr.2 i kI[i] v (R8 (by omega)) (by rw[<-e'];exact R8 hi)).li;rw[vO this];exact this
  have kz:(ks.map (CL s1.heap))=kI:=by
   refine X1 (by rw[R1];omega) λi h1 h2=>?_
   rw[List.getElem_map];exact vO (kr.2 i kI[i] _ (R8 h2) (R8 (by omega))).li
  have nk:=lD hl;have hzn:((ks.zip vs).map (λp=>CL s1.heap p.1)).Nodup:=by
   have:(ks.zip vs).map (λp=>CL s1.heap p.1)=((ks.zip vs).map (·.1)).map (CL s1.heap):=by rw[Rq];rfl
   rw[this,nk,kz];exact hn
  have inj:=λa ha b hb' e'=>by
   have:=mD (xs:=(ks.zip vs).map λp=>(CL s1.heap p.1,p)) (by rw[Rq];exact hzn) (RS.mpr ⟨a,ha,rfl⟩) (RS.mpr ⟨b,hb',rfl⟩) e';exact(YF this).2
  refine⟨Y3,λa b=>aC (CL s1.heap a.1) (CL s1.heap b.1),?_,λh2 E' Q' hq=>vN (λv hv=>⟨_,kv v hv⟩) (by omega) hq,zW kv inj (by show X.A.units+1+1<cLine;omega),aD,λout hp hs=>?_⟩
  ·exact(SN.mp hzn).imp λh z=>h (by rw[z])
  ·have lz:(ks.zip vs).length=(kI.zip ts).length:=by rw[TP,TP];omega
   obtain⟨Z,pz,ez⟩:=y0 (·.1) hp ((ks.zip vs).zip (kI.zip ts)) (lD lz).symm;obtain⟨n1,d1,x2,I2⟩:=wr (λ_=>#[]) (.inr rfl) I1 aS;obtain⟨n2,d2,x3,I3⟩:=wr (λ_=>(out.map (·.2)).toArray) (.inl rfl) I2 (by rw[T5 _ _ _ _ (Rr hDS)];exact aD);have xa:=(x1.trans x2).trans x3;have rr:∀{t v},RT X.D cm m s.heap t v->RT X.D cm1 m1 ((s1.heap.update kS (Rh λ_=>(#[]:Array R3))).update D (Rh λ_=>(out.map (·.2)).toArray)) t v:=λr =>
    RT.fr (f:=F) (f':=X.fs) (λb h=>.inl (sF b h)) (λ_ _ e=>e) (RT.go (D:=⟨X.prog,X.w,F⟩) (X:={ X with fs:=F }) xa.toExtK I0.mem (nqc I0 gD gS) (RT.fr nn kp r))
   have mem:∀z∈Z,CL s1.heap z.1.1=z.2.1/\RT X.D cm1 m1 ((s1.heap.update kS (Rh λ_=>(#[]:Array R3))).update D (Rh λ_=>(out.map (·.2)).toArray)) z.2.2 z.1.2:=λz hz=>by
    obtain⟨i,i1,i2⟩:=Az (pz.mem_iff.mp hz);obtain⟨j,j2⟩:=RA.mp i1;obtain⟨k,k1⟩:=RA.mp i2;rw[W0]at j2;rw[W0]at k1;rw[TP]at j k;have a1:=(kr.2 i kI[i] ks[i] (R8 (TA k (Nat.min_le_left _ _))) (R8 (TA j (Nat.min_le_left _ _)))).li;have hiT:=TA k (Nat.min_le_right _ _);have hiI:=TA j (Nat.min_le_right _ _);rw[<-j2,<-k1];exact⟨vO a1,rr (r1.2 i _ _ (R8 hiT) (R8 hiI))⟩
   have es:Z.map (·.2)=iM (kI.zip ts):=by
    refine CY (by rw[lD (by omega)];exact hn) ?_ ?_
    ·have:=pz.map (·.2)
     rw[tG lz]at this;exact this
    ·refine SN.mpr ?_
     unfold Ts.cJ at hs;rw[ez]at hs;refine(SN.mp hs).imp_of_mem λ{a b} ha hb' h=>?_
     dsimp only at h;rw[(mem a ha).1,(mem b hb').1]at h;exact h
   have e1':(iM (kI.zip ts)).map (·.2)=Z.map λz=>z.2.2:=by rw[<-es,Rq];rfl
   have e2':out.map (·.2)=Z.map λz=>z.1.2:=by rw[ez,Rq];rfl
   have lo:(out.map (·.2)).length=vs.length:=by
    rw[R1,hp.length_eq,TP];omega
   have xf:bd X.fs X.gs X.tb cm m s cm1 m1 { s1 with heap:=(s1.heap.update kS (Rh λ_=>(#[]:Array R3))).update D (Rh λ_=>(out.map (·.2)).toArray) }:=(((bd.kept (d:=s.drawn) (t:=s.toks) kp).trans xa).weak λb hb n=>by
    rcases cc b hb with rfl|rfl|h
    ·exact gone _ hS
    ·exact gone _ hD
    ·exact Yv h n).fr nn
   have Mf:be X cm1 m1 ((s1.heap.update kS (Rh λ_=>(#[]:Array R3))).update D (Rh λ_=>(out.map (·.2)).toArray)):=I3.mem.fr (X:={ X with fs:=F }) (Y:=X) rfl (λb h=>.inl (sF b h)) (λ_ _ e=>e) id;refine fin D cm1 _ (out.map (·.2)) xf (I.go xf Mf I.nc) ?_ ⟨⟨n2,d2⟩,λz=>?_,by rw[SE,lo];exact Ts.eU (by omega)⟩ (C4 I3.mem dF) (gone _ hD)
   ·refine⟨by rw[e1',e2',R1,R1],λi t v h1 h2=>?_⟩
    rw[e1']at h1;rw[e2']at h2;rw[Rj]at h1;obtain⟨z,z1,z2⟩:=RY.mp h1;rw[Rj,z1]at h2;cases h2;cases z2;exact(mem z (SS z1)).2
   ·obtain⟨_,o,e,_⟩:=I.cO _ z
    rw[gone _ hD]at e;cases e
end
section
variable{X:Cx}{params:Xa}{body:SL}{scope:Uk}{pos p pl:Pos}{q y:Str}{call:Nat->List W->Mem->Res W}{gv:List T}{ea eb:Mi.E}{e:SL}{N':List Str}{keep:List Nat}{k:Nat}{kp:Pos}
theorem yD(hdp:X.A.depth<Vp)(hun:X.A.units+64<cLine)(LK:wf X.toBs)(hq:X.env.qual=q++".<locals>.")(hn:dg.contains q=true)(hcd:codeIn X.K X.env.code q=true)(hg:Gl X "sorted")(hm:X.mg "sorted" = Zy)(S:rA X y scope)(hdef:YS params X.env=([],[]))(hbind:∀cl pm cv ct x,Tf (kla_fn "<lambda>" (hZ q) params body scope cl pm cv ct) ⟨[x],[]⟩=pure [(y,x)])(hy:N'[0]?=Zz y)(hown:N'.length=1+keep.length)(hkeep:∀(i:Nat) x,N'[1+i]?=Zz x->∃j,keep[i]?=Zz j/\X.N[j]?=Zz x/\(x,Ry)∈scope.names)(ha:PE call gv X e ea)(he:notStar e=true)(hb:∀cl f cv fs n,PE call gv (mX { X with fs:=fs } N' q scope cl f cv n) body eb):
  PE call gv X (.Call (.Name "sorted" p) [e] [⟨Zz "key",.Lambda params body scope pl,kp⟩] pos) (.pF keep ea eb):=λenv cm m s I Q J h=>by
 rw[ev]at h;obtain⟨cl,hclos,hcl1,hcl2⟩:=oJ λx hx=>I.ok.has x (S.free x hx)
 refine Sy (dW (u:=.builtin "sorted") I hg hm (by decide +kernel) ?_ (by decide) (by decide));have st:=dB (env:=X.env) (es:=[]) he;refine callWith_kw ?_ (by rw[st];rfl) (by rw[st];rfl) rfl rfl;rw[st];refine Tk (ha.one I h λx v cm1 m1 s1 I1 x1 rv o1=>UT ?_);cases qv:view x m1 with
 |none=>rw[qv]at o1;exact o1.elim
 |some tx =>
 rw[qv]at o1;cases tx with
 |lst ts =>
  have o1:ap X X.tb cm1 m1 s1 ((dP (λenv m=>ev call gv eb env m) (keep.map λi=>(env[i]?).join) ts m1).bind λks m=>eO (gG ks ts) m) J (WK X Q):=o1;cases ql:dP (λenv m=>ev call gv eb env m) (keep.map λi=>(env[i]?).join) ts m1 with
  |stuck=>rw[ql]at o1;exact o1.elim
  |ok kI m2 =>
   rw[ql]at o1;have o1:ap X X.tb cm1 m1 s1 (eO (gG kI ts) m2) J (WK X Q):=o1;by_cases hc:kI.Nodup/\kI.length<=900000
   case neg =>
    unfold gG at o1;rw[Yr hc]at o1;exact o1.elim
   unfold gG at o1;rw[Yq hc]at o1;refine wpAny_evalAll_cons (R0 (Cb I1 LK hq hn hcd hdef hclos λf pm cv ct s2 x2 I2 nf gf cf=>R0 (Tq (R4 (wpAny_evalAll_nil ?_)))));obtain⟨a,us,rfl,g1,g2⟩:=aE I2.mem (rv.go x2 I1.mem I1.nc.q) qv;have ff:f∉X.fs:=λz=>by
    obtain⟨_,o,e,_⟩:=I1.cO f z;rw[nf]at e;cases e
   refine yK I2 LK gf ff cf S hcl1 hcl2 hdp hun (λz=>hbind _ _ _ _ z) hy hown hkeep (λfs n=>hb cl f cv fs n) g2 (by obtain⟨⟨n,e⟩,_,_⟩:=g1;exact⟨_,e,rfl,_,rfl⟩) ql hc.1 hc.2 λD cm3 s3 us3 x3 I3 r3 l3 n3 _=>?_
   exact o1.to (x2.trans x3) I3.mem _ (.lst l3 n3 (by simpa using r3.1) (by simpa using r3.2))
 |_=>exact o1.elim
noncomputable def AN(scope osc:Uk)(y:Str):Bool:=Ci scope osc&&!scope.isCoroutine&&!scope.isGenerator&&(scope.names.all λp=>p.2 != .cell)&&scope.names.lookup y==Zz .local
theorem BG(h:AN scope X.env.scope y=true):rA X y scope:=by
 unfold AN at h;simp only[RK]at h;obtain⟨⟨⟨⟨h1,h2⟩,h3⟩,h4⟩,h5⟩:=h;unfold Ci at h1;rw[RK]at h1;obtain⟨hk,h1⟩:=h1;have h1:=SX.mp h1;have h4:=SX.mp h4;refine⟨eq_of_beq hk,by simpa using h2,by simpa using h3,λx hx z=>?_,eq_of_beq h5,λp hp=>?_,λx hx=>?_⟩
 ·have:=h4 x hx
  rw[z]at this;cases this
 ·have:=h1 p hp
  simp only[RK]at this;exact eq_of_beq this.1
 ·have:=h1 _ hx
  simp only[RK,U2]at this;rcases this.2 with(h|h)|h
  ·cases h
  ·exact .inl (eq_of_beq h)
  ·exact .inr (eq_of_beq h)
theorem wR(h2:mu N' N own keep scope=true):N'.length=own+keep.length/\∀(i:Nat) x,N'[own+i]?=Zz x->∃j,keep[i]?=Zz j/\N[j]?=Zz x/\(x,Ry)∈scope.names:=by
 unfold mu at h2;rw[RK]at h2;obtain⟨hl,h2⟩:=h2;have h2:=SX.mp h2;refine⟨eq_of_beq hl,λi x e=>?_⟩;have hlen:=eq_of_beq hl;have hi:i<keep.length:=by
  have:=(RA.mp e).1;omega
 have h:=h2 i (Su.mpr hi);rw[e]at h;cases q:keep[i]? with
 |none=>rw[q]at h;cases h
 |some j =>
  rw[q]at h;have h:=h;rw[RK]at h;refine⟨j,rfl,eq_of_beq h.1,?_⟩;obtain⟨p,hp,hq⟩:=Vy.mp h.2;rw[RK]at hq;rw[<-eq_of_beq hq.1];have:p.2=Ry:=eq_of_beq hq.2;rw[<-this];exact hp
theorem qV(q:Str)(hr:eK k X.A)(hl:∀e,eK k (X.A.in1.in1.deeper e))(LK:wf X.toBs)(hcd:codeIn X.K X.env.code q=true)(hm:X.mg "sorted" = Zy)(h1:AN scope X.env.scope y=true)(h2:mu (y::N') X.N 1 keep scope=true)(hg:Gl X "sorted")(hq:X.env.qual=q++".<locals>.")(hn:dg.contains q=true)(hdef:YS params X.env=([],[]))(hbind:∀cl pm cv ct x,Tf (kla_fn "<lambda>" (hZ q) params body scope cl pm cv ct) ⟨[x],[]⟩=pure [(y,x)])(he:notStar e=true)(ha:PE call gv X e ea)(hb:∀cl f cv fs n,eK k (mX { X with fs:=fs } (y::N') q scope cl f cv n).A->PE call gv (mX { X with fs:=fs } (y::N') q scope cl f cv n) body eb):
  PE call gv X (.Call (.Name "sorted" p) [e] [⟨Zz "key",.Lambda params body scope pl,kp⟩] pos) (.pF keep ea eb):=
 yD hr.depth hr.units LK hq hn hcd hg hm (BG h1) hdef hbind rfl (wR h2).1 (wR h2).2 ha he λcl f cv fs n=>hb cl f cv fs n (hl _)
end
theorem eK.lam{k:Nat}{A:SV}{e e':Td}(r:eK (k+1) A):eK k ((A.deeper e).in1.in1.deeper e'):=
 ⟨r.hd,by have:=r.dp;show A.depth+1+1+3*k+5<_;omega,by have:=r.un;show A.units+3+1+1+3+16*k+200<_;omega⟩
structure IQ (K:V5):Prop where
 AS:∀q q' P,mV K q P->mV K q' P->q=q'
 hd:∀c q,codeIn K (.ref c) q=true->dg.contains q=true->∃P,WX K c P=true/\K.lookup P=Zy/\mV K q P
noncomputable def cR(ps:List RB)(K:V5):V5:=K.filter λp=>!ps.contains p.1
theorem cG:∀(K:V5),(cR ps K).lookup a=if ps.contains a then Zy else K.lookup a
 |[]=>by cases ps.contains a<;>rfl
 |(b,o)::K=>by
  have ih:=cG (ps:=ps) (a:=a) K;unfold cR at ih ⊢;rw[Tn];by_cases hb:a=b
  ·subst hb
   cases hc:ps.contains a with
   |true =>
    simp only[hc,TW,Ri,if_false,if_true]at ih ⊢;exact ih
   |false=>simp only[hc,Bool.not_false,if_true,Ri,if_false,Sk,beq_self_eq_true]
  ·have e:=Yu.mpr hb
   rw[Sk,e];cases hc:ps.contains b with
   |true =>
    simp only[hc,TW,Ri,if_false];exact ih
   |false =>
    simp only[hc,Bool.not_false,if_true,Sk,e];exact ih
theorem ji:∀{K:V5},K.lookup a=Zz o->(a,o)∈K
 |[],h=>by cases h
 |(b,u)::K,h=>by
  rw[Sk]at h;cases e:a==b with
  |true=>rw[e]at h;cases h;rw[eq_of_beq e];exact R6
  |false=>rw[e]at h;exact R2 _ (ji h)
noncomputable def mF(o:Obj):Option Str:=match o.data with
 |.fields vs=>match vs.toList with
  |_::.str n _::_=>Zz n
  |_=>Zy
 |_=>Zy
noncomputable def yw(ps:List RB)(K:V5):Bool:=K.all λp=>match mF p.2 with
 |some q=>!dg.contains q || (match eG p.2 with
  |some x=>ps.contains x.2&&WX K p.1 x.2&&K.all λp'=>match eG p'.2 with
   |some x'=>!decide (x'.2=x.2) || decide (x'.1=x.1)
   |none=>true
  |none=>false)
 |none=>true
section
variable{ps:List RB}{K:V5}(T:∀P∈ps,K.lookup P=Zz (tabObj #[]))
include T
theorem sT(l:K.lookup a=Zz o)(nd:o.data≠.fields #[]):(cR ps K).lookup a=Zz o:=by
 rw[cG,Yr λz=>?_]
 ·exact l
 ·have:=T a (Uw.mp z)
  rw[l]at this;cases this;exact nd rfl
theorem wU(e:codeIn K cd x=true):codeIn (cR ps K) cd x=true:=by
 cases cd with
 |ref c =>
  have:(cR ps K).lookup c=K.lookup c:=by
   rw[cG,Yr λz=>?_];have:=T c (Uw.mp z);unfold codeIn at e;dsimp only at e;rw[this]at e;cases e
  unfold codeIn at e ⊢;dsimp only at e ⊢;rw[this];exact e
 |_=>cases e
theorem xU(l:K.lookup f=Zz ⟨oc,od,.func fd,sl⟩):keepIn (cR ps K) (.ref f)=true:=by
 have:=sT T l (λz=>by cases z);unfold keepIn;dsimp only;rw[this]
omit T in
theorem gr(h:eG o=Zz (q,P)):mF o=Zz q/\dg.contains q=true:=by
 unfold eG at h;unfold mF;split at h
 ·rename_i vs hd
  try rw[hd]
  try dsimp only
  split at h
  ·rename_i q' t P' h1 h2
   split at h
   ·rename_i hc
    cases h;refine⟨?_,hc⟩;rw[<-RZ]at h1;cases hv:vs.toList with
    |nil=>rw[hv]at h1;cases h1
    |cons a r =>
     rw[hv]at h1;cases r with
     |nil=>cases h1
     |cons b r =>
      have h1:=h1;cases h1;rfl
   ·cases h
  ·cases h
 ·cases h
theorem FF(B:yw ps K=true):IQ (cR ps K):=by
 have B:=SX.mp B;have at':∀{c:RB}{o:Obj}{q:Str},(cR ps K).lookup c=Zz o->mF o=Zz q->dg.contains q=true->∃x,eG o=Zz x/\ps.contains x.2=true/\WX K c x.2=true/\∀p∈K,∀x',eG p.2=Zz x'->x'.2=x.2->x'.1=x.1:=λ{c o q} l hq hn=>by
  rw[cG]at l;split at l
  ·cases l
  ·have b:=B (c,o) (ji l)
   rw[hq]at b;dsimp only at b;rw[hn]at b;cases hx:eG o with
   |none=>rw[hx]at b;cases b
   |some x =>
    rw[hx]at b;simp only[TW,Xk,RK]at b;refine⟨x,rfl,b.1.1,b.1.2,λp hp x' hx' e=>?_⟩;have:=SX.mp b.2 p hp;rw[hx']at this;simp only[U2,Bool.not_eq_true',decide_eq_false_iff_not,decide_eq_true_eq]at this;exact this.resolve_left λz=>z e
 have tb:∀{q:Str}{P:RB},mV (cR ps K) q P->∃c o,(c,o)∈K/\(cR ps K).lookup c=Zz o/\eG o=Zz (q,P):=λ⟨c,o,h1,h2,_⟩=>by
  refine⟨c,o,?_,h1,h2⟩;rw[cG]at h1;split at h1
  ·cases h1
  ·exact ji h1
 refine⟨λq q' P h1 h2=>?_,λc q hc hn=>?_⟩
 ·obtain⟨c,o,m1,l1,t1⟩:=tb h1
  obtain⟨c',o',m2,l2,t2⟩:=tb h2;obtain⟨x,e1,_,_,u⟩:=at' l1 (gr t1).1 (gr t1).2;rw[t1]at e1;cases e1;exact(u _ m2 _ t2 rfl).symm
 ·have hl:∃o,(cR ps K).lookup c=Zz o/\mF o=Zz q:=by
   unfold codeIn at hc;dsimp only at hc;split at hc
   ·rename_i vs _ ho
    refine⟨_,ho,?_⟩;unfold mF;dsimp only;split at hc
    ·rename_i n t r hv
     rw[hv];rw[eq_of_beq hc]
    ·cases hc
   ·cases hc
  obtain⟨o,lo,no⟩:=hl;obtain⟨x,e1,e2,e3,_⟩:=at' lo no hn;obtain⟨q',P⟩:=x;obtain rfl:q'=q:=by
   have:=(gr e1).1;rw[no]at this;exact(Sj this).symm
  have hP:(cR ps K).lookup P=Zy:=by rw[cG,Yq e2]
  refine⟨P,?_,hP,c,o,lo,e1,hP⟩;have lc:(cR ps K).lookup c=K.lookup c:=by
   rw[cG]at lo ⊢;split at lo
   ·cases lo
   ·rename_i z;rw[Yr z]
  unfold WX at e3 ⊢;rw[lc];exact e3
end
noncomputable abbrev C1(P:S9)(w:SY)(K:V5)(mg:Str->Option R3)(ps:List RB)(base:SA):Bs:=⟨P,w,cR ps K,mg,base,ps,uL (cR ps K) ps base⟩
theorem ED{P:S9}{w:SY}{K:V5}{mg:Str->Option R3}{ps:List RB}{base:SA}(T:∀P∈ps,K.lookup P=Zz (tabObj #[]))(B:yw ps K=true):wf (C1 P w K mg ps base):=by
 have L:=FF T B;exact⟨rfl,L.AS,λc q h n=>(L.hd c q h n).imp λ_ h=>⟨h.1,h.2.2⟩⟩
theorem law_callT{P:S9}{w:SY}{K:V5}{ps:List RB}{mg mb:Str->Option R3}{s₁:R9}{a fa:RB}{vs:List R3}{ns:List Int}{k:Nat}{fd:UW}{x:Str}{call:List W->Mem->Res W}(KX:K.In s₁.heap)(T:∀P∈ps,K.lookup P=Zz (tabObj #[]))(C:∀P∈ps,∃c,WX K c P=true)(B:yw ps K=true)(hns:s₁.heap.Ns Rz mg)(hb:s₁.heap.Ns VX mb)(hbb:∀x:Str,x≠"__name__"->mb x=VC x)(hlim:s₁.heap.NoLimit)(hbm:∃bm ob,mg "__builtins__" = Zz (.ref bm)/\bm≠VX/\s₁.heap.get? bm=Zz ob/\ob.cls=.type "module"/\ob.dict=Zz VX/\ob.data=.plain)(hg:s₁.gens=#[])(ha:s₁.heap.get? a=Zz { cls:=.type "list",data:=.seq vs.toArray })(hi:TU vs ns)(hl:ns.length<=Ru)(hr:eK k YG)(F:∀base:SA,(cR ps K).In base->zX (C1 P w K mg ps base) call k fa fd [x])(hbind:∀(s:R9) (u:R3),Y2 s fd ⟨[u],[]⟩ [(x,u)])(hc:∃m,call [.t (.du ns)] []=.ok (.t (.bl true)) m):
  Ux (Rn P w) YG (.call (.ref fa) ⟨[.ref a],[]⟩) (λr s'=>r=.ok (.ret (.bool true))/\OldK s₁.heap s'.heap/\s'.os=s₁.os/\XW s'.gens) s₁:=by
 obtain⟨m',hc⟩:=hc;have sz:vs.length=ns.length:=(wQ hi).1.symm;have TH:=λP hP=>KX P _ (T P hP)
 have bas:∀{b:RB}{o:Obj},s₁.heap.get? b=Zz o->(∀v,o.data≠.fields v)->(YH s₁.heap ps).get? b=Zz o:=λ{b o} e d=>PySem.W.hideAll_get _ e λhm=>by
  have:=TH b hm;rw[this]at e;cases e;exact d _ rfl
 have nsK:∀{b:RB}{m:Str->Option R3},s₁.heap.Ns b m->(YH s₁.heap ps).Ns b m:=λ{b m} ⟨o,es,ep,e,d,r⟩=>⟨o,es,ep,bas e (λv z=>by rw[d]at z;cases z),d,r⟩
 have hKb:(cR ps K).In (YH s₁.heap ps):=λb o e=>by
  rw[cG]at e;split at e
  ·cases e
  ·rename_i z
   exact PySem.W.hideAll_get _ (KX b o e) λhm=>z (Uw.mpr hm)
 have tab:uL (cR ps K) ps (YH s₁.heap ps) s₁.heap:=by
  refine⟨λQ hQ=>⟨PySem.W.hideAll_none ps hQ,#[],TH Q hQ,trivial⟩,λq Q ⟨c,o,l,t,n⟩=>?_⟩;have hQ:Q∈ps:=by
   rw[cG]at l;split at l
   ·cases l
   ·have b:=SX.mp B (c,o) (ji l)
    rw[(gr t).1]at b;dsimp only at b;rw[(gr t).2,t]at b;simp only[TW,Xk,RK]at b;exact Uw.mp b.1.1
  exact⟨hQ,#[],TH Q hQ,trivial,λpos cv z=>by cases z⟩
 let X:Cx:={ C1 P w K mg ps (YH s₁.heap ps)with A:=YG,N:=[],env:=envOfC "" (ag (.Pass ⟨0,0,0,0⟩)) 0 0 .none,stack:=[],fs:=[],fn:=λ_=>false,calm:=true }
 have M:be X [] [] s₁.heap:=⟨rfl,λi j a p q e=>(by simp at e),λi p e=>(by simp at e),tab⟩
 have ca:Ca X [] [] s₁:=⟨⟨hKb,nsK hns,⟨mb,nsK hb,hbb⟩,let⟨mc,h1,h2⟩:=hlim;⟨mc,nsK h1,h2⟩,by
   obtain⟨bm,ob,b1,b2,b3,b4,b5,b6⟩:=hbm;exact⟨bm,ob,b1,b2,bas b3 (λv z=>by rw[b6]at z;cases z),b4,b5,b6⟩⟩,rfl,(λe h=>nomatch h),(λ_ t=>t.nc),(λ_ _ t k=>t.go k),(λ_ t b h=>(t.1 b h).2.elim λ_ h=>⟨_,h.1⟩),M,.of_eq hg,λ_ _ e=>PySem.W.of_hideAll ps e,λ_ h=>nomatch h⟩
 refine Ul (F _ hKb X rfl hr [] [] s₁ ca ⟨[.ref a],[]⟩ [.ref a] [.t (.du ns)] (.inr ⟨_,_,hc⟩) (hbind s₁ (.ref a)) rfl (.cons ?_ .nil) (λv s'=>v=.bool true/\OldK s₁.heap s'.heap/\s'.os=s₁.os/\XW s'.gens) (λ_ _=>False) ?_) λr s' h=>?_
 ·exact RT.du (x:=vs.toArray) ns ⟨_,_,ha,rfl,rfl,rfl,by simpa[sz]using hl⟩ (λi p e=>by simp at e) (λh=>nomatch h) (by simpa using wQ hi)
 ·rw[hc]
  intro cm' t x' M' v r;refine⟨r.IE,⟨λb o e=>?_,λb o e=>(x'.thr b o e).imp λ_ h=>h.1⟩,x'.os,x'.bare ca.bare⟩;by_cases hb:b∈ps
  ·have e':=TH b hb
   rw[e]at e';cases e';obtain⟨c,hc⟩:=C b hb;obtain⟨_,more,z,_⟩:=M'.tab.1 b hb;exact .inr (.inl ⟨((PySem.W.codeHd_of_K KX hc).tab e).isCodeTable,rfl,#[],more,rfl,by rw[z];simp⟩)
  obtain⟨_,o',e',q⟩:=x'.keep b o e hb (λi p e=>by simp at e);rcases q with rfl|⟨h,_⟩
  ·exact .inl e'
  ·cases h
 ·cases r with
  |error e=>exact h.elim
  |ok fl =>
   cases fl with
   |ret u=>obtain⟨rfl,h⟩:=h;exact⟨rfl,h⟩
   |next=>exact WW h
   |brk=>exact WW h
   |cont=>exact WW h
theorem CU{q:S9}{loose:List Str}{XP:(Str->Option R3)->SA->Prop}{YP:SY->SA->Prop}{d:DefRec}{l:Xp}{K:Ym->V5}{ps:List RB}{n k:Nat}{x:Str}{call:List W->Mem->Res W}(S:l.most=Zz n)(E:n<=Ru)(J:d.params.defaults=[])(R:eK k YG)(Z:∀(w:SY) (h:SA),YP w h->(K w.params).In h)(T:∀(w:SY) P,P∈ps->(K w.params).lookup P=Zz (tabObj #[]))(C:∀(w:SY) P,P∈ps->∃c,WX (K w.params) c P=true)(B:∀w:SY,yw ps (K w.params)=true)(F:∀(w:SY) (p:Str->Option R3) (z:RB) (h:SA),(K w.params).In h->h.Ns Rz p->p d.name=Zz (.ref z) ->
   ∃M:UW,(∀(s:R9) (u:R3),Y2 s M ⟨[u],[]⟩ [(x,u)])/\∀i:SA,(cR ps (K w.params)).In i->zX (C1 l.prog w (K w.params) p ps i) call k z M [x])(D:∀y:List Int,y.length<=n->∃m,call [.t (.du y)] []=.ok (.t (.bl true)) m):
  PySem.W.WalkO q loose XP YP l.row.toRowW d [] (λf N=>TE f N):=by
 refine Att.tU S J λw O r p mb z o pm cd doc a N y G Y ho hd V I t m j U=>?_
 have Q:=Z w _ Y;obtain⟨M,X,hF⟩:=F w p z _ Q G.T.g I;exact law_callT Q (T w) (C w) (B w) G.T.g G.T.b G.T.builtins G.T.nolimit G.T.bmain U t m (Ro j E) R hF X (D y j)
theorem insI_perm(x:List Int):∀l:List (List Int),(insI x l).Perm (x::l)
 |[]=>.refl _
 |y::r=>by
  rw[insI];split
  ·exact((insI_perm x r).cons y).trans (.swap _ _ _)
  ·exact .refl _
theorem sortI_perm:∀xs:List (List Int),(sortI xs).Perm xs
 |[]=>.refl _
 |x::r=>(insI_perm x _).trans ((sortI_perm r).cons x)
theorem xp(x:List Int):∀{l:List (List Int)},l.Pairwise (λa b=>aC b a=false)->(insI x l).Pairwise (λa b=>aC b a=false)
 |[],_=>Sb _ _
 |y::r,h=>by
  rw[insI];obtain⟨h1,h2⟩:=Rv.mp h;split
  ·rename_i q
   refine Rv.mpr ⟨λz hz=>?_,xp x h2⟩;rcases R5.mp ((insI_perm x r).mem_iff.mp hz)with rfl|hz
   ·exact c9 q
   ·exact h1 z hz
  ·rename_i q
   have q:aC y x=false:=by simpa using q
   refine Rv.mpr ⟨λz hz=>?_,h⟩;rcases R5.mp hz with rfl|hz
   ·exact q
   ·exact dG q (h1 z hz)
theorem uN:∀xs:List (List Int),(sortI xs).Pairwise (λa b=>aC b a=false)
 |[]=>.nil
 |x::r=>xp x (uN r)
theorem uS(hp:ys.Perm xs)(hw:ys.Pairwise (λa b=>aC b a=false)):ys=sortI xs:=
 Uc (λa b _ _ h1 h2=>cQ h2 h1) hw (uN xs) (hp.trans (sortI_perm xs).symm)
section
open PySem.W
variable{prog:S9}{w:SY}{A:SV}{E:R3->R9->Prop}{s:R9}
theorem w6{fin:Bool}:∀{vs ws:List R3}{ns ms:List Int}(i:Nat),TU vs ns->TU ws ms->fin=decide (ns.length<ms.length)->Q (aC ns ms) s->KatLex prog w A true fin Q (vs.zip ws) i s
 |_,_,_,_,i,.nil,hw,hf,h=>by
  refine kat_nil ?_;rw[hf];cases hw with
  |nil=>exact h
  |cons c u hw=>exact h
 |_,_,_,_,i,.cons a t hv,.nil,hf,h=>by
  refine kat_nil ?_;rw[hf];exact h
 |_,_,_,_,i,.cons a t hv,.cons c u hw,hf,h=>by
  refine kat_cons (Wo ?_);rw[aC]at h;cases q:(a==c)with
  |true =>
   rw[Yq (eq_of_beq q)]at h;exact kat_yes (w6 (i+1) hv hw (by rw[hf];simp) h)
  |false =>
   rw[Yr (by simpa using q)]at h;refine kat_no ?_;cases z:(true&&i==0)with
   |true=>exact oneLt_int h
   |false=>exact kat_one _ _ (lt_int h)
def TI(h:SA)(v:R3)(k:List Int):Prop:=∃a o its n,v=.ref a/\h.get? a=Zz o/\o.cls=.type "tuple"/\o.data=.seq its n/\TU its.toList k
theorem TI.keep(t:TI h v k)(kp:∀b o,h.get? b=Zz o->h'.get? b=Zz o):TI h' v k:=by
 obtain⟨a,o,its,n,e1,e2,e3⟩:=t;exact⟨a,o,its,n,e1,kp _ _ e2,e3⟩
theorem AI{kf:R3->List Int}(hv:∀v∈vs,TI s.heap v (kf v))(inj:∀v∈vs,∀u∈vs,kf v=kf u->v=u)(h':SA)(kp:∀b o,s.heap.get? b=Zz o->h'.get? b=Zz o):
  Ts.gH prog w A { s with heap:=h' } (tuples' true) (λx=>x∈(Uo vs).toList) (λx y=>aC (kf x.1) (kf y.1)):=by
 have mm:∀{x:RX},x∈(Uo vs).toList->x.1=x.2/\x.1∈vs:=λh=>by rw[Uh]at h;exact Y4 h
 refine⟨λx y hx hy E Q q=>?_,λx y z _ _ _=>dG,λx y _ _=>c9,λx y hx hy h1 h2=>?_⟩
 ·obtain⟨a,o,its,n,e1,e2,e3,e4,e5⟩:=(hv _ (mm hx).2).keep kp
  obtain⟨b,p,jts,k,f1,f2,f3,f4,f5⟩:=(hv _ (mm hy).2).keep kp;rw[e1,f1];refine kat_lt e2 e4 f2 f4 (w6 0 e5 f5 ?_ q);rw[<-e5.length,<-f5.length];simp
 ·have:=inj _ (mm hx).2 _ (mm hy).2 (cQ h1 h2)
  exact Xz this (by rw[<-(mm hx).1,<-(mm hy).1];exact this)
theorem zA{vs:List R3}{kf:R3->List Int}(hv:∀v∈vs,TI s.heap v (kf v))(hne:∀v∈vs,kf v≠[])(h0:0<vs.length){Q:TX->R9->Prop}(h:Q (tuples' true) s):RJ (Rn prog w) A (XK vs.toArray) Q E s:=by
 obtain⟨fs,hf,hfi,hl⟩:∃fs,KatTups s.heap vs fs/\(∀v∈fs,∃n t,v=XV n t)/\fs.length=vs.length:=by
  clear h0 h
  induction vs with
  |nil=>exact⟨[],.nil,λv hv=>by simp at hv,rfl⟩
  |cons v vs ih =>
   obtain⟨fs,h1,h2,h3⟩:=ih (λu hu=>hv u (R2 _ hu)) (λu hu=>hne u (R2 _ hu));obtain⟨a,o,its,n,rfl,e2,e3,e4,e5⟩:=hv v R6;have hn:=hne _ R6;obtain⟨f,t,e6⟩:∃f t,its[0]?=Zz (XV f t):=by
    rw[<-RZ];cases q:kf (.ref a)with
    |nil=>exact Yv q hn
    |cons i r =>
     rw[q]at e5;generalize its.toList=l at e5;cases e5 with
     |cons i t _=>exact⟨i,t,rfl⟩
   refine⟨_::fs,.cons e2 e3 e4 e6 h1,λu hu=>?_,by simp[h3]⟩;rcases R5.mp hu with rfl|hu
   ·exact⟨f,t,rfl⟩
   ·exact h2 u hu
 refine kat_kind (T:=.type "int") hf (by omega) (λv hv=>?_) (by decide) h;obtain⟨n,t,rfl⟩:=hfi v hv;exact .now
theorem IntsAre.inj:∀{vs:List R3}{ns ms:List Int},TU vs ns->TU vs ms->ns=ms
 |_,_,_,.nil,.nil=>rfl
 |_,_,_,.cons a t h,.cons _ _ h2=>by rw[IntsAre.inj h h2]
theorem TI.inj(t:TI h v k)(u:TI h v l):k=l:=by
 obtain⟨a,o,its,n,rfl,e2,e3,e4,e5⟩:=t;obtain⟨b,p,jts,m,f1,f2,f3,f4,f5⟩:=u;cases f1;rw[e2]at f2;cases f2;rw[e4]at f4;cases f4;exact Mi.IntsAre.inj e5 f5
open Classical in
noncomputable def xT(h:SA)(v:R3):List Int:=if p:∃k,TI h v k then p.choose else[]
theorem Cp(t:TI h v k):xT h v=k:=by
 unfold xT;rw[dif_pos ⟨k,t⟩];exact(Exists.choose_spec (⟨k,t⟩:∃k,TI h v k)).inj t
end
theorem xy:∀{ts:List T}{ks:List (List Int)},jN ts=Zz ks->ts=ks.map aw
 |[],_,h=>by cases h;rfl
 |t::r,ks,h=>by
  have h:((xd t).bind λk=>(jN r).map (k::·))=Zz ks:=h;cases t with
  |tup us =>
   have h:((cn us).bind λk=>(jN r).map (k::·))=Zz ks:=h;cases q1:cn us with
   |none=>rw[q1]at h;cases h
   |some k =>
    rw[q1]at h;have h:(jN r).map (k::·)=Zz ks:=h;cases q2:jN r with
    |none=>rw[q2]at h;cases h
    |some ls=>rw[q2]at h;cases h;rw[fF q1,xy q2];rfl
  |_=>cases h
theorem eJ{α β:Type}{f:α->β}{l:List α}(h:(l.map f).Nodup):l.Nodup:=(SN.mp h).imp λq e=>q (congrArg f e)
theorem RT.ti{D:Dm}{cm:List RB}{m:Mem}{h:SA}{k:List Int}{v:R3}(r:RT D cm m h (aw k) v):TI h v k:=by
 unfold aw at r;cases r with
 |tup p f el r =>
  obtain⟨o,n,e,c,d,_⟩:=p;exact⟨_,o,_,n,rfl,e,c,d,fD ⟨el,r⟩⟩
section
variable{X:Cx}{env:Mi.Env}{cm:List RB}{m:Mem}{s:R9}{J Q:VK}{A:SV}{E:VK}{us:List R3}{ks:List (List Int)}{l:RB}{call:Nat->List W->Mem->Res W}{gv:List T}{e:SL}{es:List SL}{L:Es}{pos p:Pos}{D:Dm}{ns:List Int}
theorem zi(P:eS D cm m s.heap (ks.map aw) us)(hl:s.heap.IsList l us.toArray)(hz:us.length<=900000)(hN:ks.Nodup)(hne:(ks.all λk=>!k.isEmpty)=true)(h:∀out:List R3,eS D cm m s.heap ((sortI ks).map aw) out->Q (.ref (s.heap.objs.size+1)) { s with heap:=Y7 s.heap us out.toArray }):
  RJ (Rn X.prog X.w) A (TE (.builtin "sorted") [.ref l]) Q E s:=by
 have hv:∀u∈us,TI s.heap u (xT s.heap u)/\xT s.heap u∈ks/\RT D cm m s.heap (aw (xT s.heap u)) u:=λu hu=>by
  obtain⟨i,hi,rfl⟩:=Sf hu;have hk:i<ks.length:=by have:=P.1;rw[R1]at this;omega
  have r:=P.2 i (aw ks[i]) us[i] (by rw[Rj,R8 hk];rfl) (R8 hi);rw[Cp r.ti];exact⟨r.ti,Ti hk,r⟩
 have hm:us.map (xT s.heap)=ks:=by
  refine X1 (by have:=P.1;rw[R1]at this ⊢;omega) λi h1 h2=>?_
  rw[List.getElem_map];have hi:i<us.length:=by simpa using h1
  exact Cp (P.2 i (aw ks[i]) us[i] (by rw[Rj,R8 h2];rfl) (R8 hi)).ti
 have nd:(us.map (xT s.heap)).Nodup:=by rw[hm];exact hN
 have inj:∀v∈us,∀u∈us,xT s.heap v=xT s.heap u->v=u:=λv hv' u hu e=>by
  obtain⟨i,hi,rfl⟩:=Sl.mp hv';obtain⟨j,hj,rfl⟩:=Sl.mp hu;have:=(Vu (h₀:=by simpa using hi) (h₁:=by simpa using hj) nd).mp (by simpa using e);subst this;rfl
 have ndu:us.Nodup:=eJ nd;have ndp:(Uo us).toList.Nodup:=by
  rw[Uh];have:(us.zip us).map (·.1)=us:=by rw[VF (RC _)]
  exact eJ (f:=(·.1)) (by rw[this];exact ndu)
 have hn0:∀v∈us,xT s.heap v≠[]:=λv hv' z=>by
  have:=SX.mp hne _ (hv v hv').2.1;rw[z]at this;cases this
 refine Ts.xZ (κ:=tuples' true) (B:=λx y=>aC (xT s.heap x.1) (xT s.heap y.1)) hl hz ndp (λh2 A' h' kp E' Q' q=>?_) (λA' h' kp=>AI (λv hv'=>(hv v hv').1) inj h' kp) λout hp hs=>?_
 ·exact zA (s:={ s with heap:=h' }) (λv hv'=>(hv v hv').1.keep kp) hn0 (by omega) q
 ·have mm:∀x∈out.toList,x.1=x.2/\x.1∈us:=λx hx=>by
   have:=hp.mem_iff.mp hx;rw[Uh]at this;exact Y4 this
  have e2:(out.map (·.2)).toList=out.toList.map (·.1):=by
   rw[Ws];exact Ud λx hx=>((mm x hx).1).symm
  have pu:(out.toList.map (·.1)).Perm us:=by
   have:=hp.map (·.1);rw[Uh,VF (RC _)]at this;exact this
  have ek:(out.toList.map (·.1)).map (xT s.heap)=sortI ks:=by
   refine uS ?_ ?_
   ·have:=pu.map (xT s.heap)
    rw[hm]at this;exact this
   ·rw[Rq]
    exact SN.mpr hs
  have fin:eS D cm m s.heap ((sortI ks).map aw) (out.toList.map (·.1)):=by
   rw[<-ek,Rq];refine⟨by rw[R1],λi t v a b=>?_⟩;rw[Rj,b]at a;cases a;exact(hv v (pu.mem_iff.mp (SS b))).2.2
  have:=h _ fin;rw[<-e2]at this;exact this
theorem pP{os:List R3}{l:List T}(I:Fr X env cm m s)(q:ap X X.tb cm m s (.ok (.t (.lst l)) m) J (WK X Q))(r:eS X.D cm m s.heap l os)(hz:os.length<=Ru):Q (.ref (s.heap.objs.size+1)) { s with heap:=Y7 s.heap us os.toArray }:=by
 obtain⟨ep,z⟩:=sortedAll_at s.heap us os.toArray;refine I.lst (n:=s.toks) (d:=s.drawn) q r (λb ob q=>sortedAll_old q) (Rt (UQ _)) ⟨⟨_,by simpa[seqObj]using z⟩,λhb=>?_,by simpa using hz⟩;obtain⟨_,o',ho',_⟩:=I.cO _ hb;exact Yv (TA (Rm ho') (UQ _)) (SU _)
theorem ug:CB X (.builtin "sorted") .qS:=λenv cm m s I ws us r Q J q=>by
 obtain⟨w,v,t,rr,rfl,rfl,r,e,c,q⟩:=oG r (di (by decide)) q;cases t with
 |lst l =>
  obtain⟨ks,q3,c⟩:=RF.mp (show((jN l).bind λks=>if ks.Nodup/\ks.length<=900000/\(ks.all λk=>!k.isEmpty)=true then Zz (T.lst ((sortI ks).map aw))else Zy)=Zz rr from c);obtain⟨⟨hN,hL,hne⟩,c⟩:=RE.mp c;cases c;cases xy q3;obtain⟨a,⟨x⟩,rfl,p,k⟩:=aE I.mem r e;have hl:x.length=ks.length:=by have:=k.1;rw[R1]at this;exact this.symm
  refine zi k p.pl.isList (by show x.length<=900000;omega) hN hne λout ro=>pP I q ro ?_
  have:=ro.1;have hsl:=TB;rw[R1,(sortI_perm ks).length_eq]at this;omega
 |_=>cases c
theorem vd(hg:Gl X "sorted")(hm:X.mg "sorted" = Zy)(ha:PA call gv X (e::es) L)(he:notStar e=true)(hpl:es.all notStar=true):PE call gv X (.Call (.Name "sorted" p) (e::es) [] pos) (.blt .qS L):=gY ug (by decide +kernel) hg hm ha (by decide) (by decide) he hpl
end
section
variable{X:Cx}{env:Mi.Env}{cm:List RB}{m:Mem}{s:R9}{J Q:VK}{A:SV}{us:List R3}{l:RB}{call:Nat->List W->Mem->Res W}{gv:List T}{e:SL}{es:List SL}{ea:Mi.E}{L:Es}{pos p:Pos}{D:Dm}{ns:List Int}{h:SA}
noncomputable def iv:R3->Int
 |.int n _=>n
 |_=>0
theorem AO:∀{us:List R3}{ns:List Int},TU us ns->us.map iv=ns
 |_,_,.nil=>rfl
 |_,_,.cons n t r=>by rw[RG,AO r];rfl
theorem ints_of:∀{us:List R3}{ns:List Int},TU us ns->∀os:List R3,(∀u∈os,u∈us)->TU os (os.map iv):=λ{us ns} h os ho=>by
 have mem:∀u∈us,∃n t,u=XV n t:=λu hu=>by
  clear ho
  induction h with
  |nil=>cases hu
  |cons n t r ih =>
   rcases R5.mp hu with rfl|hu
   ·exact⟨n,t,rfl⟩
   ·exact ih hu
 induction os with
 |nil=>exact .nil
 |cons u os ih =>
  obtain⟨n,t,rfl⟩:=mem u (ho u R6);exact .cons n t (ih λv hv=>ho v (R2 _ hv))
theorem GV(a b:Int):aC [a] [b]=decide (a<b):=by
 by_cases h:a=b
 ·subst h
  rw[aC,Yq rfl];simp[aC]
 ·rw[aC,Yr h]
theorem zC{E:R3->R9->Prop}(P:TU us ns)(hl:s.heap.IsList l us.toArray)(hz:us.length<=900000)(hN:ns.Nodup)(h:∀out:List R3,TU out ((sortI (ns.map λn=>[n])).map λk=>k.headD 0)->Q (.ref (s.heap.objs.size+1)) { s with heap:=Y7 s.heap us out.toArray }):
  RJ (Rn X.prog X.w) A (TE (.builtin "sorted") [.ref l]) Q E s:=by
 have hm:us.map iv=ns:=AO P;have nd:(us.map iv).Nodup:=by rw[hm];exact hN
 have inj:∀v∈us,∀u∈us,iv v=iv u->v=u:=λv hv' u hu e=>by
  obtain⟨i,hi,rfl⟩:=Sl.mp hv';obtain⟨j,hj,rfl⟩:=Sl.mp hu;have:=(Vu (h₀:=by simpa using hi) (h₁:=by simpa using hj) nd).mp (by simpa using e);subst this;rfl
 have ndu:us.Nodup:=eJ nd;have ndp:(Uo us).toList.Nodup:=by
  rw[Uh];have:(us.zip us).map (·.1)=us:=by rw[VF (RC _)]
  exact eJ (f:=(·.1)) (by rw[this];exact ndu)
 have mz:∀{x:RX},x∈(Uo us).toList->x.1=x.2/\x.1∈us:=λh=>by rw[Uh]at h;exact Y4 h
 have form:∀u∈us,∃t,u=XV (iv u) t:=λu hu=>by
  have:=ints_of P [u] (λv hv=>by rw[RQ.mp hv];exact hu);generalize e1:[u]=l1 at this;generalize e2:l1.map iv=l2 at this;cases this with
  |nil=>cases e1
  |cons n t r =>
   injection e1 with e1 _;subst e1;exact⟨t,rfl⟩
 refine Ts.xZ (κ:=Y3) (B:=λx y=>aC [iv x.1] [iv y.1]) hl hz ndp (λh2 A' h' kp E' Q' q=>?_) (λA' h' kp=>⟨λx y hx hy E Q q=>?_,λx y z _ _ _=>dG,λx y _ _=>c9,λx y hx hy h1 h2=>?_⟩) λout hp hs=>?_
 ·obtain⟨v1,v2,vr,rfl⟩:∃v1 v2 vr,us=v1::v2::vr:=by
   rcases us with _|⟨a,_|⟨b,r⟩⟩
   ·simp at h2
   ·simp at h2
   ·exact⟨a,b,r,rfl⟩
  rw[keyKind_ints P];exact R4 q
 ·obtain⟨t,e1⟩:=form _ (mz hx).2
  obtain⟨u,e2⟩:=form _ (mz hy).2;rw[GV]at q;rw[e1,e2];exact PySem.W.kat_lt_int q
 ·have e0:iv x.1=iv y.1:=by
   have:=cQ h1 h2;injection this
  have:=inj _ (mz hx).2 _ (mz hy).2 e0;exact Xz this (by rw[<-(mz hx).1,<-(mz hy).1];exact this)
 ·have mm:∀x∈out.toList,x.1=x.2/\x.1∈us:=λx hx=>mz (hp.mem_iff.mp hx)
  have e2:(out.map (·.2)).toList=out.toList.map (·.1):=by
   rw[Ws];exact Ud λx hx=>((mm x hx).1).symm
  have pu:(out.toList.map (·.1)).Perm us:=by
   have:=hp.map (·.1);rw[Uh,VF (RC _)]at this;exact this
  have ek:(out.toList.map (·.1)).map (λv=>[iv v])=sortI (ns.map λn=>[n]):=by
   refine uS ?_ ?_
   ·have:=pu.map (λv=>[iv v])
    rw[show us.map (λv=>[iv v])=ns.map λn=>[n] by rw[<-hm,Rq];rfl]at this;exact this
   ·rw[Rq]
    exact SN.mpr hs
  have i1:=ints_of P (out.toList.map (·.1)) λu hu=>pu.mem_iff.mp hu
  have e3:(out.toList.map (·.1)).map iv=(sortI (ns.map λn=>[n])).map λk=>k.headD 0:=by
   rw[<-ek,Rq,Rq,Rq];rfl
  rw[e3]at i1;have:=h (out.toList.map (·.1)) i1;rw[<-e2]at this;exact this
theorem xV:∀{ns:List Int}{us:List R3},TU us ns->eS D cm m h (ns.map .int) us
 |_,_,.nil=>.nil
 |_,_,.cons n t r=>.cons (.int n t) (xV r)
theorem uo:CB X (.builtin "sorted") .rh:=λenv cm m s I ws us r Q J q=>by
 obtain⟨w,v,t,rr,rfl,rfl,r,e,c,q⟩:=oG r (di (by decide)) q;cases t with
 |lst l =>
  obtain⟨ns,q3,c⟩:=RF.mp (show((cn l).bind λns=>if ns.Nodup/\ns.length<=900000 then Zz (T.lst ((sortI (ns.map λn=>[n])).map λk=>.int (k.headD 0)))else Zy)=Zz rr from c);obtain⟨⟨hN,hL⟩,c⟩:=RE.mp c;cases c;cases fF q3;obtain⟨a,⟨x⟩,rfl,p,k⟩:=aE I.mem r e;have hl:x.length=ns.length:=by have:=k.1;rw[R1]at this;exact this.symm
  refine zC (fD k) p.pl.isList (by show x.length<=900000;omega) hN λout ro=>?_
  have r2:=xV (D:=X.D) (cm:=cm) (m:=m) (h:=s.heap) ro;rw[Rq]at r2;refine pP I q r2 ?_;have:=ro.length;have hsl:=TB;rw[R1,(sortI_perm _).length_eq,R1]at this;omega
 |_=>cases c
theorem u6(hg:Gl X "sorted")(hm:X.mg "sorted" = Zy)(ha:PA call gv X (e::es) L)(he:notStar e=true)(hpl:es.all notStar=true):PE call gv X (.Call (.Name "sorted" p) (e::es) [] pos) (.blt .rh L):=gY uo (by decide +kernel) hg hm ha (by decide) (by decide) he hpl
end
section
variable{X:Cx}{call:Nat->List W->Mem->Res W}{gv:List T}{o e:SL}{E:Mi.E}{L:Es}{apos cpos:Pos}
theorem wp:CM X "list.extend" (ya .extend):=λenv cm m s I w ws v us r rs Q J h=>by
 obtain⟨i,a,m1,xs,ts,t,ys,y,rfl,I,e1,e2,p,q,rs,e,h⟩:=oB (λ_ _ _=>rfl) (λ_ _ _=>rfl) I r rs h;have one:∃zs,ts=[.lst zs]:=by
  rcases ts with _|⟨t,_|⟨t',ts⟩⟩
  ·cases e
  ·cases t<;>first|exact⟨_,rfl⟩|cases e
  ·cases t<;>cases e
 obtain⟨zs,rfl⟩:=one;obtain⟨hl,e⟩:=RE.mp (show(if xs.length+zs.length<=lim then Zz (T.non,xs++zs)else Zy)=Zz (t,ys)from e);cases e;obtain⟨u,us,rfl,r1,r0⟩:=rs.inv;obtain rfl:=RR.mp r0.1.symm;cases r1 with
 |@lst b z _ p2 n2 el rz =>
  obtain⟨⟨n2,e4⟩,_,hz2⟩:=p2;obtain⟨⟨n,e3⟩,_,hz⟩:=id p;have hq:=q.1;simp only[RD]at hq el;have hn:=line;have hsz:y.size+z.size<=Ru:=by omega
  have hlong:¬(!y.isEmpty&&UZ (y.size+z.size))=true:=by
   rw[uV hsz,Bool.and_false];exact RL
  obtain⟨x,I2⟩:=im (f:=λx=>x++z) (y':=y++z) (n:=s.toks) I e1 e2 p rfl (by rw[Array.size_append];omega) (by rw[SR];exact q.app ⟨by simpa using el,rz⟩);exact Tl F.slot_list_extend ⟨_,e3,rfl⟩ F.entry_list_extend (F.args_list_extend_2 _ _) (AutoSeq1.list_extend_list_list_0 a y n b z n2 hlong (by omega) (by omega)) ⟨e3,e4,h.to x I2.mem _ .non⟩
theorem wN(z:PE call gv X o E)(A:PA call gv X [e] L)(b:VN o "extend" X.env (eval o X.env)=eval o X.env:=by rfl)(a:(apos.endLine==cpos.line)=true:=by rfl)(k:notStar e=true:=by rfl):PE call gv X (.Call (.Attribute o "extend" apos) [e] [] cpos) (.n8 .extend E L):=pM (b:=.extend) U0 PySem.F.slot_list_extend PySem.F.type_list_extend wp (λ_ _=>by rw[ev]) (r8 λ_ _=>rfl) z A b (Et k) a k rfl
end
section
variable{X:Cx}{D:Dm}{cm:List RB}{m:Mem}{h:SA}{call:Nat->List W->Mem->Res W}{gv:List T}{a b:SL}{A B:Mi.E}{pos:Pos}{v:R3}{ks:List L2.Key}{ts:List T}{neg:Bool}
theorem sM(env:Mi.Env)(m:Mem):evs call gv (.cons A (.cons B .nil)) env m=(ev call gv A env m).bind λw m=>(ev call gv B env m).bind λu m=>.ok [w,u] m:=by
 rw[evs]
 congr 1
 funext w m
 rw[kU,bO];rfl
theorem RT.IA(r:RT D cm m h (.dct ks ts) v):∃a us,v=.ref a/\Ht D h a (ks.zip us)/\ks.length=us.length/\eS D cm m h ts us:=by
 cases r with
 |dct p n e1 e2 r=>exact⟨_,_,rfl,p,e1,e2,r⟩
theorem Bh(ha:PE call gv X a A)(hb:PE call gv X b B)(hs:H8 b)(_:X.A.units+64<cLine):PE call gv X (.Subscript a b pos) (.blt .nj (.cons A (.cons B .nil))):=λenv cm m s I Q J h=>by
 rw[ev,sM,bO]at h;simp only[bO]at h;refine DT PySem.F.slot_dict_getitem.lookup hs (ha.two hb I h λw u v z c1 m1 s1 I1 x r1 r2 h=>?_);have h:ap X X.tb c1 m1 s1 (eO ((views [w,u] m1).bind λl=>cM .nj l) m1) J (WK X Q):=h;obtain⟨t,e,h⟩:=dE h;obtain⟨l,e1,e2⟩:=RF.mp e;have e2:BL l=Zz t:=e2;unfold BL at e2;split at e2
 rotate_left
 ·cases e2
 rename_i ks vs k q;obtain⟨_,_,e3,e4,e5⟩:=eZ e1;cases e3;obtain⟨_,e3,e6⟩:=gh e5;cases e3;obtain⟨kk,e7,e8⟩:=RF.mp e2;obtain⟨ad,us,rfl,⟨_,_,dd,_⟩,l,ra⟩:=(al r1 e4).IA;rcases yl (ks:=ks) ra kk with⟨t',uu,f1,f2,f3⟩|⟨f1,_⟩
 ·rw[e8]at f1;cases f1
  exact⟨dd.typeIs,wpAny_getItem_of (key_is r2 e6 e7) dd.mapOf f2 (h.to (I1.up (g:=s1.heap) (d:=s1.drawn) λ_ _ e=>e).1 (I1.up (ch:=[]) (g:=s1.heap) (t:=s1.toks+1) (d:=s1.drawn) λ_ _ e=>e).2.mem _ f3)⟩
 ·rw[e8]at f1;cases f1
end
theorem compTurn_dict(hg:gens[d]?=Zz ⟨target,iter,ifs,0⟩)(hn:gens[d+1]?=Zy):
  Vo (.DictComp k v gens scope pos) d it (.ref a) env=(do
   VR iter.pos
   match <-pyNext it with
   |none=>pure (.done .next)
   |some x =>
    Te target it x
    assign target env x
    let mut ok:=true
    for c in ifs do
     if ok then ok <-isTrue c env (eval c env)
    if ok then
     (do
      let kv <-eval k env
      let vv <-XY [kv] (eval v env)
      VR { k.pos with endLine:=v.pos.endLine,endCol:=v.pos.endCol }
      XY [kv,vv] (dictSet a kv vv))
    again (.compLoop (.DictComp k v gens scope pos) d it (.ref a) env)):=by
 unfold Vo;simp only[hg,hn];rfl
inductive jJ:List R3->List (L2.Key×R3)->Prop
 |nil:jJ [] []
 |cons {vs ps}(kk:L2.Key) (kv v:R3):L2.mH kk kv=true->jJ vs ps->jJ (kv::v::vs) ((kk,v)::ps)
theorem jJ.snoc{vs:List R3}{ps:List (L2.Key×R3)}{kk:L2.Key}{kv v:R3}(f:jJ vs ps)(h:L2.mH kk kv=true):jJ (vs++[kv,v]) (ps++[(kk,v)]):=by
 induction f with
 |nil=>exact .cons kk kv v h .nil
 |cons a b c d _ ih=>exact .cons a b c d ih
theorem jJ.len{vs:List R3}{ps:List (L2.Key×R3)}(f:jJ vs ps):vs.length=2*ps.length:=by
 induction f with
 |nil=>rfl
 |cons kk kv v _ _ ih=>simp only[Rp];omega
theorem mS(ps:List (L2.Key×R3))(p:L2.Key×R3):merged [] (ps++[p])=stored (merged [] ps) p.1 p.2:=by
 unfold merged;rw[Wj];rfl
def DD(P:S9)(w:SY)(D:RB)(h:SA)(vs:List R3):Prop:=∃ps,jJ vs ps/\(merged [] ps).length<=ps.length/\h.DictOf (L2.bx P w) D (merged [] ps)
theorem DictOf.obj{P:S9}{w:SY}{h:SA}{D:RB}{us:List (L2.Key×R3)}(d:h.DictOf (L2.bx P w) D us):∃o es ep,h.get? D=Zz o/\o.data=.dict es ep:=by
 obtain⟨o,es,ep,e,_,hd,_⟩:=d;exact⟨o,es,ep,e,hd⟩
theorem yI{P:S9}{w:SY}{D:RB}{f:List RB}(hD:D∈f):vL f D (DD P w D):=⟨λ⟨_,_,_,d⟩=>(by
 obtain⟨o,es,ep,e,hd⟩:=DictOf.obj d;refine⟨o,e,λk=>?_,(λv z=>by rw[hd]at z;cases z),λv z=>(by rw[hd]at z;cases z)⟩;cases k with
 |seq x n z=>rw[hd]at z;cases z
 |dict x n z n'=>exact n' hD
 |ref C v z1 z=>rw[hd]at z;cases z
 |trace v z1 z=>rw[hd]at z;cases z),λ⟨ps,f,l,o,es,ep,e,t⟩ k=>⟨ps,f,l,o,es,ep,k o e,t⟩⟩
theorem ww(ps:List (L2.Key×R3))(k:L2.Key)(v:R3):(stored ps k v).length<=ps.length+1:=by
 unfold stored;split
 ·rw[R1];omega
 ·rw[RI];exact RC _
section
variable{Y:Cx}{call:Nat->List W->Mem->Res W}{gv:List T}{ke ve target iter:SL}{gens:List Ub}{scope:Uk}{pos:Pos}{D:RB}{ea eb:Mi.E}{ifs:List SL}{tg:Tg}{cs:Es}
theorem yN(hc:Y.calm=true)(hD:D∈Y.fs)(hDo:D∉Y.own)(hs:D∉frs Y.stack)(hg:gens[0]?=Zz ⟨target,iter,ifs,0⟩)(hnx:gens[1]?=Zy)(pg:PG Y target tg)(pt:E5 call gv Y cs ifs)(pk:PE call gv Y ke ea)(pv:PE call gv Y ve eb){s0 s:R9}{cm0 cm:List RB}{m0 m m':Mem}{env:Mi.Env}{ts out:List T}{it:RB}{fp:List RB}{vs:List R3}(x0:bd Y.fs Y.gs (D::Y.own) cm0 m0 s0 cm m s)(tk:rU fp target)(hDf:D∉fp)(fr:∀b∈fp,s0.heap.get? b=Zy)(I:Fr Y env cm m s)(on:On Y cm m s.heap it fp 0 ts)(ha:DD Y.prog Y.w D s.heap vs)(hn:∀i∈qC tg++fv (.jI ea eb),∀w,env[i]?≠Zz (Zz w))(ok:b7 (turnF call gv cs (.jI ea eb)) tg ts env m=.ok out m')(hl:vs.length+out.length<=lim):
  Ux Y.M Y.A (.compLoop (.DictComp ke ve gens scope pos) 0 (.ref it) (.ref D) Y.env) (λr s'=>r=.ok .next/\vz Y (DD Y.prog Y.w D) D env vs cm0 m0 s0 out m' s') s:=by
 have hz:=lN;have K:=yI (P:=Y.prog) (w:=Y.w) hD;have tbo:∀b∈Y.tb,b∈D::Y.own:=λb hb=>R2 _ (bQ b hb)
 have neL:D≠Y.env.locals:=λz=>hDo (z▸R6)
 refine lR hc K hD hDo hs (Pt:=λ_=>True) rfl rfl (compTurn_dict hg hnx) pg pt (λ_ _ z=>by simp[fv]at z) ?_ x0 tk hDf fr I on ha hn ok hl (λ_ _=>trivial);intro s cm m m' env out vs J I ha hn ok hl _;obtain⟨w,m1,j,ok2⟩:=ar ok;obtain⟨rfl,rfl⟩:=iY ok2;rw[ev]at j;obtain⟨w1,m2,ok3,ok4⟩:=ar j;obtain⟨w2,m3,ok5,ok6⟩:=ar ok4;cases w1 with
 |t t =>
  dsimp only at ok6;cases hk:yM t with
  |none=>rw[hk]at ok6;cases ok6
  |some kk =>
   rw[hk]at ok6;obtain⟨u,m4,ok7,ok8⟩:=ar ok6;cases ok8;refine R0 (R0 (mW (pk.run I ok3) λkv s1 ⟨cm1,x1,I1,r1⟩=>R0 (SH (mW (pv.run I1 ok5) λvv s2 ⟨cm2,x2,I2,r2⟩=>?_))));obtain⟨x3,I3,r3⟩:=pV I2 r2 ok7;have nt:D∉Y.tb:=λz=>hDo (bQ _ z)
   have a3:=K.go I2 hD x3.toExtK nt hs (K.go I1 hD x2.toExtK nt hs (K.go I hD x1.toExtK nt hs ha));have n3:=oY K I3 a3;have fl:=K.obj a3;obtain⟨ps,f1,f2,dd⟩:=a3;have hlp:=f1.len;have rk:RW Y.D cm2 _ s2.heap (.t t) kv:=(r1.go x2.toExtK I1.mem I1.nc.q).go x3.toExtK I2.mem I2.nc.q;have ek:=key_is (P:=Y.prog) (W:=Y.w) rk (show view (.t t) _=Zz t from rfl) hk;obtain⟨o1,es1,ep1,e1,d1⟩:=DictOf.obj dd;refine R0 (Tq (SH (wpAny_dictSet_pairs ek dd (λh' hd' sb=>R4 ?_) (by simp at hl;omega))));obtain⟨o2,es2,ep2,e2,d2⟩:=DictOf.obj hd';obtain⟨x4,I4⟩:=I3.acc (ch:=Y.own) (tk:=s2.toks+1) hD neL fl (λb o hb eb=>(sb.2 b hb).trans eb) ⟨o2,e2,⟨(λv z=>by rw[d2]at z;cases z),λz=>Yv z hs⟩,λo e' n x n' z=>by rw[d2]at z;cases z⟩;exact⟨rfl,cm2,[kv,vv],(((x1.trans x2).trans x3).sub tbo).trans x4,I4,.cons (RW.go (w:=.t t) x4.toExtK I3.mem n3 rk) (.cons (r3.go x4.toExtK I3.mem n3) .nil),ps++[(kk,vv)],f1.snoc ek,by
    rw[mS,RI];exact Ro (ww _ _ _) (Nat.add_le_add_right f2 1),by rw[mS];exact hd'⟩
 |_=>cases ok6
end
section
variable{X:Cx}{D:Dm}{cm:List RB}{m:Mem}{h:SA}{call:Nat->List W->Mem->Res W}{gv:List T}{k v target iter:SL}{ifs:List SL}{ea eb it:Mi.E}{cs:Es}{tg:Tg}{pos:Pos}{scope:Uk}{N':List Str}{own:Nat}{keep:List Nat}
theorem uT:∀{ts:List T}{p:List L2.Key×List T}{vs:List R3}{ps:List (L2.Key×R3)},jO ts=Zz p->eS D cm m h ts vs->jJ vs ps->p.1=ps.map (·.1)/\eS D cm m h p.2 (ps.map (·.2))
 |[],p,vs,ps,h,r,f=>by
  cases h;cases f with
  |nil=>exact⟨rfl,.nil⟩
  |cons _ _ _ _ _=>cases r.1
 |[_],_,_,_,h,_,_=>by cases h
 |k::v::ts,p,vs,ps,h,r,f=>by
  obtain⟨kv,y,rfl,r1,r⟩:=r.inv;obtain⟨vv,z,rfl,r2,r⟩:=r.inv;cases f with
  |cons kk _ _ hk f =>
   unfold jO at h;obtain⟨k',e1,e2⟩:=RF.mp h;obtain⟨q,e3,rfl⟩:=RY.mp e2;obtain⟨e4,e5⟩:=uT e3 r f;have e6:=(L2.bx D.P D.w).inj kv k' kk (key_is (w:=.t k) r1 rfl e1) hk;exact⟨by rw[RG,<-e4,e6],.cons r2 e5⟩
theorem rS{α β:Type}(ps:List (α×β)):(ps.map (·.1)).zip (ps.map (·.2))=ps:=by
 induction ps with
 |nil=>rfl
 |cons q r ih=>rw[RG,RG,Us,ih]
variable(call gv) in
def Dp(X:Cx)(N':List Str)(scope:Uk)(k v target:SL)(ifs:List SL)(tg:Tg)(cs:Es)(ea eb:Mi.E):Prop:=
 ∀(cl:List (Str×RB)) (C:RB) (F:List RB),PG (bf X N' scope cl C F) target tg/\E5 call gv (bf X N' scope cl C F) cs ifs/\PE call gv (bf X N' scope cl C F) k ea/\PE call gv (bf X N' scope cl C F) v eb
theorem zZ{P:Prop}(h1:Ci scope X.env.scope=true)(h2:mu N' X.N own keep scope=true)(pi:PI call gv true X target iter it)(fs:∀x,UV iter X.env x=pure x)(ins:P)(Hh:∀i∈qC tg,i<own):
 oO call gv X N' scope own keep target iter it tg (.jI ea eb) P:=t5 h1 h2 pi fs ins (λ_ _ z=>by simp[fv]at z) (by simpa[fv]using Hh)
theorem rB(hc:X.calm=true)(K:oO call gv X N' scope own keep target iter it tg (.jI ea eb) (Dp call gv X N' scope k v target ifs tg cs ea eb)):
  PE call gv X (.DictComp k v [⟨target,iter,ifs,0⟩] scope pos) (.blt .q6 (.cons (.comp own keep it tg cs (.jI ea eb)) .nil)):=λenv cm m s I Q J hp=>by
 rw[ev,kU]at hp;cases h:ev call gv (.comp own keep it tg cs (.jI ea eb)) env m with
 |stuck=>rw[h]at hp;exact hp.elim
 |ok w m' =>
  obtain⟨out,rfl⟩:=gc h;rw[h]at hp;obtain⟨t,e,hp⟩:=dE (show ap X X.tb cm m s (eO (pB out) m') J (WK X Q)from hp);unfold pB at e;obtain⟨p,hu,e⟩:=RF.mp e;obtain⟨⟨nd,le⟩,e⟩:=RE.mp e;cases e;rw[arm_eval_DictComp];refine lU (Acc:=DD X.prog X.w) hc K rfl rfl (λv z=>(by cases z)) (λ_ _ _=>rfl) (λ_ _ _=>rfl) (λh=>So h) (λh=>⟨[],.nil,RC _,_,#[],0,h,⟨rfl,rfl,rfl⟩,rfl,Rw (λ_ he=>by simp at he) ⟨Pairs.nil,Tu⟩⟩)
   (λcl C D F s0 s cm0 cm m0 m m' env ts it fp hDF hDo hDs x0 tk hDf fr I on ha hn ok hl =>
    yN (Y:=bf X N' scope cl C F) hc hDF hDo hDs rfl rfl (K.ins cl C F).1 (K.ins cl C F).2.1 (K.ins cl C F).2.2.1 (K.ins cl C F).2.2.2 x0 tk hDf fr I on ha hn ok (by rw[T2,X9];exact hl)) I h λD C s3 cm3 vs F=>⟨_,F.ns.choose_spec,λh' hs=>?_⟩
  obtain⟨x,nq,x5,I5⟩:=F.go I F.fr F.ext F.ns hs;obtain⟨ps,f1,_,dd⟩:=F.acc;obtain⟨e1,e2⟩:=uT hu F.rel f1;rw[e1]at nd;rw[WH ps nd]at dd;refine hp.to x5 I5.mem _ ((RT.go x F.fr.mem nq (t:=.dct p.1 p.2) (v:=.ref D) ?_).fr (f:=C::X.fs) (λb h=>.inl (R2 _ h)) λ_ _ e=>e);rw[e1]at le ⊢;refine .dct (x:=ps.map (·.2)) ⟨?_,Yu.mpr λz=>?_,?_,F.nf⟩ F.nl (by rw[R1,R1]) e2.1 e2.2
  ·rw[rS];rw[R1]at le;exact Ro le (by decide)
  ·have:=F.gl
   rw[z]at this;exact Yv this (by decide)
  ·rw[rS];exact dd
end
section
variable{prog:S9}{w:SY}{A:SV}{E:R3->R9->Prop}{s:R9}
theorem x9:∀(ns:List Int) (n:Int),pU n ns<=n/\(∀x∈ns,pU n ns<=x)/\pU n ns∈n::ns
 |[],n=>⟨Int.le_refl _,λx hx=>by simp at hx,by simp[pU]⟩
 |a::r,n=>by
  obtain⟨h1,h2,h3⟩:=x9 r (if a<n then a else n);have e:pU n (a::r)=pU (if a<n then a else n) r:=rfl;rw[e];by_cases h:a<n
  ·rw[Yq h]at h1 h2 h3 ⊢
   refine⟨by omega,λx hx=>?_,R2 _ h3⟩;rcases R5.mp hx with rfl|hx
   ·exact h1
   ·exact h2 x hx
  ·rw[Yr h]at h1 h2 h3 ⊢
   refine⟨h1,λx hx=>?_,?_⟩
   ·rcases R5.mp hx with rfl|hx
    ·omega
    ·exact h2 x hx
   ·rcases R5.mp h3 with h3|h3
    ·rw[h3];exact R6
    ·exact R2 _ (R2 _ h3)
theorem Ek{E:R3->R9->Prop}(hh:A.handled=Zy)(hl:s.heap.IsList l vs.toArray)(hi:TU vs (n::ns))(h:∀h' tk t',(∀b o,s.heap.get? b=Zz o->h'.get? b=Zz o)->Q (.int (pU n ns) t') { s with heap:=h',toks:=tk }):RJ (Rn prog w) A (TE (.builtin "min") [.ref l]) Q E s:=by
 obtain⟨xs,hx⟩:=hi.allInts.items;have hl':=hx▸hl;have e1:n::ns=xs.toList.map (·.1):=by
  rw[<-nums_intItems,<-hx];exact(hi.numsOf).symm
 have hsz:xs.size=ns.length+1:=by
  have:=congrArg W7 e1;simpa using this.symm
 have num:∀j,j<xs.size->numAt xs j=(n::ns).getD j 0:=λj hj=>by
  rw[e1];simp[numAt,Xc]
 refine min_intList hh hl' (by omega) λv h' tk hv hk=>?_
 obtain⟨t,rfl⟩:=intItems_at hv;obtain⟨b1,b2⟩:=argBest_lt (numAt xs) (xs.size-1);obtain⟨m1,m2,m3⟩:=x9 ns n;have key:numAt xs (argBest (λi j=>decide (numAt xs i<numAt xs j)) (xs.size-1))=pU n ns:=by
  refine Int.le_antisymm ?_ ?_
  ·obtain⟨j,hj,ej⟩:=Sf m3
   have hj':j<xs.size:=by rw[hsz];exact hj
   have:=b2 j (by omega);rw[num j hj']at this;rw[<-ej];rw[List.getD_eq_getElem?_getD,R8 hj]at this;exact this
  ·have hb:argBest (λi j=>decide (numAt xs i<numAt xs j)) (xs.size-1)<xs.size:=by omega
   rw[num _ hb];generalize argBest (λi j=>decide (numAt xs i<numAt xs j)) (xs.size-1)=b at hb;have hb':b<(n::ns).length:=by rw[Rp];omega
   have:(n::ns).getD b 0∈n::ns:=by
    rw[List.getD_eq_getElem?_getD,R8 hb'];exact Ti hb'
   rcases R5.mp this with e|e
   ·rw[e];exact m1
   ·exact m2 _ e
 rw[key];exact h h' tk t hk
end
section
variable{X:Cx}{D:Dm}{cm:List RB}{m:Mem}{s:R9}{h:SA}{J Q:VK}{call:Nat->List W->Mem->Res W}{gv:List T}{a b e o:SL}{es:List SL}{A B E:Mi.E}{L:Es}{pos p apos cpos:Pos}{v z:R3}{u w:W}{x y t:T}
theorem vb(hc:X.calm=true):CB X (.builtin "min") .u9:=λenv cm m s I ws us r Q J q=>by
 obtain⟨w,v,t,rr,rfl,rfl,r,e,c,q⟩:=oG r (di (by decide)) q;cases t with
 |lst l =>
  obtain⟨ns,q3,c⟩:=RF.mp (show wW l=Zz rr from c);cases ns with
  |nil=>cases c
  |cons n ns =>
   obtain⟨_,c⟩:=RE.mp (show(if ns.length<64 then Zz (T.int (pU n ns))else Zy)=Zz rr from c);cases c;cases fF q3;obtain⟨a,⟨x⟩,rfl,p,k⟩:=aE I.mem r e;exact Ek (I.ok.hd hc) p.pl.isList (fD (k:=n::ns) k) λh' tk t' hk=>q.to (I.up (g:=h') (t:=tk) (d:=s.drawn) hk).1 (I.up (g:=h') (t:=tk) (d:=s.drawn) (ch:=[]) hk).2.mem _ (.int _ _)
 |_=>cases c
theorem ze(hg:Gl X "min")(hm:X.mg "min" = Zy)(ha:PA call gv X (e::es) L)(he:notStar e=true)(hpl:es.all notStar=true)(hc:X.calm=true:=by rfl):PE call gv X (.Call (.Name "min" p) (e::es) [] pos) (.blt .u9 L):=gY (vb hc) (by decide +kernel) hg hm ha (by decide) (by decide) he hpl
theorem yX(hc:X.calm=true):CB X (.builtin "any") .any:=λenv cm m s I ws us r Q J q=>by
 obtain⟨w,v,t,rr,rfl,rfl,r,e,k,q⟩:=oG r (di (by decide)) q;have fin:∀{l:List T}{y:Array R3}{a:RB},(eV l).map (λd=>T.bl (d.any id))=Zz rr->eS X.D cm m s.heap l y.toList->(∃o,s.heap.get? a=Zz o)->∃b:List Bool,y=(b.map Vz).toArray/\a≠s.heap.objs.size /\
   TruthOf X.prog X.w X.A.in1 (λi v=>y[i]?=Zz v) (λi=>(b[i]?).getD false)/\∀(h':SA) (tk:Nat),(∀b o,s.heap.get? b=Zz o->h'.get? b=Zz o)->Q (.bool ((Rf y.size).any λi=>(b[i]?).getD false)) { s with heap:=h',toks:=tk }:=λ{l y a} k r ⟨o,ho⟩=>by
  obtain⟨b,q2,rfl⟩:=RY.mp k;obtain⟨y⟩:=y;obtain rfl:=pq r q2;refine⟨b,rfl,Rr (Rm ho),λi v s' Q' E' hP k=>?_,λh' tk kp=>?_⟩
  ·have hP:(b.map Vz)[i]?=Zz v:=by simpa using hP
   rw[Rj]at hP;obtain⟨c,qq,rfl⟩:=RY.mp hP;dsimp only at k;rw[qq]at k;exact Tz k
  ·have e:((Rf (b.map Vz).toArray.size).any λi=>(b[i]?).getD false)=b.any id:=by
    rw[SE,R1];have:=congrArg (λl=>l.any id) (Aw (α:=Nat) (λ_=>true) b false);rw[<-this,List.any_map];rfl
   rw[e];exact q.to (I.up (d:=s.drawn) kp).1 (I.up (ch:=[]) kp).2.mem _ (.bl _)
 cases t with
 |lst l =>
  obtain⟨a,y,rfl,p,r⟩:=aE I.mem r e;obtain⟨⟨n,ho⟩,_⟩:=id p;obtain⟨b,_,hn,tr,fin⟩:=fin (a:=a) k r ⟨_,ho⟩;have j:=p.pl.isList;exact call_any_walk (V0 j ⟨s.heap.objs.size,[s.heap.objs.size,a],[s.heap.objs.size],y.size,_,_,_,rfl,Vw (A:=X.A.in1) (I.ok.hd hc) _ a hn y,⟨⟨_,RM _ rfl,rfl,rfl⟩,j.push _⟩,tr,λh' tk hk=>fin h' tk (nQ hk)⟩)
 |tup l =>
  obtain⟨a,y,rfl,p,r⟩:=(al r e).iN;have j:=p.tup;obtain⟨o,n,ho,_⟩:=id p;obtain⟨b,_,hn,tr,fin⟩:=fin (a:=a) k r ⟨_,ho⟩;exact call_any_walk (WT j ⟨s.heap.objs.size,[s.heap.objs.size,a],[s.heap.objs.size],y.size,_,_,_,rfl,Wg (A:=X.A.in1) (I.ok.hd hc) _ a hn y,⟨⟨_,RM _ rfl,rfl,rfl⟩,(let⟨o,n,r⟩:=j;⟨o,R7 _ n,r⟩)⟩,tr,λh' tk hk=>fin h' tk (nQ hk)⟩)
 |_=>cases k
theorem CX(hg:Gl X "any")(hm:X.mg "any" = Zy)(ha:PA call gv X (e::es) L)(he:notStar e=true)(hpl:es.all notStar=true)(hc:X.calm=true:=by rfl):PE call gv X (.Call (.Name "any" p) (e::es) [] pos) (.blt .any L):=gY (yX hc) (by decide +kernel) hg hm ha (by decide) (by decide) he hpl
theorem yJ:CM X "list.index" (ya .index):=λenv cm m s I w ws v us r rs Q J h=>by
 obtain⟨x,ts,t,q1,q2,e,g⟩:=F8 h;clear h;have h:=g;clear g;unfold y6 at e;dsimp only at e;split at e
 ·rename_i ys
  obtain⟨x1,rfl,e⟩:=ju e;cases x1 with
  |int b =>
   obtain⟨ns,q3,e⟩:=RF.mp (show((cn ys).bind λns=>if ns.length<=lim then(ns.findIdx? (·==b)).map λk=>T.int (k:Int)else Zy)=Zz t from e);obtain⟨hz,e⟩:=RE.mp e;obtain⟨k,q5,rfl⟩:∃k,ns.findIdx? (·==b)=Zz k/\t=.int (k:Int):=by
    cases q5:ns.findIdx? (·==b)with
    |none=>rw[q5]at e;cases e
    |some k=>rw[q5]at e;cases e;exact⟨k,rfl,rfl⟩
   obtain⟨hk,f1,f2⟩:=List.findIdx?_eq_some_iff_getElem.mp q5;obtain⟨w1,rfl,q4⟩:=gh q2;obtain⟨v1,rfl,r1⟩:=nE rs;obtain⟨a,⟨y⟩,rfl,p,q⟩:=aE I.mem r q1;obtain⟨tu,rfl⟩:=(al r1 q4).fe;cases fF q3;obtain⟨⟨n,e1⟩,_,_⟩:=id p;have rv:=fD (k:=ns) q;have hl:ns.length=y.length:=by have:=q.1;rw[R1]at this;exact this
   have hlm:(lim:Nat)=1000000:=rfl;have val:∀j (hj:j<y.length),∃t',y[j]=.int (ns[j]'(by omega)) t':=λj hj=>by
    have:=q.2 j (.int (ns[j]'(by omega))) y[j] (by rw[Rj,R8 (by omega)];rfl) (R8 hj);exact this.fe
   refine Tl F.slot_list_index ⟨_,e1,rfl⟩ F.entry_list_index (F.args_list_index_2 _ _) (SeqAt.list_indexAt a y.toArray n Zy #[] (.int b tu) (λy=>match y with|.int c _=>c==b|_=>false) k (by simp;omega) (by omega) ?_ ?_) ⟨e1,λz hz=>?_,I.val h (.int _ _)⟩
   ·obtain⟨t',e1⟩:=val k (by omega)
    rw[List.getElem_toArray,e1];exact f1
   ·intro j hj hjk
    obtain⟨t',e1⟩:=val j (by simpa using hj);rw[List.getElem_toArray,e1];have:=f2 j hjk;simpa using this
   ·obtain⟨j,hj,rfl⟩:=Sf (show z∈y by simpa using hz)
    obtain⟨t',e1⟩:=val j hj;rw[e1];exact SeqAt.EqAt.int_int _ _ _ _
  |_=>cases e
 ·cases e
theorem Cg:Gk X .index "list":=λenv cm m s I w v r h=>by
 have h:(match view w m with|some (.lst _)=>true|_=>false)=true:=h;split at h
 ·obtain⟨a,x,rfl,⟨⟨n,e⟩,_⟩,_⟩:=aE I.mem r ‹_›
  exact⟨⟨_,e,rfl⟩,λb z=>by cases z;exact⟨_,e,rfl⟩⟩
 ·cases h
theorem zu(ho:PE call gv X o E)(ha:PA call gv X [e] L)(b:VN o "index" X.env (eval o X.env)=eval o X.env:=by rfl)(a:(apos.endLine==cpos.line)=true:=by rfl)(k:notStar e=true:=by rfl):PE call gv X (.Call (.Attribute o "index" apos) [e] [] cpos) (.n8 .index E L):=pM (b:=.index) U0 PySem.F.slot_list_index PySem.F.type_list_index yJ (λ_ _=>by rw[ev]) Cg ho ha b (Et k) a k rfl
theorem Ey(ha:PE call gv X a A)(hb:PE call gv X b B)(hm:Xe .Lt b=false)(hu:X.A.units+64<cLine):PT call gv X (.Compare a [.Lt] [b] pos) (.blt .G4 (.cons A (.cons B .nil))):=λenv cm m s I B' J h=>by
 have h:=h.Jd λw m' e=>by
  rw[ev,sM]at e;obtain⟨ws,c,_,e⟩:=ar e;unfold eO at e;split at e<;>cases e;rename_i e;obtain⟨l,_,e⟩:=RF.mp e;have e:AP l=Zz _:=e;unfold AP at e;split at e
  ·obtain⟨_,_,e⟩:=RF.mp e
   obtain⟨_,_,rfl⟩:=RY.mp e;exact⟨_,rfl⟩
  ·cases e
 rw[ev,sM,bO]at h;simp only[bO]at h;refine wpAny_isTrue_Compare1 (ha.two hb I h λw u v z c1 m1 s1 I1 x r1 r2 h=>?_) hm;have h:ap X X.tb c1 m1 s1 (eO ((views [w,u] m1).bind AP) m1) J (WK X λv s=>RJ X.M X.A (truthy v) B' J s):=h;obtain⟨t,e,h⟩:=dE h;obtain⟨l,e1,e2⟩:=RF.mp e;unfold AP at e2;split at e2
 rotate_left
 ·cases e2
 rename_i xs ys;obtain⟨_,_,e3,e4,e5⟩:=eZ e1;cases e3;obtain⟨_,e3,e6⟩:=gh e5;cases e3;obtain⟨ns,q1,e2⟩:=RF.mp e2;obtain⟨ms,q2,rfl⟩:=RY.mp e2;cases fF q1;cases fF q2;obtain⟨p,⟨vs⟩,rfl,⟨⟨k,o1⟩,_⟩,r1⟩:=aE I1.mem r1 e4;obtain⟨p',⟨vs'⟩,rfl,⟨⟨k',o2⟩,_⟩,r2⟩:=aE I1.mem r2 e6;show RJ _ _ (richCompare .Lt (.ref p) (.ref p')) _ _ _;exact richCompare_meets_room (T:="list") (id:="list.__lt__") ⟨_,o1,rfl⟩ ⟨_,o2,rfl⟩ W8 PySem.F.entry_list_lt (PySem.F.args_list_lt_2 _ _) (uY p p' vs.toArray vs'.toArray k k' ns ms (fD r1) (fD r2)) ⟨o1,o2,λz=>(by cases z),I1.val' h (.bl _)⟩ (by omega)
end
section
open L2 (Key bx)
variable{prog:S9}{w:SY}{A:SV}{E:R3->R9->Prop}{s:R9}
theorem gZ:YK table "dict.update.loop" = Zz Builtin.«dict.update.loop»:=entryFor_of_tree (by kernel_rfl)
theorem cV:plainId "dict.update.loop" = true:=by decide +kernel
theorem pair_items(hb:s.heap.IsTuple b #[key,v])(h:Q [key,v] s):RJ (Rn prog w) A (Builtin.Dict.pairItems (.ref b)) Q E s:=by
 unfold Builtin.Dict.pairItems;refine R0 (Vm hb.typeIs ?_);obtain⟨o,ho,hc,n,hd⟩:=hb;rw[Yq (by decide)];exact R0 (Tb ho hd (R4 h))
theorem zg{St:Nat->R9->Prop}(W:WalksS prog w A.in1 I fp wr G n P St)(S:RB)(hSf:S∉fp)(h₀:SA)(hfr:∀b∈S::wr,h₀.get? b=Zy)(kv:Nat->Key×R3)(hval:∀i v,P i v->∃b key,v=.ref b/\h₀.IsTuple b #[key,(kv i).2]/\(bx prog w).is (kv i).1 key=true)(hz:n<=Ru):
  ∀(k i:Nat) (s:R9),n-i=k->i<=n->St i s->(∀b o,h₀.get? b=Zz o->s.heap.get? b=Zz o)->s.heap.DictOf (bx prog w) S (merged [] ((Rf i).map kv)) ->
   (∀s',Moved (S::wr) G s s'->s'.heap.DictOf (bx prog w) S (merged [] ((Rf n).map kv))->R (.ok (.ret .none)) s')->Ux (Rn prog w) A (.builtin "dict.update.loop" ⟨[.ref S,.ref I,rawInt (i:Nat),.none],[]⟩) R s:=by
 have hSw:S∉wr:=λh=>hSf (W.sub _ h)
 have hsub:∀b∈wr,b∈S::wr:=λb hb=>R2 _ hb
 intro k
 induction k with
 |zero =>
  intro i s hk hi hst h0 hS hR;have hin:i=n:=by omega
  subst hin;refine TQ gZ ?_;rw[Sw cV _];show RJ _ A.in1 (pyNext (.ref I) >>= _) _ _ s;refine R0 (W.done s _ _ hst λs' hm=>?_);show RJ _ A.in1 (Builtin.Dict.addKeywords S [] >>= _) _ _ s';refine R0 (R4 ?_);exact R4 (hR s' (hm.mono hsub) (let⟨o,es,ep,ho,r⟩:=hS;⟨o,es,ep,hm.heap S _ hSw ho,r⟩))
 |succ k ih =>
  intro i s hk hi hst h0 hS hR;have hlt:i<n:=by omega
  refine TQ gZ ?_;rw[Sw cV _];show RJ _ A.in1 (pyNext (.ref I) >>= _) _ _ s;refine R0 (W.item i s _ _ hlt hst λv s' hP hst' hm=>?_);obtain⟨b,key,rfl,hb,hkey⟩:=hval i v hP;have h0':∀b o,h₀.get? b=Zz o->s'.heap.get? b=Zz o:=λb o e=>hm.heap b o (λhw=>by rw[hfr b (hsub b hw)]at e;cases e) (h0 b o e)
  have hb':s'.heap.IsTuple b #[key,(kv i).2]:=hb.at λo e=>h0' b o e
  have hS':s'.heap.DictOf (bx prog w) S (merged [] ((Rf i).map kv)):=let⟨o,es,ep,ho,r⟩:=hS;⟨o,es,ep,hm.heap S _ hSw ho,r⟩
  have hml:(merged [] ((Rf i).map kv)).length<=Ru:=by
   have:=merged_length_le [] ((Rf i).map kv);simp at this;omega
  refine R0 (SH (R0 (wpAny_tryCatch (pair_items hb' ?_))));dsimp only;refine SH (wpAny_dictSet_pairs (hsz:=hml) hkey hS' λh' hD hsb=>?_);have hnx:stored (merged [] ((Rf i).map kv)) (kv i).1 (kv i).2=merged [] ((Rf (i+1)).map kv):=by
   rw[List.range_succ,Si];simp[merged,Wj]
  rw[hnx]at hD;refine R4 ⟨UY cV _,?_⟩;rw[show((i:Nat):Int)+1=((i+1:Nat):Int) by push_cast;rfl];refine ih (i+1) _ (by omega) hlt (W.frame _ s' _ _ hst' (UQ _) λb hb o e=>?_) (λb o e=>?_) hD λs'' hm'' hS''=>?_
  ·rw[hsb.2 b (λh:b=S=>hSf (by rw[<-h];exact hb))];exact e
  ·rw[hsb.2 b (λh:b=S=>by subst h;rw[hfr b (by simp)]at e;cases e)];exact h0' b o e
  ·refine hR s'' (Moved.trans W.gtrans ((hm.mono hsub).then_heap (UQ _) λb o hb e=>?_) hm'') hS''
   rw[hsb.2 b (λh:b=S=>hb (by rw[h];exact R6))];exact e
theorem oK:X7 (.type "list") "keys" = pure Zy:=by rw[XE,Vs];kernel_rfl
theorem Bp{a:RB}{o:Obj}{xs:Array R3}{k:Nat}{Q:Option R3->R9->Prop}(hx:s.heap.get? a=Zz o)(hc:o.cls=.type "list")(hdat:o.data=.seq xs k)(hd:o.dict=Zy)(hA:A.handled=Zy)(h:∀h' tk,(∀b ob,s.heap.get? b=Zz ob->h'.get? b=Zz ob)->Q Zy { s with heap:=h',toks:=tk }):
  RJ (Rn prog w) A (getAttr? (.ref a) "keys") Q E s:=by
 obtain⟨c,dct,dat,sl⟩:=o;simp only at hc hdat hd;subst hc hdat hd;obtain⟨hp,g,d,tk,os⟩:=s;have hT:∀tk',(⟨hp,g,d,tk',os⟩:R9).TypeIs (.ref a) "list":=λ_=>⟨_,hx,rfl⟩
 have f1:=sub_AttributeError;have f3:=PySem.F.slot_list_getattribute.lookup;have f4:=PySem.F.slot_list_getattribute.bind (.ref a);have f5:=am_list_getattr_none;have hsz:(Vk "keys").length+100<=Ru:=by size_fits
 unfold getAttr? getAttrBy? getAttrBy
 repeat (any_goals (first|assumption|exact hT _|((with_reducible show RJ _ _ (call (Value.builtin "list.__getattribute__") _ _) _ _ _);refine Tl PySem.F.slot_list_getattribute (hT _) am_entry_list_getattribute (PySem.F.args_list_getattribute_2 _ _) (meets_getattribute_miss_list a xs k sl "keys" _ oK (by decide) hsz) ⟨hx,hA,λh' tk' e hx'=>?_⟩)|wp_step))
 obtain⟨t',u',he⟩:=hx'.there;show RJ _ _ (getattributeRaised _ _ _ _ _ _ _) _ _ _;unfold getattributeRaised
 repeat (any_goals (first|assumption|wp_step))
 exact h _ _ hx'.keeps
theorem mj{a:RB}{o:Obj}{items:Array R3}{k:Nat}{kv:Nat->Key×R3}{Q:R3->R9->Prop}(hx:s.heap.get? a=Zz o)(hc:o.cls=.type "list")(hdat:o.data=.seq items k)(hd:o.dict=Zy)(hA:A.handled=Zy)(hval:∀i v,items[i]?=Zz v->∃b key,v=.ref b/\s.heap.IsTuple b #[key,(kv i).2]/\(bx prog w).is (kv i).1 key=true)(hz:items.size<=Ru)(h:∀h' tk,h'.DictOf (bx prog w) s.heap.objs.size (merged [] ((Rf items.size).map kv))->(∀b o,s.heap.get? b=Zz o->h'.get? b=Zz o)->Q (.ref s.heap.objs.size) { s with heap:=h',toks:=tk }):
  RJ (Rn prog w) A (call (.type "dict") [.ref a]) Q E s:=by
 refine callType_codes (Q₁:=λobj s₁=>obj=.ref s.heap.objs.size/\s₁={ s with heap:=s.heap.push { cls:=.type "dict",data:=.dict #[] } }) PySem.F.kt_called_dict (PySem.F.kt_typeCall_dict_1 _) PySem.F.entry_dict_init (kt_code_dict_new _ ⟨rfl,rfl⟩) ?_;rintro obj s₁ ⟨rfl,rfl⟩;have hnew:(s.heap.push { cls:=.type "dict",data:=.dict #[] }).DictOf (bx prog w) s.heap.objs.size []:=Heap.DictOf.new s.heap;have hlt:=Rm hx;have hx1:(s.heap.push { cls:=.type "dict",data:=.dict #[] }).get? a=Zz o:=R7 _ hx;have hT1:W4 { s with heap:=s.heap.push { cls:=.type "dict",data:=.dict #[] } } (.ref a) "list":=⟨o,hx1,hc⟩
 have hh2:A.in1.in1.handled=Zy:=by simp[hA]
 refine⟨hnew.typeIs,PySem.F.args_dict_init_2 _ _,?_⟩;unfold Builtin.«dict.__init__»;refine R0 ?_;unfold Builtin.Dict.selfAndRest;refine R0 (wpAny_notOrdered_dict hnew.typeIs ?_);refine R4 ?_;show RJ _ _ (Builtin.Dict.updateFrom "dict.__init__" s.heap.objs.size (.ref a) [] .none) _ _ _;unfold Builtin.Dict.updateFrom;refine R0 (Vm hT1 ?_);rw[Yq (by decide)];refine R0 (Bp hx1 hc hdat hd hh2 λh1 tk1 kp1=>?_);rw[Yq (show(Zy:Option R3).isNone=true from rfl)];refine R0 (TG ?_);have hx2:h1.IsList a items:=⟨o,kp1 _ _ hx1,hc,k,hdat⟩
 refine R0 (V0 hx2 ?_);have hle1:=Rm (kp1 _ _ (RM _ rfl));have hnI:=Rr (Y1 hlt hle1);refine R4 ⟨UY cV _,?_⟩;have hh3:A.in1.in1.handled=Zy:=by simp[hA]
 refine zg ((Vw hh3 h1.objs.size a hnI items).toS) s.heap.objs.size ?hSf s.heap ?hfr kv hval hz (items.size-0) 0 _ (by omega) (SI _)
  ⟨⟨_,RM _ rfl,rfl,rfl⟩,hx2.push _⟩ ?h0 ?hS0 ?hR
 case hSf =>
  simp only[R5,RQ,RV,or_false,not_or];exact⟨Rr hle1,X6 hlt⟩
 case hfr =>
  intro b hb;simp only[R5,RQ,RV,or_false]at hb;rcases hb with rfl|rfl
  ·exact Rt (RC _)
  ·exact Rt (T7 hle1)
 case h0 =>
  intro b ob e;exact R7 _ (kp1 _ _ (R7 _ e))
 case hS0 =>
  obtain⟨o2,es,ep,ho,r⟩:=hnew;exact⟨o2,es,ep,R7 _ (kp1 _ _ ho),r⟩
 case hR =>
  intro s' hm hS';obtain⟨h',g',d',tk',os'⟩:=s';have eg:=hm.gens;have ed:=hm.drawn;have eo:=hm.os;subst eg;subst ed;subst eo;refine⟨rfl,h h' tk' hS' λb ob e=>?_⟩;have hb:=Rm e;have hb1:=Rr hb;have hb2:=Rr (Y1 hb hle1);exact hm.heap b ob (by simp only[R5,RQ,RV,or_false,not_or];exact⟨hb1,hb2⟩) (R7 _ (kp1 _ _ (R7 _ e)))
end
section
variable{X:Cx}{D:Dm}{cm:List RB}{m:Mem}{s:R9}{h:SA}{J Q:VK}{call:Nat->List W->Mem->Res W}{gv:List T}{e:SL}{es:List SL}{L:Es}{pos p:Pos}
open L2 (Key) in
theorem zS{ps:List (Int×T)}(h:(ps.map (·.1)).Nodup):(ps.map λp=>(VA p.1:Key)).Nodup:=by
 unfold SF at h ⊢;rw[SN]at h ⊢;exact h.imp λ{a b} q e=>q (Y9 e)
theorem tD{t:T}{ts:List T}{ps:List (Int×T)}(h:de (t::ts)=Zz ps):∃k v ps',t=.tup [.int k,v]/\de ts=Zz ps'/\ps=(k,v)::ps':=by
 unfold de at h;split at h
 ·rename_i z;cases z
 ·rename_i k v ts' z
  cases z;cases q:de ts with
  |none=>rw[q]at h;cases h
  |some ps'=>rw[q]at h;cases h;exact⟨k,v,ps',rfl,rfl,rfl⟩
 ·cases h
theorem kA:∀{ts:List T}{vs:List R3}{ps:List (Int×T)},eS D cm m h ts vs->de ts=Zz ps ->
  ∃kvs:List (L2.Key×R3),kvs.length=vs.length/\kvs.map (·.1)=ps.map (λp=>VA p.1)/\(∀(i:Nat) v,vs[i]?=Zz v->∃kv b key,kvs[i]?=Zz kv/\v=.ref b/\h.IsTuple b #[key,kv.2]/\(L2.bx D.P D.w).is kv.1 key=true)/\eS D cm m h (ps.map (·.2)) (kvs.map (·.2))
 |[],vs,_,r,q=>by
  cases q;obtain rfl:vs=[]:=RR.mp r.1.symm;exact⟨[],rfl,rfl,λi v e=>by simp at e,.nil⟩
 |t::ts,_,ps,r,q=>by
  obtain⟨k,v,ps',rfl,q',rfl⟩:=tD q;obtain⟨u,y,rfl,r1,rs⟩:=r.inv;obtain⟨kvs,i1,i2,i3,i4⟩:=kA rs q';obtain⟨b,⟨x⟩,rfl,p,r2⟩:=r1.iN;obtain⟨u1,y1,e1,r3,r4⟩:=r2.inv;obtain⟨u2,y2,rfl,r5,r6⟩:=r4.inv;obtain rfl:y2=[]:=RR.mp r6.1.symm;have e1:x=[u1,u2]:=e1;subst e1;refine⟨(.inl k,u2)::kvs,by simp[i1],by rw[RG,RG,i2],λi v' e=>?_,.cons r5 i4⟩;cases i with
  |zero =>
   simp at e;exact⟨_,b,u1,rfl,e.symm,p.tup,key_is (w:=.t (.int k)) r3 rfl rfl⟩
  |succ i=>exact i3 i v' (by simpa using e)
theorem uk(hc:X.calm=true):CB X (.type "dict") .uH:=λenv cm m s I ws us r Q J q=>by
 obtain⟨w,v,t,rr,rfl,rfl,r,e,c,q⟩:=oG r (di (by decide)) q;cases t with
 |lst l =>
  obtain⟨ps,q3,c⟩:=RF.mp (show((de l).bind λps=>if l.length<=lim/\(ps.map (·.1)).Nodup then Zz (T.dct (ps.map λp=>.inl p.1) (ps.map (·.2)))else Zy)=Zz rr from c);obtain⟨⟨hl,hn⟩,c⟩:=RE.mp c;cases c;obtain⟨a,⟨x⟩,rfl,p,k⟩:=aE I.mem r e;obtain⟨⟨n,ho1⟩,_,hz⟩:=id p;obtain⟨kvs,i1,i2,i3,i4⟩:=kA k q3;have hlx:l.length=x.length:=k.1;have hmap:(Rf x.toArray.size).map (λi=>kvs.getD i (.inl 0,.none))=kvs:=by
   have i1:kvs.length=x.length:=i1;refine X1 (by simp[i1]) λi h1 h2=>?_
   simp[Xc,R8 h2]
  have hlm:(lim:Nat)=1000000:=rfl;have hsl:=TB;refine mj (kv:=λi=>kvs.getD i (.inl 0,.none)) ho1 rfl rfl rfl (I.ok.hd hc) (λi v hv=>?_) (by simp;omega) λh' tk hD kp=>?_
  ·obtain⟨kv,b,key,j1,j2,j3,j4⟩:=i3 i v (by simpa using hv)
   have:kvs.getD i (.inl 0,.none)=kv:=by simp[Xc,j1]
   exact⟨b,key,j2,by rw[this];exact j3,by rw[this];exact j4⟩
  ·rw[hmap,WH kvs (by rw[i2];exact zS hn)]at hD
   obtain⟨x1,I1⟩:=I.up (g:=h') (t:=tk) (d:=s.drawn) (ch:=X.tb) kp;have gl:Rz<s.heap.objs.size:=let⟨_,_,_,e,_⟩:=I.ok.mod.glob;Rm (I.bs _ _ e)
   have lk:(ps.map λp=>(VA p.1:L2.Key)).length=kvs.length:=by rw[<-i2,R1]
   have i1:kvs.length=x.length:=i1;have hz2:(ps.map λp=>(VA p.1:L2.Key)).zip (kvs.map (·.2))=kvs:=by rw[<-i2,rS]
   have fr:s.heap.get? s.heap.objs.size=Zy:=Rt (RC _);refine q.to x1 I1.mem _ (show RT X.D cm m h' (.dct (ps.map λp=>.inl p.1) (ps.map (·.2))) (.ref s.heap.objs.size)from .dct (x:=kvs.map (·.2)) ⟨?_,Yu.mpr λz=>?_,?_,λz=>?_⟩ (wv I1.mem (o:=(DictOf.obj hD).choose) (by obtain⟨_,_,e,_⟩:=(DictOf.obj hD).choose_spec;exact e) λy n z=>by obtain⟨_,_,_,d⟩:=(DictOf.obj hD).choose_spec;rw[d]at z;cases z) (by rw[R1,R1];rw[R1]at lk;exact lk) i4.1 λi t v a b=>(i4.2 i t v a b).go (s':={ s with heap:=h',toks:=tk }) x1 I.mem I.nc.q)
   ·rw[hz2];omega
   ·rw[z]at gl;exact Yv gl (by decide)
   ·rw[hz2];exact hD
   ·obtain⟨_,o',e',_⟩:=I.cO _ z
    rw[fr]at e';cases e'
 |_=>cases c
theorem wc(hg:Gl X "dict")(hm:X.mg "dict" = Zy)(ha:PA call gv X (e::es) L)(he:notStar e=true)(hpl:es.all notStar=true)(hc:X.calm=true:=by rfl):PE call gv X (.Call (.Name "dict" p) (e::es) [] pos) (.blt .uH L):=
 nS (uk hc) (by decide +kernel) hg hm ha (by decide) (by decide) he hpl
end
theorem sN(hg:gens[d]?=Zz ⟨target,iter,ifs,0⟩)(hn:gens[d+1]?=Zy):
  Vo (.SetComp elt gens scope pos) d it acc env=(do
   VR iter.pos
   match <-pyNext it with
   |none=>pure (.done .next)
   |some v =>
    Te target it v
    assign target env v
    let mut ok:=true
    for c in ifs do
     if ok then ok <-isTrue c env (eval c env)
    if ok then
     (do let v <-eval elt env;VR elt.pos;let _ <-call (.builtin "set.add") [acc,v])
    again (.compLoop (.SetComp elt gens scope pos) d it acc env)):=by
 unfold Vo;simp only[hg,hn];rfl
noncomputable def dl(ss:List Str):List Str:=ss.foldl (λD x=>if x∈D then D else D++[x]) []
theorem DA(ss:List Str)(x:Str):dl (ss++[x])=if x∈dl ss then dl ss else dl ss++[x]:=by
 unfold dl;rw[Wj];rfl
theorem wJ(ss:List Str):(dl ss).length<=ss.length:=by
 have:∀(ss D:List Str),(ss.foldl (λD x=>if x∈D then D else D++[x]) D).length<=D.length+ss.length:=by
  intro ss
  induction ss with
  |nil=>intro D;exact RC _
  |cons x r ih =>
   intro D;rw[UI,Rp];refine Ro (ih _) ?_;split
   ·omega
   ·rw[RI,S3];omega
 have h:=this ss [];rw[T2,X9]at h;exact h
noncomputable abbrev Iv(w:SY):Bool:=!w.params.followText "set-order"
theorem dl_mem(x:Str)(ss:List Str):x∈dl ss↔x∈ss:=by
 have:∀(ss D:List Str),x∈ss.foldl (λD x=>if x∈D then D else D++[x]) D↔x∈D∨x∈ss:=by
  intro ss
  induction ss with
  |nil=>intro D;simp
  |cons y r ih =>
   intro D;rw[UI,ih,R5];split
   ·rename_i h
    constructor
    ·rintro (h1|h1)
     ·exact .inl h1
     ·exact .inr (.inr h1)
    ·rintro (h1|h1|h1)
     ·exact .inl h1
     ·subst h1;exact .inl h
     ·exact .inr h1
   ·rw[RN,RQ,or_assoc]
 have h:=this ss [];unfold dl;rw[h];simp
theorem Fg(ss:List Str):(dl ss).Nodup:=by
 have:∀(ss D:List Str),D.Nodup->(ss.foldl (λD x=>if x∈D then D else D++[x]) D).Nodup:=by
  intro ss
  induction ss with
  |nil=>intro D h;exact h
  |cons y r ih =>
   intro D h;rw[UI];refine ih _ ?_;split
   ·exact h
   ·rename_i hn
    rw[Uz];refine⟨h,by simp,λa ha b hb=>?_⟩;rw[RQ.mp hb];exact λe=>hn (e▸ha)
 exact this ss [] .nil
theorem GE{xs:List (List Nat)}(h:xs.Nodup):(xs.map λc=>(⟨c.toArray⟩:Str)).Nodup:=by
 refine SN.mpr (h.imp λ{a b} q e=>q (xz e))
theorem Db{xs ys:List (List Nat)}(h:∀c,c∈xs↔c∈ys)(x:Str):(x∈xs.map λc=>(⟨c.toArray⟩:Str))↔x∈ys.map λc=>(⟨c.toArray⟩:Str):=by
 constructor
 ·intro q
  obtain⟨c,hc,rfl⟩:=RS.mp q;exact RS.mpr ⟨c,(h c).mp hc,rfl⟩
 ·intro q
  obtain⟨c,hc,rfl⟩:=RS.mp q;exact RS.mpr ⟨c,(h c).mpr hc,rfl⟩
theorem Ce{D:List Str}(hd:D.Nodup)(hm:∀x,x∈D↔x∈bs.map λc=>(⟨c.toArray⟩:Str)):D.length=(aW bs).length:=by
 have hp:=(V7 hd (GE (jQ bs))).mpr λx=>by
  rw[hm];exact Db (λc=>(fw c bs).symm) x
 have:=hp.length_eq;rw[R1]at this;exact this
theorem BD{n:Nat}(h:n<64):(n:Int)<2^63:=Int.lt_of_lt_of_le (b:=64) (by omega) (by decide)
theorem Dl(hp:(ys.map λc=>(⟨c.toArray⟩:Str)).Perm (dl (bs.map λc=>(⟨c.toArray⟩:Str))))(hs:sortedS (ys.map λc=>(⟨c.toArray⟩:Str))=true):ys=aW bs:=by
 have hw:ys.Pairwise (λa b=>gx b a=false):=by
  cases ys with
  |nil=>exact .nil
  |cons y ys=>exact yb ys y hs
 have hn:ys.Nodup:=by
  have h1:(ys.map λc=>(⟨c.toArray⟩:Str)).Nodup:=hp.nodup_iff.mpr (Fg _);exact(SN.mp h1).imp λ{a b} h e=>h (by rw[e])
 have hq:∀(l:List (List Nat)) c,c∈l↔(⟨c.toArray⟩:Str)∈l.map λc=>(⟨c.toArray⟩:Str):=λl c=>by
  constructor
  ·exact λh=>RS.mpr ⟨c,h,rfl⟩
  ·intro h
   obtain⟨d,hd,e⟩:=RS.mp h;rw[<-xz e];exact hd
 have hm:∀c,c∈ys↔c∈aW bs:=λc=>by
  rw[fw,hq ys,hq bs,hp.mem_iff,dl_mem]
 have hpm:ys.Perm (aW bs):=(V7 hn (jQ bs)).mpr hm;exact Uc (λa b _ _ h1 h2=>pI h2 h1) hw ((kq bs).imp λ{a b} h=>Eu h) hpm
theorem StrsAre.inj:∀{vs:List R3}{a b:List Str},Wc vs a->Wc vs b->a=b
 |_,_,_,.nil,.nil=>rfl
 |_,_,_,.cons y t p,.cons _ _ q=>by rw[StrsAre.inj p q]
def yo(P:S9)(w:SY)(D:RB)(h:SA)(vs:List R3):Prop:=∃ss:List Str,Wc vs ss/\iA P w (c8 w) h D (dl ss)
theorem uv{P:S9}{w:SY}{D:RB}{f:List RB}:vL f D (yo P w D):=⟨λ⟨ss,_,o,es,ep,t,e,hE⟩=>(by
 refine⟨o,e,λk=>?_,(λv z=>by rw[hE.data]at z;cases z),λv z=>(by rw[hE.data]at z;cases z)⟩;have d:=hE.data;cases k with
 |seq _ _ z _=>rw[d]at z;cases z
 |dict _ _ z _=>rw[d]at z;cases z
 |ref _ _ _ z=>rw[d]at z;cases z
 |trace _ _ z=>rw[d]at z;cases z),λ⟨ss,q,o,es,ep,t,e,r⟩ k=>⟨ss,q,o,es,ep,t,k o e,r⟩⟩
section
variable{P:S9}{w:SY}{A:SV}{s:R9}{Q E:VK}
theorem r7{E:R3->R9->Prop}(h:Q (.ref s.heap.objs.size) { s with heap:=s.heap.push { cls:=.type "set",dict:=Zy,data:=.set #[] 0 (.fresh 0 0 (Iv w)) } }):RJ (Rn P w) A (newSet (.type "set")) Q E s:=by
 unfold newSet YL;refine R0 (R0 (Uf (R4 ?_)));simp only[newObj];exact R0 (YC (R4 h))
end
section
variable{X Y:Cx}{env:Mi.Env}{cm:List RB}{m:Mem}{s:R9}{J Q:VK}{D:RB}{vs:List R3}{x:Str}{t:Tok}
theorem D4(I:Fr X env cm m s)(hD:D∈X.fs)(ne:D≠X.env.locals)(hs:D∉X.gs)(a:yo X.prog X.w D s.heap vs)(hz:vs.length<64)(q:∀s',bd X.fs X.gs (D::X.own) cm m s cm m s'->Fr X env cm m s'->yo X.prog X.w D s'.heap (vs++[.str x t])->Q .none s'):RJ X.M X.A (TE (.builtin "set.add") [.ref D,.str x t]) Q J s:=by
 have fl:=(uv (f:=X.fs)).obj a;obtain⟨ss,ha,hS⟩:=a;have hl:=wJ ss;have hv:=ha.length;have ht:W4 s (.ref D) "set":=by
  obtain⟨o,es,ep,t,e,hE⟩:=hS;exact⟨o,e,hE.ex.1⟩
 refine SW PySem.F.slot_set_add ht PySem.F.entry_set_add ?_ (PySem.F.args_set_add_2 _ _);unfold Builtin.«set.add» Builtin.Frozenset.oneOther;simp only[Tj,bind_assoc];unfold Builtin.Frozenset.addrOf setAdd;refine R0 (R4 ?_);refine R0 (R4 ?_);refine R0 ?_;refine SH ?_;refine R0 ((Sv X.prog X.w).pyHash (by show Tp x (.str x t)=true;simp[Tp]) ?_);refine um hS (by unfold VZ;omega) λh' b sb hS'=>?_
 obtain⟨o2,es2,ep2,t2,e2,hE2⟩:=id hS';obtain⟨x1,I1⟩:=I.acc (h:=h') (ch:=X.own) (tk:=s.toks+1) hD ne fl (λb o hb eb=>(sb.2 b hb).trans eb) ⟨o2,e2,⟨(λv z=>by rw[hE2.data]at z;cases z),λz=>Yv z hs⟩,λo e' n x n' z=>by rw[hE2.data]at z;cases z⟩;exact R4 ⟨_,rfl,q _ x1 I1 ⟨ss++[x],ha.append' (.cons x t .nil),by rw[DA];exact hS'⟩⟩
variable{call:Nat->List W->Mem->Res W}{gv:List T}{elt target iter e:SL}{gens gs:List Ub}{scope:Uk}{pos p p2 pos2:Pos}{ea it E:Mi.E}{ifs:List SL}{tg:Tg}{cs:Es}{N':List Str}{own:Nat}{keep:List Nat}
theorem A4(hc:Y.calm=true)(hD:D∈Y.fs)(hDo:D∉Y.own)(hs:D∉Y.gs)(hg:gens[0]?=Zz ⟨target,iter,ifs,0⟩)(pg:PG Y target tg)(pt:E5 call gv Y cs ifs)(hin:G5 call gv Y elt gens 0 (.emit ea))(dis:∀i∈qC tg,i∉fv (.emit ea)){s0 s:R9}{cm0 cm:List RB}{m0 m m':Mem}{env:Mi.Env}{ts out:List T}{it:RB}{fp:List RB}{vs:List R3}(x0:bd Y.fs Y.gs (D::Y.own) cm0 m0 s0 cm m s)(tk:rU fp target)(hDf:D∉fp)(fr:∀b∈fp,s0.heap.get? b=Zy)(I:Fr Y env cm m s)(on:On Y cm m s.heap it fp 0 ts)(ha:yo Y.prog Y.w D s.heap vs)(hn:∀i∈qC tg++fv (.emit ea),∀w,env[i]?≠Zz (Zz w))(ok:b7 (turnF call gv cs (.emit ea)) tg ts env m=.ok out m')(hl:vs.length+out.length<=63)(hst:∀t∈out,∃c,t=.str c):
  Ux Y.M Y.A (.compLoop (.SetComp elt gens scope pos) 0 (.ref it) (.ref D) Y.env) (λr s'=>r=.ok .next/\vz Y (yo Y.prog Y.w D) D env vs cm0 m0 s0 out m' s') s:=by
 have tbo:∀b∈Y.tb,b∈D::Y.own:=λb hb=>R2 _ (bQ b hb)
 have K:=uv (P:=Y.prog) (w:=Y.w) (D:=D) (f:=Y.fs);have neL:D≠Y.env.locals:=λz=>hDo (z▸R6)
 obtain⟨hnx,pe⟩:gens[0+1]?=Zy/\PE call gv Y elt ea:=by cases hin with|emit h1 h2=>exact⟨h1,h2⟩
 refine lR hc K hD hDo hs (Pt:=λt=>∃c,t=.str c) rfl rfl (sN hg hnx) pg pt dis ?_ x0 tk hDf fr I on ha hn ok hl hst;intro s cm m m' env out vs J I ha hn ok hl hst;obtain⟨w,m1,j,ok2⟩:=ar ok;obtain⟨rfl,rfl⟩:=iY ok2;rw[ev]at j;obtain⟨w1,m2,ok3,ok4⟩:=ar j;obtain⟨t,m3,h,ok6⟩:=ar ok4;cases ok6;obtain⟨c,rfl⟩:=hst t (by simp);refine R0 (R0 (mW (pe.run I ok3) λu s1 ⟨cm1,x1,I1,r1⟩=>?_));obtain⟨x2,I2,r2⟩:=pV I1 r1 h;have nt:D∉Y.tb:=λz=>hDo (bQ _ z)
 have a2:=K.go I1 hD x2.toExtK nt hs (K.go I hD x1.toExtK nt hs ha);have n2:=oY K I2 a2;obtain⟨tk,rfl⟩:=r2.j8;refine R0 (Tq (R0 (D4 I2 hD neL hs a2 (by simp at hl;omega) λs3 x3 I3 a3=>R4 (R4 ⟨rfl,cm1,[_],((x1.trans x2).sub tbo).trans x3,I3,.cons (r2.go x3.toExtK I2.mem n2) .nil,a3⟩))))
theorem tE{out:List T}{m':Mem}{bs:List (List Nat)}(hc:X.calm=true)(k:ry call gv X N' scope own keep elt target iter ifs gs it tg cs (.emit ea))(I:Fr X env cm m s)(ok:ev call gv (.comp own keep it tg cs (.emit ea)) env m=.ok (.t (.lst out)) m')(q:strs? out=Zz bs)(h64:bs.length<64)(fin:∀D s3 cm3,bd X.fs X.gs X.tb cm m s cm3 m' s3->Fr X env cm3 m' s3->iA X.prog X.w (c8 X.w) s3.heap D (dl (bs.map λc=>(⟨c.toArray⟩:Str)))->Q (.ref D) s3):
  RJ X.M X.A (eval (.SetComp elt (⟨target,iter,ifs,0⟩::gs) scope pos) X.env) Q J s:=by
 have hl:∀{l:List T}{a:List (List Nat)},strs? l=Zz a->l.length=a.length/\∀t∈l,∃c,t=.str c:=by
  intro l
  induction l with
  |nil=>intro a e;cases e;exact⟨rfl,λt h=>by cases h⟩
  |cons t l ih =>
   intro a e;cases t with
   |str c =>
    obtain⟨q,e1,rfl⟩:=RY.mp (show(strs? l).map (c::·)=Zz a from e);obtain⟨h1,h2⟩:=ih e1;exact⟨by rw[Rp,Rp,h1],λu hu=>(R5.mp hu).elim (λz=>⟨c,z⟩) (h2 u)⟩
   |_=>cases e
 obtain⟨ho,hst⟩:=hl q;rw[arm_eval_SetComp];refine lU (Acc:=yo X.prog X.w) hc k rfl rfl (λv z=>(by cases z)) (λ_ _ _=>rfl) (λ_ _ _=>rfl) r7 (λh=>⟨[],.nil,qZ h⟩) (λcl C D F s0 s cm0 cm m0 m m' env ts it fp hDF hDo hDs x0 tk hDf fr I on ha hn ok hl =>
  A4 (Y:=bf X N' scope cl C F) hc hDF hDo hDs rfl (k.ins cl C F).1 (k.ins cl C F).2.1 (k.ins cl C F).2.2 k.dis x0 tk hDf fr I on ha hn ok (by rw[T2,X9];omega) hst) I ok λD C s3 cm3 vs F=>⟨_,F.ns.choose_spec,λh' hs=>?_⟩
 obtain⟨x,nq,x5,I5⟩:=F.go I F.fr F.ext F.ns hs;obtain⟨ss,a1,hS⟩:=F.acc;cases StrsAre.inj a1 (sI F.rel q);obtain⟨o,es,ep,t,eo,hE⟩:=hS;exact fin D _ cm3 x5 I5 ⟨o,es,ep,t,(hs.2 D λz=>F.nf (z▸R6)).trans eo,hE⟩
theorem nZ{s:R9}{t:T}{bs:List (List Nat)}(I:Fr X env cm m s)(hp:ap X X.tb cm m s (.ok (.t (.int ((aW bs).length:Int))) m) J (WK X Q))(h64:bs.length<64)(hS:iA X.prog X.w (c8 X.w) s.heap D (dl (bs.map λc=>(⟨c.toArray⟩:Str)))):RJ X.M X.A (TE (.builtin "len") [.ref D]) Q J s:=by
 obtain⟨o,es,ep,t,eo,hE⟩:=hS;have hn:es.size=(dl (bs.map λc=>(⟨c.toArray⟩:Str))).length:=by
  rw[<-hE.Fi.length_eq,R1,RD]
 have hsz:es.size=(aW bs).length:=by
  rw[hn];exact Ce (Fg _) λx=>dl_mem x _
 have hlt:es.size<64:=by
  have:=wJ (bs.map λc=>(⟨c.toArray⟩:Str));rw[R1]at this;omega
 refine call_len_set eo hE.ex hE.data hE.fits (BD hlt) ?_;rw[hsz];exact I.val hp (.int _ _)
theorem ut(hc:X.calm=true)(hg1:Gl X "len")(hm1:X.mg "len" = Zy)(k:ry call gv X N' scope own keep elt target iter ifs gs it tg cs (.emit ea)):
  PE call gv X (.Call (.Name "len" p) [.SetComp elt (⟨target,iter,ifs,0⟩::gs) scope pos2] [] pos) (.blt .dC (.cons (.comp own keep it tg cs (.emit ea)) .nil)):=λenv cm m s I Q J hp=>by
 rw[ev,kU]at hp;refine Sy (dW (u:=.builtin "len") I hg1 hm1 (by decide +kernel) (TC (Tk ?_) rfl rfl));cases h:ev call gv (.comp own keep it tg cs (.emit ea)) env m with
 |stuck=>rw[h]at hp;exact hp.elim
 |ok w m' =>
  obtain⟨out,rfl⟩:=gc h;rw[h]at hp;obtain⟨t,e,hp⟩:=dE (show ap X X.tb cm m s (eO (xh out) m') J (WK X Q)from hp);obtain⟨bs,q,e⟩:=RF.mp (show((strs? out).bind λxs=>if xs.length<64 then Zz (T.int ((aW xs).length:Int))else Zy)=Zz t from e);obtain⟨h64,e⟩:=RE.mp e;cases e;exact tE hc k I h q h64 λD s3 cm3 x3 I3 hS=>UT (nZ (t:=.non) I3 (hp.shift x3) h64 hS)
theorem vh(hc:X.calm=true)(hg1:Gl X "len")(hm1:X.mg "len" = Zy)(hg2:Gl X "set")(hm2:X.mg "set" = Zy)(ha:PA call gv X [e] (.cons E .nil))(he:notStar e=true:=by rfl):
  PE call gv X (.Call (.Name "len" p) [.Call (.Name "set" p2) [e] [] pos2] [] pos) (.blt .dC (.cons E .nil)):=λenv cm m s I Q J h=>by
 rw[ev]at h;refine Sy (dW (u:=.builtin "len") I hg1 hm1 (by decide +kernel) (TC (Tk ?_) rfl rfl));refine Sy (dW (u:=.type "set") I hg2 hm2 (by decide +kernel) (TV (ha.one I h λws us c1 m1 s1 I1 x1 r h=>?_) (dB he) (ko rfl)));obtain⟨w,v,t,rr,rfl,rfl,r,e,c,q⟩:=oG r (di (by decide)) h;cases t with
 |lst l =>
  obtain⟨bs,q3,c⟩:=RF.mp (show((strs? l).bind λxs=>if xs.length<64 then Zz (T.int ((aW xs).length:Int))else Zy)=Zz rr from c);obtain⟨h64,c⟩:=RE.mp c;cases c;obtain⟨a,⟨x⟩,rfl,p,k⟩:=aE I1.mem r e;have hsa:=sI k q3;have hl:x.length=bs.length:=by have:=hsa.length;rw[R1]at this;exact this
  refine qz (I1.ok.hd hc) p.pl.isList (λi v hv=>Gj hsa i v (by simpa using hv)) (by unfold VZ;simp;omega) λh' tk hS kp=>?_
  obtain⟨x2,I2⟩:=I1.up (g:=h') (t:=tk) (d:=s1.drawn) (ch:=X.tb) kp;refine UT ?_;rw[show(⟨x⟩:Array R3).size=bs.length by simp;omega]at hS;obtain⟨o,es,ep,t,eo,hE⟩:=hS;have hsz:es.size=(aW bs).length:=by
   have h1:=hE.Fi.length_eq;rw[R1,RD]at h1;rw[h1];refine Ce hE.nd λx=>?_
   rw[BZ];constructor
   ·rintro ⟨i,hi,e⟩
    rw[<-e];simp[Xc,hi]
   ·intro h
    obtain⟨c,hc,rfl⟩:=RS.mp h;obtain⟨i,hi,rfl⟩:=Sf hc;exact⟨i,hi,by simp[Xc,hi]⟩
  have hlt:es.size<64:=by
   have h1:=hE.Fi.length_eq;rw[R1,RD]at h1;have:=we (λi=>(bs.map λc=>(⟨c.toArray⟩:Str)).getD i ⟨#[]⟩) bs.length;omega
  refine call_len_set eo hE.ex hE.data hE.fits (BD hlt) ?_;rw[hsz];exact I2.val (q.shift x2) (.int _ _)
 |_=>cases c
theorem sJ(hc:X.calm=true)(hg1:Gl X "sorted")(hm1:X.mg "sorted" = Zy)(k:ry call gv X N' scope own keep elt target iter ifs gs it tg cs (.emit ea)):
  PE call gv X (.Call (.Name "sorted" p) [.SetComp elt (⟨target,iter,ifs,0⟩::gs) scope p2] [] pos) (.blt .nH (.cons (.comp own keep it tg cs (.emit ea)) .nil)):=λenv cm m s I Q J hp=>by
 rw[ev,kU]at hp;refine Sy (dW (u:=.builtin "sorted") I hg1 hm1 (by decide +kernel) (TC (Tk ?_) rfl rfl));cases h:ev call gv (.comp own keep it tg cs (.emit ea)) env m with
 |stuck=>rw[h]at hp;exact hp.elim
 |ok w m' =>
  obtain⟨out,rfl⟩:=gc h;rw[h]at hp;obtain⟨t,e,hp⟩:=dE (show ap X X.tb cm m s (eO ((strs? out).bind λxs=>if xs.length<64 then Zz (T.lst ((aW xs).map .str))else Zy) m') J (WK X Q)from hp);obtain⟨bs,q,e⟩:=RF.mp e;obtain⟨h64,e⟩:=RE.mp e;cases e;refine tE hc k I h q h64 λD s3 cm3 x3 I3 hS=>UT ?_
  have hlen:=wJ (bs.map λc=>(⟨c.toArray⟩:Str));rw[R1]at hlen;refine v5 (I3.ok.hd hc) hS (by omega) λh2 tk2 d l out ss' ep hso g hsort hat hle kp2 ht=>?_
  obtain⟨ys,rfl,hv⟩:=yv (D:=X.D) (cm:=cm3) (m:=m') (h:=s3.heap) hso;have ey:=Dl g hsort;subst ey;have hvl:=hv.1;rw[R1]at hvl;have hsl:=TB;have hpl:(aW bs).length<=bs.length:=by
   have:=g.length_eq;rw[R1]at this;omega
  refine I3.lst (a:=l) (g:=h2) (n:=tk2) (d:=d) (hp.shift x3) hv kp2 (Rt hle) ⟨⟨_,by simpa[seqObj]using hat⟩,λhb=>?_,by simp at hvl ⊢;omega⟩;obtain⟨_,o',ho',_⟩:=I3.cO _ hb;have:=Rm ho';exact Yv (TA this hle) (SU _)
end
section
variable{X:Cx}{call:Nat->List W->Mem->Res W}{gv:List T}{pos:Pos}{keys:List (Option SL)}{values:List SL}{ks:List (List Nat)}{vs:Es}{v:SL}{E:Mi.E}
variable(call gv) in
def Im(X:Cx)(pos:Pos)(keys:List (Option SL))(values:List SL)(ks:List (List Nat))(vs:Es):Prop:=∀env cm m s,Fr X env cm m s->∀ws m' J,evs call gv vs env m=.ok ws m' ->
 RJ X.M X.A (evalPairs (pairTrees keys values X.env pos)) (λps s'=>∃cm',bd X.fs X.gs X.tb cm m s cm' m' s'/\Fr X env cm' m' s'/\Wc (ps.map (·.1)) (ks.map λc=>(⟨c.toArray⟩:Str))/\tz X.D cm' m' s'.heap ws (ps.map (·.2))) J s
theorem El:Im call gv X pos [] [] [] .nil:=λenv cm m s I ws m' J h=>by
 rw[evs]at h;cases h;exact pairTrees_nil_walk ⟨cm,.refl,I,.nil,.nil⟩
theorem BH{y:Str}{j}{p:Pos}{c:List Nat}(e:y=⟨c.toArray⟩)(hv:PE call gv X v E)(hr:Im call gv X pos keys values ks vs):Im call gv X pos (Zz (.Constant (.str y) j p)::keys) (v::values) (c::ks) (.cons E vs):=λenv cm m s I ws m' J h=>by
 rw[evs]at h;obtain⟨w,m1,h1,h⟩:=ar h;obtain⟨ws,m2,h2,h⟩:=ar h;cases h;subst e;obtain⟨x0,I0⟩:=I.up (g:=s.heap) (t:=s.toks+1) (d:=s.drawn) (ch:=X.tb) λ_ _ e=>e
 exact pairTrees_cons_walk (Calls.Constant_str (mW (hv.run I0 h1) λu s1 ⟨c1,x1,I1,r1⟩=>mW (hr _ _ _ _ I1 _ _ J h2) λps s2 ⟨c2,x2,I2,r2,r3⟩=>⟨c2,(x0.trans x1).trans x2,I2,.cons _ _ r2,.cons (r1.go x2 I1.mem I1.nc.q) r3⟩))
theorem qb{P:S9}{w:SY}:∀{ps:List (R3×R3)}{ks:List (List Nat)},Wc (ps.map (·.1)) (ks.map λc=>(⟨c.toArray⟩:Str))->Carries (L2.bx P w) ps ((ks.map λc=>(W1 (⟨c.toArray⟩:Str):L2.Key)).zip (ps.map (·.2)))
 |[],ks,r=>by
  cases ks with
  |nil=>exact WV
  |cons _ _=>cases r
 |(kv,v)::ps,[],r=>by cases r
 |(kv,v)::ps,k::ks,r=>by
  cases r with
  |cons y t r=>exact⟨L2.mY P w _ _,rfl,qb r⟩
theorem EJ(h:∀F,Im call gv { X with fs:=F } pos keys values ks vs)(hall:keys.all (·.isSome)=true)(hl:keys.length=values.length)(h0:keys≠[])(h15:keys.length<=15):
  PE call gv X (.Dict keys values pos) (.HW ks vs):=λenv cm m s I Q J hp=>by
 rw[ev]at hp;have newD:∀b,s.heap.objs.size<=b->s.heap.get? b=Zy:=λb h=>Rt h
 have fd:s.heap.get? s.heap.objs.size=Zy:=newD _ (RC _);have nD:s.heap.objs.size∉X.fs:=λhb=>by
  obtain⟨_,o,e,_⟩:=I.cO _ hb;rw[fd]at e;cases e
 have nG:s.heap.objs.size∉X.gs:=λz=>I.pY z fd
 have nn:∀b∈s.heap.objs.size::X.fs,b∈X.fs∨s.heap.get? b=Zy:=λb hb=>(R5.mp hb).elim (λz=>.inr (z▸fd)) .inl
 have kp:∀b o,s.heap.get? b=Zz o->(s.heap.push { cls:=.type "dict",data:=.dict #[] }).get? b=Zz o:=λ_ _ q=>R7 _ q
 have at0:(s.heap.push { cls:=.type "dict",data:=.dict #[] }).get? s.heap.objs.size=Zz { cls:=.type "dict",data:=.dict #[] }:=RM _ rfl;have nb:X.base.get? s.heap.objs.size=Zy:=by
  cases q:X.base.get? s.heap.objs.size with
  |none=>rfl
  |some o=>have:=I.bs _ _ q;rw[fd]at this;cases this
 have x0:∀F ch,bd F X.gs ch cm m s cm m { s with heap:=s.heap.push { cls:=.type "dict",data:=.dict #[] } }:=λF ch=>.kept kp
 have I0:Fr { X with fs:=s.heap.objs.size::X.fs } env cm m { s with heap:=s.heap.push { cls:=.type "dict",data:=.dict #[] } }:=I.Il (f:=s.heap.objs.size::X.fs) (s':={ s with heap:=s.heap.push { cls:=.type "dict",data:=.dict #[] } }) (I.ok.fs λb h=>R2 _ h) nn (λb hb hn=>by
  rcases R5.mp hb with rfl|hb
  ·exact⟨nb,_,at0,(λv z=>nomatch z),λz=>Yv z nG⟩
  ·exact Yv hb hn) (x0 _ []).toExtK (I.mem.fr (X:=X) rfl nn kp λT=>I.ok.jG _ _ T λb o _=>kp b o) λ_ z=>nomatch z
 cases hv:evs call gv vs env m with
 |stuck=>rw[hv]at hp;exact hp.elim
 |ok ws m2 =>
  rw[hv]at hp;have hp:ap X X.tb cm m s ((ig ws m2).bind λts m=>if ks.length=ts.length/\ks.length<=1000/\ks.Nodup then .ok (.t (.dct (ks.map λk=>.inr ⟨k.toArray⟩) ts)) m else .stuck) J (WK X Q):=hp;cases hf:ig ws m2 with
  |stuck=>rw[hf]at hp;exact hp.elim
  |ok ts m3 =>
   rw[hf]at hp;obtain⟨⟨hk,hk2,nd⟩,hp⟩:=km (show ap X X.tb cm m s (if ks.length=ts.length/\ks.length<=1000/\ks.Nodup then .ok (.t (.dct (ks.map λk=>.inr ⟨k.toArray⟩) ts)) m3 else .stuck) J (WK X Q)from hp);refine wpAny_Dict_walk (knd:=L2.bx X.prog X.w) hall hl h0 h15 (mW (h (s.heap.objs.size::X.fs) env cm m _ I0 _ _ J hv) λps s2 ⟨c2,x2,I2,r2,r3⟩=>⟨_,qb r2,?_,λh' dd sb=>?_⟩)
   ·obtain⟨_,o',e',q⟩:=x2.keep _ _ at0 (λz=>by
     obtain⟨o,e⟩:=I.ok.qm _ I.mem.tab _ z;rw[fd]at e;cases e) (C4 I0.mem R6)
    rcases q with rfl|⟨_,_,q,_⟩
    ·exact⟨_,#[],0,e',⟨rfl,rfl,rfl⟩,rfl,Rw (λ_ he=>by simp at he) ⟨Pairs.nil,Tu⟩⟩
    ·exact Yv q nG
   ·obtain⟨x3,I3,r4⟩:=sK I2 r3 hf
    have hlp:(ps.map (·.2)).length=ks.length:=by rw[<-r4.1];exact hk.symm
    have ek:((ks.map λc=>(W1 (⟨c.toArray⟩:Str):L2.Key)).zip (ps.map (·.2))).map (·.1)=ks.map λc=>(W1 (⟨c.toArray⟩:Str):L2.Key):=VF (by rw[R1,hlp];exact RC _)
    rw[WH _ (by rw[ek];exact vT nd)]at dd;have x23:=x2.trans x3;have fl:Hp (s.heap.objs.size::X.fs) s.heap.objs.size s2.heap:=by
     obtain⟨_,o',e',q⟩:=x2.keep _ _ at0 (λz=>by
      obtain⟨o,e⟩:=I.ok.qm _ I.mem.tab _ z;rw[fd]at e;cases e) (C4 I0.mem R6)
     rcases q with rfl|⟨_,_,q,_⟩
     ·refine⟨_,e',λk=>?_,(λv z=>nomatch z),λv z=>nomatch z⟩
      cases k with
      |seq _ _ z=>cases z
      |dict _ _ _ z=>exact z R6
      |ref _ _ _ z=>cases z
      |trace _ _ z=>cases z
     ·exact Yv q nG
    have neL:s.heap.objs.size≠X.env.locals:=λz=>nD (z▸I.ok.fr)
    obtain⟨x4,nq,I4⟩:=I3.GW (h:=h') (tk:=s2.toks+ps.length) (f:=X.fs) I.ok (λb h=>R2 _ h) R6 neL fl (λb o n e=>(sb.2 b n).trans e) λz=>Yv z nD
    have hz:=(bd.past (X:={ X with fs:=s.heap.objs.size::X.fs }) ((x0 (s.heap.objs.size::X.fs) X.tb).trans x23) x4 (λb hb=>by rw[RQ.mp hb];exact fd) λb o n e=>(sb.2 b λz=>n (RQ.mpr z)).trans e).fr nn;have gl:Rz<s.heap.objs.size:=let⟨_,_,_,e,_⟩:=I.ok.mod.glob;Rm (I.bs _ _ e)
    refine hp.to hz I4.mem _ (show RT X.D c2 m3 h' (.dct (ks.map λk=>.inr ⟨k.toArray⟩) ts) (.ref s.heap.objs.size)from .dct (x:=ps.map (·.2)) ⟨?_,Yu.mpr λz=>?_,dd,nD⟩ (C4 I3.mem R6) (by rw[R1];exact hlp.symm) (hk.symm.trans hlp.symm) λi t v a b=>((RT.go (s':={ s2 with heap:=h',toks:=s2.toks+ps.length }) x4 I3.mem nq (r4.2 i t v a b)).fr (f:=s.heap.objs.size::X.fs) (λb h=>.inl (R2 _ h)) λ_ _ e=>e))
    ·rw[TP,R1]
     have:=TB;omega
    ·rw[z]at gl;exact Yv gl (by decide)
end
end Mi
end
namespace Mi
theorem gE:∀(ts:List T),(∀t∈ts,∃env',bB tg t env=Zz env'/\f env' m=.ok (g t) m)->b7 f tg ts env m=.ok (ts.flatMap g) m
 |[],_=>rfl
 |t::ts,h=>by
  obtain⟨env',e1,e2⟩:=h t R6;rw[b7,e1];show(f env' m).bind _=_;rw[e2];show(b7 f tg ts env m).bind _=_;rw[gE ts λt ht=>h t (R2 _ ht)];rfl
inductive mN {α β:Type}(R:α->β->Prop):List α->List β->Prop where
 |nil:mN R [] []
 |cons {a:α}{b:β}{as:List α}{bs:List β}:R a b->mN R as bs->mN R (a::as) (b::bs)
theorem iH{P:Mem->Prop}:∀(ts:List T) (m:Mem),P m->(∀t∈ts,∀m,P m->∃env' xs m',bB tg t env=Zz env'/\f env' m=.ok xs m'/\P m'/\R t xs) ->
  ∃xss m',b7 f tg ts env m=.ok xss.flatten m'/\P m'/\mN R ts xss
 |[],m,hm,_=>⟨[],m,rfl,hm,.nil⟩
 |t::ts,m,hm,h=>by
  obtain⟨env',xs,m1,e1,e2,p1,r1⟩:=h t R6 m hm;obtain⟨xss,m2,e3,p2,r2⟩:=iH ts m1 p1 λt ht=>h t (R2 _ ht)
  refine⟨xs::xss,m2,?_,p2,.cons r1 r2⟩;rw[b7,e1];show(f env' m).bind _=_;rw[e2];show(b7 f tg ts env m1).bind _=_;rw[e3];rfl
theorem pJ{P:Env->Mem->Prop}:∀(ts:List T) (env:Env) (m:Mem),P env m->(∀t∈ts,∀env m,P env m->∃env1 env2 m2,bB tg t env=Zz env1/\f env1 m=.ok (.next env2) m2/\P env2 m2) ->
  ∃env' m',aJ f tg ts env m=.ok (.next env') m'/\P env' m'
 |[],env,m,hm,_=>⟨env,m,rfl,hm⟩
 |t::ts,env,m,hm,h=>by
  obtain⟨env1,env2,m2,e1,e2,p2⟩:=h t R6 env m hm;obtain⟨env3,m3,e3,p3⟩:=pJ ts env2 m2 p2 λt ht=>h t (R2 _ ht)
  refine⟨env3,m3,?_,p3⟩;rw[aJ,e1];show(f env1 m).bind _=_;rw[e2];exact e3
theorem ci{α:Type}{xs:List α}{i:Int}(h0:0<=i)(h1:i<xs.length):∃x,atT xs i=Zz x/\x∈xs:=by
 have hi:i.toNat<xs.length:=by omega
 refine⟨xs[i.toNat],?_,Ti hi⟩;unfold atT fK;rw[Yq h0,Yq h1];exact R8 hi
theorem strs_map{α:Type}(f:α->List Nat):∀xs:List α,strs? (xs.map λx=>.str (f x))=Zz (xs.map f)
 |[]=>rfl
 |x::xs=>by
  rw[RG,strs?,strs_map f xs];rfl
section
variable{call:Nat->List W->Mem->Res W}{gv:List T}
noncomputable def bS(call:Nat->List W->Mem->Res W)(gv:List T)(cs:Es)(inner:E)(env:Env)(m:Mem):Res (List T):=(tests call gv cs env m).bind λk m=>if k then(ev call gv inner env m).bind mK else .ok [] m
theorem bN(h1:ev call gv it env m=.ok x m0)(h2:aU x m0=.ok ts m1)(h3:b7 (bS call gv cs inner) tg ts (Rx own Zy++keep.map λi=>(env[i]?).join) m1=.ok out m2)(hz:out.length<=lim):ev call gv (.comp own keep it tg cs inner) env m=.ok (.t (.lst out)) (giveBack x m0 m2):=by
 have e:ev call gv (.comp own keep it tg cs inner) env m=(ev call gv it env m).bind λx m0=>(aU x m0).bind λts m =>
  (b7 (bS call gv cs inner) tg ts (Rx own Zy++keep.map λi=>(env[i]?).join) m).bind λout m =>
   if out.length<=lim then .ok (.t (.lst out)) (giveBack x m0 m)else .stuck:=by rw[ev];rfl
 rw[e,h1];show(aU x m0).bind _=_;rw[h2];show(b7 (bS call gv cs inner) tg ts (Rx own Zy++keep.map λi=>(env[i]?).join) m1).bind _=_;rw[h3];exact Yq hz
theorem bP(h1:ev call gv it env m=.ok x m0)(h2:aU x m0=.ok ts m1)(h3:aJ (ex call gv body) tg ts env m1=.ok (.next env') m2):
  ex call gv (.dJ tg it body k) env m=ex call gv k env' (giveBack x m0 m2):=by
 rw[ex,h1];show(aU x m0).bind _=_;rw[h2];show(aJ (ex call gv body) tg ts env m1).bind _=_;rw[h3];rfl
end
section
variable{call:Nat->List W->Mem->Res W}{gv:List T}{env:Env}{m m1 m2:Mem}{k a b:S}{e:E}{w:W}
theorem ai{α β:Type}(x:α)(m:Mem)(f:α->Mem->Res β):(Res.ok x m).bind f=f x m:=rfl
theorem F6(x:T)(m:Mem):view (.t x) m=Zz x:=rfl
theorem HV(x:T)(m:Mem):eO (Zz x) m=.ok (.t x) m:=rfl
theorem Dh(x:Bool)(m:Mem):ph (.t (.bl x)) m=.ok x m:=rfl
theorem pc(x:Bool)(m:Mem):b8 (.t (.bl x)) m=.ok x m:=rfl
theorem Hk(x:T)(m:Mem):Fy (.t x) m=.ok x m:=rfl
theorem C9(x:List T)(m:Mem):mK (.t (.lst x)) m=.ok x m:=rfl
theorem F7(x:Int)(m:Mem):zh (.t (.int x)) m=.ok (Zz x) m:=rfl
theorem yS(i j:Int):dr .Lt (.int i) (.int j)=Zz (decide (i<j)):=rfl
theorem Gn(i j:Int):dr .LtE (.int i) (.int j)=Zz (decide (i<=j)):=rfl
theorem y5(i j:Int):dr .Gt (.int i) (.int j)=Zz (decide (j<i)):=rfl
theorem Go(i j:Int):dr .GtE (.int i) (.int j)=Zz (decide (j<=i)):=rfl
theorem uF(i j:Int):dr .Eq (.int i) (.int j)=Zz (i==j):=rfl
theorem xx(i j:Int):dr .NotEq (.int i) (.int j)=Zz (!(i==j)):=rfl
theorem Ii(i j:Bool):dr .Eq (.bl i) (.bl j)=Zz (i==j):=rfl
theorem Hj(i j:Bool):dr .NotEq (.bl i) (.bl j)=Zz (!(i==j)):=rfl
theorem gu(i j:List Nat):dr .Eq (.str i) (.str j)=Zz (i==j):=rfl
theorem FA(i j:List Nat):dr .NotEq (.str i) (.str j)=Zz (!(i==j)):=rfl
theorem H9(i:Nat)(j:List Nat):dr .In (.str [i]) (.str j)=Zz (decide (i∈j)):=rfl
theorem HE(b x:Bool):dr .Is (.bl x) (.bl b)=Zz (x==b):=rfl
theorem pb(i j:Int):lZ .Add (.int i) (.int j)=Zz (.int (i+j)):=rfl
theorem B1(i j:Int):lZ .Sub (.int i) (.int j)=Zz (.int (i-j)):=rfl
theorem AD{a b:List T}(h:a.length+b.length<=lim):lZ .Add (.lst a) (.lst b)=Zz (.lst (a++b)):=Yq h
theorem qY(h:hY i j=true):lZ .Mult (.int i) (.int j)=Zz (.int (i*j)):=Yq h
theorem BV(h:0<j/\j<1073741824):lZ .FloorDiv (.int i) (.int j)=Zz (.int (i / j)):=Yq h
theorem oF(h:0<j):lZ .Mod (.int i) (.int j)=Zz (.int (i%j)):=Yq h
theorem Fe(h:0<=j/\j<=1000/\i.natAbs<2^64):lZ .Pow (.int i) (.int j)=Zz (.int (i^j.toNat)):=Yq h
theorem HO(ts:List T)(i:Int):yj (.tup ts) (.int i)=atT ts i:=rfl
theorem HK(ts:List T)(i:Int):yj (.lst ts) (.int i)=atT ts i:=rfl
theorem G8(ts:List Int)(i:Int):yj (.du ts) (.int i)=(atT ts i).map .int:=rfl
theorem HU(ts:List T)(lo hi:Option Int):HI (.lst ts) lo hi=Zz (.lst (cut ts lo hi)):=rfl
theorem Hl(ts:List Int)(lo hi:Option Int):HI (.du ts) lo hi=Zz (.lst ((cut ts lo hi).map .int)):=rfl
theorem xG(ts:List T):cM .len [.lst ts]=Zz (.int ts.length):=rfl
theorem HG(ts:List T):cM .len [.tup ts]=Zz (.int ts.length):=rfl
theorem HJ(ts:List Int):cM .len [.du ts]=Zz (.int ts.length):=rfl
theorem tO(b:Bool):cM .int [.bl b]=Zz (.int (b2i b)):=rfl
theorem sH(ts:List T):cM .tuple [.lst ts]=Zz (.tup ts):=rfl
theorem tM(h:i<2^62/\-(2^62)<=i):cM .cK [.int i]=Zz (.lst (rangeT 0 i.toNat)):=Yq h
theorem C7:views [] m=Zz []:=rfl
theorem DP(x:T)(ws:List W):views (.t x::ws) m=(views ws m).map (x::·):=rfl
theorem iq:ig [] m=.ok [] m:=rfl
theorem ip(x:T)(ws:List W):ig (.t x::ws) m=(ig ws m).bind λts m=>.ok (x::ts) m:=rfl
theorem aj(h:ev call gv e env m=.ok w m1):ex call gv (.asg i e k) env m=ex call gv k (env.set i (Zz w)) m1:=by rw[ex,h];rfl
theorem ah(h:ev call gv e env m=.ok w m1):ex call gv (.ret e k) env m=.ok (.ret w) m1:=by rw[ex,h];rfl
theorem bg(h:ev call gv e env m=.ok (.t (.bl true)) m1)(h2:ex call gv a env m1=.ok (.ret w) m2):ex call gv (.cT e a b k) env m=.ok (.ret w) m2:=by
 rw[ex,h];show(ex call gv a env m1).bind _=_;rw[h2];rfl
theorem aP(h:ev call gv e env m=.ok (.t (.bl false)) m1):ex call gv (.cT e a .done k) env m=ex call gv k env m1:=by rw[ex,h];rfl
theorem xj(h1:ev call gv v env m=.ok (.t x) m1)(h2:ev call gv o env m1=.ok (.c c) m1)(h3:ev call gv i env m1=.ok (.t (.int j)) m1)(h4:m1[c]?=Zz (Zz (false,xs)))(h5:fK xs.length j=Zz q):
  ex call gv (.set o i v k) env m=ex call gv k env (m1.set c (Zz (false,xs.set q x))):=by
 rw[ex,h1];show((ev call gv o env m1).bind _)=_;rw[h2];show((ev call gv i env m1).bind _)=_;rw[h3];show(setM (.c c) (.t (.int j)) (.t x) m1).bind _=_;have:setM (.c c) (.t (.int j)) (.t x) m1=.ok () (m1.set c (Zz (false,xs.set q x))):=by
  unfold setM;dsimp only[Fy,Res.bind];rw[h4];dsimp only;rw[h5]
 rw[this];rfl
theorem ax(h:m1.length=n):fin n cell (.ret (.t t)) m1=.ok (.t t) m1:=by
 show Res.ok (W.t t) (m1.take n)=_;rw[<-h,VE]
theorem aH[Decidable c]{k:Nat}(hX:X=if c then(ex call gv b env m).bind λfl m'=>fin k cell fl m' else .stuck)(hc:c)(key:ex call gv b env m=.ok (.ret w) m1)(hf:fin k cell (.ret w) m1=.ok w' m2):X=.ok w' m2:=by
 rw[hX,Yq hc,key];exact hf
end
noncomputable def jw:=Rw @ai ((Rw @F6 (Rw @HV (Rw @Dh (Rw @pc (Rw @Hk (Rw @C9 (Rw @F7 (Rw @yS (Rw @Gn (Rw @y5 (Rw @Go (Rw @uF (Rw @xx (Rw @Ii (Rw @Hj (Rw @gu (Rw @FA (Rw @H9 (Rw @HE (Rw @pb (Rw @B1 (Rw @HO (Rw @HK (Rw @G8 (Rw @HU (Rw @Hl (Rw @xG (Rw @HG (Rw @HJ (Rw @tO (Rw @sH (Rw @C7 (Rw @DP (Rw @iq (@ip))))))))))))))))))))))))))))))))))))
end Mi
namespace My
open Mi
noncomputable def eY:S:=(.ret (.cmp .In (.var 1) (.ix (.var 0) (.con (.int 2)))) .done)
noncomputable def ba:S:=(.cT (.cmp .Eq (.var 2) (.var 1)) (.ret (.var 3) .done) .done .done)
noncomputable def fX:S:=(.dJ (.tp [2,3]) (.ix (.var 0) (.con (.int 3))) ba (.ret (.con .non) .done))
noncomputable def CP:E:=(.emit (.call 2 (.cons (.var 0) (.cons (.var 1) .nil))))
noncomputable def uU:E:=(.comp 1 [1] (.ix (.var 0) (.con (.int 1))) (.nm 0) .nil CP)
noncomputable def Cn:E:=(.emit (.call 2 (.cons (.var 0) (.cons (.var 1) .nil))))
noncomputable def tR:E:=(.comp 1 [1] (.ix (.var 0) (.con (.int 1))) (.nm 0) .nil Cn)
noncomputable def gI:S:=(.asg 2 (.ix (.var 0) (.con (.int 0))) (.cT (.cmp .Eq (.var 2) (.con (.str [97,110,121]))) (.ret (.con (.bl true)) .done) .done (.cT (.cmp .Eq (.var 2) (.con (.str [105,115]))) (.ret (.call 0 (.cons (.var 1) (.cons (.ix (.var 0) (.con (.int 1))) .nil))) .done) .done (.cT (.cmp .Eq (.var 2) (.con (.str [98,121]))) (.ret (.cmp .Eq (.ix (.var 1) (.con (.int 0))) (.ix (.var 0) (.con (.int 1)))) .done) .done (.cT (.cmp .Eq (.var 2) (.con (.str [110,111,116]))) (.ret (.not (.call 2 (.cons (.ix (.var 0) (.con (.int 1))) (.cons (.var 1) .nil)))) .done) .done (.cT (.cmp .Eq (.var 2) (.con (.str [97,110,100]))) (.ret (.blt .all (.cons tR .nil)) .done) .done (.cT (.cmp .Eq (.var 2) (.con (.str [111,114]))) (.ret (.blt .any (.cons uU .nil)) .done) .done (.ret (.call 3 (.cons (.var 0) (.cons (.var 1) .nil))) .done))))))))
noncomputable def dH:S:=(.asg 2 (.call 1 (.cons (.var 1) (.cons (.ix (.var 0) (.con (.int 1))) .nil))) (.cT (.cmp .Is (.var 2) (.con .non)) (.ret (.con (.bl false)) .done) .done (.cT (.cmp .Eq (.ix (.var 0) (.con (.int 0))) (.con (.str [108,101,97,115,116]))) (.ret (.cmp .GtE (.var 2) (.ix (.var 0) (.con (.int 2)))) .done) .done (.ret (.cmp .LtE (.var 2) (.ix (.var 0) (.con (.int 2)))) .done))))
noncomputable def jz:S:=(.ret (.ix (.ix (.var 0) (.con (.int 1))) (.con (.int 0))) .done)
noncomputable def iS:S:=(.ret (.ix (.ix (.var 0) (.con (.int 1))) (.con (.int 1))) .done)
noncomputable def iW:S:=(.ret (.ix (.ix (.ix (.var 0) (.var 1)) (.con (.int 0))) (.con (.int 2))) .done)
noncomputable def iU:S:=(.ret (.ix (.ix (.ix (.var 0) (.var 1)) (.con (.int 0))) (.con (.int 1))) .done)
noncomputable def pZ:E:=(.emit (.var 1))
noncomputable def ir:E:=(.comp 2 [] (.var 0) (.tp [0,1]) .nil pZ)
noncomputable def er:S:=(.ret (.blt .u9 (.cons ir .nil)) .done)
noncomputable def iu:E:=(.emit (.call 5 (.cons (.var 0) .nil)))
noncomputable def dS:E:=(.comp 2 [] (.var 0) (.tp [0,1]) .nil iu)
noncomputable def bY:S:=(.ret (.cmp .Gt (.blt .dC (.cons dS .nil)) (.con (.int 1))) .done)
noncomputable def jE:E:=(.emit (.call 4 (.cons (.var 0) .nil)))
noncomputable def dZ:E:=(.comp 2 [] (.var 0) (.tp [0,1]) .nil jE)
noncomputable def cu:S:=(.ret (.cmp .Lt (.blt .dC (.cons dZ .nil)) (.blt .len (.cons (.var 0) .nil))) .done)
noncomputable def cE:S:=(.ret (.and (.cmp .NotEq (.var 1) (.var 2)) (.not (.call 2 (.cons (.call 6 (.cons (.var 0) (.cons (.var 1) .nil))) (.cons (.call 7 (.cons (.var 0) (.cons (.var 2) .nil))) .nil))))) .done)
noncomputable def bJ:S:=(.EG [2,3] (.ix (.var 0) (.var 1)) (.ret (.cmp .Gt (.blt .min2 (.cons (.ix (.var 2) (.con (.int 4))) (.cons (.var 3) .nil))) (.call 8 (.cons (.var 0) .nil))) .done))
noncomputable def kt:S:=(.cT (.call 12 (.cons (.var 0) (.cons (.var 1) .nil))) (.ret (.tup (.cons (.con (.str [108,101,97,115,116])) (.cons (.var 1) .nil))) .done) .done .done)
noncomputable def oI:S:=(.cT (.call 11 (.cons (.var 0) (.cons (.var 1) (.cons (.var 2) .nil)))) (.ret (.tup (.cons (.con (.str [119,105,115,104])) (.cons (.var 1) (.cons (.var 2) .nil)))) .done) .done .done)
noncomputable def pA:S:=(.dJ (.nm 2) (.blt .cK (.cons (.blt .len (.cons (.var 0) .nil)) .nil)) oI .done)
noncomputable def iy:S:=(.cT (.call 9 (.cons (.var 0) .nil)) (.ret (.tup (.cons (.con (.str [107,105,110,100])) .nil)) .done) .done (.cT (.call 10 (.cons (.var 0) .nil)) (.ret (.tup (.cons (.con (.str [110,97,109,101])) .nil)) .done) .done (.dJ (.nm 1) (.blt .cK (.cons (.blt .len (.cons (.var 0) .nil)) .nil)) pA (.dJ (.nm 1) (.blt .cK (.cons (.blt .len (.cons (.var 0) .nil)) .nil)) kt (.ret (.con .non) .done)))))
noncomputable def pj:S:=(.cT (.cmp .Is (.call 13 (.cons (.var 0) .nil)) (.con .non)) (.ret (.call 8 (.cons (.var 0) .nil)) .done) .done (.ret (.con (.int 0)) .done))
noncomputable def oR:S:=(.EG [2,3,4] (.var 1) (.cT (.cmp .Eq (.var 0) (.con (.str [104,101,97,118,121]))) (.ret (.neg (.ix (.var 3) (.con (.int 5)))) .done) .done (.cT (.cmp .Eq (.var 0) (.con (.str [103,114,101,97,116]))) (.ret (.neg (.var 4)) .done) .done (.cT (.cmp .Eq (.var 0) (.con (.str [115,109,97,108,108]))) (.ret (.var 4) .done) .done (.ret (.ix (.var 3) (.con (.int 6))) .done)))))
noncomputable def zt:E:=(.emit (.call 15 (.cons (.var 0) (.cons (.var 1) .nil))))
noncomputable def qG:E:=(.comp 1 [1] (.var 0) (.nm 0) .nil zt)
noncomputable def sB:S:=(.ret (.bin .Add qG (.lst (.cons (.ix (.var 1) (.con (.int 0))) .nil))) .done)
noncomputable def vC:E:=(.emit (.var 0))
noncomputable def p7:E:=(.comp 3 [] (.var 2) (.tp [0,1,2]) .nil vC)
noncomputable def fk:E:=(.call 16 (.cons (.var 1) (.cons (.var 0) .nil)))
noncomputable def iz:S:=(.asg 2 (.pF [0] (.var 1) fk) (.ret p7 .done))
noncomputable def rP:E:=(.emit (.var 0))
noncomputable def lF:E:=(.comp 3 [0] (.var 1) (.tp [0,1,2]) (.cons (.cmp .Eq (.ix (.var 1) (.con (.int 0))) (.var 3)) .nil) rP)
noncomputable def td:E:=(.emit lF)
noncomputable def tv:E:=(.comp 1 [2] (.gl 0) (.nm 0) .nil td)
noncomputable def sO:E:=(.emit (.var 0))
noncomputable def kJ:E:=(.comp 1 [0] (.var 1) (.nm 0) (.cons (.cmp .Eq (.call 5 (.cons (.ix (.var 0) (.con (.int 1))) .nil)) (.var 1)) .nil) sO)
noncomputable def fg:S:=(.asg 2 kJ (.ret tv .done))
noncomputable def tA:E:=(.emit (.call 5 (.cons (.ix (.var 0) (.con (.int 1))) .nil)))
noncomputable def io:E:=(.comp 1 [] (.var 1) (.nm 0) .nil tA)
noncomputable def uO:E:=(.more (.var 3) (.nm 2) .nil (.emit (.tup (.cons (.var 0) (.cons (.var 1) (.cons (.var 2) .nil))))))
noncomputable def mJ:E:=(.comp 3 [6] (.var 7) (.tp [0,1]) .nil uO)
noncomputable def tW:E:=(.more (.var 2) (.nm 1) .nil (.emit (.tup (.cons (.var 0) (.cons (.var 1) .nil)))))
noncomputable def m6:E:=(.comp 2 [5] (.var 4) (.nm 0) .nil tW)
noncomputable def dI:S:=(.De [4,5,6] (.call 18 (.cons (.var 3) (.cons (.var 1) .nil))) (.asg 7 m6 (.cT (.cmp .In (.var 3) (.var 0)) (.expr (.n8 .extend (.var 2) (.cons mJ .nil)) .done) (.expr (.n8 .extend (.var 2) (.cons (.var 7) .nil)) .done) .done)))
noncomputable def gw:S:=(.asg 2 (.oD .nil) (.dJ (.nm 3) (.blt .nH (.cons io .nil)) dI (.ret (.blt .qS (.cons (.var 2) .nil)) .done)))
noncomputable def iP:E:=(.comp 3 [] (.var 0) (.tp [0,1,2]) .nil (.jI (.var 0) (.tup (.cons (.var 1) (.cons (.var 2) .nil)))))
noncomputable def gX:S:=(.ret (.blt .q6 (.cons iP .nil)) .done)
noncomputable def lw:E:=(.emit (.blt .nj (.cons (.var 1) (.cons (.var 0) .nil))))
noncomputable def cg:E:=(.comp 1 [3] (.var 6) (.nm 0) .nil lw)
noncomputable def bq:S:=(.asg 7 (.call 14 (.cons cg .nil)) (.cT (.cmp .Gt (.var 7) (.con (.int 0))) (.ret (.tup (.cons (.var 6) (.cons (.var 7) .nil))) .done) .done .done))
noncomputable def kR:E:=(.emit (.blt .nj (.cons (.var 1) (.cons (.var 0) .nil))))
noncomputable def fy:E:=(.comp 1 [1] (.var 0) (.nm 0) .nil kR)
noncomputable def bI:E:=(.blt .rh (.cons fy .nil))
noncomputable def dm:E:=(.comp 2 [] (.blt .enum (.cons (.tr (.call 17 (.cons (.var 0) (.cons (.var 2) .nil)))) .nil)) (.tp [0,1]) .nil (.jI (.var 1) (.var 0)))
noncomputable def bZ:S:=(.asg 3 (.call 20 (.cons (.var 2) .nil)) (.asg 4 (.blt .q6 (.cons dm .nil)) (.asg 5 (.pF [4] (.call 19 (.cons (.var 1) (.cons (.var 2) .nil))) bI) (.dJ (.nm 6) (.var 5) bq (.ret (.con .non) .done)))))
noncomputable def eT:S:=(.cT (.cmp .Lt (.var 1) (.blt .len (.cons (.var 0) .nil))) (.ret (.ix (.var 0) (.var 1)) .done) .done (.ret (.con (.int 0)) .done))
noncomputable def lJ:S:=(.ret (.oD (.cons (.bin .Mult (.var 0) (.blt .int (.cons (.cmp .GtE (.var 0) (.bin .Pow (.con (.int 10)) (.con (.int 18)))) .nil))) (.cons (.bin .Mod (.var 0) (.con (.int 2147483647))) (.cons (.con (.int 0)) .nil)))) .done)
noncomputable def lx:S:=(.cT (.cmp .Gt (.ix (.var 0) (.con (.int 0))) (.con (.int 0))) (.asg 2 (.bin .Mod (.ix (.var 0) (.con (.int 0))) (.var 1)) (.set (.var 0) (.con (.int 0)) (.bin .FloorDiv (.ix (.var 0) (.con (.int 0))) (.var 1)) (.ret (.var 2) .done))) .done (.set (.var 0) (.con (.int 2)) (.bin .Add (.ix (.var 0) (.con (.int 2))) (.con (.int 1))) (.asg 3 (.bin .Mod (.bin .Mult (.bin .Add (.bin .Add (.ix (.var 0) (.con (.int 1))) (.bin .Mult (.con (.int 7919)) (.ix (.var 0) (.con (.int 2))))) (.con (.int 1))) (.con (.int 48271))) (.con (.int 2147483647))) (.asg 3 (.bin .Mod (.bin .Mult (.var 3) (.bin .Add (.bin .FloorDiv (.var 3) (.con (.int 1009))) (.con (.int 69621)))) (.con (.int 2147483647))) (.ret (.bin .Mod (.bin .Mod (.bin .Mult (.var 3) (.bin .Add (.bin .FloorDiv (.var 3) (.con (.int 2003))) (.con (.int 40692)))) (.con (.int 2147483399))) (.var 1)) .done)))))
noncomputable def kM:S:=(.ret (.ix (.var 1) (.call 24 (.cons (.var 0) (.cons (.blt .len (.cons (.var 1) .nil)) .nil)))) .done)
noncomputable def kX:S:=(.asg 1 (.lst (.cons (.con (.str [97])) (.cons (.con (.str [97,98])) (.cons (.con (.str [98])) (.cons (.con (.str [97,110,121,97])) (.cons (.con (.str [105,115,108,97,110,100])) (.cons (.con (.str [97,98,99])) (.cons (.con (.str [122])) (.cons (.con (.str [98,121,98,121,101])) (.cons (.con (.str [111,114,100,101,114])) (.cons (.con (.str [110,111,116,101,115])) (.cons (.con (.str [99])) (.cons (.con (.str [122,122,122,122,122,122,122,122])) .nil))))))))))))) (.ret (.ix (.var 1) (.bin .Mod (.var 0) (.con (.int 12)))) .done))
noncomputable def fU:S:=(.ret (.ix (.lst (.cons (.call 24 (.cons (.var 0) (.cons (.con (.int 6)) .nil))) (.cons (.call 24 (.cons (.var 0) (.cons (.con (.int 6)) .nil))) (.cons (.bin .Sub (.bin .Pow (.con (.int 10)) (.con (.int 9))) (.call 24 (.cons (.var 0) (.cons (.con (.int 3)) .nil)))) .nil)))) (.call 24 (.cons (.var 0) (.cons (.con (.int 3)) .nil)))) .done)
noncomputable def iV:E:=(.emit (.tup (.cons (.var 0) (.cons (.call 27 (.cons (.var 1) .nil)) .nil))))
noncomputable def rE:E:=(.comp 1 [0] (.lst (.cons (.con (.str [112,114,105,99,101])) (.cons (.con (.str [119,105,100,101])) .nil))) (.nm 0) (.cons (.cmp .Eq (.call 24 (.cons (.var 1) (.cons (.con (.int 2)) .nil))) (.con (.int 1))) .nil) iV)
noncomputable def jo:E:=(.emit (.var 0))
noncomputable def lX:E:=(.comp 1 [0] (.lst (.cons (.con (.str [102,114,101,115,104])) (.cons (.con (.str [111,108,100])) (.cons (.con (.str [111,108,100,115])) .nil)))) (.nm 0) (.cons (.cmp .Eq (.call 24 (.cons (.var 1) (.cons (.con (.int 2)) .nil))) (.con (.int 1))) .nil) jo)
noncomputable def kT:S:=(.asg 3 (.blt .tuple (.cons lX .nil)) (.asg 4 (.blt .tuple (.cons rE .nil)) (.ret (.tup (.cons (.var 1) (.cons (.var 2) (.cons (.var 3) (.cons (.var 4) .nil))))) .done)))
noncomputable def l0:E:=(.emit (.call 29 (.cons (.var 1) (.cons (.bin .Sub (.var 2) (.con (.int 1))) .nil))))
noncomputable def qQ:E:=(.comp 1 [0,1] (.blt .cK (.cons (.var 3) .nil)) (.nm 0) .nil l0)
noncomputable def gW:S:=(.asg 2 (.call 24 (.cons (.var 0) (.cons (.bin .Add (.con (.int 6)) (.bin .Mult (.con (.int 3)) (.blt .int (.cons (.cmp .Gt (.var 1) (.con (.int 0))) .nil)))) .nil))) (.cT (.cmp .Lt (.var 2) (.con (.int 2))) (.ret (.tup (.cons (.con (.str [97,110,121])) .nil)) .done) .done (.cT (.cmp .Eq (.var 2) (.con (.int 2))) (.ret (.tup (.cons (.con (.str [105,115])) (.cons (.call 25 (.cons (.var 0) (.cons (.lst (.cons (.con (.str [102,114,101,115,104])) (.cons (.con (.str [111,108,100])) (.cons (.con (.str [111,108,100,115])) (.cons (.con (.str [110,101,119])) .nil))))) .nil))) .nil))) .done) .done (.cT (.cmp .Eq (.var 2) (.con (.int 3))) (.ret (.tup (.cons (.con (.str [98,121])) (.cons (.call 26 (.cons (.call 24 (.cons (.var 0) (.cons (.con (.int 12)) .nil))) .nil)) .nil))) .done) .done (.cT (.cmp .Lt (.var 2) (.con (.int 6))) (.ret (.tup (.cons (.ix (.lst (.cons (.con (.str [108,101,97,115,116])) (.cons (.con (.str [109,111,115,116])) .nil))) (.bin .Sub (.var 2) (.con (.int 4)))) (.cons (.call 25 (.cons (.var 0) (.cons (.lst (.cons (.con (.str [112,114,105,99,101])) (.cons (.con (.str [119,105,100,101])) (.cons (.con (.str [102,97,114])) .nil)))) .nil))) (.cons (.call 27 (.cons (.var 0) .nil)) .nil)))) .done) .done (.cT (.cmp .Eq (.var 2) (.con (.int 6))) (.ret (.tup (.cons (.con (.str [110,111,116])) (.cons (.call 29 (.cons (.var 0) (.cons (.bin .Sub (.var 1) (.con (.int 1))) .nil))) .nil))) .done) .done (.asg 3 (.bin .Add (.con (.int 2)) (.call 24 (.cons (.var 0) (.cons (.con (.int 2)) .nil)))) (.ret (.tup (.cons (.ix (.lst (.cons (.con (.str [97,110,100])) (.cons (.con (.str [111,114])) .nil))) (.bin .Sub (.var 2) (.con (.int 7)))) (.cons (.blt .tuple (.cons qQ .nil)) .nil))) .done))))))))
noncomputable def ln:S:=(.asg 5 (.ix (.lst (.cons (.bin .Add (.con (.int 1)) (.call 24 (.cons (.var 0) (.cons (.con (.int 9)) .nil)))) (.cons (.bin .Add (.con (.int 1)) (.call 24 (.cons (.var 0) (.cons (.con (.int 9)) .nil)))) (.cons (.bin .Add (.con (.int 1)) (.call 24 (.cons (.var 0) (.cons (.bin .Pow (.con (.int 10)) (.con (.int 6))) .nil)))) .nil)))) (.call 24 (.cons (.var 0) (.cons (.con (.int 3)) .nil)))) (.asg 6 (.ix (.lst (.cons (.con (.int 1)) (.cons (.bin .Add (.con (.int 1)) (.call 24 (.cons (.var 0) (.cons (.var 5) .nil)))) (.cons (.var 5) .nil)))) (.call 24 (.cons (.var 0) (.cons (.con (.int 3)) .nil)))) (.asg 7 (.ix (.lst (.cons (.tup (.cons (.con (.str [97,110,121])) .nil)) (.cons (.call 29 (.cons (.var 0) (.cons (.con (.int 2)) .nil))) .nil))) (.call 24 (.cons (.var 0) (.cons (.con (.int 2)) .nil)))) (.asg 8 (.ix (.lst (.cons (.call 24 (.cons (.var 0) (.cons (.con (.int 3)) .nil))) (.cons (.call 24 (.cons (.var 0) (.cons (.con (.int 1001)) .nil))) .nil))) (.call 24 (.cons (.var 0) (.cons (.con (.int 2)) .nil)))) (.ret (.tup (.cons (.var 1) (.cons (.call 28 (.cons (.var 0) (.cons (.var 2) (.cons (.var 3) .nil)))) (.cons (.var 7) (.cons (.var 5) (.cons (.var 6) (.cons (.var 8) (.cons (.var 4) .nil)))))))) .done)))))
noncomputable def mh:E:=(.emit (.var 1))
noncomputable def mC:E:=(.comp 2 [0] (.ix (.var 1) (.con (.int 3))) (.tp [0,1]) (.cons (.cmp .Eq (.var 0) (.ix (.var 2) (.con (.int 1)))) .nil) mh)
noncomputable def yV:E:=(.emit (.var 0))
noncomputable def zB:E:=(.comp 1 [1] (.ix (.var 0) (.con (.int 1))) (.nm 0) (.cons (.call 31 (.cons (.var 0) (.cons (.var 1) .nil))) .nil) yV)
noncomputable def za:E:=(.emit (.var 0))
noncomputable def yB:E:=(.comp 1 [1] (.ix (.var 0) (.con (.int 1))) (.nm 0) (.cons (.not (.call 31 (.cons (.var 0) (.cons (.var 1) .nil)))) .nil) za)
noncomputable def eC:S:=(.asg 2 (.ix (.var 0) (.con (.int 0))) (.cT (.cmp .Eq (.var 2) (.con (.str [97,110,121]))) (.ret (.con (.bl true)) .done) .done (.cT (.cmp .Eq (.var 2) (.con (.str [105,115]))) (.ret (.cmp .In (.ix (.var 0) (.con (.int 1))) (.ix (.var 1) (.con (.int 2)))) .done) .done (.cT (.cmp .Eq (.var 2) (.con (.str [98,121]))) (.ret (.cmp .Eq (.ix (.var 1) (.con (.int 0))) (.ix (.var 0) (.con (.int 1)))) .done) .done (.cT (.cmp .Eq (.var 2) (.con (.str [110,111,116]))) (.ret (.not (.call 31 (.cons (.ix (.var 0) (.con (.int 1))) (.cons (.var 1) .nil)))) .done) .done (.cT (.cmp .Eq (.var 2) (.con (.str [97,110,100]))) (.ret (.cmp .Eq yB (.lst .nil)) .done) .done (.cT (.cmp .Eq (.var 2) (.con (.str [111,114]))) (.ret (.cmp .NotEq zB (.lst .nil)) .done) .done (.asg 3 mC (.cT (.cmp .Eq (.var 3) (.lst .nil)) (.ret (.con (.bl false)) .done) .done (.ret (.ix (.lst (.cons (.cmp .GtE (.ix (.var 3) (.con (.int 0))) (.ix (.var 0) (.con (.int 2)))) (.cons (.cmp .LtE (.ix (.var 3) (.con (.int 0))) (.ix (.var 0) (.con (.int 2)))) .nil))) (.blt .int (.cons (.cmp .Eq (.var 2) (.con (.str [109,111,115,116]))) .nil))) .done))))))))))
noncomputable def rK:E:=(.emit (.con (.int 1)))
noncomputable def me:E:=(.comp 2 [6] (.var 0) (.tp [0,1]) (.cons (.cmp .Lt (.var 2) (.blt .min2 (.cons (.ix (.var 0) (.con (.int 4))) (.cons (.var 1) .nil)))) .nil) rK)
noncomputable def zl:E:=(.emit (.var 1))
noncomputable def mw:E:=(.comp 2 [] (.var 0) (.tp [0,1]) .nil zl)
noncomputable def rI:S:=(.cT (.and (.cmp .NotEq (.ix (.var 4) (.con (.int 0))) (.ix (.var 2) (.con (.int 0)))) (.not (.call 31 (.cons (.ix (.var 2) (.con (.int 2))) (.cons (.ix (.var 4) (.con (.int 1))) .nil))))) (.ret (.con (.int 0)) .done) .done .done)
noncomputable def qL:S:=(.dJ (.tp [4,5]) (.var 0) rI .done)
noncomputable def zO:E:=(.emit (.ix (.ix (.var 0) (.con (.int 1))) (.con (.int 1))))
noncomputable def jt:E:=(.comp 2 [] (.var 0) (.tp [0,1]) .nil zO)
noncomputable def zM:E:=(.emit (.ix (.ix (.var 0) (.con (.int 1))) (.con (.int 0))))
noncomputable def qM:E:=(.comp 2 [] (.var 0) (.tp [0,1]) .nil zM)
noncomputable def k7:S:=(.asg 1 qM (.cT (.or (.cmp .Gt (.blt .dC (.cons jt .nil)) (.con (.int 1))) (.cmp .Lt (.blt .dC (.cons (.var 1) .nil)) (.blt .len (.cons (.var 1) .nil)))) (.ret (.con (.int 0)) .done) .done (.dJ (.tp [2,3]) (.var 0) qL (.asg 6 (.blt .u9 (.cons mw .nil)) (.cT (.cmp .NotEq me (.lst .nil)) (.ret (.con (.int 0)) .done) .done (.ret (.var 6) .done))))))
noncomputable def cY:S:=(.expr (.n8 .append (.var 4) (.cons (.blt .nj (.cons (.HW [[104,101,97,118,121],[103,114,101,97,116],[115,109,97,108,108],[115,111,111,110]] (.cons (.bin .Sub (.con (.int 0)) (.ix (.var 6) (.con (.int 5)))) (.cons (.bin .Sub (.con (.int 0)) (.var 7)) (.cons (.var 7) (.cons (.ix (.var 6) (.con (.int 6))) .nil))))) (.cons (.var 3) .nil))) .nil)) .done)
noncomputable def bT:S:=(.asg 4 (.oD .nil) (.dJ (.tp [5,6,7]) (.lst (.cons (.var 1) (.cons (.var 2) .nil))) cY (.cT (.cmp .NotEq (.ix (.var 4) (.con (.int 0))) (.ix (.var 4) (.con (.int 1)))) (.ret (.cmp .Lt (.ix (.var 4) (.con (.int 0))) (.ix (.var 4) (.con (.int 1)))) .done) .done .done)))
noncomputable def gg:S:=(.dJ (.nm 3) (.var 0) bT (.ret (.cmp .Lt (.ix (.var 1) (.con (.int 0))) (.ix (.var 2) (.con (.int 0)))) .done))
noncomputable def BM:E:=(.emit (.var 0))
noncomputable def CC:E:=(.comp 3 [] (.var 2) (.tp [0,1,2]) .nil BM)
noncomputable def AZ:E:=(.emit (.var 0))
noncomputable def uE:E:=(.comp 1 [0,3] (.var 2) (.nm 0) (.cons (.call 33 (.cons (.var 1) (.cons (.var 0) (.cons (.var 2) .nil)))) .nil) AZ)
noncomputable def iw:S:=(.asg 4 (.blt .len (.cons uE .nil)) (.expr (.n8 .insert (.var 2) (.cons (.var 4) (.cons (.var 3) .nil))) .done))
noncomputable def pT:S:=(.asg 2 (.oD .nil) (.dJ (.nm 3) (.var 1) iw (.ret CC .done)))
noncomputable def zT:E:=(.emit (.tup (.cons (.var 1) (.cons (.var 2) (.cons (.var 0) .nil)))))
noncomputable def mr:E:=(.comp 1 [3,6] (.var 10) (.nm 0) .nil zT)
noncomputable def yR:E:=(.emit (.var 0))
noncomputable def qR:E:=(.comp 3 [9] (.var 1) (.tp [0,1,2]) (.cons (.cmp .Eq (.tup (.cons (.ix (.var 1) (.con (.int 0))) (.cons (.ix (.ix (.var 1) (.con (.int 1))) (.con (.int 1))) .nil))) (.tup (.cons (.con (.str [98,101,97,114])) (.cons (.var 3) .nil)))) .nil) yR)
noncomputable def dy:S:=(.asg 9 (.ix (.ix (.var 4) (.con (.int 1))) (.con (.int 1))) (.cT (.and (.cmp .Eq (.tup (.cons (.ix (.var 4) (.con (.int 0))) (.cons (.ix (.var 7) (.con (.int 0))) .nil))) (.tup (.cons (.con (.str [103,105,118,101])) (.cons (.con (.str [116,97,107,101])) .nil)))) (.cmp .Eq (.var 9) (.ix (.ix (.var 7) (.con (.int 1))) (.con (.int 1))))) (.asg 10 qR (.cT (.cmp .In (.var 9) (.var 0)) (.asg 2 (.GS (.var 2) mr) .done) (.expr (.n8 .append (.var 2) (.cons (.tup (.cons (.var 3) (.cons (.var 6) .nil))) .nil)) .done) .done)) .done .done))
noncomputable def fV:S:=(.dJ (.tp [6,7,8]) (.var 1) dy .done)
noncomputable def ly:S:=(.asg 2 (.oD .nil) (.dJ (.tp [3,4,5]) (.var 1) fV (.ret (.blt .qS (.cons (.var 2) .nil)) .done)))
noncomputable def vK:E:=(.emit (.n8 .index (.var 1) (.cons (.var 0) .nil)))
noncomputable def jX:E:=(.comp 1 [3] (.var 6) (.nm 0) .nil vK)
noncomputable def wh:E:=(.emit (.blt .nj (.cons (.var 1) (.cons (.var 0) .nil))))
noncomputable def j6:E:=(.comp 1 [4] (.var 6) (.nm 0) .nil wh)
noncomputable def fb:S:=(.asg 7 (.call 32 (.cons j6 .nil)) (.asg 8 (.blt .rh (.cons jX .nil)) (.cT (.and (.cmp .Gt (.var 7) (.con (.int 0))) (.or (.cmp .Is (.var 5) (.con .non)) (.blt .G4 (.cons (.var 8) (.cons (.ix (.var 5) (.con (.int 0))) .nil))))) (.asg 5 (.tup (.cons (.var 8) (.cons (.var 6) (.cons (.var 7) .nil)))) .done) .done .done)))
noncomputable def vp:E:=(.emit (.tup (.cons (.var 0) (.cons (.tup (.cons (.var 1) (.cons (.var 2) .nil))) .nil))))
noncomputable def kw:E:=(.comp 3 [] (.var 2) (.tp [0,1,2]) .nil vp)
noncomputable def iB:S:=(.asg 3 (.call 34 (.cons (.var 0) (.cons (.var 2) .nil))) (.asg 4 (.blt .uH (.cons kw .nil)) (.asg 5 (.con .non) (.dJ (.nm 6) (.call 35 (.cons (.var 1) (.cons (.var 2) .nil))) fb (.cT (.cmp .Is (.var 5) (.con .non)) (.ret (.con .non) .done) .done (.ret (.FU (.var 5) (.con (.int 1)) .hole) .done))))))
noncomputable def rj:S:=(.expr (.n8 .append (.var 2) (.cons (.n8 .dK (.var 1) (.cons (.call 24 (.cons (.var 0) (.cons (.blt .len (.cons (.var 1) .nil)) .nil))) .nil)) .nil)) .done)
noncomputable def lg:S:=(.asg 1 (.oD (.cons (.con (.str [104,101,97,118,121])) (.cons (.con (.str [103,114,101,97,116])) (.cons (.con (.str [115,109,97,108,108])) (.cons (.con (.str [115,111,111,110])) .nil))))) (.asg 2 (.oD .nil) (.dJ (.nm 3) (.blt .cK (.cons (.ix (.lst (.cons (.con (.int 0)) (.cons (.con (.int 1)) (.cons (.con (.int 1)) (.cons (.con (.int 2)) (.cons (.con (.int 3)) .nil)))))) (.call 24 (.cons (.var 0) (.cons (.con (.int 5)) .nil)))) .nil)) rj (.ret (.blt .tuple (.cons (.var 2) .nil)) .done))))
noncomputable def iF:S:=(.ret (.ix (.lst (.cons (.tup .nil) (.cons (.tup .nil) (.cons (.tup (.cons (.con (.str [114,121,101])) .nil)) (.cons (.tup (.cons (.con (.str [111])) (.cons (.con (.str [114,121,101])) .nil))) (.cons (.tup (.cons (.con (.str [111,97,116])) (.cons (.con (.str [114,121,101])) (.cons (.con (.str [111])) (.cons (.con (.str [119,104,101,97,116])) .nil))))) .nil)))))) (.call 24 (.cons (.var 0) (.cons (.con (.int 5)) .nil)))) .done)
noncomputable def db:S:=(.asg 7 (.call 25 (.cons (.var 0) (.cons (.lst (.cons (.con (.str [103,105,118,101])) (.cons (.con (.str [116,97,107,101])) (.cons (.con (.str [103,105,118,101])) (.cons (.con (.str [116,97,107,101])) (.cons (.con (.str [98,101,97,114])) .nil)))))) .nil))) (.asg 8 (.ix (.lst (.cons (.con (.str [114,121,101])) (.cons (.con (.str [111,97,116])) (.cons (.con (.str [111])) .nil)))) (.call 24 (.cons (.var 0) (.cons (.bin .Add (.con (.int 1)) (.var 5)) .nil)))) (.asg 9 (.call 26 (.cons (.bin .Add (.var 3) (.bin .Mult (.var 6) (.blt .int (.cons (.cmp .Gt (.call 24 (.cons (.var 0) (.cons (.con (.int 16)) .nil))) (.con (.int 0))) .nil)))) .nil)) (.asg 10 (.call 30 (.cons (.var 0) (.cons (.var 7) (.cons (.var 9) (.cons (.var 8) (.cons (.call 24 (.cons (.var 0) (.cons (.con (.int 9)) .nil))) .nil)))))) (.cT (.and (.cmp .NotEq (.var 2) (.lst .nil)) (.cmp .Eq (.call 24 (.cons (.var 0) (.cons (.con (.int 12)) .nil))) (.con (.int 0)))) (.asg 10 (.ix (.ix (.var 2) (.neg (.con (.int 1)))) (.con (.int 1))) .done) .done (.asg 11 (.ix (.lst (.cons (.ix (.var 10) (.con (.int 3))) (.cons (.bin .Add (.con (.int 1)) (.call 24 (.cons (.var 0) (.cons (.ix (.var 10) (.con (.int 3))) .nil)))) .nil))) (.call 24 (.cons (.var 0) (.cons (.con (.int 2)) .nil)))) (.expr (.n8 .append (.var 2) (.cons (.tup (.cons (.var 4) (.cons (.var 10) (.cons (.var 11) .nil)))) .nil)) (.asg 4 (.bin .Add (.bin .Add (.var 4) (.con (.int 1))) (.call 24 (.cons (.var 0) (.cons (.con (.int 4)) .nil)))) .done))))))))
noncomputable def fc:S:=(.asg 2 (.oD .nil) (.asg 3 (.call 24 (.cons (.var 0) (.cons (.con (.int 12)) .nil))) (.asg 4 (.call 24 (.cons (.var 0) (.cons (.con (.int 5)) .nil))) (.asg 5 (.call 24 (.cons (.var 0) (.cons (.con (.int 3)) .nil))) (.dJ (.nm 6) (.blt .cK (.cons (.call 24 (.cons (.var 0) (.cons (.bin .Add (.var 1) (.con (.int 1))) .nil))) .nil)) db (.ret (.var 2) .done))))))
noncomputable def cX:S:=(.expr (.n8 .append (.var 3) (.cons (.n8 .dK (.var 2) (.cons (.call 24 (.cons (.var 0) (.cons (.blt .len (.cons (.var 2) .nil)) .nil))) .nil)) .nil)) .done)
noncomputable def fY:S:=(.asg 2 (.Gg (.var 1)) (.asg 3 (.oD .nil) (.FT (.cmp .NotEq (.var 2) (.lst .nil)) cX (.ret (.var 3) .done))))
noncomputable def sY:S:=(.asg 9 (.call 40 (.cons (.var 3) (.cons (.var 6) .nil))) (.asg 10 (.blt .list (.cons (.var 9) .nil)) (.asg 11 (.call 21 (.cons (.var 4) (.cons (.var 5) (.cons (.var 10) .nil)))) (.cT (.or (.cmp .NotEq (.var 11) (.var 7)) (.cmp .NotEq (.var 10) (.var 9))) (.ret (.con (.bl false)) .done) .done (.cT (.and (.cmp .IsNot (.var 7) (.con .non)) (.or (.not (.HD (.var 11) .tuple)) (.HD (.ix (.var 11) (.con (.int 1))) .bool))) (.ret (.con (.bl false)) .done) .done .done)))))
noncomputable def oy:S:=(.asg 3 (.call 23 (.cons (.var 2) .nil)) (.asg 4 (.call 37 (.cons (.var 3) .nil)) (.asg 5 (.call 38 (.cons (.var 3) .nil)) (.asg 6 (.call 39 (.cons (.var 3) (.cons (.ix (.lst (.cons (.con (.int 10)) (.cons (.con (.int 30)) .nil))) (.blt .int (.cons (.and (.cmp .Eq (.var 1) (.con (.int 0))) (.cmp .Eq (.call 24 (.cons (.var 3) (.cons (.con (.int 8)) .nil))) (.con (.int 7)))) .nil))) .nil))) (.asg 7 (.call 36 (.cons (.var 4) (.cons (.var 5) (.cons (.var 6) .nil)))) (.dJ (.nm 8) (.blt .cK (.cons (.con (.int 2)) .nil)) sY .done))))))
noncomputable def t8:S:=(.dJ (.tp [1,2]) (.blt .enum (.cons (.tr (.bin .Add (.lst (.cons (.call 22 (.cons (.var 0) (.cons (.con (.int 0)) .nil))) .nil)) (.FU (.var 0) (.con (.int 1)) (.con (.int 6))))) .nil)) oy (.ret (.cmp .Is (.call 21 (.cons (.tup .nil) (.cons (.tup (.cons (.con (.str [114,121,101])) .nil)) (.cons (.lst .nil) .nil)))) (.con .non)) .done))
noncomputable def fns:List Fn:=[⟨2,2,eY,false⟩,⟨2,4,fX,false⟩,⟨2,3,gI,false⟩,⟨2,3,dH,false⟩,⟨1,1,jz,false⟩,⟨1,1,iS,false⟩,⟨2,2,iW,false⟩,⟨2,2,iU,false⟩,⟨1,1,er,false⟩,⟨1,1,bY,false⟩,⟨1,1,cu,false⟩,⟨3,3,cE,false⟩,⟨2,4,bJ,false⟩,⟨1,3,iy,false⟩,⟨1,1,pj,false⟩,⟨2,5,oR,false⟩,⟨2,2,sB,false⟩,⟨2,3,iz,false⟩,⟨2,3,fg,false⟩,⟨2,8,gw,false⟩,⟨1,1,gX,false⟩,⟨3,8,bZ,false⟩,⟨2,2,eT,false⟩,⟨1,1,lJ,true⟩,⟨2,4,lx,false⟩,⟨2,2,kM,false⟩,⟨1,2,kX,false⟩,⟨1,1,fU,false⟩,⟨3,5,kT,false⟩,⟨2,4,gW,false⟩,⟨5,9,ln,false⟩,⟨2,4,eC,false⟩,⟨1,7,k7,false⟩,⟨3,8,gg,false⟩,⟨2,5,pT,false⟩,⟨2,11,ly,false⟩,⟨3,9,iB,false⟩,⟨1,4,lg,false⟩,⟨1,1,iF,false⟩,⟨2,12,fc,false⟩,⟨2,4,fY,false⟩,⟨1,12,t8,false⟩]
noncomputable def gv:List T:=[(.tup [(.str [103,105,118,101]),(.str [116,97,107,101]),(.str [98,101,97,114])])]
noncomputable abbrev cf:=c6 fns gv
abbrev CF(k:Nat)(b:S)(p q:Nat)(c:Bool):Prop:=∀(n:Nat) (ws:List W) (m:Mem),cf (n+1) k ws m=if ws.length=p then(ex (cf n) gv b (ws.map Zz++Rx (q-p) Zy) m).bind λfl m'=>fin m.length c fl m' else .stuck
theorem uK:CF 0 eY 2 2 false:=λ_ _ _=>rfl
theorem vq:CF 1 fX 2 4 false:=λ_ _ _=>rfl
theorem sZ:CF 2 gI 2 3 false:=λ_ _ _=>rfl
theorem se:CF 3 dH 2 3 false:=λ_ _ _=>rfl
theorem v8:CF 4 jz 1 1 false:=λ_ _ _=>rfl
theorem wH:CF 5 iS 1 1 false:=λ_ _ _=>rfl
theorem vo:CF 6 iW 2 2 false:=λ_ _ _=>rfl
theorem vG:CF 7 iU 2 2 false:=λ_ _ _=>rfl
theorem qF:CF 8 er 1 1 false:=λ_ _ _=>rfl
theorem jF:CF 9 bY 1 1 false:=λ_ _ _=>rfl
theorem kh:CF 10 cu 1 1 false:=λ_ _ _=>rfl
theorem kD:CF 11 cE 3 3 false:=λ_ _ _=>rfl
theorem jT:CF 12 bJ 2 4 false:=λ_ _ _=>rfl
theorem y9:CF 13 iy 1 3 false:=λ_ _ _=>rfl
theorem EK:CF 14 pj 1 1 false:=λ_ _ _=>rfl
theorem Ez:CF 15 oR 2 5 false:=λ_ _ _=>rfl
theorem Cr:CF 16 sB 2 2 false:=λ_ _ _=>rfl
theorem zj:CF 17 iz 2 3 false:=λ_ _ _=>rfl
theorem tV:CF 18 fg 2 3 false:=λ_ _ _=>rfl
theorem wd:CF 19 gw 2 8 false:=λ_ _ _=>rfl
theorem qx:CF 20 gX 1 1 false:=λ_ _ _=>rfl
theorem fR:CF 21 bZ 3 8 false:=λ_ _ _=>rfl
theorem ur:CF 22 eT 2 2 false:=λ_ _ _=>rfl
theorem Ax:CF 23 lJ 1 1 true:=λ_ _ _=>rfl
theorem CV:CF 24 lx 2 4 false:=λ_ _ _=>rfl
theorem B3:CF 25 kM 2 2 false:=λ_ _ _=>rfl
theorem CW:CF 26 kX 1 2 false:=λ_ _ _=>rfl
theorem vj:CF 27 fU 1 1 false:=λ_ _ _=>rfl
theorem B7:CF 28 kT 3 5 false:=λ_ _ _=>rfl
theorem uQ:CF 29 gW 2 4 false:=λ_ _ _=>rfl
theorem zk:CF 30 ln 5 9 false:=λ_ _ _=>rfl
theorem pE:CF 31 eC 2 4 false:=λ_ _ _=>rfl
theorem AR:CF 32 k7 1 7 false:=λ_ _ _=>rfl
theorem wi:CF 33 gg 3 8 false:=λ_ _ _=>rfl
theorem D6:CF 34 pT 2 5 false:=λ_ _ _=>rfl
theorem Bi:CF 35 ly 2 11 false:=λ_ _ _=>rfl
theorem rD:CF 36 iB 3 9 false:=λ_ _ _=>rfl
theorem Ap:CF 37 lg 1 4 false:=λ_ _ _=>rfl
theorem zw:CF 38 iF 1 1 false:=λ_ _ _=>rfl
theorem uJ:CF 39 fc 2 12 false:=λ_ _ _=>rfl
theorem vW:CF 40 fY 2 4 false:=λ_ _ _=>rfl
theorem FH:CF 41 t8 1 12 false:=λ_ _ _=>rfl
theorem Bk:gv[0]?=Zz (.tup [(.str [103,105,118,101]),(.str [116,97,107,101]),(.str [98,101,97,114])]):=rfl
end My
section
set_option maxRecDepth 20000
namespace My
open Mi
def bp(s:List T):Prop:=∃a b c:Int,s=[.int a,.int b,.int c]
noncomputable def put(m:Mem)(i:Nat)(s:List T):Mem:=m.set i (Zz (false,s))
theorem Au{m:Mem}{i:Nat}{s:List T}(h:i<m.length):(put m i s)[i]?=Zz (Zz (false,s)):=S6 h
theorem aI{m:Mem}{i:Nat}{s:List T}:(put m i s).length=m.length:=U1
theorem xD{m:Mem}{i:Nat}{s s':List T}:(put m i s).set i (Zz (false,s'))=put m i s':=Y5 _
theorem HQ{i j:Int}(h:0<=i)(h':i<4294967296):hY i j=true:=by
 have:i.natAbs<2^64:=by omega
 simp[hY,small,this]
theorem GH{i j:Int}(h:0<=j)(h':j<4294967296):hY i j=true:=by
 have:j.natAbs<2^64:=by omega
 simp[hY,small,this]
section
variable{call:Nat->List W->Mem->Res W}{gv:List T}{env:Env}{m m1 m2 m3:Mem}{a b c e o v i:E}{x y z r:T}{w w1 w2:W}{f:Nat}{bb:B}{k:Bool}
theorem aV{op:PySem.Operator}(h1:ev call gv a env m=.ok (.t x) m1)(h2:ev call gv b env m1=.ok (.t y) m2)(h3:lZ op x y=Zz r):ev call gv (.bin op a b) env m=.ok (.t r) m2:=by
 rw[ev,h1,ai,h2,ai];show eO (lZ op x y) m2=_;rw[h3];rfl
theorem au{op:PySem.CmpOp}(h1:ev call gv a env m=.ok (.t x) m1)(h2:ev call gv b env m1=.ok (.t y) m2)(h3:dr op x y=Zz k):ev call gv (.cmp op a b) env m=.ok (.t (.bl k)) m2:=by
 rw[ev,h1,ai,h2,ai];show eO ((dr op x y).map .bl) m2=_;rw[h3];rfl
theorem ae(t:T):ev call gv (.con t) env m=.ok (.t t) m:=by rw[ev]
theorem aa{i:Nat}{w:W}(h:env[i]?=Zz (Zz w)):ev call gv (.var i) env m=.ok w m:=by rw[ev,h]
theorem gC{c j:Nat}{k:Int}{xs:List T}(h:env[c]?=Zz (Zz (.c j)))(hm:m[j]?=Zz (Zz (false,xs)))(hx:atT xs k=Zz r):ev call gv (.ix (.var c) (.con (.int k))) env m=.ok (.t r) m:=by
 rw[ev,aa h,ai,ae,ai];simp only[view,hm,X2,yj,hx];rfl
theorem am(h1:ev call gv a env m=.ok (.t x) m1)(h2:ev call gv b env m1=.ok (.t y) m2)(h3:yj x y=Zz r):ev call gv (.ix a b) env m=.ok (.t r) m2:=by
 rw[ev,h1,ai,h2,ai];show eO (yj x y) m2=_;rw[h3];rfl
theorem aK(h:ev call gv e env m=.ok (.t x) m1)(hb:cM bb [x]=Zz r):ev call gv (.blt bb (.cons e .nil)) env m=.ok (.t r) m1:=by
 rw[ev,evs,h];show eO (cM bb [x]) m1=_;rw[hb];rfl
theorem bE(h:ev call gv e env m=.ok w m1):ev call gv (.call f (.cons e .nil)) env m=call f [w] m1:=by
 rw[ev,evs,h];rfl
theorem az(h1:ev call gv a env m=.ok w m1)(h2:ev call gv b env m1=.ok w1 m2):ev call gv (.call f (.cons a (.cons b .nil))) env m=call f [w,w1] m2:=by
 simp only[ev,evs,h1,h2,ai]
theorem iI(h1:ev call gv a env m=.ok w m1)(h2:ev call gv b env m1=.ok w1 m2)(h3:ev call gv c env m2=.ok w2 m3):ev call gv (.call f (.cons a (.cons b (.cons c .nil)))) env m=call f [w,w1,w2] m3:=by
 simp only[ev,evs,h1,h2,h3,ai]
theorem tn(h1:ev call gv a env m=.ok (.t x) m1):ev call gv (.tup (.cons a .nil)) env m=.ok (.t (.tup [x])) m1:=by
 simp only[ev,evs,h1,ai,ip,iq];exact Yq (by simp[lim])
theorem dq(h1:ev call gv a env m=.ok (.t x) m1)(h2:ev call gv b env m1=.ok (.t y) m2):ev call gv (.tup (.cons a (.cons b .nil))) env m=.ok (.t (.tup [x,y])) m2:=by
 simp only[ev,evs,h1,h2,ai,ip,iq];exact Yq (by simp[lim])
theorem kZ(h1:ev call gv a env m=.ok (.t x) m1)(h2:ev call gv b env m1=.ok (.t y) m2)(h3:ev call gv c env m2=.ok (.t z) m3):ev call gv (.tup (.cons a (.cons b (.cons c .nil)))) env m=.ok (.t (.tup [x,y,z])) m3:=by
 simp only[ev,evs,h1,h2,h3,ai,ip,iq];exact Yq (by simp[lim])
theorem lm(h1:ev call gv a env m=.ok (.t x) m1)(h2:ev call gv b env m1=.ok (.t y) m2):ev call gv (.lst (.cons a (.cons b .nil))) env m=.ok (.t (.lst [x,y])) m2:=by
 simp only[ev,evs,h1,h2,ai,ip,iq];exact Yq (by simp[lim])
theorem gR(h:ev call gv a env m=.ok (.t (.bl true)) m1):ev call gv (.and a b) env m=ev call gv b env m1:=by rw[ev,h];rfl
theorem jk(h:ev call gv a env m=.ok (.t (.bl false)) m1):ev call gv (.and a b) env m=.ok (.t (.bl false)) m1:=by rw[ev,h];rfl
theorem lV(h:ev call gv a env m=.ok (.t (.bl k)) m1):ev call gv (.not a) env m=.ok (.t (.bl (!k))) m1:=by rw[ev,h];rfl
theorem AB(h:ev call gv a env m=.ok (.t (.bl true)) m1):ev call gv (.or a b) env m=.ok (.t (.bl true)) m1:=by rw[ev,h];rfl
theorem sV(h:ev call gv a env m=.ok (.t (.bl false)) m1):ev call gv (.or a b) env m=ev call gv b env m1:=by rw[ev,h];rfl
theorem Ah{ty:Ty}(h:ev call gv a env m=.ok (.t x) m1)(hk:hV x ty=k):ev call gv (.HD a ty) env m=.ok (.t (.bl k)) m1:=by rw[ev,h,<-hk];rfl
end
section
variable{call:Nat->List W->Mem->Res W}{gv:List T}{env:Env}{m m1 m2 m3:Mem}{a lo hi:E}{es:Es}{x y z r:T}{w:W}{ws:List W}{ts:List T}{f:Nat}{bb:B}
theorem aR{ts:List T}(h:ts.length<=1000:=by exact Nat.le_of_ble_eq_true rfl):ts.length<=lim:=Ro h (by decide)
theorem aq:evs call gv .nil env m=.ok [] m:=by rw[evs]
theorem af(h1:ev call gv a env m=.ok w m1)(h2:evs call gv es env m1=.ok ws m2):evs call gv (.cons a es) env m=.ok (w::ws) m2:=by rw[evs,h1,ai,h2];rfl
theorem bF(h:evs call gv es env m=.ok ws m1)(h2:ig ws m1=.ok ts m1)(hl:ts.length<=lim):ev call gv (.lst es) env m=.ok (.t (.lst ts)) m1:=by rw[ev,h,ai,h2,ai,Yq hl]
theorem dU(h:evs call gv es env m=.ok ws m1)(h2:ig ws m1=.ok ts m1)(hl:ts.length<=lim):ev call gv (.tup es) env m=.ok (.t (.tup ts)) m1:=by rw[ev,h,ai,h2,ai,Yq hl]
theorem aO(h:evs call gv es env m=.ok ws m1):ev call gv (.call f es) env m=call f ws m1:=by rw[ev,h];rfl
theorem l9(h:evs call gv es env m=.ok ws m1)(h2:views ws m1=Zz ts)(h3:cM bb ts=Zz r):ev call gv (.blt bb es) env m=.ok (.t r) m1:=by
 rw[ev,h,ai,h2];show eO (cM bb ts) m1=_;rw[h3];rfl
end
section
variable{call:Nat->List W->Mem->Res W}{gv:List T}{env env':Env}{m m1 m2:Mem}{k a b:S}{e:E}{w:W}
theorem BF(h:ev call gv e env m=.ok (.t (.bl false)) m1)(h2:ex call gv b env m1=.ok (.next env') m2):ex call gv (.cT e a b k) env m=ex call gv k env' m2:=by
 rw[ex,h];show(ex call gv b env m1).bind _=_;rw[h2];rfl
theorem lY(h:ev call gv e env m=.ok (.t (.bl true)) m1)(h2:ex call gv a env m1=.ok (.next env') m2):ex call gv (.cT e a b k) env m=ex call gv k env' m2:=by
 rw[ex,h];show(ex call gv a env m1).bind _=_;rw[h2];rfl
theorem fE(h:ev call gv e env m=.ok w m1):ex call gv (.expr e k) env m=ex call gv k env m1:=by rw[ex,h];rfl
end
section
variable{call:Nat->List W->Mem->Res W}{gv:List T}{env:Env}{m m1 m2:Mem}{a c inner:E}{x:T}{xs:List T}
theorem bj(h:ev call gv a env m=.ok (.t x) m1):ev call gv (.emit a) env m=.ok (.t (.lst [x])) m1:=by rw[ev,h];rfl
theorem kj(h:ev call gv c env m=.ok (.t (.bl true)) m1)(h2:ev call gv inner env m1=.ok (.t (.lst xs)) m2):bS call gv (.cons c .nil) inner env m=.ok xs m2:=by
 unfold bS;rw[tests,h,ai,pc,ai,Yq rfl,tests,ai,Yq rfl,h2];rfl
theorem kg(h:ev call gv c env m=.ok (.t (.bl false)) m1):bS call gv (.cons c .nil) inner env m=.ok [] m1:=by
 unfold bS;rw[tests,h,ai,pc,ai,Yr (by decide),ai,Yr (by decide)]
theorem dw(h2:ev call gv inner env m=.ok (.t (.lst xs)) m2):bS call gv .nil inner env m=.ok xs m2:=by
 unfold bS;rw[tests,ai,Yq rfl,h2];rfl
end
theorem at0{α:Type}(a:α)(r:List α):atT (a::r) 0=Zz a:=by simp[atT,fK]
theorem at1{α:Type}(a b:α)(r:List α):atT (a::b::r) 1=Zz b:=by
 have:(1:Int)<(r.length:Int)+1+1:=by omega
 simp[atT,fK,this]
theorem Ge{α:Type}{xs:List α}{i:Int}(h0:0<=i)(h1:i<xs.length):atT xs i=xs[i.toNat]?:=by
 unfold atT fK;rw[Yq h0,Yq h1];rfl
theorem aA{α β:Type}(f:α->β)(xs:List α):xs.flatMap (λx=>[f x])=xs.map f:=by
 induction xs with
 |nil=>rfl
 |cons x xs ih=>simp[ih]
noncomputable def cA(p:List Nat×Int):T:=.tup [.str p.1,.int p.2]
noncomputable def bo(nm kd:List Nat)(mk:List (List Nat))(sz:List (List Nat×Int)):T:=.tup [.str nm,.str kd,.tup (mk.map .str),.tup (sz.map cA)]
theorem Fl(nm kd mk sz):yj (bo nm kd mk sz) (.int 0)=Zz (.str nm):=rfl
theorem Fz(nm kd mk sz):yj (bo nm kd mk sz) (.int 2)=Zz (.tup (mk.map .str)):=rfl
theorem Fh(nm kd mk sz):yj (bo nm kd mk sz) (.int 3)=Zz (.tup (sz.map cA)):=rfl
theorem in_words(w:List Nat)(mk:List (List Nat)):dr .In (.str w) (.tup (mk.map .str))=Zz (mk.any λa=>a==w):=by
 have h1:uW (.str w) (.tup (mk.map .str))=Zz (mk.any λa=>a==w):=by
  have ha:(mk.map T.str).all flat=true:=by simp[flat]
  have hb:((mk.map T.str).any λt=>eqT t (.str w))=mk.any λa=>a==w:=by
   induction mk with
   |nil=>rfl
   |cons a mk ih=>simp only[RG,List.any_cons,eqT];rw[ih (by simp[flat])]
  unfold uW;dsimp only;rw[ha,hb];rfl
 rw[<-h1];rcases w with _|⟨c,_|⟨d,r⟩⟩<;>rfl
theorem uf{n:Nat}{m:Mem}{nm kd w:List Nat}{mk sz}:cf (n+1) 0 [.t (bo nm kd mk sz),.t (.str w)] m=.ok (.t (.bl (mk.any λa=>a==w))) m:=by
 have key:ex (cf n) gv eY [Zz (.t (bo nm kd mk sz)),Zz (.t (.str w))] m=.ok (.ret (.t (.bl (mk.any λa=>a==w)))) m:=by
  unfold eY;exact ah (au (aa rfl) (am (aa rfl) (ae _) (Fz _ _ _ _)) (in_words w mk))
 rw[uK];simp[key,ai,ax]
noncomputable def fT:List (List Nat×Int)->List Nat->Option Int
 |[],_=>Zy
 |p::r,w=>if p.1==w then Zz p.2 else fT r w
noncomputable def BS:Option Int->T
 |some v=>.int v
 |none=>.non
theorem qU{n:Nat}{m:Mem}{c:Option W}{w:List Nat}:∀(sz:List (List Nat×Int)) (a b:Option W),match fT sz w with
  |some v=>aJ (ex (cf n) gv ba) (.tp [2,3]) (sz.map cA) [c,Zz (.t (.str w)),a,b] m=.ok (.ret (.t (.int v))) m
  |none=>∃a' b',aJ (ex (cf n) gv ba) (.tp [2,3]) (sz.map cA) [c,Zz (.t (.str w)),a,b] m=.ok (.next [c,Zz (.t (.str w)),a',b']) m
 |[],a,b=>⟨a,b,rfl⟩
 |p::sz,a,b=>by
  have hb:bB (.tp [2,3]) (cA p) [c,Zz (.t (.str w)),a,b]=Zz [c,Zz (.t (.str w)),Zz (.t (.str p.1)),Zz (.t (.int p.2))]:=rfl;have hc:ev (cf n) gv (.cmp .Eq (.var 2) (.var 1)) [c,Zz (.t (.str w)),Zz (.t (.str p.1)),Zz (.t (.int p.2))] m=.ok (.t (.bl (p.1==w))) m:=au (aa rfl) (aa rfl) (gu _ _);rw[RG,fT];cases hw:(p.1==w)with
  |true =>
   rw[hw]at hc;show aJ _ _ (cA p::_) _ _=_;rw[aJ,hb];have:ex (cf n) gv ba [c,Zz (.t (.str w)),Zz (.t (.str p.1)),Zz (.t (.int p.2))] m=.ok (.ret (.t (.int p.2))) m:=bg hc (ah (aa rfl));show(ex (cf n) gv ba [c,Zz (.t (.str w)),Zz (.t (.str p.1)),Zz (.t (.int p.2))] m).bind _=_;rw[this];rfl
  |false =>
   rw[hw]at hc;have step:aJ (ex (cf n) gv ba) (.tp [2,3]) (cA p::sz.map cA) [c,Zz (.t (.str w)),a,b] m=aJ (ex (cf n) gv ba) (.tp [2,3]) (sz.map cA) [c,Zz (.t (.str w)),Zz (.t (.str p.1)),Zz (.t (.int p.2))] m:=by
    rw[aJ,hb];have:ex (cf n) gv ba [c,Zz (.t (.str w)),Zz (.t (.str p.1)),Zz (.t (.int p.2))] m=.ok (.next [c,Zz (.t (.str w)),Zz (.t (.str p.1)),Zz (.t (.int p.2))]) m:=by
     unfold ba;rw[aP hc,ex]
    show(ex (cf n) gv ba [c,Zz (.t (.str w)),Zz (.t (.str p.1)),Zz (.t (.int p.2))] m).bind _=_;rw[this];rfl
   rw[step];exact qU sz _ _
theorem vE{n:Nat}{m:Mem}{nm kd w:List Nat}{mk sz}:cf (n+1) 1 [.t (bo nm kd mk sz),.t (.str w)] m=.ok (.t (BS (fT sz w))) m:=by
 have key:ex (cf n) gv fX [Zz (.t (bo nm kd mk sz)),Zz (.t (.str w)),Zy,Zy] m=.ok (.ret (.t (BS (fT sz w)))) m:=by
  unfold fX;have h:=qU (n:=n) (m:=m) (c:=Zz (.t (bo nm kd mk sz))) (w:=w) sz Zy Zy;have hit:ev (cf n) gv (.ix (.var 0) (.con (.int 3))) [Zz (.t (bo nm kd mk sz)),Zz (.t (.str w)),Zy,Zy] m=.ok (.t (.tup (sz.map cA))) m:=am (aa rfl) (ae _) (Fh _ _ _ _);cases q:fT sz w with
  |none =>
   rw[q]at h;obtain⟨a',b',h⟩:=h;rw[bP hit rfl h];exact ah (ae _)
  |some v =>
   rw[q]at h;have h:aJ (ex (cf n) gv ba) (.tp [2,3]) (sz.map cA) [Zz (.t (bo nm kd mk sz)),Zz (.t (.str w)),Zy,Zy] m=.ok (.ret (.t (.int v))) m:=h;rw[ex,hit];show(aJ (ex (cf n) gv ba) (.tp [2,3]) (sz.map cA) [Zz (.t (bo nm kd mk sz)),Zz (.t (.str w)),Zy,Zy] m).bind _=_;rw[h];rfl
 rw[vq];simp[key,ai,ax]
inductive Lf:T->Prop where
 |any:Lf (.tup [.str [97,110,121]])
 |is (w:List Nat):Lf (.tup [.str [105,115],.str w])
 |by(w:List Nat):Lf (.tup [.str [98,121],.str w])
 |least (w:List Nat) (v:Int):Lf (.tup [.str [108,101,97,115,116],.str w,.int v])
 |most (w:List Nat) (v:Int):Lf (.tup [.str [109,111,115,116],.str w,.int v])
inductive DW:Nat->T->Prop where
 |leaf {d:Nat}{t:T}:Lf t->DW d t
 |nt {d:Nat}{a:T}:DW d a->DW (d+1) (.tup [.str [110,111,116],a])
 |jn {d:Nat}{b:Bool}{ts:List T}:ts.length<=6->(∀t∈ts,DW d t)->DW (d+1) (.tup [.str (if b then[97,110,100]else[111,114]),.tup ts])
noncomputable def fC(nm:List Nat)(mk:List (List Nat))(sz:List (List Nat×Int)):T->Bool
 |.tup [.str _]=>true
 |.tup [.str a,.str w]=>if a==[105,115]then mk.any λa=>a==w else nm==w
 |.tup [.str a,.str w,.int v]=>match fT sz w with
  |none=>false
  |some u=>if a==[108,101,97,115,116]then decide (v<=u)else decide (u<=v)
 |_=>false
theorem optN:∀o,dr .Is (BS o) .non=Zz (o.isNone)
 |none=>rfl
 |some _=>rfl
theorem lv{n:Nat}{m:Mem}{nm kd a w:List Nat}{mk sz}{v:Int}:cf (n+2) 3 [.t (.tup [.str a,.str w,.int v]),.t (bo nm kd mk sz)] m=.ok (.t (.bl (fC nm mk sz (.tup [.str a,.str w,.int v])))) m:=by
 have key:ex (cf (n+1)) gv dH [Zz (.t (.tup [.str a,.str w,.int v])),Zz (.t (bo nm kd mk sz)),Zy] m=.ok (.ret (.t (.bl (fC nm mk sz (.tup [.str a,.str w,.int v]))))) m:=by
  unfold dH;rw[aj ((az (aa rfl) (am (aa rfl) (ae _) rfl)).trans (vE (n:=n)))];simp only[RU,RP];have hn:ev (cf (n+1)) gv (.cmp .Is (.var 2) (.con .non)) [Zz (.t (.tup [.str a,.str w,.int v])),Zz (.t (bo nm kd mk sz)),Zz (.t (BS (fT sz w)))] m=.ok (.t (.bl (fT sz w).isNone)) m:=au (aa rfl) (ae _) (optN _);cases q:fT sz w with
  |none =>
   rw[q]at hn;rw[bg hn (ah (ae _))];simp[fC,q]
  |some u =>
   rw[q]at hn;rw[aP hn];have hl:ev (cf (n+1)) gv (.cmp .Eq (.ix (.var 0) (.con (.int 0))) (.con (.str [108,101,97,115,116]))) [Zz (.t (.tup [.str a,.str w,.int v])),Zz (.t (bo nm kd mk sz)),Zz (.t (BS (Zz u)))] m=.ok (.t (.bl (a==[108,101,97,115,116]))) m:=au (am (aa rfl) (ae _) rfl) (ae _) (gu _ _);cases ha:(a==[108,101,97,115,116])with
   |true =>
    rw[ha]at hl;rw[bg hl (ah (au (k:=decide (v<=u)) (aa rfl) (am (aa rfl) (ae _) rfl) (Go u v)))];simp[fC,q,ha]
   |false =>
    rw[ha]at hl;rw[aP hl];rw[ah (au (k:=decide (u<=v)) (aa rfl) (am (aa rfl) (ae _) rfl) (Gn u v))];simp[fC,q,ha]
 rw[se];simp[key,ai,ax]
theorem aB{n:Nat}{m:Mem}{i:Nat}{s:List T}{many:Int}(hi:i<m.length)(hs:bp s)(h1:0<many)(h2:many<1073741824):
  ∃r s',cf (n+1) 24 [.c i,.t (.int many)] (put m i s)=.ok (.t (.int r)) (put m i s')/\bp s'/\0<=r/\r<many:=by
 obtain⟨a,b,c,rfl⟩:=hs;have key:∃r s',ex (cf n) gv lx [Zz (.c i),Zz (.t (.int many)),Zy,Zy] (put m i [.int a,.int b,.int c])=.ok (.ret (.t (.int r))) (put m i s')/\bp s'/\0<=r/\r<many:=by
  have h:=Au (s:=[.int a,.int b,.int c]) hi;unfold lx;have hg:ev (cf n) gv (.cmp .Gt (.ix (.var 0) (.con (.int 0))) (.con (.int 0))) [Zz (.c i),Zz (.t (.int many)),Zy,Zy] (put m i [.int a,.int b,.int c])=.ok (.t (.bl (decide (0<a)))) (put m i [.int a,.int b,.int c]):=by
   rw[ev,gC rfl h rfl,ai,ae,ai];rfl
  by_cases ha:0<a
  ·rw[Yt ha]at hg
   refine⟨a%many,[.int (a / many),.int b,.int c],bg hg ?_,⟨_,_,_,rfl⟩,XI _ (by omega),WY _ h1⟩;rw[aj (aV (gC rfl h rfl) (aa rfl) (oF h1))];rw[xj (aV (gC rfl h rfl) (aa rfl) (BV ⟨h1,h2⟩)) (aa rfl) (ae _) h rfl];rw[xD];exact ah (aa rfl)
  ·rw[Ys ha]at hg
   rw[aP hg];have h4:hY 7919 (c+1)=true:=HQ (by decide) (by decide);have h5:∀x,hY x 48271=true:=λx=>GH (by decide) (by decide)
   have h6:∀x y,hY (x%2147483647) y=true:=λx y=>HQ (XI _ (by decide)) (by have:=WY x (b:=2147483647) (by decide);omega)
   have hp:=Au (s:=[.int a,.int b,.int (c+1)]) hi;obtain⟨z,hz⟩:∃z:Int,ex (cf n) gv (.set (.var 0) (.con (.int 2)) (.bin .Add (.ix (.var 0) (.con (.int 2))) (.con (.int 1))) (.asg 3 (.bin .Mod (.bin .Mult (.bin .Add (.bin .Add (.ix (.var 0) (.con (.int 1))) (.bin .Mult (.con (.int 7919)) (.ix (.var 0) (.con (.int 2))))) (.con (.int 1))) (.con (.int 48271))) (.con (.int 2147483647))) (.asg 3 (.bin .Mod (.bin .Mult (.var 3) (.bin .Add (.bin .FloorDiv (.var 3) (.con (.int 1009))) (.con (.int 69621)))) (.con (.int 2147483647))) (.ret (.bin .Mod (.bin .Mod (.bin .Mult (.var 3) (.bin .Add (.bin .FloorDiv (.var 3) (.con (.int 2003))) (.con (.int 40692)))) (.con (.int 2147483399))) (.var 1)) .done)))) [Zz (.c i),Zz (.t (.int many)),Zy,Zy] (put m i [.int a,.int b,.int c])=.ok (.ret (.t (.int (z%many)))) (put m i [.int a,.int b,.int (c+1)]):=by
    refine⟨(((b+7919*(c+1)+1)*48271%2147483647)*(((b+7919*(c+1)+1)*48271%2147483647) / 1009+69621)%2147483647)*((((b+7919*(c+1)+1)*48271%2147483647)*(((b+7919*(c+1)+1)*48271%2147483647) / 1009+69621)%2147483647) / 2003+40692)%2147483399,?_⟩;rw[xj (aV (gC rfl h rfl) (ae _) (pb _ _)) (aa rfl) (ae _) h rfl];show ex (cf n) gv _ _ (put m i [.int a,.int b,.int c] |>.set i (Zz (false,[.int a,.int b,.int (c+1)])))=_;rw[xD];rw[aj (aV (aV (aV (aV (gC rfl hp rfl) (aV (ae _) (gC rfl hp rfl) (qY h4)) (pb _ _)) (ae _) (pb _ _)) (ae _) (qY (h5 _))) (ae _) (oF (by decide)))];rw[aj (aV (aV (aa rfl) (aV (aV (aa rfl) (ae _) (BV (by decide))) (ae _) (pb _ _)) (qY (h6 _ _))) (ae _) (oF (by decide)))];exact ah (aV (aV (aV (aa rfl) (aV (aV (aa rfl) (ae _) (BV (by decide))) (ae _) (pb _ _)) (qY (h6 _ _))) (ae _) (oF (by decide))) (aa rfl) (oF h1))
   exact⟨z%many,_,hz,⟨_,_,_,rfl⟩,XI _ (Int.ne_of_gt h1),WY _ h1⟩
 obtain⟨r,s',e,h⟩:=key;refine⟨r,s',?_,h⟩;exact aH (CV _ _ _) rfl e (ax (cell:=false) (by rw[aI,aI]))
theorem Dt{n:Nat}{m:Mem}{x:Int}:∃s,cf (n+1) 23 [.t (.int x)] m=.ok (.c m.length) (put (m++[Zy]) m.length s)/\bp s:=by
 have hb:∀y:Int,∀k:Bool,hY y (b2i k)=true:=λy k=>GH (by cases k<;>decide) (by cases k<;>decide)
 refine⟨[.int (x*b2i (decide (1000000000000000000<=x))),.int (x%2147483647),.int 0],?_,⟨_,_,_,rfl⟩⟩;have key:ex (cf n) gv lJ [Zz (.t (.int x))] m=.ok (.ret (.c m.length)) (m++[Zz (false,[.int (x*b2i (decide (1000000000000000000<=x))),.int (x%2147483647),.int 0])]):=by
  unfold lJ;exact ah (by simp[ev,evs,hV,aN,jw,Fe,qY (hb _ _),oF,lim])
 rw[Ax];simp[key,ai,fin,put]
theorem Ej{n:Nat}{m:Mem}{ns:List Int}:∃v:Int,cf (n+1) 22 [.t (.du ns),.t (.int 0)] m=.ok (.t (.int v)) m:=by
 have key:∃v:Int,ex (cf n) gv eT [Zz (.t (.du ns)),Zz (.t (.int 0))] m=.ok (.ret (.t (.int v))) m:=by
  unfold eT;by_cases h:(0:Int)<ns.length
  ·obtain⟨v,hv,_⟩:=ci (xs:=ns) (i:=0) (by decide) h
   exact⟨v,bg (m1:=m) (by simp[ev,evs,hV,aN,jw];omega) (ah (by simp[ev,evs,hV,aN,jw,hv]))⟩
  ·have h':ns=[]:=RR.mp (by omega)
   subst h';refine⟨0,?_⟩;rw[aP (m1:=m) (by simp[ev,evs,hV,aN,jw])];exact ah (by simp[ev,evs,hV,aN,jw])
 obtain⟨v,e⟩:=key;refine⟨v,?_⟩;rw[ur];simp[e,ai,ax]
theorem jq{call:Nat->List W->Mem->Res W}{gv:List T}{env:Env}{m m1 m2:Mem}{a b:E}{x y r:T}{bb:B}(h1:ev call gv a env m=.ok (.t x) m1)(h2:ev call gv b env m1=.ok (.t y) m2)(hb:cM bb [x,y]=Zz r):ev call gv (.blt bb (.cons a (.cons b .nil))) env m=.ok (.t r) m2:=by
 rw[ev,evs,h1,ai,evs,h2,ai,evs,ai,ai,ai];show eO (cM bb [x,y]) m2=_;rw[hb];rfl
noncomputable def dv(cs:List Nat):Bool:=PySem.PyData.strOk ⟨cs.toArray⟩
def Dk(d:Nat)(w:T):Prop:=∀k,ak (k+(2*d+1)) w=true
theorem xu{n:Nat}{m:Mem}{i:Nat}{s xs:List T}(hi:i<m.length)(hs:bp s)(h0:0<xs.length)(h1:xs.length<1000):
  ∃x s',cf (n+2) 25 [.c i,.t (.lst xs)] (put m i s)=.ok (.t x) (put m i s')/\bp s'/\x∈xs:=by
 obtain⟨r,s1,g1,hs1,r0,r1⟩:=aB (n:=n) (many:=(xs.length:Int)) hi hs (by omega) (by omega);obtain⟨x,hx,hm⟩:=ci r0 r1;refine⟨x,s1,?_,hs1,hm⟩;have key:ex (cf (n+1)) gv kM [Zz (.c i),Zz (.t (.lst xs))] (put m i s)=.ok (.ret (.t x)) (put m i s1):=by
  unfold kM;exact ah (by simp[ev,evs,hV,aN,jw,g1,hx])
 exact aH (B3 _ _ _) rfl key (ax (cell:=false) (by rw[aI,aI]))
noncomputable def names12:List T:=[.str [97],.str [97,98],.str [98],.str [97,110,121,97],.str [105,115,108,97,110,100],.str [97,98,99],.str [122],.str [98,121,98,121,101],.str [111,114,100,101,114],.str [110,111,116,101,115],.str [99],.str [122,122,122,122,122,122,122,122]]
theorem w9{n:Nat}{m:Mem}{k:Int}:∃cs,cf (n+1) 26 [.t (.int k)] m=.ok (.t (.str cs)) m/\dv cs=true:=by
 obtain⟨w,hw,hm⟩:=ci (xs:=names12) (i:=k%12) (by omega) (by simp[names12];omega);have hw':∃cs:List Nat,w=.str cs/\dv cs=true:=by
  simp only[names12,R5,RV,or_false]at hm;rcases hm with rfl|rfl|rfl|rfl|rfl|rfl|rfl|rfl|rfl|rfl|rfl|rfl<;>exact⟨_,rfl,by decide +kernel⟩
 obtain⟨cs,rfl,hwb⟩:=hw';refine⟨cs,?_,hwb⟩;have key:ex (cf n) gv kX [Zz (.t (.int k)),Zy] m=.ok (.ret (.t (.str cs))) m:=by
  unfold kX;rw[aj (w:=.t (.lst names12)) (m1:=m) (by simp[ev,evs,hV,aN,jw,lim,names12])];exact ah (by simp[ev,evs,hV,aN,jw,oF,hw])
 exact aH (CW _ _ _) rfl key (ax (cell:=false) rfl)
theorem rp{n:Nat}{m:Mem}{i:Nat}{s:List T}(hi:i<m.length)(hs:bp s):∃(v:Int) (s':List T),cf (n+2) 27 [.c i] (put m i s)=.ok (.t (.int v)) (put m i s')/\bp s'/\0<=v/\v<=1000000000:=by
 have key:∃(v:Int) (s':List T),ex (cf (n+1)) gv fU [Zz (.c i)] (put m i s)=.ok (.ret (.t (.int v))) (put m i s')/\bp s'/\0<=v/\v<=1000000000:=by
  obtain⟨r1,s1,h1,hs1,a0,a1⟩:=aB (n:=n) (many:=6) hi hs (by decide) (by decide);obtain⟨r2,s2,h2,hs2,b0,b1⟩:=aB (n:=n) (many:=6) hi hs1 (by decide) (by decide);obtain⟨r3,s3,h3,hs3,c0,c1⟩:=aB (n:=n) (many:=3) hi hs2 (by decide) (by decide);obtain⟨r5,s5,h5,hs5,k0,k1⟩:=aB (n:=n) (many:=3) hi hs3 (by decide) (by decide);obtain⟨z,hz,hzm⟩:=ci (xs:=[T.int r1,.int r2,.int (1000000000-r3)]) k0 (by simpa using k1);have hz':∃v:Int,z=.int v/\0<=v/\v<=1000000000:=by
   simp only[R5,RV,or_false]at hzm;rcases hzm with rfl|rfl|rfl<;>exact⟨_,rfl,by omega,by omega⟩
  obtain⟨v,rfl,hv⟩:=hz';refine⟨v,s5,?_,hs5,hv⟩;unfold fU;exact ah (by simp[ev,evs,hV,aN,jw,h1,h2,h3,h5,Fe,lim,hz])
 obtain⟨v,s',e,hs',hl⟩:=key;refine⟨v,s',?_,hs',hl⟩;exact aH (vj _ _ _) rfl e (ax (cell:=false) (by rw[aI,aI]))
theorem GQ{R:T->List T->Prop}{a b c:T}{xss:List (List T)}(h:mN R [a,b,c] xss):∃x y z,xss=[x,y,z]/\R a x/\R b y/\R c z:=by
 cases h with
 |cons r1 h=>cases h with
  |cons r2 h=>cases h with
   |cons r3 h=>cases h;exact⟨_,_,_,rfl,r1,r2,r3⟩
theorem Gu{R:T->List T->Prop}{a b:T}{xss:List (List T)}(h:mN R [a,b] xss):∃x y,xss=[x,y]/\R a x/\R b y:=by
 cases h with
 |cons r1 h=>cases h with
  |cons r2 h=>cases h;exact⟨_,_,rfl,r1,r2⟩
theorem vf{n:Nat}{m:Mem}{i:Nat}{s:List T}{e1 e2 e3 e4:Option W}(hi:i<m.length)(hs:bp s):
  ∃(mk:List (List Nat)) (s':List T),ev (cf (n+1)) gv lX [Zz (.c i),e1,e2,e3,e4] (put m i s)=.ok (.t (.lst (mk.map .str))) (put m i s')/\bp s'/\mk.length<=100/\∀w∈mk,dv w=true:=by
 obtain⟨xss,m',h2,⟨s2,rfl,hs2⟩,ht⟩:=iH (f:=bS (cf (n+1)) gv (.cons (.cmp .Eq (.call 24 (.cons (.var 1) (.cons (.con (.int 2)) .nil))) (.con (.int 1))) .nil) jo) (tg:=.nm 0) (env:=[Zy,Zz (.c i)]) (P:=λm'=>∃s,m'=put m i s/\bp s) (R:=λt xs=>xs=[]∨xs=[t]) [.str [102,114,101,115,104],.str [111,108,100],.str [111,108,100,115]] (put m i s) ⟨s,rfl,hs⟩ (by
  rintro t ht m' ⟨s,rfl,hs⟩;obtain⟨q,s3,h3,hs3,hq0,hq1⟩:=aB (n:=n) (many:=2) hi hs (by decide) (by decide);by_cases hq:q=1
  ·exact⟨[Zz (.t t),Zz (.c i)],[t],put m i s3,rfl,by simp[bS,tests,jo,ev,evs,hV,aN,jw,h3,hq],⟨s3,rfl,hs3⟩,.inr rfl⟩
  ·exact⟨[Zz (.t t),Zz (.c i)],[],put m i s3,rfl,by simp[bS,tests,jo,ev,evs,hV,aN,jw,h3,hq],⟨s3,rfl,hs3⟩,.inl rfl⟩)
 obtain⟨x,y,z,rfl,r1,r2,r3⟩:=GQ ht;have hx:∃mk:List (List Nat),[x,y,z].flatten=mk.map T.str/\mk.length<=100/\∀w∈mk,dv w=true:=by
  have a1:dv [102,114,101,115,104]=true:=by decide +kernel
  have a2:dv [111,108,100]=true:=by decide +kernel
  have a3:dv [111,108,100,115]=true:=by decide +kernel
  rcases r1 with rfl|rfl<;>rcases r2 with rfl|rfl<;>rcases r3 with rfl|rfl
  ·exact⟨[],rfl,by decide,by simp⟩
  ·exact⟨[_],rfl,by decide,by simp[a3]⟩
  ·exact⟨[_],rfl,by decide,by simp[a2]⟩
  ·exact⟨[_,_],rfl,by decide,by simp[a2,a3]⟩
  ·exact⟨[_],rfl,by decide,by simp[a1]⟩
  ·exact⟨[_,_],rfl,by decide,by simp[a1,a3]⟩
  ·exact⟨[_,_],rfl,by decide,by simp[a1,a2]⟩
  ·exact⟨[_,_,_],rfl,by decide,by simp[a1,a2,a3]⟩
 obtain⟨mk,e,hl,hk⟩:=hx;rw[e]at h2;exact⟨mk,s2,bN (x:=.t (.lst [.str [102,114,101,115,104],.str [111,108,100],.str [111,108,100,115]])) (m0:=put m i s) (m1:=put m i s) rfl rfl h2 (by rw[R1];unfold lim;omega),hs2,hl,hk⟩
theorem vV{n:Nat}{m:Mem}{i:Nat}{s:List T}{e1 e2 e3 e4:Option W}(hi:i<m.length)(hs:bp s):
  ∃(sz:List (List Nat×Int)) (s':List T),ev (cf (n+2)) gv rE [Zz (.c i),e1,e2,e3,e4] (put m i s)=.ok (.t (.lst (sz.map cA))) (put m i s')/\bp s'/\sz.length<=100/\∀p∈sz,dv p.1=true:=by
 obtain⟨xss,m',h2,⟨s2,rfl,hs2⟩,ht⟩:=iH (f:=bS (cf (n+2)) gv (.cons (.cmp .Eq (.call 24 (.cons (.var 1) (.cons (.con (.int 2)) .nil))) (.con (.int 1))) .nil) iV) (tg:=.nm 0) (env:=[Zy,Zz (.c i)]) (P:=λm'=>∃s,m'=put m i s/\bp s) (R:=λt xs=>xs=[]∨∃v:Int,0<=v/\v<=1000000000/\xs=[.tup [t,.int v]]) [.str [112,114,105,99,101],.str [119,105,100,101]] (put m i s) ⟨s,rfl,hs⟩ (by
  rintro t ht m' ⟨s,rfl,hs⟩;obtain⟨q,s3,h3,hs3,hq0,hq1⟩:=aB (n:=n+1) (many:=2) hi hs (by decide) (by decide);by_cases hq:q=1
  ·obtain⟨v,s4,h4,hs4,v0,v1⟩:=rp (n:=n) hi hs3
   exact⟨[Zz (.t t),Zz (.c i)],[.tup [t,.int v]],put m i s4,rfl,by simp[bS,tests,iV,ev,evs,hV,aN,jw,h3,hq,h4,lim],⟨s4,rfl,hs4⟩,.inr ⟨v,v0,v1,rfl⟩⟩
  ·exact⟨[Zz (.t t),Zz (.c i)],[],put m i s3,rfl,by simp[bS,tests,iV,ev,evs,hV,aN,jw,h3,hq],⟨s3,rfl,hs3⟩,.inl rfl⟩)
 obtain⟨x,y,rfl,r1,r2⟩:=Gu ht;have hx:∃sz:List (List Nat×Int),[x,y].flatten=sz.map cA/\sz.length<=100/\∀p∈sz,dv p.1=true:=by
  have a1:dv [112,114,105,99,101]=true:=by decide +kernel
  have a2:dv [119,105,100,101]=true:=by decide +kernel
  rcases r1 with rfl|⟨v,_,_,rfl⟩<;>rcases r2 with rfl|⟨u,_,_,rfl⟩
  ·exact⟨[],rfl,by decide,by simp⟩
  ·exact⟨[(_,u)],rfl,by simp,by simp[a2]⟩
  ·exact⟨[(_,v)],rfl,by simp,by simp[a1]⟩
  ·exact⟨[(_,v),(_,u)],rfl,by simp,by simp[a1,a2]⟩
 obtain⟨sz,e,hl,hk⟩:=hx;rw[e]at h2;exact⟨sz,s2,bN (x:=.t (.lst [.str [112,114,105,99,101],.str [119,105,100,101]])) (m0:=put m i s) (m1:=put m i s) rfl rfl h2 (by rw[R1];unfold lim;omega),hs2,hl,hk⟩
def yi(nm kd:List Nat)(mk:List (List Nat))(sz:List (List Nat×Int)):Prop:=mk.length<=100/\sz.length<=100/\(∀w∈mk,dv w=true)/\(∀p∈sz,dv p.1=true)/\dv nm=true/\dv kd=true
theorem DM{n:Nat}{m:Mem}{i:Nat}{s:List T}{nm kd:List Nat}(hi:i<m.length)(hs:bp s)(h1:dv nm=true)(h2:dv kd=true):∃(mk:List (List Nat)) (sz:List (List Nat×Int)) (s':List T),cf (n+3) 28 [.c i,.t (.str nm),.t (.str kd)] (put m i s)=.ok (.t (bo nm kd mk sz)) (put m i s')/\bp s'/\yi nm kd mk sz:=by
 obtain⟨mk,s1,g1,hs1,m1,m2⟩:=vf (n:=n+1) (e1:=Zz (.t (.str nm))) (e2:=Zz (.t (.str kd))) (e3:=Zy) (e4:=Zy) hi hs;obtain⟨sz,s2,g2,hs2,z1,z2⟩:=vV (n:=n) (e1:=Zz (.t (.str nm))) (e2:=Zz (.t (.str kd))) (e3:=Zz (.t (.tup (mk.map .str)))) (e4:=Zy) hi hs1;refine⟨mk,sz,s2,?_,hs2,m1,z1,m2,z2,h1,h2⟩;have key:ex (cf (n+2)) gv kT [Zz (.c i),Zz (.t (.str nm)),Zz (.t (.str kd)),Zy,Zy] (put m i s)=.ok (.ret (.t (bo nm kd mk sz))) (put m i s2):=by
  unfold kT;have g1:ev (cf (n+2)) gv lX [Zz (.c i),Zz (.t (.str nm)),Zz (.t (.str kd)),Zy,Zy] (put m i s)=.ok (.t (.lst (mk.map .str))) (put m i s1):=g1;rw[aj (w:=.t (.tup (mk.map .str))) (m1:=put m i s1) (aK (bb:=.tuple) g1 (sH _))];simp only[RU,RP];rw[aj (w:=.t (.tup (sz.map cA))) (m1:=put m i s2) (aK (bb:=.tuple) g2 (sH _))];exact ah rfl
 exact aH (B7 _ _ _) rfl key (ax (cell:=false) (by rw[aI,aI]))
theorem yP{Q:T->Prop}{ts:List T}{xss:List (List T)}(h:mN (λ_ xs=>∃w,xs=[w]/\Q w) ts xss):∃ws:List T,xss.flatten=ws/\ws.length=ts.length/\∀w∈ws,Q w:=by
 induction h with
 |nil=>exact⟨[],rfl,rfl,λw hw=>by cases hw⟩
 |cons h _ ih =>
  obtain⟨w,rfl,hq⟩:=h;obtain⟨ws,h1,h2,h3⟩:=ih;refine⟨w::ws,by rw[UU,h1];rfl,by simp[h2],λx hx=>?_⟩;rcases R5.mp hx with rfl|hx
  ·exact hq
  ·exact h3 x hx
theorem re{n:Nat}{m:Mem}{i:Nat}{s:List T}{ws:List (List Nat)}(hi:i<m.length)(hs:bp s)(h0:0<ws.length)(h1:ws.length<1000)(hw:∀w∈ws,dv w=true):
  ∃w s',cf (n+2) 25 [.c i,.t (.lst (ws.map .str))] (put m i s)=.ok (.t (.str w)) (put m i s')/\bp s'/\dv w=true/\w∈ws:=by
 obtain⟨x,s',g,hs',hx⟩:=xu (n:=n) (xs:=ws.map .str) hi hs (by rw[R1];exact h0) (by rw[R1];exact h1);obtain⟨w,hw',rfl⟩:=RS.mp hx;exact⟨w,s',g,hs',hw w hw',hw'⟩
theorem tZ{n d:Nat}{m:Mem}{i:Nat}{s:List T}{r:Int}(hi:i<m.length)(hs:bp s)(r0:0<=r)(r6:r<6)(k1 k2:S):
  ∃(t:T) (s':List T),ex (cf (n+3)) gv (.cT (.cmp .Lt (.var 2) (.con (.int 2))) (.ret (.tup (.cons (.con (.str [97,110,121])) .nil)) .done) .done (.cT (.cmp .Eq (.var 2) (.con (.int 2))) (.ret (.tup (.cons (.con (.str [105,115])) (.cons (.call 25 (.cons (.var 0) (.cons (.lst (.cons (.con (.str [102,114,101,115,104])) (.cons (.con (.str [111,108,100])) (.cons (.con (.str [111,108,100,115])) (.cons (.con (.str [110,101,119])) .nil))))) .nil))) .nil))) .done) .done (.cT (.cmp .Eq (.var 2) (.con (.int 3))) (.ret (.tup (.cons (.con (.str [98,121])) (.cons (.call 26 (.cons (.call 24 (.cons (.var 0) (.cons (.con (.int 12)) .nil))) .nil)) .nil))) .done) .done (.cT (.cmp .Lt (.var 2) (.con (.int 6))) (.ret (.tup (.cons (.ix (.lst (.cons (.con (.str [108,101,97,115,116])) (.cons (.con (.str [109,111,115,116])) .nil))) (.bin .Sub (.var 2) (.con (.int 4)))) (.cons (.call 25 (.cons (.var 0) (.cons (.lst (.cons (.con (.str [112,114,105,99,101])) (.cons (.con (.str [119,105,100,101])) (.cons (.con (.str [102,97,114])) .nil)))) .nil))) (.cons (.call 27 (.cons (.var 0) .nil)) .nil)))) .done) .done k1)))) [Zz (.c i),Zz (.t (.int (d:Int))),Zz (.t (.int r)),Zy] (put m i s)=.ok (.ret (.t t)) (put m i s')/\bp s'/\Lf t/\Dk 0 t:=by
 have a0:dv [97,110,121]=true:=by decide +kernel
 have a1:dv [105,115]=true:=by decide +kernel
 have a2:dv [98,121]=true:=by decide +kernel
 have a3:dv [108,101,97,115,116]=true:=by decide +kernel
 have a4:dv [109,111,115,116]=true:=by decide +kernel
 have dk1:∀a:List Nat,dv a=true->Dk 0 (.tup [.str a]):=λa h k=>by
  show ay k [.str a]=true;unfold dv at h;simp[ay,ak,h]
 have dk2:∀a b:List Nat,dv a=true->dv b=true->Dk 0 (.tup [.str a,.str b]):=λa b h h' k=>by
  show ay k [.str a,.str b]=true;unfold dv at h h';simp[ay,ak,h,h']
 have dk3:∀(a b:List Nat) (v:Int),dv a=true->dv b=true->Dk 0 (.tup [.str a,.str b,.int v]):=λa b v h h' k=>by
  show ay k [.str a,.str b,.int v]=true;unfold dv at h h';simp[ay,ak,h,h']
 by_cases h2:r<2
 ·exact⟨_,s,bg (m1:=put m i s) (by simp[ev,evs,hV,aN,jw,h2]) (ah rfl),hs,.any,dk1 _ a0⟩
 rw[aP (m1:=put m i s) (by simp[ev,evs,hV,aN,jw,h2]<;>omega)];by_cases h3:r=2
 ·obtain⟨w,s2,g2,hs2,hw2,_⟩:=re (n:=n+1) (ws:=[[102,114,101,115,104],[111,108,100],[111,108,100,115],[110,101,119]]) hi hs (by simp) (by simp) (by
   intro w hw;simp only[R5,RV,or_false]at hw;rcases hw with rfl|rfl|rfl|rfl<;>decide +kernel)
  simp only[RG,Xo]at g2;exact⟨_,s2,bg (m1:=put m i s) (by simp[ev,evs,hV,aN,jw,h3]) (ah (dU (af (ae _) (af ((aO (af (aa rfl) (af (bF (af (ae _) (af (ae _) (af (ae _) (af (ae _) aq)))) rfl aR) aq))).trans g2) aq)) rfl aR)),hs2,.is w,dk2 _ _ a1 hw2⟩
 rw[aP (m1:=put m i s) (by simp[ev,evs,hV,aN,jw,h3])];by_cases h4:r=3
 ·obtain⟨q,s1,g1,hs1,_,_⟩:=aB (n:=n+2) (many:=12) hi hs (by decide) (by decide)
  obtain⟨w,g2,hw2⟩:=w9 (n:=n+2) (m:=put m i s1) (k:=q);exact⟨_,s1,bg (m1:=put m i s) (by simp[ev,evs,hV,aN,jw,h4]) (ah (dU (af (ae _) (af ((aO (af ((aO (af (aa rfl) (af (ae _) aq))).trans g1) aq)).trans g2) aq)) rfl aR)),hs1,.by w,dk2 _ _ a2 hw2⟩
 rw[aP (m1:=put m i s) (by simp[ev,evs,hV,aN,jw,h4])];obtain⟨z,hz,hzm⟩:=ci (xs:=[T.str [108,101,97,115,116],.str [109,111,115,116]]) (i:=r-4) (by omega) (by simp;omega);obtain⟨v,s2,g2,hs2,hv2,_⟩:=re (n:=n+1) (ws:=[[112,114,105,99,101],[119,105,100,101],[102,97,114]]) hi hs (by simp) (by simp) (by
   intro w hw;simp only[R5,RV,or_false]at hw;rcases hw with rfl|rfl|rfl<;>decide +kernel)
 simp only[RG,Xo]at g2;obtain⟨k,s3,g3,hs3,k0,k1⟩:=rp (n:=n+1) hi hs2;simp only[R5,RV,or_false]at hzm;rcases hzm with rfl|rfl
 ·exact⟨_,s3,bg (m1:=put m i s) (by simp[ev,evs,hV,aN,jw,r6]) (ah (dU (af (am (bF (af (ae _) (af (ae _) aq)) rfl aR) (aV (aa rfl) (ae _) rfl) hz) (af ((aO (af (aa rfl) (af (bF (af (ae _) (af (ae _) (af (ae _) aq))) rfl aR) aq))).trans g2) (af ((aO (af (aa rfl) aq)).trans g3) aq))) rfl aR)),hs3,.least v k,dk3 _ _ _ a3 hv2⟩
 ·exact⟨_,s3,bg (m1:=put m i s) (by simp[ev,evs,hV,aN,jw,r6]) (ah (dU (af (am (bF (af (ae _) (af (ae _) aq)) rfl aR) (aV (aa rfl) (ae _) rfl) hz) (af ((aO (af (aa rfl) (af (bF (af (ae _) (af (ae _) (af (ae _) aq))) rfl aR) aq))).trans g2) (af ((aO (af (aa rfl) aq)).trans g3) aq))) rfl aR)),hs3,.most v k,dk3 _ _ _ a4 hv2⟩
theorem wA{n d:Nat}{m:Mem}{r:Int}{e0 e1 e3:Option W}(r6:6<=r){a1 a2 a3 a4 k:S}:
  ex (cf n) gv (.cT (.cmp .Lt (.var 2) (.con (.int 2))) a1 .done (.cT (.cmp .Eq (.var 2) (.con (.int 2))) a2 .done (.cT (.cmp .Eq (.var 2) (.con (.int 3))) a3 .done (.cT (.cmp .Lt (.var 2) (.con (.int 6))) a4 .done k)))) [e0,e1,Zz (.t (.int r)),e3] m=ex (cf n) gv k [e0,e1,Zz (.t (.int r)),e3] m:=by
 have h1:¬r<2:=by omega
 have h2:¬r=2:=by omega
 have h3:¬r=3:=by omega
 have h4:¬r<6:=by omega
 rw[aP (m1:=m) (by simp[ev,evs,hV,aN,jw,h1]),aP (m1:=m) (by simp[ev,evs,hV,aN,jw,h2]),aP (m1:=m) (by simp[ev,evs,hV,aN,jw,h3]),aP (m1:=m) (by simp[ev,evs,hV,aN,jw,h4])]
theorem Jq:lZ .Mult (.int 3) (.int 0)=Zz (.int 0):=rfl
theorem Jn:lZ .Mult (.int 3) (.int 1)=Zz (.int 3):=rfl
theorem Dk.mono{d e:Nat}{t:T}(h:Dk d t)(he:d<=e):Dk e t:=λk=>by
 have:=h (k+2*(e-d));rw[show k+2*(e-d)+(2*d+1)=k+(2*e+1) by omega]at this;exact this
theorem Hy{d:Nat}{a:T}(h:Dk d a):Dk (d+1) (.tup [.str [110,111,116],a]):=λk=>by
 have h1:=h (k+1);rw[show k+1+(2*d+1)=k+(2*d+2) by omega]at h1;have h2:dv [110,111,116]=true:=by decide +kernel
 unfold dv at h2;rw[show k+(2*(d+1)+1)=k+(2*d+2)+1 by omega,ak];simp[ay,ak,h1,h2]
theorem bL{n:Nat}:∀{ts:List T},ay n ts=true↔∀t∈ts,ak n t=true
 |[]=>by simp[ay]
 |t::ts=>by simp[ay,bL (ts:=ts)]
theorem HB{d:Nat}{b:Bool}{ts:List T}(h:∀t∈ts,Dk d t):Dk (d+1) (.tup [.str (if b then[97,110,100]else[111,114]),.tup ts]):=λk=>by
 have h1:ay (k+(2*d+1)) ts=true:=bL.mpr λt ht=>h t ht k
 have h2:dv (if b then[97,110,100]else[111,114])=true:=by cases b<;>decide +kernel
 unfold dv at h2;rw[show k+(2*(d+1)+1)=k+(2*d+1)+1+1 by omega,ak,ay,ay,ay,ak,ak,h1,h2];rfl
theorem D9:∀(d:Nat) {n:Nat}{m:Mem}{i:Nat}{s:List T},i<m.length->bp s->∃(t:T) (s':List T),cf (n+(d+4)) 29 [.c i,.t (.int (d:Int))] (put m i s)=.ok (.t t) (put m i s')/\bp s'/\DW d t/\Dk d t:=by
 intro d
 induction d with
 |zero =>
  intro n m i s hi hs;obtain⟨r,s1,h1,hs1,r0,r1⟩:=aB (n:=n+2) (many:=6) hi hs (by decide) (by decide);obtain⟨t,s2,h2,hs2,hl⟩:=tZ (n:=n) (d:=0) hi hs1 r0 r1 _ .done;refine⟨t,s2,?_,hs2,.leaf hl.1,hl.2⟩;have e:ex (cf (n+3)) gv gW [Zz (.c i),Zz (.t (.int 0)),Zy,Zy] (put m i s)=.ok (.ret (.t t)) (put m i s2):=by
   unfold gW;rw[aj (w:=.t (.int r)) (m1:=put m i s1) (by simp[ev,evs,hV,aN,jw,Jq,b2i,h1])];exact h2
  show cf (n+3+1) _ _ _=_;exact aH (uQ _ _ _) rfl e (ax (cell:=false) (by rw[aI,aI]))
 |succ d ih =>
  intro n m i s hi hs;have key:∃(t:T) (s':List T),ex (cf (n+(d+4))) gv gW [Zz (.c i),Zz (.t (.int ((d:Int)+1))),Zy,Zy] (put m i s)=.ok (.ret (.t t)) (put m i s')/\bp s'/\DW (d+1) t/\Dk (d+1) t:=by
   obtain⟨r,s1,h1,hs1,r0,r1⟩:=aB (n:=n+(d+3)) (many:=9) hi hs (by decide) (by decide);have h1:cf (n+(d+4)) 24 [.c i,.t (.int 9)] (put m i s)=_:=h1;have hd0:(0:Int)<(d:Int)+1:=by omega
   have hm:ev (cf (n+(d+4))) gv (.call 24 (.cons (.var 0) (.cons (.bin .Add (.con (.int 6)) (.bin .Mult (.con (.int 3)) (.blt .int (.cons (.cmp .Gt (.var 1) (.con (.int 0))) .nil)))) .nil))) [Zz (.c i),Zz (.t (.int ((d:Int)+1))),Zy,Zy] (put m i s)=.ok (.t (.int r)) (put m i s1):=by
    simp[ev,evs,hV,aN,jw,Jn,b2i,hd0,h1]
   unfold gW;rw[aj hm];simp only[RU,RP];by_cases h6:r<6
   ·obtain⟨t,s2,h2,hs2,hl⟩:=tZ (n:=n+(d+1)) (d:=d+1) hi hs1 r0 h6 _ .done
    rw[show((d+1:Nat):Int)=(d:Int)+1 by omega]at h2;exact⟨t,s2,h2,hs2,.leaf hl.1,hl.2.mono (SI _)⟩
   rw[wA (d:=d) (by omega)];have hsub:(d:Int)+1-1=(d:Int):=by omega
   by_cases h7:r=6
   ·obtain⟨t,s2,h4,hs2,hw⟩:=ih (n:=n) hi hs1
    exact⟨_,s2,bg (m1:=put m i s1) (by simp[ev,evs,hV,aN,jw,h7]) (ah (by simp[ev,evs,hV,aN,jw,hsub,h4,lim])),hs2,.nt hw.1,Hy hw.2⟩
   rw[aP (m1:=put m i s1) (by simp[ev,evs,hV,aN,jw,h7])];obtain⟨q,s2,h4,hs2,q0,q1⟩:=aB (n:=n+(d+3)) (many:=2) hi hs1 (by decide) (by decide);have h4:cf (n+(d+4)) 24 [.c i,.t (.int 2)] (put m i s1)=_:=h4;rw[aj (w:=.t (.int (2+q))) (m1:=put m i s2) (by simp[ev,evs,hV,aN,jw,h4])];simp only[RU,RP];obtain⟨z,hz,hzm⟩:=ci (xs:=[T.str [97,110,100],.str [111,114]]) (i:=r-7) (by omega) (by simp;omega);have hz':∃b:Bool,z=.str (if b then[97,110,100]else[111,114]):=by
    simp only[R5,RV,or_false]at hzm;rcases hzm with rfl|rfl
    ·exact⟨true,rfl⟩
    ·exact⟨false,rfl⟩
   obtain⟨b,rfl⟩:=hz';obtain⟨xss,m',h5,⟨s3,rfl,hs3⟩,ht⟩:=iH (f:=bS (cf (n+(d+4))) gv .nil l0) (tg:=.nm 0) (env:=[Zy,Zz (.c i),Zz (.t (.int ((d:Int)+1)))]) (P:=λm'=>∃s,m'=put m i s/\bp s) (R:=λ_ xs=>∃w,xs=[w]/\DW d w/\Dk d w) (rangeT 0 (2+q).toNat) (put m i s2) ⟨s2,rfl,hs2⟩ (by
    rintro t ht m' ⟨s,rfl,hs⟩;obtain⟨u,s4,h6,hs4,hu⟩:=ih (n:=n) hi hs;exact⟨[Zz (.t t),Zz (.c i),Zz (.t (.int ((d:Int)+1)))],[u],put m i s4,rfl,by simp[bS,tests,l0,ev,evs,hV,aN,jw,hsub,h6],⟨s4,rfl,hs4⟩,u,rfl,hu⟩)
   obtain⟨ws,e1,e2,e3⟩:=yP ht;have hr:(rangeT 0 (2+q).toNat).length=(2+q).toNat:=by simp[rangeT]
   rw[e1]at h5;have hc:ev (cf (n+(d+4))) gv qQ [Zz (.c i),Zz (.t (.int ((d:Int)+1))),Zz (.t (.int r)),Zz (.t (.int (2+q)))] (put m i s2)=.ok (.t (.lst ws)) (put m i s3):=by
    refine bN (x:=.t (.lst (rangeT 0 (2+q).toNat))) (m0:=put m i s2) (m1:=put m i s2) ?_ rfl h5 (by rw[e2,hr];unfold lim;omega);exact aK (by rw[ev];rfl) (tM (show 2+q<2^62/\-(2^62)<=2+q by omega))
   refine⟨_,s3,ah (w:=.t (.tup [.str (if b then[97,110,100]else[111,114]),.tup ws])) (by simp[ev,evs,hV,aN,jw,hz,hc,lim]),hs3,.jn (by omega) (λt ht=>(e3 t ht).1),HB λt ht=>(e3 t ht).2⟩
  obtain⟨t,s',e,hs',hl⟩:=key;refine⟨t,s',?_,hs',hl⟩;rw[show((d+1:Nat):Int)=(d:Int)+1 by omega];show cf (n+(d+4)+1) _ _ _=_;exact aH (uQ _ _ _) rfl e (ax (cell:=false) (by rw[aI,aI]))
noncomputable def uC(sd nm kd:List Nat)(mk:List (List Nat))(sz:List (List Nat×Int))(w:T)(many least wt fN:Int):T:=.tup [.str sd,bo nm kd mk sz,w,.int many,.int least,.int wt,.int fN]
theorem BB{n:Nat}{m:Mem}{i:Nat}{s:List T}{sd nm kd:List Nat}{fN:Int}(hi:i<m.length)(hs:bp s)(h1:dv nm=true)(h2:dv kd=true):
  ∃(mk:List (List Nat)) (sz:List (List Nat×Int)) (w:T) (many least weight:Int) (s':List T),cf (n+7) 30 [.c i,.t (.str sd),.t (.str nm),.t (.str kd),.t (.int fN)] (put m i s)=.ok (.t (uC sd nm kd mk sz w many least weight fN)) (put m i s')/\bp s'/\yi nm kd mk sz/\(DW 2 w/\Dk 2 w)/\(1<=many/\many<=1000000)/\(1<=least/\least<=many)/\(0<=weight/\weight<=1000):=by
 obtain⟨a1,s1,d1,hs1,a10,a11⟩:=aB (n:=n+5) (many:=9) hi hs (by decide) (by decide);obtain⟨a2,s2,d2,hs2,a20,a21⟩:=aB (n:=n+5) (many:=9) hi hs1 (by decide) (by decide);obtain⟨a3,s3,d3,hs3,a30,a31⟩:=aB (n:=n+5) (many:=1000000) hi hs2 (by decide) (by decide);obtain⟨a4,s4,d4,hs4,a40,a41⟩:=aB (n:=n+5) (many:=3) hi hs3 (by decide) (by decide);obtain⟨z,hz,hzm⟩:=ci (xs:=[T.int (1+a1),.int (1+a2),.int (1+a3)]) a40 (by simpa using a41);have hz':∃v:Int,z=.int v/\1<=v/\v<=1000000:=by
  simp only[R5,RV,or_false]at hzm;rcases hzm with rfl|rfl|rfl<;>exact⟨_,rfl,by omega,by omega⟩
 obtain⟨many,rfl,m1,m2⟩:=hz';obtain⟨b1,s5,d5,hs5,b10,b11⟩:=aB (n:=n+5) (many:=many) hi hs4 (by omega) (by omega);obtain⟨b2,s6,d6,hs6,b20,b21⟩:=aB (n:=n+5) (many:=3) hi hs5 (by decide) (by decide);obtain⟨z,hz2,hzm⟩:=ci (xs:=[T.int 1,.int (1+b1),.int many]) b20 (by simpa using b21);have hz':∃v:Int,z=.int v/\1<=v/\v<=many:=by
  simp only[R5,RV,or_false]at hzm;rcases hzm with rfl|rfl|rfl<;>exact⟨_,rfl,by omega,by omega⟩
 obtain⟨least,rfl,l1,l2⟩:=hz';obtain⟨w0,s7,d7,hs7,hw0⟩:=D9 2 (n:=n) hi hs6;have d7:cf (n+6) 29 [.c i,.t (.int 2)] (put m i s6)=.ok (.t w0) (put m i s7):=d7;obtain⟨c1,s8,d8,hs8,c10,c11⟩:=aB (n:=n+5) (many:=2) hi hs7 (by decide) (by decide);obtain⟨w,hz3,hzm⟩:=ci (xs:=[T.tup [.str [97,110,121]],w0]) c10 (by simpa using c11);have hw:DW 2 w/\Dk 2 w:=by
  simp only[R5,RV,or_false]at hzm;rcases hzm with rfl|rfl
  ·exact⟨.leaf .any,λk=>by
    show ay (k+4) [.str [97,110,121]]=true;have h:dv [97,110,121]=true:=by decide +kernel
    unfold dv at h;simp[ay,ak,h]⟩
  ·exact hw0
 obtain⟨e1,s9,d9,hs9,e10,e11⟩:=aB (n:=n+5) (many:=3) hi hs8 (by decide) (by decide);obtain⟨e2,s10,d10,hs10,e20,e21⟩:=aB (n:=n+5) (many:=1001) hi hs9 (by decide) (by decide);obtain⟨e3,s11,d11,hs11,e30,e31⟩:=aB (n:=n+5) (many:=2) hi hs10 (by decide) (by decide);obtain⟨z,hz4,hzm⟩:=ci (xs:=[T.int e1,.int e2]) e30 (by simpa using e31);have hz':∃v:Int,z=.int v/\0<=v/\v<=1000:=by
  simp only[R5,RV,or_false]at hzm;rcases hzm with rfl|rfl<;>exact⟨_,rfl,by omega,by omega⟩
 obtain⟨weight,rfl,g1,g2⟩:=hz';obtain⟨mk,sz,s12,d12,hs12,hc⟩:=DM (n:=n+3) hi hs11 h1 h2;refine⟨mk,sz,w,many,least,weight,s12,?_,hs12,hc,hw,⟨m1,m2⟩,⟨l1,l2⟩,⟨g1,g2⟩⟩;have key:ex (cf (n+6)) gv ln [Zz (.c i),Zz (.t (.str sd)),Zz (.t (.str nm)),Zz (.t (.str kd)),Zz (.t (.int fN)),Zy,Zy,Zy,Zy] (put m i s)=.ok (.ret (.t (uC sd nm kd mk sz w many least weight fN))) (put m i s12):=by
  refine(aj (w:=.t (.int many)) (m1:=put m i s4) (am (bF (af (aV (ae _) ((aO (af (aa rfl) (af (ae _) aq))).trans d1) rfl) (af (aV (ae _) ((aO (af (aa rfl) (af (ae _) aq))).trans d2) rfl) (af (aV (ae _) ((aO (af (aa rfl) (af (aV (ae _) (ae _) rfl) aq))).trans d3) rfl) aq))) rfl aR) ((aO (af (aa rfl) (af (ae _) aq))).trans d4) hz)).trans ?_;refine(aj (w:=.t (.int least)) (m1:=put m i s6) (am (bF (af (ae _) (af (aV (ae _) ((aO (af (aa rfl) (af (aa rfl) aq))).trans d5) rfl) (af (aa rfl) aq))) rfl aR) ((aO (af (aa rfl) (af (ae _) aq))).trans d6) hz2)).trans ?_;refine(aj (w:=.t w) (m1:=put m i s8) (am (bF (af (dU (af (ae _) aq) rfl aR) (af ((aO (af (aa rfl) (af (ae _) aq))).trans d7) aq)) rfl aR) ((aO (af (aa rfl) (af (ae _) aq))).trans d8) hz3)).trans ?_;refine(aj (w:=.t (.int weight)) (m1:=put m i s11) (am (bF (af ((aO (af (aa rfl) (af (ae _) aq))).trans d9) (af ((aO (af (aa rfl) (af (ae _) aq))).trans d10) aq)) rfl aR) ((aO (af (aa rfl) (af (ae _) aq))).trans d11) hz4)).trans ?_;exact ah (dU (af (aa rfl) (af ((aO (af (aa rfl) (af (aa rfl) (af (aa rfl) aq)))).trans d12) (af (aa rfl) (af (aa rfl) (af (aa rfl) (af (aa rfl) (af (aa rfl) aq))))))) rfl aR)
 exact aH (zk _ _ _) rfl key (ax (cell:=false) (by rw[aI,aI]))
section
variable{n:Nat}{m:Mem}{nm kd:List Nat}{mk:List (List Nat)}{sz:List (List Nat×Int)}
theorem w0{n:Nat}{m:Mem}{ts:List T}{a:List Nat}{e1 e2:Option W}:ev (cf n) gv (.ix (.var 0) (.con (.int 0))) [Zz (.t (.tup (.str a::ts))),e1,e2] m=.ok (.t (.str a)) m:=am (aa rfl) (ae _) (at0 _ _)
theorem way{call:Nat->List W->Mem->Res W}{env:Env}{a b:List Nat}{s k:S}(h:env[2]?=Zz (Zz (.t (.str a))))(hb:(a==b)=false):ex call gv (.cT (.cmp .Eq (.var 2) (.con (.str b))) s .done k) env m=ex call gv k env m:=by
 refine aP ?_;rw[<-hb];exact au (aa h) (ae _) (gu _ _)
theorem nv{call:Nat->List W->Mem->Res W}{env:Env}{a b:List Nat}{s k:S}{w:W}{m2:Mem}(h:env[2]?=Zz (Zz (.t (.str a))))(hb:(a==b)=true)(hs:ex call gv s env m=.ok (.ret w) m2):ex call gv (.cT (.cmp .Eq (.var 2) (.con (.str b))) s .done k) env m=.ok (.ret w) m2:=by
 refine bg ?_ hs;rw[<-hb];exact au (aa h) (ae _) (gu _ _)
theorem zE{w:T}(h:Lf w):cf (n+3) 2 [.t w,.t (bo nm kd mk sz)] m=.ok (.t (.bl (fC nm mk sz w))) m:=by
 have key:ex (cf (n+2)) gv gI [Zz (.t w),Zz (.t (bo nm kd mk sz)),Zy] m=.ok (.ret (.t (.bl (fC nm mk sz w)))) m:=by
  unfold gI;cases h with
  |any =>
   rw[aj w0];exact nv rfl rfl (ah (ae _))
  |is w =>
   rw[aj w0,way rfl rfl];exact nv rfl rfl (ah ((az (aa rfl) (am (aa rfl) (ae _) rfl)).trans (uf (n:=n+1))))
  |«by» w =>
   rw[aj w0,way rfl rfl,way rfl rfl];exact nv rfl rfl (ah (au (am (aa rfl) (ae _) (Fl _ _ _ _)) (am (aa rfl) (ae _) rfl) (gu _ _)))
  |least w v =>
   rw[aj w0,way rfl rfl,way rfl rfl,way rfl rfl,way rfl rfl,way rfl rfl,way rfl rfl];exact ah ((az (aa rfl) (aa rfl)).trans (lv (n:=n)))
  |most w v =>
   rw[aj w0,way rfl rfl,way rfl rfl,way rfl rfl,way rfl rfl,way rfl rfl,way rfl rfl];exact ah ((az (aa rfl) (aa rfl)).trans (lv (n:=n)))
 rw[sZ];simp[key,ai,ax]
theorem yu{w:List Nat}{v:Int}{a:List Nat}{e3:Option W}(hl:sz.length<=100):ev (cf n) gv mC [Zz (.t (.tup [.str a,.str w,.int v])),Zz (.t (bo nm kd mk sz)),Zz (.t (.str a)),e3] m=.ok (.t (.lst ((sz.filter λp=>p.1==w).map λp=>.int p.2))) m:=by
 have h:=gE (f:=bS (cf n) gv (.cons (.cmp .Eq (.var 0) (.ix (.var 2) (.con (.int 1)))) .nil) mh) (tg:=.tp [0,1]) (env:=[Zy,Zy,Zz (.t (.tup [.str a,.str w,.int v]))]) (m:=m)
  (g:=λt=>match t with|.tup [.str c,.int u]=>(if c==w then[.int u]else[])|_=>[]) (sz.map cA) (λt ht=>by
   obtain⟨p,_,rfl⟩:=RS.mp ht;refine⟨[Zz (.t (.str p.1)),Zz (.t (.int p.2)),Zz (.t (.tup [.str a,.str w,.int v]))],rfl,?_⟩;have hc:ev (cf n) gv (.cmp .Eq (.var 0) (.ix (.var 2) (.con (.int 1)))) [Zz (.t (.str p.1)),Zz (.t (.int p.2)),Zz (.t (.tup [.str a,.str w,.int v]))] m=.ok (.t (.bl (p.1==w))) m:=au (aa rfl) (am (aa rfl) (ae _) rfl) (gu _ _);cases hw:(p.1==w)with
   |true =>
    rw[hw]at hc;rw[kj hc (show ev (cf n) gv mh _ m=_ from bj (aa rfl))];simp[cA,hw]
   |false =>
    rw[hw]at hc;rw[kg hc];simp[cA,hw])
 have e:(sz.map cA).flatMap (λt=>match t with|.tup [.str c,.int u]=>(if c==w then[T.int u]else[])|_=>[])=(sz.filter λp=>p.1==w).map λp=>.int p.2:=by
  clear h hl
  induction sz with
  |nil=>rfl
  |cons p sz ih =>
   rw[RG,T9,ih,Tn];cases hw:(p.1==w)<;>simp[cA,hw]
 rw[e]at h;have hz:((sz.filter λp=>p.1==w).map λp=>T.int p.2).length<=lim:=by
  rw[R1];have:=SO (λp:List Nat×Int=>p.1==w) sz;unfold lim;omega
 exact bN (x:=.t (.tup (sz.map cA))) (m0:=m) (m1:=m) (am (aa rfl) (ae _) (Fh _ _ _ _)) rfl h hz
theorem mU(w:List Nat):∀sz:List (List Nat×Int),match fT sz w with
  |none=>(sz.filter λp=>p.1==w)=[]
  |some u=>∃r,(sz.filter λp=>p.1==w)=(w,u)::r
 |[]=>rfl
 |p::sz=>by
  rw[fT,Tn];cases hw:(p.1==w)with
  |true=>exact⟨sz.filter λp=>p.1==w,by rw[Yq rfl,<-eq_of_beq hw]⟩
  |false =>
   have:=mU w sz;exact this
theorem gB{xs:List T}(h:ay 59 xs=true):dr .Eq (.lst xs) (.lst [])=Zz xs.isEmpty/\dr .NotEq (.lst xs) (.lst [])=Zz (!xs.isEmpty):=by
 have h1:ak 60 (.lst xs)=true:=by rw[ak];exact h
 have h2:ak 60 (.lst [])=true:=by decide
 have h3:eqT (.lst xs) (.lst [])=xs.isEmpty:=by cases xs<;>simp[eqT,nr]
 constructor
 ·show(if(oZ (.lst xs) (.lst []) || (ak 60 (.lst xs)&&ak 60 (.lst [])))=true then Zz (eqT (.lst xs) (.lst []))else Zy)=_
  rw[h1,h2,VO,XA,Yq rfl,h3]
 ·show(if(oZ (.lst xs) (.lst []) || (ak 60 (.lst xs)&&ak 60 (.lst [])))=true then Zz (!eqT (.lst xs) (.lst []))else Zy)=_
  rw[h1,h2,VO,XA,Yq rfl,h3]
theorem rJ:∀xs:List (List Nat×Int),ay 59 (xs.map λp=>T.int p.2)=true
 |[]=>rfl
 |x::xs=>by rw[RG,ay,rJ xs];rfl
theorem law_leaf{w:T}(h:Lf w)(hl:sz.length<=100):cf (n+1) 31 [.t w,.t (bo nm kd mk sz)] m=.ok (.t (.bl (fC nm mk sz w))) m:=by
 have key:ex (cf n) gv eC [Zz (.t w),Zz (.t (bo nm kd mk sz)),Zy,Zy] m=.ok (.ret (.t (.bl (fC nm mk sz w)))) m:=by
  have wz:∀{ts:List T}{a:List Nat}{e2 e3:Option W},ev (cf n) gv (.ix (.var 0) (.con (.int 0))) [Zz (.t (.tup (.str a::ts))),Zz (.t (bo nm kd mk sz)),e2,e3] m=.ok (.t (.str a)) m:=am (aa rfl) (ae _) (at0 _ _);have num:∀(a:List Nat) (w:List Nat) (v:Int) (k:S),a=[108,101,97,115,116]∨a=[109,111,115,116]->ex (cf n) gv (.asg 3 mC (.cT (.cmp .Eq (.var 3) (.lst .nil)) (.ret (.con (.bl false)) .done) .done (.ret (.ix (.lst (.cons (.cmp .GtE (.ix (.var 3) (.con (.int 0))) (.ix (.var 0) (.con (.int 2)))) (.cons (.cmp .LtE (.ix (.var 3) (.con (.int 0))) (.ix (.var 0) (.con (.int 2)))) .nil))) (.blt .int (.cons (.cmp .Eq (.var 2) (.con (.str [109,111,115,116]))) .nil))) k))) [Zz (.t (.tup [.str a,.str w,.int v])),Zz (.t (bo nm kd mk sz)),Zz (.t (.str a)),Zy] m=.ok (.ret (.t (.bl (fC nm mk sz (.tup [.str a,.str w,.int v]))))) m:=by
   intro a w v k ha;refine(aj (yu hl)).trans ?_;dsimp only[RU,RP];have hs:=mU w sz;have hemp:∀env:Env,ev (cf n) gv (.lst .nil) env m=.ok (.t (.lst [])) m:=λenv=>bF aq rfl aR
   cases q:fT sz w with
   |none =>
    rw[q]at hs;have hs:(sz.filter λp=>p.1==w)=[]:=hs;rw[hs];rw[bg (au (k:=true) (aa rfl) (hemp _) rfl) (ah (ae _))];simp[fC,q]
   |some u =>
    rw[q]at hs;obtain⟨r,hs⟩:=hs;rw[hs];have he:=(gB (rJ ((w,u)::r))).1;rw[RG]at he ⊢;rw[aP (au (k:=false) (aa rfl) (hemp _) he)];have h0:∀env:Env,env[3]?=Zz (Zz (.t (.lst (.int u::r.map λp=>T.int p.2))))->ev (cf n) gv (.ix (.var 3) (.con (.int 0))) env m=.ok (.t (.int u)) m:=λenv h=>am (aa h) (ae _) (at0 _ _)
    refine ah ?_;refine am (y:=.int (b2i (a==[109,111,115,116]))) (lm (au (h0 _ rfl) (am (aa rfl) (ae _) rfl) (Go _ _)) (au (h0 _ rfl) (am (aa rfl) (ae _) rfl) (Gn _ _))) (aK (au (aa rfl) (ae _) (gu _ _)) (tO _)) ?_;rcases ha with rfl|rfl
    ·simp[fC,q];rfl
    ·simp[fC,q];rfl
  unfold eC;cases h with
  |any =>
   rw[aj wz];exact nv rfl rfl (ah (ae _))
  |is w =>
   rw[aj wz,way rfl rfl];exact nv rfl rfl (ah (au (am (aa rfl) (ae _) rfl) (am (aa rfl) (ae _) (Fz _ _ _ _)) (in_words w mk)))
  |«by» w =>
   rw[aj wz,way rfl rfl,way rfl rfl];exact nv rfl rfl (ah (au (am (aa rfl) (ae _) (Fl _ _ _ _)) (am (aa rfl) (ae _) rfl) (gu _ _)))
  |least w v =>
   rw[aj wz,way rfl rfl,way rfl rfl,way rfl rfl,way rfl rfl,way rfl rfl,way rfl rfl];exact num _ _ _ _ (.inl rfl)
  |most w v =>
   rw[aj wz,way rfl rfl,way rfl rfl,way rfl rfl,way rfl rfl,way rfl rfl,way rfl rfl];exact num _ _ _ _ (.inr rfl)
 exact aH (pE _ _ _) rfl key (ax (cell:=false) rfl)
end
section
variable{nm kd:List Nat}{mk:List (List Nat)}{sz:List (List Nat×Int)}
theorem CJ{call:Nat->List W->Mem->Res W}{m:Mem}{c:E}{env:Env}{ts:List T}{F:Nat}{g:T->T}{k:Nat}{gU:T}(hc:c=.comp 1 [k] (.ix (.var 0) (.con (.int 1))) (.nm 0) .nil (.emit (.call F (.cons (.var 0) (.cons (.var 1) .nil))))){a:List Nat}(h0:env[0]?=Zz (Zz (.t (.tup [.str a,.tup ts]))))(hk:env[k]?=Zz (Zz (.t gU)))(hl:ts.length<=100)(hg:∀t∈ts,call F [.t t,.t gU] m=.ok (.t (g t)) m):
  ev call gv c env m=.ok (.t (.lst (ts.map g))) m:=by
 subst hc;have h:=gE (f:=bS call gv .nil (.emit (.call F (.cons (.var 0) (.cons (.var 1) .nil))))) (tg:=.nm 0) (env:=[Zy,Zz (.t gU)]) (m:=m) (g:=λt=>[g t]) ts (λt ht=>⟨[Zz (.t t),Zz (.t gU)],rfl,dw (bj ((az (aa rfl) (aa rfl)).trans (hg t ht)))⟩);rw[aA]at h;refine bN (x:=.t (.tup ts)) (m0:=m) (m1:=m) (am (aa h0) (ae _) rfl) rfl ?_ (by rw[R1];unfold lim;omega);show b7 _ _ _ ([Zy]++[(env[k]?).join]) _=_;rw[hk];exact h
noncomputable def Hf(b:Bool)(bs:List Bool):Bool:=if b then bs.all id else bs.any id
theorem uz(bs:List Bool):eV (bs.map T.bl)=Zz bs:=by
 induction bs with
 |nil=>rfl
 |cons b bs ih=>rw[RG,eV,ih];rfl
theorem GC(bs:List Bool):cM .all [.lst (bs.map .bl)]=Zz (.bl (bs.all id)):=by
 show(eV (bs.map T.bl)).map _=_;rw[uz];rfl
theorem GO(bs:List Bool):cM .any [.lst (bs.map .bl)]=Zz (.bl (bs.any id)):=by
 show(eV (bs.map T.bl)).map _=_;rw[uz];rfl
def DV(nm kd:List Nat)(mk:List (List Nat))(sz:List (List Nat×Int))(d:Nat)(w:T)(b:Bool):Prop:=∀(n:Nat) (m:Mem),
 cf (n+(d+3)) 2 [.t w,.t (bo nm kd mk sz)] m=.ok (.t (.bl b)) m /\
 cf (n+(d+1)) 31 [.t w,.t (bo nm kd mk sz)] m=.ok (.t (.bl b)) m
theorem Ef{P:T->Bool->Prop}{ts:List T}(h:∀t∈ts,∃b,P t b):∃f:T->Bool,∀t∈ts,P t (f t):=by
 classical
 refine⟨λt=>if ht:t∈ts then(h t ht).choose else false,λt ht=>?_⟩;simp only[dif_pos ht];exact(h t ht).choose_spec
theorem rf{call:Nat->List W->Mem->Res W}{m:Mem}{c test:E}{env:Env}{ts:List T}{g:T->Bool}{gU:T}(hc:c=.comp 1 [1] (.ix (.var 0) (.con (.int 1))) (.nm 0) (.cons test .nil) (.emit (.var 0))){a:List Nat}(h0:env[0]?=Zz (Zz (.t (.tup [.str a,.tup ts]))))(hk:env[1]?=Zz (Zz (.t gU)))(hl:ts.length<=100)(hg:∀t∈ts,ev call gv test [Zz (.t t),Zz (.t gU)] m=.ok (.t (.bl (g t))) m):
  ev call gv c env m=.ok (.t (.lst (ts.filter g))) m:=by
 subst hc;have h:=gE (f:=bS call gv (.cons test .nil) (.emit (.var 0))) (tg:=.nm 0) (env:=[Zy,Zz (.t gU)]) (m:=m) (g:=λt=>if g t then[t]else[]) ts (λt ht=>by
  refine⟨[Zz (.t t),Zz (.t gU)],rfl,?_⟩;have hgt:=hg t ht;cases q:g t with
  |true =>
   rw[q]at hgt;exact kj hgt (bj (aa rfl))
  |false =>
   rw[q]at hgt;exact kg hgt)
 have e:(ts.flatMap λt=>if g t=true then[t]else[])=ts.filter g:=by
  clear h hg hl h0
  induction ts with
  |nil=>rfl
  |cons t ts ih =>
   rw[T9,ih,Tn];cases g t<;>rfl
 rw[e]at h;refine bN (x:=.t (.tup ts)) (m0:=m) (m1:=m) (am (aa h0) (ae _) rfl) rfl ?_ (by have:=SO g ts;unfold lim;omega);show b7 _ _ _ ([Zy]++[(env[1]?).join]) _=_;rw[hk];exact h
theorem qi(f:T->Bool):∀ts:List T,(ts.filter λt=>!f t).isEmpty=(ts.map f).all id
 |[]=>rfl
 |t::ts=>by
  have ih:=qi f ts;rw[Tn,RG,Xf];cases h:f t
  ·simp
  ·simpa using ih
theorem pR(f:T->Bool):∀ts:List T,(!(ts.filter f).isEmpty)=(ts.map f).any id
 |[]=>rfl
 |t::ts=>by
  have ih:=pR f ts;rw[Tn,RG,List.any_cons];cases h:f t
  ·simpa using ih
  ·simp
theorem EU{c:Nat}{a:List Nat}{ts:List T}(h:Dk c (.tup [.str a,.tup ts])):∀t∈ts,Dk c t:=λt ht k=>by
 have h1:=h (k+2);rw[show k+2+(2*c+1)=k+(2*c+1)+1+1 by omega,ak,ay,ay,ay,ak,ak]at h1;simp only[RK]at h1;exact bL.mp h1.2.1 t ht
theorem GX{c:Nat}{w:List Nat}{a:T}(h:Dk c (.tup [.str w,a])):Dk c a:=λk=>by
 have h1:=h (k+1);rw[show k+1+(2*c+1)=k+(2*c+1)+1 by omega,ak,ay,ay,ay]at h1;simp only[RK]at h1;exact h1.2.1
theorem IX{call:Nat->List W->Mem->Res W}{m:Mem}{ts:List T}{a:List Nat}{e1 e2 e3:Option W}:ev call gv (.ix (.var 0) (.con (.int 0))) [Zz (.t (.tup (.str a::ts))),e1,e2,e3] m=.ok (.t (.str a)) m:=am (aa rfl) (ae _) (at0 _ _)
theorem Ai{d:Nat}{ts:List T}(hd:d<=20)(h:∀t∈ts,Dk d t):∀(g:T->Bool),ay 59 (ts.filter g)=true:=λg=>bL.mpr λt ht=>by
 have:=h t (UM.mp ht).1 (59-(2*d+1));rw[show 59-(2*d+1)+(2*d+1)=59 by omega]at this;exact this
theorem both{c:Nat}(hl:sz.length<=100)(hd:c<=20):∀(d:Nat) {w:T},DW d w->Dk c w->∃b,DV nm kd mk sz d w b:=by
 intro d w h
 induction h with
 |@leaf d t h =>
  intro _;refine⟨fC nm mk sz t,λn m=>⟨?_,?_⟩⟩
  ·exact zE (n:=n+d) h
  ·exact law_leaf (n:=n+d) h hl
 |@nt d a h ih =>
  intro hk;obtain⟨b,hb⟩:=ih (GX hk);refine⟨!b,λn m=>⟨?_,?_⟩⟩
  ·have g:=(hb n m).1
   have key:ex (cf (n+(d+3))) gv gI [Zz (.t (.tup [.str [110,111,116],a])),Zz (.t (bo nm kd mk sz)),Zy] m=.ok (.ret (.t (.bl (!b)))) m:=by
    unfold gI;rw[aj w0,way rfl rfl,way rfl rfl,way rfl rfl];exact nv rfl rfl (ah (lV ((az (am (aa rfl) (ae _) rfl) (aa rfl)).trans g)))
   show cf (n+(d+3)+1) _ _ _=_;exact aH (sZ _ _ _) rfl key (ax (cell:=false) rfl)
  ·have g:=(hb n m).2
   have key:ex (cf (n+(d+1))) gv eC [Zz (.t (.tup [.str [110,111,116],a])),Zz (.t (bo nm kd mk sz)),Zy,Zy] m=.ok (.ret (.t (.bl (!b)))) m:=by
    unfold eC;refine(aj (w:=.t (.str [110,111,116])) (m1:=m) IX).trans ?_;rw[way rfl rfl,way rfl rfl,way rfl rfl];exact nv rfl rfl (ah (lV ((az (am (aa rfl) (ae _) rfl) (aa rfl)).trans g)))
   show cf (n+(d+1)+1) _ _ _=_;exact aH (pE _ _ _) rfl key (ax (cell:=false) rfl)
 |@jn d b ts h6 h ih =>
  intro hk;have hkt:=EU hk;obtain⟨f,hf⟩:=Ef λt ht=>ih t ht (hkt t ht)
  have hlen:(ts.map f).length<=100:=by rw[R1];omega
  refine⟨Hf b (ts.map f),λn m=>⟨?_,?_⟩⟩
  ·have hc:∀(c:E) (env:Env),c=.comp 1 [1] (.ix (.var 0) (.con (.int 1))) (.nm 0) .nil (.emit (.call 2 (.cons (.var 0) (.cons (.var 1) .nil))))->env[0]?=Zz (Zz (.t (.tup [.str (if b then[97,110,100]else[111,114]),.tup ts])))->env[1]?=Zz (Zz (.t (bo nm kd mk sz)))->ev (cf (n+(d+3))) gv c env m=.ok (.t (.lst ((ts.map f).map .bl))) m:=λc env e h0 h1=>by
    rw[Rq];exact CJ e h0 h1 (by omega) λt ht=>(hf t ht n m).1
   have key:ex (cf (n+(d+3))) gv gI [Zz (.t (.tup [.str (if b then[97,110,100]else[111,114]),.tup ts])),Zz (.t (bo nm kd mk sz)),Zy] m=.ok (.ret (.t (.bl (Hf b (ts.map f))))) m:=by
    unfold gI;cases b with
    |true =>
     rw[aj w0,way rfl rfl,way rfl rfl,way rfl rfl,way rfl rfl];exact nv rfl rfl (ah (aK (hc tR _ rfl rfl rfl) (GC _)))
    |false =>
     rw[aj w0,way rfl rfl,way rfl rfl,way rfl rfl,way rfl rfl,way rfl rfl];exact nv rfl rfl (ah (aK (hc uU _ rfl rfl rfl) (GO _)))
   show cf (n+(d+3)+1) _ _ _=_;exact aH (sZ _ _ _) rfl key (ax (cell:=false) rfl)
  ·have hemp:∀env:Env,ev (cf (n+(d+1))) gv (.lst .nil) env m=.ok (.t (.lst [])) m:=λenv=>bF aq rfl aR
   have key:ex (cf (n+(d+1))) gv eC [Zz (.t (.tup [.str (if b then[97,110,100]else[111,114]),.tup ts])),Zz (.t (bo nm kd mk sz)),Zy,Zy] m=.ok (.ret (.t (.bl (Hf b (ts.map f))))) m:=by
    unfold eC;cases b with
    |true =>
     refine(aj (w:=.t (.str [97,110,100])) (m1:=m) IX).trans ?_;rw[way rfl rfl,way rfl rfl,way rfl rfl,way rfl rfl];refine nv rfl rfl (ah ?_);rw[show Hf true (ts.map f)=(ts.map f).all id from rfl,<-qi];exact au (rf (g:=λt=>!f t) rfl rfl rfl (by omega) λt ht=>lV ((az (aa rfl) (aa rfl)).trans (hf t ht n m).2)) (hemp _) (gB (Ai hd hkt _)).1
    |false =>
     refine(aj (w:=.t (.str [111,114])) (m1:=m) IX).trans ?_;rw[way rfl rfl,way rfl rfl,way rfl rfl,way rfl rfl,way rfl rfl];refine nv rfl rfl (ah ?_);rw[show Hf false (ts.map f)=(ts.map f).any id from rfl,<-pR];exact au (rf (g:=f) rfl rfl rfl (by omega) λt ht=>(az (aa rfl) (aa rfl)).trans (hf t ht n m).2) (hemp _) (gB (Ai hd hkt _)).2
   show cf (n+(d+1)+1) _ _ _=_;exact aH (pE _ _ _) rfl key (ax (cell:=false) rfl)
end
theorem aL{call:Nat->List W->Mem->Res W}{gv:List T}{env:Env}{m:Mem}:ex call gv .done env m=.ok (.next env) m:=by rw[ex]
structure Ent where
 sd:List Nat
 nm:List Nat
 kd:List Nat
 G3:List (List Nat)
 sz:List (List Nat×Int)
 w:T
 many:Int
 least:Int
 wt:Int
 fN:Int
 left:Int
noncomputable def Ent.gU(e:Ent):T:=bo e.nm e.kd e.G3 e.sz
noncomputable def Ent.off(e:Ent):T:=uC e.sd e.nm e.kd e.G3 e.sz e.w e.many e.least e.wt e.fN
noncomputable def Ent.t(e:Ent):T:=.tup [e.off,.int e.left]
structure bC (e:Ent):Prop where
 gU:yi e.nm e.kd e.G3 e.sz
 wish:DW 2 e.w/\Dk 2 e.w
 sd:dv e.sd=true
 many:1<=e.many/\e.many<=1000000
theorem bC.kd{e:Ent}(h:bC e):dv e.kd=true:=h.gU.2.2.2.2.2
noncomputable def LB(e f:Ent):Bool:=by
 classical exact if h:∃b,DV f.nm f.kd f.G3 f.sz 2 e.w b then h.choose else false
theorem lb{e f:Ent}(he:bC e)(hf:bC f):DV f.nm f.kd f.G3 f.sz 2 e.w (LB e f):=by
 have h:∃b,DV f.nm f.kd f.G3 f.sz 2 e.w b:=both (c:=2) hf.gU.2.1 (by decide) 2 he.wish.1 he.wish.2;unfold LB;rw[dif_pos h];exact h.choose_spec
theorem Jp{n:Nat}{m:Mem}{e f:Ent}(he:bC e)(hf:bC f):cf (n+5) 2 [.t e.w,.t f.gU] m=.ok (.t (.bl (LB e f))) m:=(lb he hf n m).1
noncomputable def min2(a b:Int):Int:=if b<a then b else a
noncomputable def mx:List Ent->Int
 |[]=>0
 |e::r=>pU e.left (r.map (·.left))
noncomputable def eX(es:List Ent):Bool:=decide ((1:Int)<((aW (es.map (·.kd))).length:Int))
noncomputable def fI(es:List Ent):Bool:=decide (((aW (es.map (·.nm))).length:Int)<(es.length:Int))
noncomputable def jB(es:List Ent)(i j:Nat):Bool:=!((i:Int)==(j:Int))&&!(match es[i]?,es[j]? with
 |some e,Zz f=>LB e f
 |_,_=>false)
noncomputable def cL(es:List Ent)(i:Nat):Bool:=match es[i]? with
 |some e=>decide (mx es<min2 e.least e.left)
 |none=>false
noncomputable def uP(i j:Nat):T:=.tup [.str [119,105,115,104],.int (i:Int),.int (j:Int)]
noncomputable def oH(i:Nat):T:=.tup [.str [108,101,97,115,116],.int (i:Int)]
noncomputable def Cm(es:List Ent)(i:Nat):Option T:=(Rf es.length).findSome? λj=>if jB es i j then Zz (uP i j)else Zy
noncomputable def vD(es:List Ent):Option T:=(Rf es.length).findSome? (Cm es)
noncomputable def v3(es:List Ent):Option T:=(Rf es.length).findSome? λi=>if cL es i then Zz (oH i)else Zy
noncomputable def hJ(es:List Ent):Option T:=if eX es then Zz (.tup [.str [107,105,110,100]])else if fI es then Zz (.tup [.str [110,97,109,101]])else match vD es with
 |some t=>Zz t
 |none=>v3 es
noncomputable def qg(es:List Ent):Int:=if(hJ es).isNone then mx es else 0
theorem pf{α:Type}{f:Env->Mem->Res Flow}{tg:Tg}{m:Mem}{P:Env->Prop}{emb:α->T}{g:α->Option T}:∀(as:List α) (env:Env),P env->(∀a∈as,∀env,P env->∃env1,bB tg (emb a) env=Zz env1/\(match g a with
   |some r=>f env1 m=.ok (.ret (.t r)) m
   |none=>∃env2,f env1 m=.ok (.next env2) m/\P env2)) ->
  match as.findSome? g with
  |some r=>aJ f tg (as.map emb) env m=.ok (.ret (.t r)) m
  |none=>∃env',aJ f tg (as.map emb) env m=.ok (.next env') m/\P env'
 |[],env,hp,_=>⟨env,rfl,hp⟩
 |t::ts,env,hp,h=>by
  obtain⟨env1,hb,hf⟩:=h t R6 env hp;rw[List.findSome?_cons,RG];cases q:g t with
  |some r =>
   rw[q]at hf;show aJ _ _ _ _ _=_;rw[aJ,hb];show(f env1 m).bind _=_;rw[show f env1 m=_ from hf];rfl
  |none =>
   rw[q]at hf;obtain⟨env2,h2,hp2⟩:=hf;have step:aJ f tg (emb t::ts.map emb) env m=aJ f tg (ts.map emb) env2 m:=by
    rw[aJ,hb];show(f env1 m).bind _=_;rw[h2];rfl
   have ih:=pf ts env2 hp2 λu hu=>h u (R2 _ hu)
   rw[step];exact ih
theorem eQ{α:Type}{call:Nat->List W->Mem->Res W}{tg:Tg}{it:E}{body k:S}{env:Env}{m:Mem}{P:Env->Prop}{emb:α->T}{g:α->Option T}{x:T}{as:List α}(hit:ev call gv it env m=.ok (.t x) m)(hb:aU (.t x) m=.ok (as.map emb) m)(hp:P env)(h:∀a∈as,∀env,P env->∃env1,bB tg (emb a) env=Zz env1/\(match g a with
   |some r=>ex call gv body env1 m=.ok (.ret (.t r)) m
   |none=>∃env2,ex call gv body env1 m=.ok (.next env2) m/\P env2)):
  match as.findSome? g with
  |some r=>ex call gv (.dJ tg it body k) env m=.ok (.ret (.t r)) m
  |none=>∃env',ex call gv (.dJ tg it body k) env m=ex call gv k env' m/\P env':=by
 have hl:=pf (f:=ex call gv body) (tg:=tg) (m:=m) (P:=P) (emb:=emb) (g:=g) as env hp h;cases q:as.findSome? g with
 |some r =>
  rw[q]at hl;have hl:aJ (ex call gv body) tg (as.map emb) env m=.ok (.ret (.t r)) m:=hl;show ex _ _ _ _ _=_;rw[ex,hit,ai,hb,ai];show(aJ (ex call gv body) tg (as.map emb) env m).bind _=_;rw[hl];rfl
 |none =>
  rw[q]at hl;obtain⟨env',hl,hp'⟩:=hl;exact⟨env',bP hit hb hl,hp'⟩
theorem Dw(n:Nat):rangeT 0 n=(Rf n).map λk:Nat=>T.int (k:Int):=by
 unfold rangeT;exact Ud λk _=>by rw[Int.zero_add]
noncomputable def EN(k:Nat):T:=.int (k:Int)
theorem jZ{m:Mem}(n:Nat):aU (.t (.lst (rangeT 0 n))) m=.ok ((Rf n).map EN) m:=by
 rw[Dw];rfl
section
variable{n:Nat}{m:Mem}{es:List Ent}
noncomputable def aT(es:List Ent):T:=.lst (es.map Ent.t)
theorem vi{i:Nat}{e:Ent}(h:es[i]?=Zz e):yj (aT es) (.int (i:Int))=Zz e.t:=by
 have hi:=(RA.mp h).1;show atT (es.map Ent.t) (i:Int)=_;rw[Ge (by omega) (by rw[R1];omega),T8,Rj,h];rfl
theorem gd{call:Nat->List W->Mem->Res W}{c a:E}{env:Env}{g:Ent->T}(hc:c=.comp 2 [] (.var 0) (.tp [0,1]) .nil (.emit a))(h0:env[0]?=Zz (Zz (.t (aT es))))(hl:es.length<=100)(hg:∀e∈es,ev call gv a [Zz (.t e.off),Zz (.t (.int e.left))] m=.ok (.t (g e)) m):
  ev call gv c env m=.ok (.t (.lst (es.map g))) m:=by
 subst hc;obtain⟨xss,m',h,rfl,ht⟩:=iH (f:=bS call gv .nil (.emit a)) (tg:=.tp [0,1]) (env:=[Zy,Zy]) (P:=λm'=>m'=m) (R:=λt xs=>∀e∈es,t=e.t->xs=[g e]) (es.map Ent.t) m rfl (by
  rintro t ht m' rfl;obtain⟨e,he,rfl⟩:=RS.mp ht;refine⟨[Zz (.t e.off),Zz (.t (.int e.left))],[g e],m',rfl,dw (bj (hg e he)),rfl,λf hf e'=>?_⟩;have h1:=hg e he;have h2:=hg f hf;have h3:e.off=f.off/\T.int e.left=.int f.left:=by
   unfold Ent.t at e';injection e' with e';injection e' with e1 e';injection e' with e2 e';exact⟨e1,e2⟩
  rw[h3.1,h3.2,h2]at h1;injection h1 with h1;injection h1 with h1;rw[h1])
 have e:xss.flatten=es.map g:=by
  have:∀(l:List Ent) (xss:List (List T)),(∀e∈l,e∈es)->mN (λt xs=>∀e∈es,t=e.t->xs=[g e]) (l.map Ent.t) xss->xss.flatten=l.map g:=by
   intro l
   induction l with
   |nil=>intro xss _ h;cases h;rfl
   |cons e l ih =>
    intro xss hs h;cases h with
    |cons h ht =>
     rw[h e (hs e R6) rfl,UU,ih _ (λx hx=>hs x (R2 _ hx)) ht];rfl
  exact this es xss (λe he=>he) ht
 rw[e]at h;exact bN (x:=.t (aT es)) (m0:=m') (m1:=m') (aa h0) rfl h (by rw[R1];unfold lim;omega)
theorem nY{g:Ent->List Nat}(hl:es.length<64):cM .dC [.lst (es.map λe=>.str (g e))]=Zz (.int ((aW (es.map g)).length:Int)):=by
 show xh (es.map λe=>T.str (g e))=_;unfold xh;rw[strs_map];exact Yq (by rw[R1];exact hl)
theorem ints_map{α:Type}(f:α->Int):∀xs:List α,cn (xs.map λx=>T.int (f x))=Zz (xs.map f)
 |[]=>rfl
 |x::xs=>by rw[RG,cn,ints_map f xs];rfl
theorem CE(h0:es≠[])(hl:es.length<64):cM .u9 [.lst (es.map λe=>.int e.left)]=Zz (.int (mx es)):=by
 show wW (es.map λe=>T.int e.left)=_;unfold wW;rw[ints_map];cases es with
 |nil=>exact Yv rfl h0
 |cons e r =>
  rw[Rp]at hl;exact Yq (by rw[R1];omega)
theorem vx{e:Ent}:cf (n+1) 4 [.t e.off] m=.ok (.t (.str e.nm)) m:=
 aH (v8 _ _ _) rfl (show ex (cf n) gv jz [Zz (.t e.off)] m=.ok (.ret (.t (.str e.nm))) m from ah (am (am (x:=e.off) (aa rfl) (ae _) rfl) (ae _) rfl)) (ax (cell:=false) rfl)
theorem jP{e:Ent}:cf (n+1) 5 [.t e.off] m=.ok (.t (.str e.kd)) m:=
 aH (wH _ _ _) rfl (show ex (cf n) gv iS [Zz (.t e.off)] m=.ok (.ret (.t (.str e.kd))) m from ah (am (am (x:=e.off) (aa rfl) (ae _) rfl) (ae _) rfl)) (ax (cell:=false) rfl)
theorem wj{i:Nat}{e:Ent}(h:es[i]?=Zz e):cf (n+1) 6 [.t (aT es),.t (.int (i:Int))] m=.ok (.t e.w) m:=
 aH (vo _ _ _) rfl (show ex (cf n) gv iW [Zz (.t (aT es)),Zz (.t (.int (i:Int)))] m=.ok (.ret (.t e.w)) m from ah (am (am (am (aa rfl) (aa rfl) (vi h)) (ae _) rfl) (ae _) rfl)) (ax (cell:=false) rfl)
theorem wb{i:Nat}{e:Ent}(h:es[i]?=Zz e):cf (n+1) 7 [.t (aT es),.t (.int (i:Int))] m=.ok (.t e.gU) m:=
 aH (vG _ _ _) rfl (show ex (cf n) gv iU [Zz (.t (aT es)),Zz (.t (.int (i:Int)))] m=.ok (.ret (.t e.gU)) m from ah (am (am (am (aa rfl) (aa rfl) (vi h)) (ae _) rfl) (ae _) rfl)) (ax (cell:=false) rfl)
theorem jK(h0:es≠[])(hl:es.length<64):cf (n+1) 8 [.t (aT es)] m=.ok (.t (.int (mx es))) m:=by
 have hc:ev (cf n) gv ir [Zz (.t (aT es))] m=.ok (.t (.lst (es.map λe=>.int e.left))) m:=gd rfl rfl (by omega) λe he=>aa rfl
 exact aH (qF _ _ _) rfl (show ex (cf n) gv er [Zz (.t (aT es))] m=.ok (.ret (.t (.int (mx es)))) m from ah (aK hc (CE h0 hl))) (ax (cell:=false) rfl)
theorem nZ:cM .len [aT es]=Zz (.int (es.length:Int)):=by
 show Zz (T.int ((es.map Ent.t).length:Int))=_;rw[R1]
theorem kinds_ok(hl:es.length<64):cf (n+2) 9 [.t (aT es)] m=.ok (.t (.bl (eX es))) m:=by
 have hc:ev (cf (n+1)) gv dS [Zz (.t (aT es))] m=.ok (.t (.lst (es.map λe=>.str e.kd))) m:=gd rfl rfl (by omega) λe he=>(bE (aa rfl)).trans jP
 exact aH (jF _ _ _) rfl (show ex (cf (n+1)) gv bY [Zz (.t (aT es))] m=.ok (.ret (.t (.bl (eX es)))) m from ah (au (aK hc (nY hl)) (ae _) (y5 _ _))) (ax (cell:=false) rfl)
theorem AV(hl:es.length<64):cf (n+2) 10 [.t (aT es)] m=.ok (.t (.bl (fI es))) m:=by
 have hc:ev (cf (n+1)) gv dZ [Zz (.t (aT es))] m=.ok (.t (.lst (es.map λe=>.str e.nm))) m:=gd rfl rfl (by omega) λe he=>(bE (aa rfl)).trans vx
 exact aH (kh _ _ _) rfl (show ex (cf (n+1)) gv cu [Zz (.t (aT es))] m=.ok (.ret (.t (.bl (fI es)))) m from ah (au (aK hc (nY hl)) (aK (aa rfl) nZ) (yS _ _))) (ax (cell:=false) rfl)
theorem tS{i j:Nat}{e f:Ent}(hi:es[i]?=Zz e)(hj:es[j]?=Zz f)(ho:∀e∈es,bC e):cf (n+6) 11 [.t (aT es),.t (.int (i:Int)),.t (.int (j:Int))] m=.ok (.t (.bl (jB es i j))) m:=by
 have hL:cf (n+5) 2 [.t e.w,.t f.gU] m=.ok (.t (.bl (LB e f))) m:=Jp (ho e (SS hi)) (ho f (SS hj));have hw:jB es i j=(!((i:Int)==(j:Int))&&!LB e f):=by
  unfold jB;rw[hi,hj]
 have key:ex (cf (n+5)) gv cE [Zz (.t (aT es)),Zz (.t (.int (i:Int))),Zz (.t (.int (j:Int)))] m=.ok (.ret (.t (.bl (jB es i j)))) m:=by
  rw[hw];refine ah ?_;have hne:=au (call:=cf (n+5)) (gv:=gv) (m:=m) (op:=.NotEq) (a:=.var 1) (b:=.var 2) (env:=[Zz (.t (aT es)),Zz (.t (.int (i:Int))),Zz (.t (.int (j:Int)))]) (aa rfl) (aa rfl) (xx (i:Int) (j:Int));cases q:((i:Int)==(j:Int))with
  |true =>
   rw[q]at hne;exact jk hne
  |false =>
   rw[q]at hne;refine(gR hne).trans ?_;exact lV ((az ((az (aa rfl) (aa rfl)).trans (wj (n:=n+4) hi)) ((az (aa rfl) (aa rfl)).trans (wb (n:=n+4) hj))).trans hL)
 exact aH (kD _ _ _) rfl key (ax (cell:=false) rfl)
theorem sP{i:Nat}{e:Ent}(hi:es[i]?=Zz e)(h0:es≠[])(hl:es.length<64):cf (n+2) 12 [.t (aT es),.t (.int (i:Int))] m=.ok (.t (.bl (cL es i))) m:=by
 have hw:cL es i=decide (mx es<min2 e.least e.left):=by
  unfold cL;rw[hi]
 have key:ex (cf (n+1)) gv bJ [Zz (.t (aT es)),Zz (.t (.int (i:Int))),Zy,Zy] m=.ok (.ret (.t (.bl (cL es i)))) m:=by
  rw[hw];unfold bJ;rw[ex,am (aa rfl) (aa rfl) (vi hi)];show ex (cf (n+1)) gv _ [Zz (.t (aT es)),Zz (.t (.int (i:Int))),Zz (.t e.off),Zz (.t (.int e.left))] m=_;exact ah (au (jq (x:=.int e.least) (y:=.int e.left) (am (aa rfl) (ae _) rfl) (aa rfl) rfl) ((bE (aa rfl)).trans (jK (n:=n) h0 hl)) (y5 _ _))
 exact aH (jT _ _ _) rfl key (ax (cell:=false) rfl)
theorem EC{t:T}(h:hJ es=Zz t):∃ts,t=.tup ts:=by
 unfold hJ at h;split at h
 ·cases h;exact⟨_,rfl⟩
 ·split at h
  ·cases h;exact⟨_,rfl⟩
  ·split at h
   ·rename_i u q
    cases h;obtain⟨i,_,q⟩:=Sp q;obtain⟨j,_,q⟩:=Sp q;split at q<;>cases q;exact⟨_,rfl⟩
   ·obtain⟨i,_,q⟩:=Sp h
    split at q<;>cases q;exact⟨_,rfl⟩
theorem yQ(h0:es≠[])(hl:es.length<64)(ho:∀e∈es,bC e):cf (n+7) 13 [.t (aT es)] m=.ok (.t ((hJ es).getD .non)) m:=by
 have hr:∀env:Env,env[0]?=Zz (Zz (.t (aT es)))->ev (cf (n+6)) gv (.blt .cK (.cons (.blt .len (.cons (.var 0) .nil)) .nil)) env m=.ok (.t (.lst (rangeT 0 es.length))) m:=λenv h=>by
  have:=tM (i:=(es.length:Int)) (by omega);rw[T8]at this;exact aK (aK (aa h) nZ) this
 have key:ex (cf (n+6)) gv iy [Zz (.t (aT es)),Zy,Zy] m=.ok (.ret (.t ((hJ es).getD .non))) m:=by
  unfold iy hJ;have hk:ev (cf (n+6)) gv (.call 9 (.cons (.var 0) .nil)) [Zz (.t (aT es)),Zy,Zy] m=.ok (.t (.bl (eX es))) m:=(bE (aa rfl)).trans (kinds_ok (n:=n+4) hl);have hn:ev (cf (n+6)) gv (.call 10 (.cons (.var 0) .nil)) [Zz (.t (aT es)),Zy,Zy] m=.ok (.t (.bl (fI es))) m:=(bE (aa rfl)).trans (AV (n:=n+4) hl);cases qk:eX es with
  |true =>
   rw[qk]at hk;exact bg hk (ah (tn (ae _)))
  |false =>
   rw[qk]at hk;refine(aP hk).trans ?_;cases qn:fI es with
   |true =>
    rw[qn]at hn;exact bg hn (ah (tn (ae _)))
   |false =>
    rw[qn]at hn;refine(aP hn).trans ?_;rw[Yr RL,Yr RL];have ge:∀{k:Nat},k∈Rf es.length->∃e,es[k]?=Zz e:=λhk=>⟨_,R8 (Su.mp hk)⟩
    -- the wishes
    have hW:=eQ (emb:=EN) (as:=Rf es.length) (call:=cf (n+6)) (tg:=.nm 1) (it:=.blt .cK (.cons (.blt .len (.cons (.var 0) .nil)) .nil)) (body:=pA) (k:=.dJ (.nm 1) (.blt .cK (.cons (.blt .len (.cons (.var 0) .nil)) .nil)) kt (.ret (.con .non) .done)) (env:=[Zz (.t (aT es)),Zy,Zy]) (m:=m) (P:=λenv=>∃a b,env=[Zz (.t (aT es)),a,b]) (g:=Cm es) (hr _ rfl) (jZ _) ⟨_,_,rfl⟩ (by
     rintro i hi env ⟨a,b,rfl⟩;obtain⟨e,he⟩:=ge hi;refine⟨[Zz (.t (aT es)),Zz (.t (.int (i:Int))),b],rfl,?_⟩;have hI:=eQ (emb:=EN) (as:=Rf es.length) (call:=cf (n+6)) (tg:=.nm 2) (it:=.blt .cK (.cons (.blt .len (.cons (.var 0) .nil)) .nil)) (body:=oI) (k:=.done) (env:=[Zz (.t (aT es)),Zz (.t (.int (i:Int))),b]) (m:=m) (P:=λenv=>∃b,env=[Zz (.t (aT es)),Zz (.t (.int (i:Int))),b]) (g:=λj=>if jB es i j then Zz (uP i j)else Zy) (hr _ rfl) (jZ _) ⟨_,rfl⟩ (by
      rintro j hj env ⟨b,rfl⟩;obtain⟨f,hf⟩:=ge hj;refine⟨[Zz (.t (aT es)),Zz (.t (.int (i:Int))),Zz (.t (.int (j:Int)))],rfl,?_⟩;have hc:ev (cf (n+6)) gv (.call 11 (.cons (.var 0) (.cons (.var 1) (.cons (.var 2) .nil)))) [Zz (.t (aT es)),Zz (.t (.int (i:Int))),Zz (.t (.int (j:Int)))] m=.ok (.t (.bl (jB es i j))) m:=(iI (aa rfl) (aa rfl) (aa rfl)).trans (tS he hf ho);show match(if jB es i j=true then Zz (uP i j)else Zy)with
       |some r=>_
       |none=>_
      cases q:jB es i j with
      |true =>
       rw[q]at hc;exact bg hc (ah (kZ (ae _) (aa rfl) (aa rfl)))
      |false =>
       rw[q]at hc;exact⟨_,(aP hc).trans aL,_,rfl⟩)
     show match(Rf es.length).findSome? λj=>if jB es i j then Zz (uP i j)else Zy with
      |some r=>_
      |none=>_
     cases q:(Rf es.length).findSome? λj=>if jB es i j then Zz (uP i j)else Zy with
     |some r=>rw[q]at hI;exact hI
     |none =>
      rw[q]at hI;obtain⟨env',h1,b',rfl⟩:=hI;exact⟨_,h1.trans aL,_,_,rfl⟩)
    show ex _ _ _ _ _=.ok (.ret (.t ((match vD es with
     |some t=>Zz t
     |none=>v3 es).getD .non))) m
    cases qw:vD es with
    |some r =>
     rw[show(Rf es.length).findSome? (Cm es)=Zz r from qw]at hW;exact hW
    |none =>
     rw[show(Rf es.length).findSome? (Cm es)=Zy from qw]at hW;obtain⟨env',h1,a,b,rfl⟩:=hW;refine h1.trans ?_;have hL:=eQ (emb:=EN) (as:=Rf es.length) (call:=cf (n+6)) (tg:=.nm 1) (it:=.blt .cK (.cons (.blt .len (.cons (.var 0) .nil)) .nil)) (body:=kt) (k:=.ret (.con .non) .done) (env:=[Zz (.t (aT es)),a,b]) (m:=m) (P:=λenv=>∃a b,env=[Zz (.t (aT es)),a,b]) (g:=λi=>if cL es i then Zz (oH i)else Zy) (hr _ rfl) (jZ _) ⟨_,_,rfl⟩ (by
      rintro i hi env ⟨a,b,rfl⟩;obtain⟨e,he⟩:=ge hi;refine⟨[Zz (.t (aT es)),Zz (.t (.int (i:Int))),b],rfl,?_⟩;have hc:ev (cf (n+6)) gv (.call 12 (.cons (.var 0) (.cons (.var 1) .nil))) [Zz (.t (aT es)),Zz (.t (.int (i:Int))),b] m=.ok (.t (.bl (cL es i))) m:=(az (aa rfl) (aa rfl)).trans (sP (n:=n+4) he h0 hl);show match(if cL es i=true then Zz (oH i)else Zy)with
       |some r=>_
       |none=>_
      cases q:cL es i with
      |true =>
       rw[q]at hc;exact bg hc (ah (dq (ae _) (aa rfl)))
      |false =>
       rw[q]at hc;exact⟨_,(aP hc).trans aL,_,_,rfl⟩)
     cases ql:v3 es with
     |some r =>
      rw[show((Rf es.length).findSome? λi=>if cL es i then Zz (oH i)else Zy)=Zz r from ql]at hL;exact hL
     |none =>
      rw[show((Rf es.length).findSome? λi=>if cL es i then Zz (oH i)else Zy)=Zy from ql]at hL;obtain⟨env',h2,_⟩:=hL;exact h2.trans (ah (ae _))
 exact aH (y9 _ _ _) rfl key (ax (cell:=false) rfl)
theorem GT:dr .Is ((hJ es).getD .non) .non=Zz (hJ es).isNone:=by
 cases q:hJ es with
 |none=>rfl
 |some t =>
  obtain⟨ts,rfl⟩:=EC q;rfl
theorem EE(h0:es≠[])(hl:es.length<64)(ho:∀e∈es,bC e):cf (n+8) 14 [.t (aT es)] m=.ok (.t (.int (qg es))) m:=by
 have key:ex (cf (n+7)) gv pj [Zz (.t (aT es))] m=.ok (.ret (.t (.int (qg es)))) m:=by
  unfold pj qg;have hw:ev (cf (n+7)) gv (.cmp .Is (.call 13 (.cons (.var 0) .nil)) (.con .non)) [Zz (.t (aT es))] m=.ok (.t (.bl (hJ es).isNone)) m:=au ((bE (aa rfl)).trans (yQ h0 hl ho)) (ae _) GT;cases q:(hJ es).isNone with
  |true =>
   rw[q]at hw;exact bg hw (ah ((bE (aa rfl)).trans (jK (n:=n+6) h0 hl)))
  |false =>
   rw[q]at hw;exact(aP hw).trans (ah (ae _))
 exact aH (EK _ _ _) rfl key (ax (cell:=false) rfl)
end
end My
set_option maxRecDepth 20000
namespace My
open Mi
theorem cZ{α:Type}{f:Env->Mem->Res (List T)}{tg:Tg}{env:Env}{m:Mem}{emb:α->T}{g:α->List T}:∀(as:List α),(∀a∈as,∃env',bB tg (emb a) env=Zz env'/\f env' m=.ok (g a) m)->b7 f tg (as.map emb) env m=.ok (as.flatMap g) m
 |[],_=>rfl
 |a::as,h=>by
  obtain⟨env',h1,h2⟩:=h a R6;rw[RG,b7,h1];show(f env' m).bind _=_;rw[h2,ai,cZ as λx hx=>h x (R2 _ hx)];rfl
noncomputable def gq(e f:Ent):Bool:=!(f.sd==e.sd)&&!LB e f
noncomputable def q8(es:List Ent)(e:Ent):Option T:=es.findSome? λf=>if gq e f then Zz (.int 0)else Zy
noncomputable def cz(es:List Ent)(e:Ent):Bool:=decide (mx es<min2 e.least e.left)
noncomputable def t9(es:List Ent):Int:=if eX es || fI es then 0 else match es.findSome? (q8 es)with
 |some _=>0
 |none=>if(es.filter (cz es)).isEmpty then mx es else 0
theorem find_some{α:Type}{l:List α}{g:α->Option T}:(l.findSome? g).isSome=true↔∃a∈l,(g a).isSome=true:=by
 constructor
 ·intro h
  obtain⟨t,ht⟩:=Tr.mp h;obtain⟨a,ha,hg⟩:=Sp ht;exact⟨a,ha,by rw[hg];rfl⟩
 ·rintro ⟨a,ha,hg⟩
  cases q:l.findSome? g with
  |some t=>rfl
  |none =>
   have:=List.findSome?_eq_none_iff.mp q a ha;rw[this]at hg;exact hg
theorem Ab{es:List Ent}(hn:(es.map (·.sd)).Nodup):(es.findSome? (q8 es)).isSome=(vD es).isSome:=by
 have nd:∀{i j:Nat}{e f:Ent},es[i]?=Zz e->es[j]?=Zz f->(f.sd==e.sd)=((i:Int)==(j:Int)):=λ{i j e f} hi hj=>by
  by_cases h:i=j
  ·subst h
   rw[hi]at hj;cases hj;simp
  ·have h1:f.sd≠e.sd:=λz=>by
    have li:=(RA.mp hi).1;have lj:=(RA.mp hj).1;have e1:(es.map (·.sd))[i]?=Zz e.sd:=by rw[Rj,hi];rfl
    have e2:(es.map (·.sd))[j]?=Zz f.sd:=by rw[Rj,hj];rfl
    rw[z]at e2;exact h ((List.getElem?_inj (by rw[R1];exact li) hn).mp (e1.trans e2.symm))
   rw[Yu.mpr h1,Yu.mpr (λz=>h (by omega))]
 apply XG.mpr;unfold vD q8 Cm;rw[find_some,find_some];constructor
 ·rintro ⟨e,he,h⟩
  obtain⟨f,hf,h⟩:=find_some.mp h;obtain⟨i,hi,rfl⟩:=Sf he;obtain⟨j,hj,rfl⟩:=Sf hf;have gi:=R8 hi;have gj:=R8 hj;refine⟨i,Su.mpr hi,find_some.mpr ⟨j,Su.mpr hj,?_⟩⟩;have:jB es i j=gq es[i] es[j]:=by
   unfold jB gq;rw[gi,gj,nd gi gj]
  rw[this];cases q:gq es[i] es[j]with
  |true=>rfl
  |false=>rw[q]at h;exact h
 ·rintro ⟨i,hi,h⟩
  obtain⟨j,hj,h⟩:=find_some.mp h;have gi:=R8 (Su.mp hi);have gj:=R8 (Su.mp hj);refine⟨_,Ti (Su.mp hi),find_some.mpr ⟨_,Ti (Su.mp hj),?_⟩⟩;have:jB es i j=gq (es[i]'(Su.mp hi)) (es[j]'(Su.mp hj)):=by
   unfold jB gq;rw[gi,gj,nd gi gj]
  rw[<-this];cases q:jB es i j with
  |true=>rfl
  |false=>rw[q]at h;exact h
theorem yC{es:List Ent}:(!(es.filter (cz es)).isEmpty)=(v3 es).isSome:=by
 apply XG.mpr;unfold v3;rw[find_some,Bool.not_eq_true',<-Bool.not_eq_true,List.isEmpty_iff,List.filter_eq_nil_iff];constructor
 ·intro h
  have:∃e∈es,cz es e=true:=by
   apply Classical.byContradiction;intro z;exact h λe he hq=>z ⟨e,he,hq⟩
  obtain⟨e,he,hq⟩:=this;obtain⟨i,hi,rfl⟩:=Sf he;refine⟨i,Su.mpr hi,?_⟩;have:cL es i=true:=by
   unfold cL;rw[R8 hi];exact hq
  rw[this];rfl
 ·rintro ⟨i,hi,h⟩ z
  have hi:=Su.mp hi;refine z es[i] (Ti hi) ?_;have:cL es i=cz es es[i]:=by
   unfold cL cz;rw[R8 hi]
  rw[<-this];cases q:cL es i with
  |true=>rfl
  |false=>rw[q]at h;cases h
theorem Dz{es:List Ent}(hn:(es.map (·.sd)).Nodup):t9 es=qg es:=by
 have h1:=Ab hn;have h2:=yC (es:=es);unfold t9 qg hJ;cases eX es with
 |true=>rfl
 |false =>
  cases fI es with
  |true=>rfl
  |false =>
   rw[Yr RL,Yr RL,Yr (by decide)];cases q:es.findSome? (q8 es)with
   |some t =>
    rw[q]at h1;obtain⟨u,hu⟩:=Tr.mp h1.symm;rw[hu];rfl
   |none =>
    rw[q]at h1;have hw:vD es=Zy:=by
     cases qw:vD es with
     |none=>rfl
     |some t=>rw[qw]at h1;cases h1
    rw[hw];cases qe:(es.filter (cz es)).isEmpty with
    |true =>
     rw[qe]at h2;have hl:v3 es=Zy:=by
      cases ql:v3 es with
      |none=>rfl
      |some t=>rw[ql]at h2;cases h2
     rw[hl];rfl
    |false =>
     rw[qe]at h2;obtain⟨u,hu⟩:=Tr.mp h2.symm;rw[hu];rfl
theorem m9{α:Type}(p:α->Bool)(t:T):∀l:List α,(l.flatMap λa=>if p a then[t]else[])=(l.filter p).map λ_=>t
 |[]=>rfl
 |a::l=>by
  rw[T9,m9 p t l,Tn];cases p a<;>rfl
theorem zb{α:Type}(l:List α):ay 59 (l.map λ_=>T.int 1)=true:=by
 refine bL.mpr λt ht=>?_
 obtain⟨_,_,rfl⟩:=RS.mp ht;rfl
theorem law_part_ok{n:Nat}{m:Mem}{es:List Ent}(h0:es≠[])(hl:es.length<64)(ho:∀e∈es,bC e):cf (n+4) 32 [.t (aT es)] m=.ok (.t (.int (t9 es))) m:=by
 have hk:ev (cf (n+3)) gv jt [Zz (.t (aT es)),Zz (.t (.lst (es.map λe=>.str e.nm))),Zy,Zy,Zy,Zy,Zy] m=.ok (.t (.lst (es.map λe=>.str e.kd))) m:=gd (g:=λe=>.str e.kd) rfl rfl (by omega) λe he=>am (am (x:=e.off) (aa rfl) (ae _) rfl) (ae _) rfl
 have hn:ev (cf (n+3)) gv qM [Zz (.t (aT es)),Zy,Zy,Zy,Zy,Zy,Zy] m=.ok (.t (.lst (es.map λe=>.str e.nm))) m:=gd (g:=λe=>.str e.nm) rfl rfl (by omega) λe he=>am (am (x:=e.off) (aa rfl) (ae _) rfl) (ae _) rfl
 have ll:cM .len [.lst (es.map λe=>T.str e.nm)]=Zz (.int (es.length:Int)):=by
  show Zz (T.int ((es.map λe=>T.str e.nm).length:Int))=_;rw[R1]
 have key:ex (cf (n+3)) gv k7 [Zz (.t (aT es)),Zy,Zy,Zy,Zy,Zy,Zy] m=.ok (.ret (.t (.int (t9 es)))) m:=by
  unfold k7 t9;refine(aj hn).trans ?_;dsimp only[RU,RP];have ht:ev (cf (n+3)) gv (.or (.cmp .Gt (.blt .dC (.cons jt .nil)) (.con (.int 1))) (.cmp .Lt (.blt .dC (.cons (.var 1) .nil)) (.blt .len (.cons (.var 1) .nil)))) [Zz (.t (aT es)),Zz (.t (.lst (es.map λe=>.str e.nm))),Zy,Zy,Zy,Zy,Zy] m=.ok (.t (.bl (eX es || fI es))) m:=by
   have h1:=au (op:=.Gt) (aK hk (nY hl)) (ae (T.int 1)) (y5 _ _);have h2:=au (call:=cf (n+3)) (gv:=gv) (m:=m) (op:=.Lt) (env:=[Zz (.t (aT es)),Zz (.t (.lst (es.map λe=>.str e.nm))),Zy,Zy,Zy,Zy,Zy]) (a:=.blt .dC (.cons (.var 1) .nil)) (b:=.blt .len (.cons (.var 1) .nil)) (aK (aa rfl) (nY (g:=λe=>e.nm) hl)) (aK (aa rfl) ll) (yS _ _);have h1:ev (cf (n+3)) gv (.cmp .Gt (.blt .dC (.cons jt .nil)) (.con (.int 1))) [Zz (.t (aT es)),Zz (.t (.lst (es.map λe=>.str e.nm))),Zy,Zy,Zy,Zy,Zy] m=.ok (.t (.bl (eX es))) m:=h1;have h2:ev (cf (n+3)) gv (.cmp .Lt (.blt .dC (.cons (.var 1) .nil)) (.blt .len (.cons (.var 1) .nil))) [Zz (.t (aT es)),Zz (.t (.lst (es.map λe=>.str e.nm))),Zy,Zy,Zy,Zy,Zy] m=.ok (.t (.bl (fI es))) m:=h2;cases q:eX es with
   |true=>rw[q]at h1;exact AB h1
   |false =>
    rw[q]at h1;rw[Xk];exact(sV h1).trans h2
  cases q:(eX es || fI es)with
  |true =>
   rw[q]at ht;exact bg ht (ah (ae _))
  |false =>
   rw[q]at ht;refine(aP ht).trans ?_;rw[Yr RL];have hP:=eQ (call:=cf (n+3)) (tg:=.tp [2,3]) (it:=.var 0) (body:=qL) (k:=.asg 6 (.blt .u9 (.cons mw .nil)) (.cT (.cmp .NotEq me (.lst .nil)) (.ret (.con (.int 0)) .done) .done (.ret (.var 6) .done))) (env:=[Zz (.t (aT es)),Zz (.t (.lst (es.map λe=>.str e.nm))),Zy,Zy,Zy,Zy,Zy]) (m:=m) (P:=λenv=>∃a b c d,env=[Zz (.t (aT es)),Zz (.t (.lst (es.map λe=>.str e.nm))),a,b,c,d,Zy]) (emb:=Ent.t) (as:=es) (g:=q8 es) (x:=aT es) (aa rfl) rfl ⟨_,_,_,_,rfl⟩ (by
    rintro e he env ⟨a,b,c,d,rfl⟩;refine⟨[Zz (.t (aT es)),Zz (.t (.lst (es.map λe=>.str e.nm))),Zz (.t e.off),Zz (.t (.int e.left)),c,d,Zy],rfl,?_⟩;have hI:=eQ (call:=cf (n+3)) (tg:=.tp [4,5]) (it:=.var 0) (body:=rI) (k:=.done) (env:=[Zz (.t (aT es)),Zz (.t (.lst (es.map λe=>.str e.nm))),Zz (.t e.off),Zz (.t (.int e.left)),c,d,Zy]) (m:=m) (P:=λenv=>∃c d,env=[Zz (.t (aT es)),Zz (.t (.lst (es.map λe=>.str e.nm))),Zz (.t e.off),Zz (.t (.int e.left)),c,d,Zy]) (emb:=Ent.t) (as:=es) (g:=λf=>if gq e f then Zz (.int 0)else Zy) (x:=aT es) (aa rfl) rfl ⟨_,_,rfl⟩ (by
     rintro f hf env ⟨c,d,rfl⟩;refine⟨[Zz (.t (aT es)),Zz (.t (.lst (es.map λe=>.str e.nm))),Zz (.t e.off),Zz (.t (.int e.left)),Zz (.t f.off),Zz (.t (.int f.left)),Zy],rfl,?_⟩;have hc:ev (cf (n+3)) gv (.and (.cmp .NotEq (.ix (.var 4) (.con (.int 0))) (.ix (.var 2) (.con (.int 0)))) (.not (.call 31 (.cons (.ix (.var 2) (.con (.int 2))) (.cons (.ix (.var 4) (.con (.int 1))) .nil))))) [Zz (.t (aT es)),Zz (.t (.lst (es.map λe=>.str e.nm))),Zz (.t e.off),Zz (.t (.int e.left)),Zz (.t f.off),Zz (.t (.int f.left)),Zy] m=.ok (.t (.bl (gq e f))) m:=by
      have h1:ev (cf (n+3)) gv (.cmp .NotEq (.ix (.var 4) (.con (.int 0))) (.ix (.var 2) (.con (.int 0)))) [Zz (.t (aT es)),Zz (.t (.lst (es.map λe=>.str e.nm))),Zz (.t e.off),Zz (.t (.int e.left)),Zz (.t f.off),Zz (.t (.int f.left)),Zy] m=.ok (.t (.bl (!(f.sd==e.sd)))) m:=au (am (x:=f.off) (aa rfl) (ae _) rfl) (am (x:=e.off) (aa rfl) (ae _) rfl) (FA _ _);unfold gq;cases q:(f.sd==e.sd)with
      |true=>rw[q]at h1;exact jk h1
      |false =>
       rw[q]at h1;refine(gR h1).trans ?_;exact lV ((az (am (x:=e.off) (aa rfl) (ae _) rfl) (am (x:=f.off) (aa rfl) (ae _) rfl)).trans (lb (ho e he) (ho f hf) n m).2)
     show match(if gq e f=true then Zz (T.int 0)else Zy)with
      |some r=>_
      |none=>_
     cases q:gq e f with
     |true =>
      rw[q]at hc;exact bg hc (ah (ae _))
     |false =>
      rw[q]at hc;exact⟨_,(aP hc).trans aL,_,_,rfl⟩)
    show match(es.findSome? λf=>if gq e f then Zz (T.int 0)else Zy)with
     |some r=>_
     |none=>_
    cases q:es.findSome? λf=>if gq e f then Zz (T.int 0)else Zy with
    |some r=>rw[q]at hI;exact hI
    |none =>
     rw[q]at hI;obtain⟨env',h1,c',d',rfl⟩:=hI;exact⟨_,h1.trans aL,_,_,_,_,rfl⟩)
   cases qp:es.findSome? (q8 es)with
   |some r =>
    rw[qp]at hP;have hz:r=.int 0:=by
     obtain⟨e,_,q1⟩:=Sp qp;obtain⟨f,_,q2⟩:=Sp q1;split at q2<;>cases q2;rfl
    subst hz;exact hP
   |none =>
    rw[qp]at hP;obtain⟨env',h1,a,b,c,d,rfl⟩:=hP;refine h1.trans ?_;have hm:ev (cf (n+3)) gv mw [Zz (.t (aT es)),Zz (.t (.lst (es.map λe=>.str e.nm))),a,b,c,d,Zy] m=.ok (.t (.lst (es.map λe=>.int e.left))) m:=gd rfl rfl (by omega) λe he=>aa rfl
    refine(aj (aK hm (CE h0 hl))).trans ?_;dsimp only[RU,RP];have hf:ev (cf (n+3)) gv me [Zz (.t (aT es)),Zz (.t (.lst (es.map λe=>.str e.nm))),a,b,c,d,Zz (.t (.int (mx es)))] m=.ok (.t (.lst ((es.filter (cz es)).map λ_=>.int 1))) m:=by
     have h:=cZ (f:=bS (cf (n+3)) gv (.cons (.cmp .Lt (.var 2) (.blt .min2 (.cons (.ix (.var 0) (.con (.int 4))) (.cons (.var 1) .nil)))) .nil) rK) (tg:=.tp [0,1]) (env:=[Zy,Zy,Zz (.t (.int (mx es)))]) (m:=m) (emb:=Ent.t) (g:=λe=>if cz es e then[T.int 1]else[]) es (λe he=>by
      refine⟨[Zz (.t e.off),Zz (.t (.int e.left)),Zz (.t (.int (mx es)))],rfl,?_⟩;have hc:ev (cf (n+3)) gv (.cmp .Lt (.var 2) (.blt .min2 (.cons (.ix (.var 0) (.con (.int 4))) (.cons (.var 1) .nil)))) [Zz (.t e.off),Zz (.t (.int e.left)),Zz (.t (.int (mx es)))] m=.ok (.t (.bl (cz es e))) m:=au (aa rfl) (jq (x:=.int e.least) (y:=.int e.left) (am (x:=e.off) (aa rfl) (ae _) rfl) (aa rfl) rfl) (yS _ _);cases q:cz es e with
      |true =>
       rw[q]at hc;exact kj hc (bj (ae _))
      |false =>
       rw[q]at hc;exact kg hc)
     rw[m9]at h;exact bN (x:=.t (aT es)) (m0:=m) (m1:=m) (aa rfl) rfl h (by rw[R1];have:=SO (cz es) es;unfold lim;omega)
    have hemp:∀env:Env,ev (cf (n+3)) gv (.lst .nil) env m=.ok (.t (.lst [])) m:=λenv=>bF aq rfl aR
    have hne:=au hf (hemp _) (gB (zb (es.filter (cz es)))).2;have he:((es.filter (cz es)).map λ_=>T.int 1).isEmpty=(es.filter (cz es)).isEmpty:=by cases es.filter (cz es)<;>rfl
    rw[he]at hne;show ex _ _ _ _ _=.ok (.ret (.t (.int (if(es.filter (cz es)).isEmpty=true then mx es else 0)))) m;cases qe:(es.filter (cz es)).isEmpty with
    |true =>
     rw[qe]at hne;exact(aP hne).trans (ah (aa rfl))
    |false =>
     rw[qe]at hne;exact bg hne (ah (ae _))
 exact aH (AR _ _ _) rfl key (ax (cell:=false) rfl)
end My
set_option maxRecDepth 20000
namespace My
open Mi
structure Wt where
 no:Int
 e:Ent
noncomputable def Wt.t(w:Wt):T:=.tup [.int w.no,w.e.off,.int w.e.left]
noncomputable def bw:List Nat:=[103,105,118,101]
noncomputable def bA:List Nat:=[116,97,107,101]
noncomputable def bR:List Nat:=[98,101,97,114]
noncomputable def oQ(k:List Nat)(w:Wt):Bool:=w.e.kd==k
noncomputable def p8(sd:List Nat)(w:Wt):Bool:=w.e.sd==sd
noncomputable def nums(sd k:List Nat)(ws:List Wt):List Int:=((ws.filter (oQ k)).filter (p8 sd)).map (·.no)
noncomputable def jY(bn:List (List Nat))(k:List Nat):Bool:=bn.any λb=>b==k
noncomputable def iJ(ws:List Wt)(k:List Nat):List (Int×Int):=(nums bw k ws).flatMap λg=>(nums bA k ws).map λt=>(g,t)
noncomputable def fZ(bn:List (List Nat))(ws:List Wt)(k:List Nat):List (List Int):=
 if jY bn k then(iJ ws k).flatMap λp=>(nums bR k ws).map λb=>[p.1,p.2,b]else(iJ ws k).map λp=>[p.1,p.2]
noncomputable def cH(bn:List (List Nat))(ws:List Wt):List (List Int):=(aW (ws.map (·.e.kd))).flatMap (fZ bn ws)
noncomputable def bK(k:List Nat)(ws:List Wt):List Int:=(ws.filter λw=>p8 bR w&&oQ k w).map (·.no)
noncomputable def cN(bn:List (List Nat))(ws:List Wt)(v w:Wt):List (List Int):=
 if(p8 bw v&&p8 bA w)&&oQ v.e.kd w then(if jY bn v.e.kd then(bK v.e.kd ws).map λb=>[v.no,w.no,b]else[[v.no,w.no]])else[]
noncomputable def dM(bn:List (List Nat))(ws:List Wt):List (List Int):=ws.flatMap λv=>ws.flatMap λw=>cN bn ws v w
theorem dT{sd k:List Nat}{ws:List Wt}{x:Int}:x∈nums sd k ws↔∃w∈ws,w.e.kd=k/\w.e.sd=sd/\w.no=x:=by
 unfold nums;rw[RS];constructor
 ·rintro ⟨w,hw,e⟩
  rw[UM,UM]at hw;exact⟨w,hw.1.1,eq_of_beq hw.1.2,eq_of_beq hw.2,e⟩
 ·rintro ⟨w,hw,h1,h2,e⟩
  refine⟨w,?_,e⟩;rw[UM,UM];exact⟨⟨hw,by unfold oQ;rw[h1];exact beq_self_eq_true _⟩,by unfold p8;rw[h2];exact beq_self_eq_true _⟩
theorem qc{k:List Nat}{ws:List Wt}{x:Int}:x∈bK k ws↔∃w∈ws,w.e.kd=k/\w.e.sd=bR/\w.no=x:=by
 unfold bK;rw[RS];constructor
 ·rintro ⟨w,hw,e⟩
  rw[UM,RK]at hw;exact⟨w,hw.1,eq_of_beq hw.2.2,eq_of_beq hw.2.1,e⟩
 ·rintro ⟨w,hw,h1,h2,e⟩
  refine⟨w,?_,e⟩;rw[UM,RK];exact⟨hw,by unfold p8;rw[h2];exact beq_self_eq_true _,by unfold oQ;rw[h1];exact beq_self_eq_true _⟩
def lG(bn:List (List Nat))(ws:List Wt)(x:List Int):Prop:=∃v∈ws,∃w∈ws,v.e.sd=bw/\w.e.sd=bA/\w.e.kd=v.e.kd /\
 ((jY bn v.e.kd=true/\∃u∈ws,u.e.kd=v.e.kd/\u.e.sd=bR/\x=[v.no,w.no,u.no])∨(jY bn v.e.kd=false/\x=[v.no,w.no]))
theorem oo{ws:List Wt}{k:List Nat}{p:Int×Int}:p∈iJ ws k↔p.1∈nums bw k ws/\p.2∈nums bA k ws:=by
 unfold iJ;rw[TS];constructor
 ·rintro ⟨g,hg,h⟩
  obtain⟨t,ht,rfl⟩:=RS.mp h;exact⟨hg,ht⟩
 ·rintro ⟨h1,h2⟩
  exact⟨p.1,h1,RS.mpr ⟨p.2,h2,rfl⟩⟩
theorem nW{bn:List (List Nat)}{ws:List Wt}{k:List Nat}{x:List Int}:x∈fZ bn ws k↔∃g t,g∈nums bw k ws/\t∈nums bA k ws/\((jY bn k=true/\∃b∈nums bR k ws,x=[g,t,b])∨(jY bn k=false/\x=[g,t])):=by
 unfold fZ;cases hk:jY bn k with
 |true =>
  rw[Yq rfl,TS];constructor
  ·rintro ⟨p,hp,h⟩
   obtain⟨b,hb,rfl⟩:=RS.mp h;obtain⟨h1,h2⟩:=oo.mp hp;exact⟨p.1,p.2,h1,h2,.inl ⟨rfl,b,hb,rfl⟩⟩
  ·rintro ⟨g,t,h1,h2,⟨_,b,hb,rfl⟩|⟨z,_⟩⟩
   ·exact⟨(g,t),oo.mpr ⟨h1,h2⟩,RS.mpr ⟨b,hb,rfl⟩⟩
   ·cases z
 |false =>
  rw[Yr RL,RS];constructor
  ·rintro ⟨p,hp,rfl⟩
   obtain⟨h1,h2⟩:=oo.mp hp;exact⟨p.1,p.2,h1,h2,.inr ⟨rfl,rfl⟩⟩
  ·rintro ⟨g,t,h1,h2,⟨z,_⟩|⟨_,rfl⟩⟩
   ·cases z
   ·exact⟨(g,t),oo.mpr ⟨h1,h2⟩,rfl⟩
theorem my{bn:List (List Nat)}{ws:List Wt}{x:List Int}:x∈cH bn ws↔lG bn ws x:=by
 unfold cH;rw[TS];constructor
 ·rintro ⟨k,_,h⟩
  obtain⟨g,t,h1,h2,h3⟩:=nW.mp h;obtain⟨v,hv,a1,a2,rfl⟩:=dT.mp h1;obtain⟨w,hw,b1,b2,rfl⟩:=dT.mp h2;refine⟨v,hv,w,hw,a2,b2,b1.trans a1.symm,?_⟩;rcases h3 with⟨q,b,hb,rfl⟩|⟨q,rfl⟩
  ·obtain⟨u,hu,c1,c2,rfl⟩:=dT.mp hb
   exact .inl ⟨by rw[a1];exact q,u,hu,c1.trans a1.symm,c2,rfl⟩
  ·exact .inr ⟨by rw[a1];exact q,rfl⟩
 ·rintro ⟨v,hv,w,hw,a2,b2,bk,h⟩
  refine⟨v.e.kd,(fw _ _).mpr (RS.mpr ⟨v,hv,rfl⟩),nW.mpr ⟨v.no,w.no,dT.mpr ⟨v,hv,rfl,a2,rfl⟩,dT.mpr ⟨w,hw,bk,b2,rfl⟩,?_⟩⟩;rcases h with⟨q,u,hu,c1,c2,rfl⟩|⟨q,rfl⟩
  ·exact .inl ⟨q,u.no,dT.mpr ⟨u,hu,c1,c2,rfl⟩,rfl⟩
  ·exact .inr ⟨q,rfl⟩
theorem sf{bn:List (List Nat)}{ws:List Wt}{v w:Wt}{x:List Int}:x∈cN bn ws v w↔v.e.sd=bw/\w.e.sd=bA/\w.e.kd=v.e.kd/\((jY bn v.e.kd=true/\∃u∈ws,u.e.kd=v.e.kd/\u.e.sd=bR/\x=[v.no,w.no,u.no])∨(jY bn v.e.kd=false/\x=[v.no,w.no])):=by
 unfold cN;by_cases h:((p8 bw v&&p8 bA w)&&oQ v.e.kd w)=true
 ·rw[Yq h]
  rw[RK,RK]at h;have h1:v.e.sd=bw:=eq_of_beq h.1.1;have h2:w.e.sd=bA:=eq_of_beq h.1.2;have h3:w.e.kd=v.e.kd:=eq_of_beq h.2;cases hk:jY bn v.e.kd with
  |true =>
   rw[Yq rfl,RS];constructor
   ·rintro ⟨b,hb,rfl⟩
    obtain⟨u,hu,c1,c2,rfl⟩:=qc.mp hb;exact⟨h1,h2,h3,.inl ⟨rfl,u,hu,c1,c2,rfl⟩⟩
   ·rintro ⟨_,_,_,⟨_,u,hu,c1,c2,rfl⟩|⟨z,_⟩⟩
    ·exact⟨u.no,qc.mpr ⟨u,hu,c1,c2,rfl⟩,rfl⟩
    ·cases z
  |false =>
   rw[Yr RL,RQ];constructor
   ·rintro rfl
    exact⟨h1,h2,h3,.inr ⟨rfl,rfl⟩⟩
   ·rintro ⟨_,_,_,⟨z,_⟩|⟨_,rfl⟩⟩
    ·cases z
    ·rfl
 ·rw[Yr h]
  constructor
  ·intro z;cases z
  ·rintro ⟨h1,h2,h3,_⟩
   refine Yv ?_ h;unfold p8 oQ;rw[h1,h2,h3,beq_self_eq_true,beq_self_eq_true,beq_self_eq_true];rfl
theorem lW{bn:List (List Nat)}{ws:List Wt}{x:List Int}:x∈dM bn ws↔lG bn ws x:=by
 unfold dM;rw[TS];constructor
 ·rintro ⟨v,hv,h⟩
  obtain⟨w,hw,h⟩:=TS.mp h;obtain⟨h1,h2,h3,h4⟩:=sf.mp h;exact⟨v,hv,w,hw,h1,h2,h3,h4⟩
 ·rintro ⟨v,hv,w,hw,h1,h2,h3,h4⟩
  exact⟨v,hv,TS.mpr ⟨w,hw,sf.mpr ⟨h1,h2,h3,h4⟩⟩⟩
theorem jm{α β:Type}{f:α->List β}:∀{l:List α},l.Nodup->(∀a∈l,(f a).Nodup)->(∀a∈l,∀b∈l,∀x,x∈f a->x∈f b->a=b)->(l.flatMap f).Nodup
 |[],_,_,_=>Tu
 |a::l,hl,hf,hd=>by
  rw[T9,Uz];obtain⟨h1,h2⟩:=Ss.mp hl;refine⟨hf a R6,jm h2 (λb hb=>hf b (R2 _ hb)) (λb hb c hc=>hd b (R2 _ hb) c (R2 _ hc)),λx hx y hy e=>?_⟩;subst e;obtain⟨b,hb,hxb⟩:=TS.mp hy;have:=hd a R6 b (R2 _ hb) x hx hxb;exact h1 (this▸hb)
theorem o7{α β:Type}{f:α->β}{l:List α}(hl:l.Nodup)(hf:∀a b,f a=f b->a=b):(l.map f).Nodup:=SN.mpr (hl.imp λh e=>h (hf _ _ e))
theorem Fx{α β:Type}{f:α->β}{l:List α}(h:(l.map f).Nodup):l.Nodup:=(SN.mp h).imp λq e=>q (congrArg f e)
theorem iK:∀{ws:List Wt},(ws.map (·.no)).Nodup->∀{v w:Wt},v∈ws->w∈ws->v.no=w.no->v=w
 |[],_,v,w,h,_,_=>by cases h
 |a::ws,hn,v,w,hv,hw,e=>by
  rw[RG,Ss]at hn;rcases R5.mp hv with h1|h1<;>rcases R5.mp hw with h2|h2
  ·rw[h1,h2]
  ·exact Yv (RS.mpr ⟨w,h2,by rw[<-e,h1]⟩) hn.1
  ·exact Yv (RS.mpr ⟨v,h1,by rw[e,h2]⟩) hn.1
  ·exact iK hn.2 h1 h2 e
theorem sL{sd k:List Nat}{ws:List Wt}(h:(ws.map (·.no)).Nodup):(nums sd k ws).Nodup:=by
 unfold nums;exact List.Pairwise.sublist (Y6.map _ (Y6.trans (WI) (WI))) h
theorem Aa{k:List Nat}{ws:List Wt}(h:(ws.map (·.no)).Nodup):(bK k ws).Nodup:=by
 unfold bK;exact List.Pairwise.sublist (Y6.map _ WI) h
theorem Bu{k:List Nat}{ws:List Wt}(h:(ws.map (·.no)).Nodup):(iJ ws k).Nodup:=by
 refine jm (sL h) (λg _=>o7 (sL h) λa b e=>(YF e).2) λa _ b _ x hx hy=>?_
 obtain⟨t,_,rfl⟩:=RS.mp hx;obtain⟨t',_,e⟩:=RS.mp hy;exact(YF e).1.symm
theorem FL{bn:List (List Nat)}{k:List Nat}{ws:List Wt}(h:(ws.map (·.no)).Nodup):(fZ bn ws k).Nodup:=by
 unfold fZ;split
 ·refine jm (Bu h) (λp _=>o7 (sL h) λa b e=>by simpa using e) λa _ b _ x hx hy=>?_
  obtain⟨t,_,rfl⟩:=RS.mp hx;obtain⟨t',_,e⟩:=RS.mp hy;have e:b.1=a.1/\b.2=a.2/\t'=t:=by simpa using e
  exact(Xz e.1 e.2.1).symm
 ·exact o7 (Bu h) λa b e=>by
   have e:a.1=b.1/\a.2=b.2:=by simpa using e
   exact Xz e.1 e.2
theorem qh{bn:List (List Nat)}{ws:List Wt}(h:(ws.map (·.no)).Nodup):(cH bn ws).Nodup:=by
 refine jm (jQ _) (λk _=>FL h) λk _ k' _ x hx hy=>?_
 obtain⟨g,t,h1,_,h3⟩:=nW.mp hx;obtain⟨g',t',h1',_,h3'⟩:=nW.mp hy;have e:g=g':=by
  rcases h3 with⟨_,b,_,rfl⟩|⟨_,rfl⟩<;>rcases h3' with⟨_,b',_,e⟩|⟨_,e⟩<;>simp at e<;>exact e.1
 subst e;obtain⟨v,hv,rfl,_,a3⟩:=dT.mp h1;obtain⟨w,hw,rfl,_,b3⟩:=dT.mp h1';rw[iK h hv hw (a3.trans b3.symm)]
theorem uq{bn:List (List Nat)}{ws:List Wt}(h:(ws.map (·.no)).Nodup):(dM bn ws).Nodup:=by
 have two:∀(v w:Wt) (x:List Int),x∈cN bn ws v w->∃r,x=v.no::w.no::r:=λv w x hx=>by
  obtain⟨_,_,_,h⟩:=sf.mp hx;rcases h with⟨_,u,_,_,_,rfl⟩|⟨_,rfl⟩<;>exact⟨_,rfl⟩
 refine jm (Fx h) (λv _=>jm (Fx h) (λw _=>?_) λa ha b hb x hx hy=>?_) λa ha b hb x hx hy=>?_
 ·unfold cN
  split
  ·split
   ·exact o7 (Aa h) λa b e=>by simpa using e
   ·simp
  ·exact Tu
 ·obtain⟨r,rfl⟩:=two _ _ _ hx
  obtain⟨r',e⟩:=two _ _ _ hy;have e:a.no=b.no/\r=r':=by simpa using e
  exact iK h ha hb e.1
 ·obtain⟨w,_,hx⟩:=TS.mp hx
  obtain⟨w',_,hy⟩:=TS.mp hy;obtain⟨r,rfl⟩:=two _ _ _ hx;obtain⟨r',e⟩:=two _ _ _ hy;have e:a.no=b.no/\w.no=w'.no/\r=r':=by simpa using e
  exact iK h ha hb e.1
theorem fP{α β:Type}{f:α->List β}{c:Nat}:∀{l:List α},(∀a∈l,(f a).length<=c)->(l.flatMap f).length<=l.length*c
 |[],_=>SI _
 |a::l,h=>by
  have h1:=h a R6;have h2:=fP (l:=l) λb hb=>h b (R2 _ hb)
  rw[T9,RI,Rp,Nat.succ_mul];omega
theorem rb{bn:List (List Nat)}{ws:List Wt}(h:ws.length<=30):(dM bn ws).length<=27000:=by
 have h1:∀v w,(cN bn ws v w).length<=30:=λv w=>by
  unfold cN;split
  ·split
   ·rw[R1]
    unfold bK;rw[R1];exact Ro (SO _ _) h
   ·exact Nat.le_of_ble_eq_true rfl
  ·exact SI _
 have h2:∀v:Wt,(ws.flatMap λw=>cN bn ws v w).length<=900:=λv=>Ro (fP (c:=30) λw _=>h1 v w) (by have:=W9 30 h;omega)
 exact Ro (fP (c:=900) λv _=>h2 v) (by have:=W9 900 h;omega)
theorem zY{bn:List (List Nat)}{ws:List Wt}(h:(ws.map (·.no)).Nodup):(cH bn ws).Perm (dM bn ws):=(V7 (qh h) (uq h)).mpr λx=>my.trans lW.symm
theorem qO{bn:List (List Nat)}{ws:List Wt}(h:(ws.map (·.no)).Nodup)(hl:ws.length<=30):(cH bn ws).length<=27000:=by
 rw[(zY (bn:=bn) h).length_eq];exact rb hl
theorem df{bn:List (List Nat)}{ws:List Wt}{x:List Int}(h:lG bn ws x):x.length=2∨x.length=3:=by
 obtain⟨v,_,w,_,_,_,_,h⟩:=h;rcases h with⟨_,u,_,_,_,rfl⟩|⟨_,rfl⟩
 ·exact .inr rfl
 ·exact .inl rfl
theorem jd:∀ns:List Int,cn (ns.map T.int)=Zz ns
 |[]=>rfl
 |n::ns=>by
  have:=jd ns;simp[cn,this]
theorem xN:∀ks:List (List Int),jN (ks.map aw)=Zz ks
 |[]=>rfl
 |k::ks=>by
  rw[RG,jN,xN ks];have:xd (aw k)=Zz k:=by
   unfold xd aw;exact jd k
  rw[this];rfl
theorem wT{ks:List (List Int)}(h1:ks.Nodup)(h2:ks.length<=900000)(h3:∀k∈ks,k≠[]):l7 (ks.map aw)=Zz (.lst ((sortI ks).map aw)):=by
 unfold l7;rw[xN];refine Yq ⟨h1,h2,SX.mpr λk hk=>?_⟩;cases k with
 |nil=>exact Yv rfl (h3 _ hk)
 |cons _ _=>rfl
section
variable{call:Nat->List W->Mem->Res W}{gv:List T}{env:Env}{m m1:Mem}
theorem eh{α:Type}{own:Nat}{keep:List Nat}{it:E}{tg:Tg}{cs:Es}{inner:E}{x:T}{emb:α->T}{g:α->List T}(as:List α)(hit:ev call gv it env m=.ok (.t x) m)(hb:aU (.t x) m=.ok (as.map emb) m)(h:∀a∈as,∃env',bB tg (emb a) (Rx own Zy++keep.map λi=>(env[i]?).join)=Zz env'/\bS call gv cs inner env' m=.ok (g a) m)(hz:(as.flatMap g).length<=lim):ev call gv (.comp own keep it tg cs inner) env m=.ok (.t (.lst (as.flatMap g))) m:=
 bN hit hb (cZ as h) hz
theorem Ff{α:Type}{it:E}{tg:Tg}{cs:Es}{inner:E}{x:T}{emb:α->T}{g:α->List T}(as:List α)(hit:ev call gv it env m=.ok (.t x) m)(hb:aU (.t x) m=.ok (as.map emb) m)(h:∀a∈as,∃env',bB tg (emb a) env=Zz env'/\bS call gv cs inner env' m=.ok (g a) m):ev call gv (.more it tg cs inner) env m=.ok (.t (.lst (as.flatMap g))) m:=by
 have e:ev call gv (.more it tg cs inner) env m=(ev call gv it env m).bind λx m0=>(aU x m0).bind λts m =>
  (b7 (bS call gv cs inner) tg ts env m).bind λout m=>.ok (.t (.lst out)) (giveBack x m0 m):=by rw[ev];rfl
 rw[e,hit,ai,hb,ai,cZ as h];rfl
theorem ES{is:List Nat}{e:E}{k:S}{ts:List T}{env':Env}(h:ev call gv e env m=.ok (.t (.lst ts)) m1)(h2:bB (.tp is) (.tup ts) env=Zz env'):ex call gv (.De is e k) env m=ex call gv k env' m1:=by
 rw[ex,h];show(match bB (.tp is) (.tup ts) env with
  |some env=>ex call gv k env m1
  |none=>.stuck)=_
 rw[h2]
theorem ku{b:Mt}{i j:Nat}{a:E}{c:Bool×List T}{xs ys:List T}{x t:T}(hb:b=.append∨b=.dK∨b=.extend)(hv:env[i]?=Zz (Zz (.c j)))(h0:m[j]?=Zz (Zz c))(ha:ev call gv a env m=.ok (.t x) m1)(hm:m1[j]?=Zz (Zz (false,xs)))(hu:ki b xs [x]=Zz (t,ys)):
  ev call gv (.n8 b (.var i) (.cons a .nil)) env m=.ok (.t t) (m1.set j (Zz (false,ys))):=by
 rw[ev,aa hv,ai];have ht:Ad b (.c j) m=true:=by
  rcases hb with rfl|rfl|rfl<;>· unfold Ad;dsimp only;rw[h0]
 rw[Yq ht,evs,ha,ai,evs,ai,ai];rcases hb with rfl|rfl|rfl<;>simp[ya,ip,iq,ai,hm,hu]
theorem bG{α:Type}(p:α->Bool)(F:α->T):∀l:List α,(l.flatMap λa=>if p a then[F a]else[])=(l.filter p).map F
 |[]=>rfl
 |a::l=>by
  rw[T9,bG p F l,Tn];cases p a<;>rfl
theorem cS{c:Option (Bool×List T)}:(m++[c])[m.length]?=Zz c:=by
 rw[S4 (RC _),UP];rfl
theorem nO{c d:Option (Bool×List T)}:(m++[c]).set m.length d=m++[d]:=by
 rw[UE _ _ (RC _),UP];rfl
end
noncomputable def il(ns:List Int):T:=.lst (ns.map .int)
noncomputable def dx(bn:List (List Nat)):T:=.tup (bn.map .str)
noncomputable def bU(ws:List Wt):T:=.lst (ws.map Wt.t)
section
variable{n:Nat}{m:Mem}{ws:List Wt}{bn:List (List Nat)}{k:List Nat}
theorem ul(sd:List Nat):(nums sd k ws).length<=ws.length:=by
 unfold nums;rw[R1];exact Ro (SO _ _) (SO _ _)
theorem BN(hl:ws.length<=30){e2:Option W}:ev (cf (n+1)) gv kJ [Zz (.t (.str k)),Zz (.t (bU ws)),e2] m=.ok (.t (.lst ((ws.filter (oQ k)).map Wt.t))) m:=by
 rw[<-bG (oQ k) Wt.t];refine eh ws (aa rfl) rfl (λw _=>⟨[Zz (.t w.t),Zz (.t (.str k))],rfl,?_⟩) ?_
 ·have ht:ev (cf (n+1)) gv (.cmp .Eq (.call 5 (.cons (.ix (.var 0) (.con (.int 1))) .nil)) (.var 1)) [Zz (.t w.t),Zz (.t (.str k))] m=.ok (.t (.bl (oQ k w))) m:=
   au ((bE (am (aa rfl) (ae _) rfl)).trans jP) (aa rfl) (gu _ _)
  cases h:oQ k w with
  |true=>rw[h]at ht;exact kj ht (bj (aa rfl))
  |false=>rw[h]at ht;exact kg ht
 ·rw[bG,R1]
  exact Ro (SO _ _) (Ro hl (by decide))
theorem Dc(hl:ws.length<=30){sd:List Nat}:ev (cf (n+1)) gv lF [Zz (.t (.str sd)),Zz (.t (.lst ((ws.filter (oQ k)).map Wt.t)))] m=.ok (.t (il (nums sd k ws))) m:=by
 have e:il (nums sd k ws)=.lst ((ws.filter (oQ k)).flatMap λw=>if p8 sd w then[T.int w.no]else[]):=by
  rw[bG];unfold il nums;rw[Rq];rfl
 rw[e];refine eh (ws.filter (oQ k)) (aa rfl) rfl (λw _=>⟨[Zz (.t (.int w.no)),Zz (.t w.e.off),Zz (.t (.int w.e.left)),Zz (.t (.str sd))],rfl,?_⟩) ?_
 ·have ht:ev (cf (n+1)) gv (.cmp .Eq (.ix (.var 1) (.con (.int 0))) (.var 3)) [Zz (.t (.int w.no)),Zz (.t w.e.off),Zz (.t (.int w.e.left)),Zz (.t (.str sd))] m=.ok (.t (.bl (p8 sd w))) m:=
   au (am (aa rfl) (ae _) rfl) (aa rfl) (gu _ _)
  cases h:p8 sd w with
  |true=>rw[h]at ht;exact kj ht (bj (aa rfl))
  |false=>rw[h]at ht;exact kg ht
 ·rw[bG,R1]
  exact Ro (SO _ _) (Ro (SO _ _) (Ro hl (by decide)))
theorem Bx(hl:ws.length<=30):cf (n+2) 18 [.t (.str k),.t (bU ws)] m=.ok (.t (.lst [il (nums bw k ws),il (nums bA k ws),il (nums bR k ws)])) m:=by
 have key:ex (cf (n+1)) gv fg [Zz (.t (.str k)),Zz (.t (bU ws)),Zy] m=.ok (.ret (.t (.lst [il (nums bw k ws),il (nums bA k ws),il (nums bR k ws)]))) m:=by
  unfold fg;refine(aj (BN hl)).trans ?_;dsimp only[RU,RP];refine ah ?_;refine eh (emb:=T.str) (g:=λsd=>[il (nums sd k ws)]) [bw,bA,bR] (x:=.tup [.str bw,.str bA,.str bR]) (by rw[ev,Bk];rfl) rfl (λsd _=>⟨[Zz (.t (.str sd)),Zz (.t (.lst ((ws.filter (oQ k)).map Wt.t)))],rfl,?_⟩) (Ro (show(3:Nat)<=3 from RC _) (by decide));exact dw (bj (Dc hl))
 exact aH (tV _ _ _) rfl key (ax rfl)
noncomputable def Fc(p:Int×Int):T:=aw [p.1,p.2]
theorem Bz(hl:ws.length<=30){e0 e1 e2 e3 e6 e7:Option W}:ev (cf n) gv m6 [e0,e1,e2,e3,Zz (.t (il (nums bw k ws))),Zz (.t (il (nums bA k ws))),e6,e7] m=.ok (.t (.lst ((iJ ws k).map Fc))) m:=by
 have e:(iJ ws k).map Fc=(nums bw k ws).flatMap λg=>(nums bA k ws).flatMap λt=>[aw [g,t]]:=by
  unfold iJ;rw[List.map_flatMap];refine congrArg (λf=>List.flatMap f (nums bw k ws)) (funext λg=>?_);rw[aA,Rq];rfl
 have hz:((iJ ws k).map Fc).length<=lim:=by
  rw[R1];have h1:=ul (k:=k) (ws:=ws) bw;have h2:=ul (k:=k) (ws:=ws) bA;have:=fP (l:=nums bw k ws) (f:=λg=>(nums bA k ws).map λt=>(g,t)) (c:=30) λg _=>by rw[R1];omega
  have h3:(iJ ws k).length<=(nums bw k ws).length*30:=this;have h4:(nums bw k ws).length*30<=30*30:=W9 30 (by omega);unfold lim;omega
 rw[e]at hz ⊢;refine eh (emb:=T.int) (nums bw k ws) (aa rfl) rfl (λg _=>⟨[Zz (.t (.int g)),Zy,Zz (.t (il (nums bA k ws)))],rfl,dw ?_⟩) hz;exact Ff (emb:=T.int) (nums bA k ws) (aa rfl) rfl (λt _=>⟨[Zz (.t (.int g)),Zz (.t (.int t)),Zz (.t (il (nums bA k ws)))],rfl,dw (bj (dq (aa rfl) (aa rfl)))⟩)
theorem vP(hl:ws.length<=30)(hn:(fZ bn ws k).length<=27000)(hk:jY bn k=true){e0 e1 e2 e3 e4 e5:Option W}:ev (cf n) gv mJ [e0,e1,e2,e3,e4,e5,Zz (.t (il (nums bR k ws))),Zz (.t (.lst ((iJ ws k).map Fc)))] m=.ok (.t (.lst ((fZ bn ws k).map aw))) m:=by
 have e:(fZ bn ws k).map aw=(iJ ws k).flatMap λp=>(nums bR k ws).flatMap λb=>[aw [p.1,p.2,b]]:=by
  unfold fZ;rw[Yq hk,List.map_flatMap];refine congrArg (λf=>List.flatMap f (iJ ws k)) (funext λg=>?_);rw[aA,Rq];rfl
 have hz:((fZ bn ws k).map aw).length<=lim:=by
  rw[R1];unfold lim;omega
 rw[e]at hz ⊢;refine eh (emb:=Fc) (iJ ws k) (aa rfl) rfl (λp _=>⟨[Zz (.t (.int p.1)),Zz (.t (.int p.2)),Zy,Zz (.t (il (nums bR k ws)))],rfl,dw ?_⟩) hz;exact Ff (emb:=T.int) (nums bR k ws) (aa rfl) rfl (λt _=>⟨[Zz (.t (.int p.1)),Zz (.t (.int p.2)),Zz (.t (.int t)),Zz (.t (il (nums bR k ws)))],rfl,dw (bj (kZ (aa rfl) (aa rfl) (aa rfl)))⟩)
theorem ym(hl:ws.length<=30){e0 e2 e3 e4 e5 e6 e7:Option W}:ev (cf (n+1)) gv (.blt .nH (.cons io .nil)) [e0,Zz (.t (bU ws)),e2,e3,e4,e5,e6,e7] m=.ok (.t (.lst ((aW (ws.map (·.e.kd))).map .str))) m:=by
 have h:ev (cf (n+1)) gv io [e0,Zz (.t (bU ws)),e2,e3,e4,e5,e6,e7] m=.ok (.t (.lst (ws.map λw=>.str w.e.kd))) m:=by
  rw[<-aA (λw:Wt=>T.str w.e.kd)];refine eh ws (aa rfl) rfl (λw _=>⟨[Zz (.t w.t)],rfl,dw (bj ((bE (am (aa rfl) (ae _) rfl)).trans jP))⟩) ?_;rw[aA,R1];exact Ro hl (by decide)
 refine aK h ?_;show((strs? (ws.map λw=>T.str w.e.kd)).bind λxs=>if xs.length<64 then Zz (T.lst ((aW xs).map .str))else Zy)=_;rw[strs_map (λw:Wt=>w.e.kd)];exact Yq (by rw[R1];omega)
theorem yO(hl:ws.length<=30)(hn:(fZ bn ws k).length<=27000){xs:List (List Int)}(hx:xs.length<=27000){e4 e5 e6 e7:Option W}:
  ∃g4 g5 g6 g7,ex (cf (n+2)) gv dI [Zz (.t (dx bn)),Zz (.t (bU ws)),Zz (.c m.length),Zz (.t (.str k)),e4,e5,e6,e7] (m++[Zz (false,xs.map aw)])=.ok (.next [Zz (.t (dx bn)),Zz (.t (bU ws)),Zz (.c m.length),Zz (.t (.str k)),g4,g5,g6,g7]) (m++[Zz (false,(xs++fZ bn ws k).map aw)]):=by
 refine⟨Zz (.t (il (nums bw k ws))),Zz (.t (il (nums bA k ws))),Zz (.t (il (nums bR k ws))),Zz (.t (.lst ((iJ ws k).map Fc))),?_⟩;unfold dI;refine(ES (ts:=[il (nums bw k ws),il (nums bA k ws),il (nums bR k ws)]) (env':=[Zz (.t (dx bn)),Zz (.t (bU ws)),Zz (.c m.length),Zz (.t (.str k)),Zz (.t (il (nums bw k ws))),Zz (.t (il (nums bA k ws))),Zz (.t (il (nums bR k ws))),e7]) ((az (aa rfl) (aa rfl)).trans (Bx hl)) rfl).trans ?_;refine(aj (Bz hl)).trans ?_;dsimp only[RU,RP];have hin:ev (cf (n+2)) gv (.cmp .In (.var 3) (.var 0)) [Zz (.t (dx bn)),Zz (.t (bU ws)),Zz (.c m.length),Zz (.t (.str k)),Zz (.t (il (nums bw k ws))),Zz (.t (il (nums bA k ws))),Zz (.t (il (nums bR k ws))),Zz (.t (.lst ((iJ ws k).map Fc)))] (m++[Zz (false,xs.map aw)])=.ok (.t (.bl (jY bn k))) (m++[Zz (false,xs.map aw)]):=au (aa rfl) (aa rfl) (in_words k bn);have hu:ki .extend (xs.map aw) [.lst ((fZ bn ws k).map aw)]=Zz (.non,(xs++fZ bn ws k).map aw):=by
  rw[Si];exact Yq (by rw[R1,R1];unfold lim;omega)
 cases hk:jY bn k with
 |true =>
  rw[hk]at hin;refine(lY hin ((fE (ku (.inr (.inr rfl)) rfl cS (vP hl hn hk) cS hu)).trans aL)).trans ?_;rw[nO];exact aL
 |false =>
  rw[hk]at hin;have e:(iJ ws k).map Fc=(fZ bn ws k).map aw:=by
   unfold fZ;rw[hk,Yr RL,Rq];rfl
  rw[e]at hin ⊢;refine(BF hin ((fE (ku (.inr (.inr rfl)) rfl cS (aa rfl) cS hu)).trans aL)).trans ?_;rw[nO];exact aL
theorem rG(hl:ws.length<=30):∀(ks:List (List Nat)) (xs:List (List Int)) (e3 e4 e5 e6 e7:Option W),(xs++ks.flatMap (fZ bn ws)).length<=27000 ->
  ∃g3 g4 g5 g6 g7,aJ (ex (cf (n+2)) gv dI) (.nm 3) (ks.map .str) [Zz (.t (dx bn)),Zz (.t (bU ws)),Zz (.c m.length),e3,e4,e5,e6,e7] (m++[Zz (false,xs.map aw)])=.ok (.next [Zz (.t (dx bn)),Zz (.t (bU ws)),Zz (.c m.length),g3,g4,g5,g6,g7]) (m++[Zz (false,(xs++ks.flatMap (fZ bn ws)).map aw)])
 |[],xs,e3,e4,e5,e6,e7,_=>⟨e3,e4,e5,e6,e7,by rw[X3,SZ];rfl⟩
 |k::ks,xs,e3,e4,e5,e6,e7,hb=>by
  rw[T9,<-Rg]at hb ⊢;have hb1:(xs++fZ bn ws k).length<=27000:=by
   rw[RI]at hb;omega
  rw[RI]at hb1;obtain⟨a4,a5,a6,a7,h1⟩:=yO (n:=n) (m:=m) (bn:=bn) (k:=k) (xs:=xs) (e4:=e4) (e5:=e5) (e6:=e6) (e7:=e7) hl (by omega) (by omega);obtain⟨g3,g4,g5,g6,g7,h2⟩:=rG hl ks (xs++fZ bn ws k) (Zz (.t (.str k))) a4 a5 a6 a7 hb;refine⟨g3,g4,g5,g6,g7,?_⟩;rw[RG,aJ];show(ex (cf (n+2)) gv dI [Zz (.t (dx bn)),Zz (.t (bU ws)),Zz (.c m.length),Zz (.t (.str k)),e4,e5,e6,e7] _).bind _=_;rw[h1];exact h2
theorem EZ(hl:ws.length<=30)(hn:(ws.map (·.no)).Nodup):cf (n+3) 19 [.t (dx bn),.t (bU ws)] m=.ok (.t (.lst ((sortI (cH bn ws)).map aw))) m:=by
 have hlen2:=qO (bn:=bn) hn hl;obtain⟨g3,g4,g5,g6,g7,h⟩:=rG (n:=n) (m:=m) (bn:=bn) (ws:=ws) hl (aW (ws.map λw:Wt=>w.e.kd)) [] Zy Zy Zy Zy Zy hlen2;have hs:l7 ((cH bn ws).map aw)=Zz (.lst ((sortI (cH bn ws)).map aw)):=wT (qh hn) (by omega) λk hk z=>by
  have:=df (my.mp hk);rw[z]at this;rcases this with h|h<;>cases h
 have key:ex (cf (n+2)) gv gw [Zz (.t (dx bn)),Zz (.t (bU ws)),Zy,Zy,Zy,Zy,Zy,Zy] m=.ok (.ret (.t (.lst ((sortI (cH bn ws)).map aw)))) (m++[Zz (false,(cH bn ws).map aw)]):=by
  unfold gw;refine(aj (w:=.c m.length) (m1:=m++[Zz (false,[])]) (by rw[ev,evs];rfl)).trans ?_;dsimp only[RU,RP];refine(bP (ym hl) rfl h).trans ?_;refine ah (l9 (af (aa rfl) aq) (ts:=[.lst ((cH bn ws).map aw)]) ?_ hs);show(view (.c m.length) (m++[Zz (false,(cH bn ws).map aw)])).bind _=_;unfold view;dsimp only;rw[cS];rfl
 refine aH (wd _ _ _) rfl key ?_;unfold fin;simp
end
end My
set_option maxRecDepth 20000
namespace My
open Mi
theorem BW{a b c d:List Nat}(ha:dv a=true)(hb:dv b=true)(hc:dv c=true)(hd:dv d=true):dr .Eq (.tup [.str a,.str b]) (.tup [.str c,.str d])=Zz ((a==c)&&(b==d)):=by
 unfold dv at ha hb hc hd;have h1:ak 60 (.tup [.str a,.str b])=true:=by simp[ak,ay,ha,hb]
 have h2:ak 60 (.tup [.str c,.str d])=true:=by simp[ak,ay,hc,hd]
 show(if(oZ (.tup [.str a,.str b]) (.tup [.str c,.str d]) || (ak 60 (.tup [.str a,.str b])&&ak 60 (.tup [.str c,.str d])))=true then Zz (eqT (.tup [.str a,.str b]) (.tup [.str c,.str d]))else Zy)=_;rw[h1,h2,VO,XA,Yq rfl];simp[eqT,nr]
theorem rY:dv bw=true:=by decide +kernel
theorem rW:dv bA=true:=by decide +kernel
theorem yh:dv bR=true:=by decide +kernel
structure FI (m:Mem) (j:Nat) (xs:List (List Int)) (M:Mem):Prop where
 pre:M.take m.length=m
 ge:m.length<=j
 at':M[j]?=Zz (Zz (false,xs.map aw))
theorem FI.lt{m M:Mem}{j:Nat}{xs:List (List Int)}(h:FI m j xs M):j<M.length:=(RA.mp h.at').1
theorem FI.put{m M:Mem}{j:Nat}{xs ys:List (List Int)}(h:FI m j xs M):FI m j ys (M.set j (Zz (false,ys.map aw))):=
 ⟨by rw[VI h.ge];exact h.pre,h.ge,S6 h.lt⟩
theorem FI.new{m M:Mem}{j:Nat}{xs ys:List (List Int)}(h:FI m j xs M):FI m M.length ys (M++[Zz (false,ys.map aw)]):=
 ⟨by rw[SK (T7 (Nat.lt_of_le_of_lt h.ge h.lt))];exact h.pre,T7 (Nat.lt_of_le_of_lt h.ge h.lt),cS⟩
section
variable{n:Nat}{m:Mem}{ws:List Wt}{bn:List (List Nat)}
theorem qT{M:Mem}(hl:ws.length<=30)(ho:∀w∈ws,bC w.e){k:List Nat}(hk:dv k=true){e0 e2 e3 e4 e5 e6 e7 e8 e10:Option W}:ev (cf n) gv qR [e0,Zz (.t (bU ws)),e2,e3,e4,e5,e6,e7,e8,Zz (.t (.str k)),e10] M=.ok (.t (il (bK k ws))) M:=by
 have e:il (bK k ws)=.lst (ws.flatMap λw=>if(p8 bR w&&oQ k w)then[T.int w.no]else[]):=by
  rw[bG];unfold il bK;rw[Rq];rfl
 rw[e];refine eh ws (aa rfl) rfl (λw hw=>⟨[Zz (.t (.int w.no)),Zz (.t w.e.off),Zz (.t (.int w.e.left)),Zz (.t (.str k))],rfl,?_⟩) ?_
 ·have ht:ev (cf n) gv (.cmp .Eq (.tup (.cons (.ix (.var 1) (.con (.int 0))) (.cons (.ix (.ix (.var 1) (.con (.int 1))) (.con (.int 1))) .nil))) (.tup (.cons (.con (.str [98,101,97,114])) (.cons (.var 3) .nil)))) [Zz (.t (.int w.no)),Zz (.t w.e.off),Zz (.t (.int w.e.left)),Zz (.t (.str k))] M=.ok (.t (.bl (p8 bR w&&oQ k w))) M:=
   au (dq (am (aa rfl) (ae _) rfl) (am (am (aa rfl) (ae _) rfl) (ae _) rfl)) (dq (ae _) (aa rfl)) (BW (ho w hw).sd (ho w hw).kd yh hk)
  cases h:(p8 bR w&&oQ k w)with
  |true=>rw[h]at ht;exact kj ht (bj (aa rfl))
  |false=>rw[h]at ht;exact kg ht
 ·rw[bG,R1]
  exact Ro (SO _ _) (Ro hl (by decide))
theorem wI(k:List Nat):(bK k ws).length<=ws.length:=by
 unfold bK;rw[R1];exact SO _ _
theorem B5{M:Mem}{j:Nat}{xs:List (List Int)}{v w:Wt}(hl:ws.length<=30)(ho:∀w∈ws,bC w.e)(hv:v∈ws)(hw:w∈ws)(hf:FI m j xs M)(hb:(xs++cN bn ws v w).length<=27000){e9 e10:Option W}:
  ∃j' M' g9 g10,ex (cf n) gv dy [Zz (.t (dx bn)),Zz (.t (bU ws)),Zz (.c j),Zz (.t (.int v.no)),Zz (.t v.e.off),Zz (.t (.int v.e.left)),Zz (.t (.int w.no)),Zz (.t w.e.off),Zz (.t (.int w.e.left)),e9,e10] M =
   .ok (.next [Zz (.t (dx bn)),Zz (.t (bU ws)),Zz (.c j'),Zz (.t (.int v.no)),Zz (.t v.e.off),Zz (.t (.int v.e.left)),Zz (.t (.int w.no)),Zz (.t w.e.off),Zz (.t (.int w.e.left)),g9,g10]) M'/\FI m j' (xs++cN bn ws v w) M':=by
 have hc:ev (cf n) gv (.and (.cmp .Eq (.tup (.cons (.ix (.var 4) (.con (.int 0))) (.cons (.ix (.var 7) (.con (.int 0))) .nil))) (.tup (.cons (.con (.str [103,105,118,101])) (.cons (.con (.str [116,97,107,101])) .nil)))) (.cmp .Eq (.var 9) (.ix (.ix (.var 7) (.con (.int 1))) (.con (.int 1))))) [Zz (.t (dx bn)),Zz (.t (bU ws)),Zz (.c j),Zz (.t (.int v.no)),Zz (.t v.e.off),Zz (.t (.int v.e.left)),Zz (.t (.int w.no)),Zz (.t w.e.off),Zz (.t (.int w.e.left)),Zz (.t (.str v.e.kd)),e10] M=.ok (.t (.bl ((p8 bw v&&p8 bA w)&&oQ v.e.kd w))) M:=by
  have h1:ev (cf n) gv (.cmp .Eq (.tup (.cons (.ix (.var 4) (.con (.int 0))) (.cons (.ix (.var 7) (.con (.int 0))) .nil))) (.tup (.cons (.con (.str [103,105,118,101])) (.cons (.con (.str [116,97,107,101])) .nil)))) [Zz (.t (dx bn)),Zz (.t (bU ws)),Zz (.c j),Zz (.t (.int v.no)),Zz (.t v.e.off),Zz (.t (.int v.e.left)),Zz (.t (.int w.no)),Zz (.t w.e.off),Zz (.t (.int w.e.left)),Zz (.t (.str v.e.kd)),e10] M=.ok (.t (.bl (p8 bw v&&p8 bA w))) M:=
   au (dq (am (aa rfl) (ae _) rfl) (am (aa rfl) (ae _) rfl)) (dq (ae _) (ae _)) (BW (ho v hv).sd (ho w hw).sd rY rW)
  have h2:ev (cf n) gv (.cmp .Eq (.var 9) (.ix (.ix (.var 7) (.con (.int 1))) (.con (.int 1)))) [Zz (.t (dx bn)),Zz (.t (bU ws)),Zz (.c j),Zz (.t (.int v.no)),Zz (.t v.e.off),Zz (.t (.int v.e.left)),Zz (.t (.int w.no)),Zz (.t w.e.off),Zz (.t (.int w.e.left)),Zz (.t (.str v.e.kd)),e10] M=.ok (.t (.bl (oQ v.e.kd w))) M:=by
   have e:oQ v.e.kd w=(v.e.kd==w.e.kd):=by unfold oQ;exact BEq.comm
   rw[e];exact au (aa rfl) (am (am (aa rfl) (ae _) rfl) (ae _) rfl) (gu _ _)
  cases q:(p8 bw v&&p8 bA w)with
  |true=>rw[q]at h1;rw[gR h1];exact h2
  |false=>rw[q]at h1;rw[jk h1];rfl
 cases q:((p8 bw v&&p8 bA w)&&oQ v.e.kd w)with
 |false =>
  rw[q]at hc;refine⟨j,M,Zz (.t (.str v.e.kd)),e10,?_,?_⟩
  ·unfold dy
   refine(aj (am (am (aa rfl) (ae _) rfl) (ae _) rfl)).trans ?_;exact(aP hc).trans aL
  ·rw[show cN bn ws v w=[] by unfold cN;rw[q];rfl,SZ]
   exact hf
 |true =>
  rw[q]at hc;have hin:∀e2,ev (cf n) gv (.cmp .In (.var 9) (.var 0)) [Zz (.t (dx bn)),Zz (.t (bU ws)),e2,Zz (.t (.int v.no)),Zz (.t v.e.off),Zz (.t (.int v.e.left)),Zz (.t (.int w.no)),Zz (.t w.e.off),Zz (.t (.int w.e.left)),Zz (.t (.str v.e.kd)),Zz (.t (il (bK v.e.kd ws)))] M=.ok (.t (.bl (jY bn v.e.kd))) M:=λe2=>au (aa rfl) (aa rfl) (in_words v.e.kd bn)
  rw[RI]at hb;cases hk:jY bn v.e.kd with
  |true =>
   rw[hk]at hin;have e2:cN bn ws v w=(bK v.e.kd ws).map λb=>[v.no,w.no,b]:=by unfold cN;rw[q,hk];rfl
   have ht:=wI (ws:=ws) v.e.kd;have hcmp:ev (cf n) gv mr [Zz (.t (dx bn)),Zz (.t (bU ws)),Zz (.c j),Zz (.t (.int v.no)),Zz (.t v.e.off),Zz (.t (.int v.e.left)),Zz (.t (.int w.no)),Zz (.t w.e.off),Zz (.t (.int w.e.left)),Zz (.t (.str v.e.kd)),Zz (.t (il (bK v.e.kd ws)))] M=.ok (.t (.lst ((cN bn ws v w).map aw))) M:=by
    have e3:(cN bn ws v w).map aw=(bK v.e.kd ws).flatMap λb=>[aw [v.no,w.no,b]]:=by
     rw[e2,aA,Rq];rfl
    rw[e3];refine eh (emb:=T.int) (bK v.e.kd ws) (aa rfl) rfl (λb _=>⟨[Zz (.t (.int b)),Zz (.t (.int v.no)),Zz (.t (.int w.no))],rfl,dw (bj (kZ (aa rfl) (aa rfl) (aa rfl)))⟩) ?_;rw[aA,R1];exact Ro ht (Ro hl (by decide))
   refine⟨M.length,M++[Zz (false,(xs++cN bn ws v w).map aw)],Zz (.t (.str v.e.kd)),Zz (.t (il (bK v.e.kd ws))),?_,hf.new⟩;unfold dy;refine(aj (am (am (aa rfl) (ae _) rfl) (ae _) rfl)).trans ?_;refine(lY (env':=[Zz (.t (dx bn)),Zz (.t (bU ws)),Zz (.c M.length),Zz (.t (.int v.no)),Zz (.t v.e.off),Zz (.t (.int v.e.left)),Zz (.t (.int w.no)),Zz (.t w.e.off),Zz (.t (.int w.e.left)),Zz (.t (.str v.e.kd)),Zz (.t (il (bK v.e.kd ws)))]) (m2:=M++[Zz (false,(xs++cN bn ws v w).map aw)]) hc ?_).trans aL;refine(aj (qT hl ho (ho v hv).kd)).trans ?_;refine(lY (hin _) ((aj (w:=.c M.length) (m1:=M++[Zz (false,(xs++cN bn ws v w).map aw)]) ?_).trans aL)).trans aL;rw[ev,aa rfl,ai];show(ev (cf n) gv mr [Zz (.t (dx bn)),Zz (.t (bU ws)),Zz (.c j),Zz (.t (.int v.no)),Zz (.t v.e.off),Zz (.t (.int v.e.left)),Zz (.t (.int w.no)),Zz (.t w.e.off),Zz (.t (.int w.e.left)),Zz (.t (.str v.e.kd)),Zz (.t (il (bK v.e.kd ws)))] M).bind _=_;rw[hcmp,ai];have ha:wF (.lst (xs.map aw)) (.lst ((cN bn ws v w).map aw))=Zz (.lst ((xs++cN bn ws v w).map aw)):=by
    rw[Si];exact Yq (by rw[R1,R1];unfold lim;omega)
   unfold F4;have hvw:view (.c j) M=Zz (.lst (xs.map aw)):=by
    unfold view;dsimp only;rw[hf.at']
   rw[hvw];show(match wF (.lst (xs.map aw)) (.lst ((cN bn ws v w).map aw))with
    |some (.lst ts)=>Res.ok (W.c M.length) (M++[Zz (false,ts)])
    |_=>.stuck)=_
   rw[ha]
  |false =>
   rw[hk]at hin;have e2:cN bn ws v w=[[v.no,w.no]]:=by unfold cN;rw[q,hk];rfl
   refine⟨j,M.set j (Zz (false,(xs++cN bn ws v w).map aw)),Zz (.t (.str v.e.kd)),Zz (.t (il (bK v.e.kd ws))),?_,hf.put⟩;have hu:ki .append (xs.map aw) [aw [v.no,w.no]]=Zz (.non,(xs++cN bn ws v w).map aw):=by
    rw[e2,Si];exact Yq (by rw[R1];unfold lim;omega)
   unfold dy;refine(aj (am (am (aa rfl) (ae _) rfl) (ae _) rfl)).trans ?_;refine(lY (env':=[Zz (.t (dx bn)),Zz (.t (bU ws)),Zz (.c j),Zz (.t (.int v.no)),Zz (.t v.e.off),Zz (.t (.int v.e.left)),Zz (.t (.int w.no)),Zz (.t w.e.off),Zz (.t (.int w.e.left)),Zz (.t (.str v.e.kd)),Zz (.t (il (bK v.e.kd ws)))]) (m2:=M.set j (Zz (false,(xs++cN bn ws v w).map aw))) hc ?_).trans aL;refine(aj (qT hl ho (ho v hv).kd)).trans ?_;exact(BF (hin _) ((fE (ku (.inl rfl) rfl hf.at' (dq (aa rfl) (aa rfl)) hf.at' hu)).trans aL)).trans aL
theorem tH{v:Wt}(hl:ws.length<=30)(ho:∀w∈ws,bC w.e)(hv:v∈ws):∀(us:List Wt) (xs:List (List Int)) (M:Mem) (j:Nat) (e6 e7 e8 e9 e10:Option W),(∀u∈us,u∈ws)->FI m j xs M->(xs++us.flatMap (cN bn ws v)).length<=27000 ->
  ∃j' M' g6 g7 g8 g9 g10,aJ (ex (cf n) gv dy) (.tp [6,7,8]) (us.map Wt.t) [Zz (.t (dx bn)),Zz (.t (bU ws)),Zz (.c j),Zz (.t (.int v.no)),Zz (.t v.e.off),Zz (.t (.int v.e.left)),e6,e7,e8,e9,e10] M =
   .ok (.next [Zz (.t (dx bn)),Zz (.t (bU ws)),Zz (.c j'),Zz (.t (.int v.no)),Zz (.t v.e.off),Zz (.t (.int v.e.left)),g6,g7,g8,g9,g10]) M'/\FI m j' (xs++us.flatMap (cN bn ws v)) M'
 |[],xs,M,j,e6,e7,e8,e9,e10,_,hf,_=>⟨j,M,e6,e7,e8,e9,e10,rfl,by rw[X3,SZ];exact hf⟩
 |w::us,xs,M,j,e6,e7,e8,e9,e10,hu,hf,hb=>by
  rw[T9,<-Rg]at hb ⊢;obtain⟨j1,M1,g9,g10,h1,hf1⟩:=B5 (n:=n) (bn:=bn) (e9:=e9) (e10:=e10) hl ho hv (hu w R6) hf (by rw[RI]at hb;omega);obtain⟨j2,M2,a6,a7,a8,a9,a10,h2,hf2⟩:=tH hl ho hv us (xs++cN bn ws v w) M1 j1 (Zz (.t (.int w.no))) (Zz (.t w.e.off)) (Zz (.t (.int w.e.left))) g9 g10 (λu h=>hu u (R2 _ h)) hf1 hb;refine⟨j2,M2,a6,a7,a8,a9,a10,?_,hf2⟩;rw[RG,aJ];show(ex (cf n) gv dy [Zz (.t (dx bn)),Zz (.t (bU ws)),Zz (.c j),Zz (.t (.int v.no)),Zz (.t v.e.off),Zz (.t (.int v.e.left)),Zz (.t (.int w.no)),Zz (.t w.e.off),Zz (.t (.int w.e.left)),e9,e10] M).bind _=_;rw[h1];exact h2
theorem law_loop(hl:ws.length<=30)(ho:∀w∈ws,bC w.e):∀(us:List Wt) (xs:List (List Int)) (M:Mem) (j:Nat) (e3 e4 e5 e6 e7 e8 e9 e10:Option W),(∀u∈us,u∈ws)->FI m j xs M->(xs++us.flatMap λv=>ws.flatMap λw=>cN bn ws v w).length<=27000 ->
  ∃j' M' g3 g4 g5 g6 g7 g8 g9 g10,aJ (ex (cf n) gv fV) (.tp [3,4,5]) (us.map Wt.t) [Zz (.t (dx bn)),Zz (.t (bU ws)),Zz (.c j),e3,e4,e5,e6,e7,e8,e9,e10] M =
   .ok (.next [Zz (.t (dx bn)),Zz (.t (bU ws)),Zz (.c j'),g3,g4,g5,g6,g7,g8,g9,g10]) M'/\FI m j' (xs++us.flatMap λv=>ws.flatMap λw=>cN bn ws v w) M'
 |[],xs,M,j,e3,e4,e5,e6,e7,e8,e9,e10,_,hf,_=>⟨j,M,e3,e4,e5,e6,e7,e8,e9,e10,rfl,by rw[X3,SZ];exact hf⟩
 |v::us,xs,M,j,e3,e4,e5,e6,e7,e8,e9,e10,hu,hf,hb=>by
  rw[T9,<-Rg]at hb ⊢;obtain⟨j1,M1,a6,a7,a8,a9,a10,h1,hf1⟩:=tH (n:=n) (bn:=bn) hl ho (hu v R6) ws xs M j e6 e7 e8 e9 e10 (λ_ h=>h) hf (Ro (U7 _ _) (by rw[RI]at hb;exact hb));obtain⟨j2,M2,g3,g4,g5,g6,g7,g8,g9,g10,h2,hf2⟩:=law_loop hl ho us (xs++ws.flatMap λw=>cN bn ws v w) M1 j1 (Zz (.t (.int v.no))) (Zz (.t v.e.off)) (Zz (.t (.int v.e.left))) a6 a7 a8 a9 a10 (λu h=>hu u (R2 _ h)) hf1 hb;refine⟨j2,M2,g3,g4,g5,g6,g7,g8,g9,g10,?_,hf2⟩;rw[RG,aJ];show(ex (cf n) gv fV [Zz (.t (dx bn)),Zz (.t (bU ws)),Zz (.c j),Zz (.t (.int v.no)),Zz (.t v.e.off),Zz (.t (.int v.e.left)),e6,e7,e8,e9,e10] M).bind _=_;have e:ex (cf n) gv fV [Zz (.t (dx bn)),Zz (.t (bU ws)),Zz (.c j),Zz (.t (.int v.no)),Zz (.t v.e.off),Zz (.t (.int v.e.left)),e6,e7,e8,e9,e10] M=.ok (.next [Zz (.t (dx bn)),Zz (.t (bU ws)),Zz (.c j1),Zz (.t (.int v.no)),Zz (.t v.e.off),Zz (.t (.int v.e.left)),a6,a7,a8,a9,a10]) M1:=by
   unfold fV;exact(bP (aa rfl) rfl h1).trans aL
  rw[e];exact h2
theorem law_sets_ok(hl:ws.length<=30)(ho:∀w∈ws,bC w.e)(hn:(ws.map (·.no)).Nodup):cf (n+1) 35 [.t (dx bn),.t (bU ws)] m=.ok (.t (.lst ((sortI (dM bn ws)).map aw))) m:=by
 have hlen:=rb (bn:=bn) hl;have f0:FI m m.length [] (m++[Zz (false,[])]):=⟨List.take_left,RC _,cS⟩
 obtain⟨j,M,g3,g4,g5,g6,g7,g8,g9,g10,h,hf⟩:=law_loop (n:=n) (bn:=bn) hl ho ws [] _ _ Zy Zy Zy Zy Zy Zy Zy Zy (λ_ h=>h) f0 hlen;have hf:FI m j (dM bn ws) M:=hf;have hs:l7 ((dM bn ws).map aw)=Zz (.lst ((sortI (dM bn ws)).map aw)):=wT (uq hn) (by omega) λk hk z=>by
  have:=df (lW.mp hk);rw[z]at this;rcases this with h|h<;>cases h
 have key:ex (cf n) gv ly [Zz (.t (dx bn)),Zz (.t (bU ws)),Zy,Zy,Zy,Zy,Zy,Zy,Zy,Zy,Zy] m=.ok (.ret (.t (.lst ((sortI (dM bn ws)).map aw)))) M:=by
  unfold ly;refine(aj (w:=.c m.length) (m1:=m++[Zz (false,[])]) (by rw[ev,evs];rfl)).trans ?_;refine(bP (aa rfl) rfl h).trans ?_;refine ah ?_;rw[ev,evs,aa rfl,ai,evs,ai,ai];have hv:views [.c j] M=Zz [.lst ((dM bn ws).map aw)]:=by
   show((view (.c j) M).bind λt=>Zz [t])=_;unfold view;dsimp only;rw[hf.at'];rfl
  show eO ((views [.c j] M).bind λts=>cM .qS ts) M=_;rw[hv];show eO (l7 ((dM bn ws).map aw)) M=_;rw[hs];rfl
 refine aH (Bi _ _ _) rfl key ?_;show Res.ok (W.t (.lst ((sortI (dM bn ws)).map aw))) (M.take m.length)=_;rw[hf.pre]
end
end My
set_option maxRecDepth 20000
namespace My
open Mi
noncomputable def mm(m:Mem)(xs:List T):Mem:=m++[Zz (false,xs)]
theorem vm{m:Mem}{xs:List T}:(mm m xs).length=m.length+1:=by simp[mm]
theorem uD{m:Mem}{i:Nat}{s xs:List T}(hi:i<m.length):(put (mm m xs) i s)[m.length]?=Zz (Zz (false,xs)):=by
 unfold put mm;rw[Rs (by omega),S4 (RC _),UP];rfl
theorem GM{m:Mem}{i:Nat}{s xs ys:List T}(hi:i<m.length):(put (mm m xs) i s).set m.length (Zz (false,ys))=put (mm m ys) i s:=by
 unfold put mm;rw[Xl _ _ (by omega),UE _ _ (RC _),UP];rfl
theorem Ei{m:Mem}{i:Nat}{s xs:List T}(hi:i<m.length):(put (mm m xs) i s).take m.length=put m i s:=by
 unfold put mm;rw[V8 _ _ hi,WD (by rw[U1])]
theorem Gf{m:Mem}{i:Nat}{s:List T}(hi:i<m.length):put m i s++[Zz (false,[])]=put (mm m []) i s:=by
 unfold put mm;rw[V8 _ _ hi]
theorem Fd{call:Nat->List W->Mem->Res W}{env:Env}{m m1:Mem}{a:E}{x:T}(h:ev call gv a env m=.ok (.t x) m1):ev call gv (.tr a) env m=.ok (.t x) m1:=by rw[ev,h];rfl
theorem An:∀(n:Nat) (t:T),ak n t=true->eqT t t=true:=by
 intro n
 induction n with
 |zero =>
  intro t h;cases t with
  |non=>rfl
  |bl b=>simp[eqT]
  |int b=>simp[eqT]
  |str b=>simp[eqT]
  |tup ts=>simp[ak]at h
  |lst ts=>simp[ak]at h
  |dct ks ts=>simp[ak]at h
  |du ns=>simp[ak]at h
 |succ n ih =>
  have hl:∀ts:List T,ay n ts=true->nr ts ts=true:=by
   intro ts
   induction ts with
   |nil=>intro _;rfl
   |cons t ts iht =>
    intro h;rw[ay,RK]at h;rw[nr,ih t h.1,iht h.2];rfl
  intro t h;cases t with
  |tup ts=>rw[ak]at h;rw[eqT];exact hl ts h
  |lst ts=>rw[ak]at h;rw[eqT];exact hl ts h
  |non=>rfl
  |bl b=>simp[eqT]
  |int b=>simp[eqT]
  |str b=>simp[eqT]
  |dct ks ts=>simp[ak]at h
  |du ns=>simp[ak]at h
theorem xR{t:T}(h:ak 60 t=true):dr .NotEq t t=Zz false:=by
 show(if(oZ t t || (ak 60 t&&ak 60 t))=true then Zz (!eqT t t)else Zy)=_;rw[h,VO,XA,Yq rfl,An 60 t h];rfl
theorem zG{nm kd:List Nat}{mk:List (List Nat)}{sz:List (List Nat×Int)}(h:yi nm kd mk sz):ak 57 (bo nm kd mk sz)=true:=by
 obtain⟨_,_,h1,h2,h3,h4⟩:=h;have e1:ay 55 (mk.map T.str)=true:=bL.mpr λt ht=>by
  obtain⟨w,hw,rfl⟩:=RS.mp ht;exact h1 w hw
 have e2:ay 55 (sz.map cA)=true:=bL.mpr λt ht=>by
  obtain⟨p,hp,rfl⟩:=RS.mp ht;have:=h2 p hp;unfold dv at this;simp[cA,ak,ay,this]
 unfold dv at h3 h4;simp[bo,ak,ay,e1,e2,h3,h4]
theorem ne_int(v:Int):dr .NotEq (.int v) (.int v)=Zz false:=by rw[xx];simp
theorem Ga(ts:List T):cM .list [.lst ts]=Zz (.lst ts):=rfl
noncomputable def rZ:List Nat:=[114,121,101]
noncomputable def Bc:List Nat:=[111,97,116]
noncomputable def oS:List Nat:=[111]
structure G1 (w:Wt):Prop where
 ent:bC w.e
 kd:w.e.kd=rZ∨w.e.kd=Bc∨w.e.kd=oS
theorem Dd{w:Wt}(h:bC w.e):ak 59 w.t=true:=by
 have h1:=zG h.gU;have h2:=h.wish.2 52;have h3:=h.sd;unfold dv at h3;have h2:ak 57 w.e.w=true:=h2;simp[Wt.t,Ent.off,uC,ak,ay,h1,h2,h3]
theorem te{ws:List Wt}(h:∀w∈ws,bC w.e):ay 59 (ws.map Wt.t)=true:=by
 refine bL.mpr λt ht=>?_
 obtain⟨e,he,rfl⟩:=RS.mp ht;exact Dd (h e he)
theorem sA{call:Nat->List W->Mem->Res W}{gv:List T}{env:Env}{m m1 m2:Mem}{a b:E}{w:W}{op:PySem.CmpOp}{x y:T}{k:Bool}(h1:ev call gv a env m=.ok w m1)(h2:ev call gv b env m1=.ok (.t y) m2)(hv:view w m2=Zz x)(h3:dr op x y=Zz k):ev call gv (.cmp op a b) env m=.ok (.t (.bl k)) m2:=by
 rw[ev,h1,ai,h2,ai];show eO (((view w m2).bind λx=>(Zz y).bind λy=>dr op x y).map .bl) m2=_;rw[hv];show eO ((dr op x y).map .bl) m2=_;rw[h3];rfl
theorem sw{m:Mem}{j:Nat}{xs:List T}(h:m[j]?=Zz (Zz (false,xs))):view (.c j) m=Zz (.lst xs):=by
 unfold view;dsimp only;rw[h]
theorem Di{α:Type}(xs:List α)(x:α):atT (xs++[x]) (-1)=Zz x:=by
 have e:fK (xs++[x]).length (-1)=Zz xs.length:=by
  unfold fK;rw[RI,S3];split
  ·rename_i h;omega
  ·split
   ·exact congrArg Zz (by omega)
   ·omega
 unfold atT;rw[e];show(xs++[x])[xs.length]?=_;rw[S4 (RC _),UP];rfl
section
variable{n:Nat}{m:Mem}{i:Nat}{s:List T}
theorem CI(hi:i<m.length)(hs:bp s):∃(bn:List (List Nat)) (s':List T),cf (n+2) 38 [.c i] (put m i s)=.ok (.t (dx bn)) (put m i s')/\bp s':=by
 obtain⟨r,s1,g1,hs1,r0,r1⟩:=aB (n:=n) (many:=5) hi hs (by decide) (by decide);obtain⟨z,hz,hzm⟩:=ci (xs:=[dx [],dx [],dx [rZ],dx [oS,rZ],dx [Bc,rZ,oS,[119,104,101,97,116]]]) r0 (by simpa using r1);have hz':∃bn,z=dx bn:=by
  simp only[R5,RV,or_false]at hzm;rcases hzm with rfl|rfl|rfl|rfl|rfl<;>exact⟨_,rfl⟩
 obtain⟨bn,rfl⟩:=hz';refine⟨bn,s1,?_,hs1⟩;have key:ex (cf (n+1)) gv iF [Zz (.c i)] (put m i s)=.ok (.ret (.t (dx bn))) (put m i s1):=by
  unfold iF;exact ah (am (bF (af (dU aq rfl aR) (af (dU aq rfl aR) (af (dU (af (ae _) aq) rfl aR) (af (dU (af (ae _) (af (ae _) aq)) rfl aR) (af (dU (af (ae _) (af (ae _) (af (ae _) (af (ae _) aq)))) rfl aR) aq))))) rfl aR) ((aO (af (aa rfl) (af (ae _) aq))).trans g1) hz)
 exact aH (zw _ _ _) rfl key (ax (cell:=false) (by rw[aI,aI]))
theorem zH{ws:List Wt}{most turn nb few k:Int}{f7 f8 f9 f10 f11:Option W}(hi:i<m.length)(hs:bp s)(hw:∀w∈ws,G1 w)(hl:ws.length<100)(hf:0<=few/\few<3):
  ∃(w:Wt) (s':List T) (nb':Int) (g7 g8 g9 g10 g11:Option W),ex (cf (n+8)) gv db [Zz (.c i),Zz (.t (.int most)),Zz (.c m.length),Zz (.t (.int turn)),Zz (.t (.int nb)),Zz (.t (.int few)),Zz (.t (.int k)),f7,f8,f9,f10,f11] (put (mm m (ws.map Wt.t)) i s) =
   .ok (.next [Zz (.c i),Zz (.t (.int most)),Zz (.c m.length),Zz (.t (.int turn)),Zz (.t (.int nb')),Zz (.t (.int few)),Zz (.t (.int k)),g7,g8,g9,g10,g11]) (put (mm m ((ws++[w]).map Wt.t)) i s')/\bp s'/\G1 w/\w.no=nb/\nb<nb':=by
 have hi':i<(mm m (ws.map Wt.t)).length:=by rw[vm];omega
 obtain⟨sd,s1,g1,hs1,hsd⟩:=xu (n:=n+6) (xs:=[T.str bw,.str bA,.str bw,.str bA,.str bR]) hi' hs (by decide) (by decide);have hs':∃sd':List Nat,sd=.str sd'/\dv sd'=true:=by
  simp only[R5,RV,or_false]at hsd;rcases hsd with rfl|rfl|rfl|rfl|rfl
  ·exact⟨_,rfl,rY⟩
  ·exact⟨_,rfl,rW⟩
  ·exact⟨_,rfl,rY⟩
  ·exact⟨_,rfl,rW⟩
  ·exact⟨_,rfl,yh⟩
 obtain⟨sd,rfl,osd⟩:=hs';obtain⟨d2,s2,g2,hs2,a0,a1⟩:=aB (n:=n+7) (many:=1+few) hi' hs1 (by omega) (by omega);obtain⟨kd,hkd,hkm⟩:=ci (xs:=[T.str rZ,.str Bc,.str oS]) (i:=d2) a0 (by simp;omega);have hk':∃kd':List Nat,kd=.str kd'/\dv kd'=true/\(kd'=rZ∨kd'=Bc∨kd'=oS):=by
  simp only[R5,RV,or_false]at hkm;rcases hkm with rfl|rfl|rfl
  ·exact⟨_,rfl,by decide +kernel,.inl rfl⟩
  ·exact⟨_,rfl,by decide +kernel,.inr (.inl rfl)⟩
  ·exact⟨_,rfl,by decide +kernel,.inr (.inr rfl)⟩
 obtain⟨kd,rfl,okd,hk3⟩:=hk';obtain⟨d3,s3,g3,hs3,b0,b1⟩:=aB (n:=n+7) (many:=16) hi' hs2 (by decide) (by decide);have hmu:=qY (i:=k) (j:=b2i (decide (0<d3))) (GH (by cases decide (0<d3)<;>decide) (by cases decide (0<d3)<;>decide));obtain⟨nm,g4,onm⟩:=w9 (n:=n+7) (m:=put (mm m (ws.map Wt.t)) i s3) (k:=turn+k*b2i (decide (0<d3)));obtain⟨fN,s4,g5,hs4,t0,t1⟩:=aB (n:=n+7) (many:=9) hi' hs3 (by decide) (by decide);obtain⟨mk,sz,w,many,least,wt,s5,g6,hs5,hc,hwi,⟨m1,m2⟩,⟨l1,l2⟩,_⟩:=BB (n:=n+1) (sd:=sd) (fN:=fN) hi' hs4 onm okd
 -- the offer,the last one's or its own
 have key:∃(e:Ent) (s6:List T),bC e/\(e.kd=rZ∨e.kd=Bc∨e.kd=oS)/\bp s6 /\
   ∀K:S,ex (cf (n+8)) gv (.cT (.and (.cmp .NotEq (.var 2) (.lst .nil)) (.cmp .Eq (.call 24 (.cons (.var 0) (.cons (.con (.int 12)) .nil))) (.con (.int 0)))) (.asg 10 (.ix (.ix (.var 2) (.con (.int (-1)))) (.con (.int 1))) .done) .done K) [Zz (.c i),Zz (.t (.int most)),Zz (.c m.length),Zz (.t (.int turn)),Zz (.t (.int nb)),Zz (.t (.int few)),Zz (.t (.int k)),Zz (.t (.str sd)),Zz (.t (.str kd)),Zz (.t (.str nm)),Zz (.t (uC sd nm kd mk sz w many least wt fN)),f11] (put (mm m (ws.map Wt.t)) i s5) =
    ex (cf (n+8)) gv K [Zz (.c i),Zz (.t (.int most)),Zz (.c m.length),Zz (.t (.int turn)),Zz (.t (.int nb)),Zz (.t (.int few)),Zz (.t (.int k)),Zz (.t (.str sd)),Zz (.t (.str kd)),Zz (.t (.str nm)),Zz (.t e.off),f11] (put (mm m (ws.map Wt.t)) i s6):=by
  have hq:ev (cf (n+8)) gv (.cmp .NotEq (.var 2) (.lst .nil)) [Zz (.c i),Zz (.t (.int most)),Zz (.c m.length),Zz (.t (.int turn)),Zz (.t (.int nb)),Zz (.t (.int few)),Zz (.t (.int k)),Zz (.t (.str sd)),Zz (.t (.str kd)),Zz (.t (.str nm)),Zz (.t (uC sd nm kd mk sz w many least wt fN)),f11] (put (mm m (ws.map Wt.t)) i s5)=.ok (.t (.bl (!(ws.map Wt.t).isEmpty))) (put (mm m (ws.map Wt.t)) i s5):=
   sA (aa rfl) (bF aq rfl aR) (sw (uD hi)) (gB (te λw h=>(hw w h).ent)).2
  have own:bC ⟨sd,nm,kd,mk,sz,w,many,least,wt,fN,0⟩:=⟨hc,hwi,osd,m1,m2⟩
  rcases(show ws=[]∨∃a b,ws=a++[b]from if h:ws=[]then .inl h else .inr ⟨_,_,(List.dropLast_concat_getLast h).symm⟩)with rfl|⟨ws0,v,rfl⟩
  ·refine⟨⟨sd,nm,kd,mk,sz,w,many,least,wt,fN,0⟩,s5,own,hk3,hs5,λK=>?_⟩
   exact aP (jk hq)
  ·have hne:(!((ws0++[v]).map Wt.t).isEmpty)=true:=by rw[Si];cases ws0<;>rfl
   rw[hne]at hq;obtain⟨d6,s6,g7,hs6,_,_⟩:=aB (n:=n+7) (many:=12) hi' hs5 (by decide) (by decide);have hq2:ev (cf (n+8)) gv (.cmp .Eq (.call 24 (.cons (.var 0) (.cons (.con (.int 12)) .nil))) (.con (.int 0))) [Zz (.c i),Zz (.t (.int most)),Zz (.c m.length),Zz (.t (.int turn)),Zz (.t (.int nb)),Zz (.t (.int few)),Zz (.t (.int k)),Zz (.t (.str sd)),Zz (.t (.str kd)),Zz (.t (.str nm)),Zz (.t (uC sd nm kd mk sz w many least wt fN)),f11] (put (mm m ((ws0++[v]).map Wt.t)) i s5)=.ok (.t (.bl (d6==0))) (put (mm m ((ws0++[v]).map Wt.t)) i s6):=au ((az (aa rfl) (ae _)).trans g7) (ae _) (uF _ _);cases hd:(d6==0)with
   |false =>
    rw[hd]at hq2;exact⟨⟨sd,nm,kd,mk,sz,w,many,least,wt,fN,0⟩,s6,own,hk3,hs6,λK=>aP ((gR hq).trans hq2)⟩
   |true =>
    rw[hd]at hq2;have hv:=hw v (Sa _ (RQ.mpr rfl));refine⟨v.e,s6,hv.ent,hv.kd,hs6,λK=>lY ((gR hq).trans hq2) ((aj (am (gC rfl (uD hi) ?_) (ae _) (show yj v.t (.int 1)=_ from rfl))).trans aL)⟩;rw[Si];exact Di _ _
 obtain⟨e,s6,he,hek,hs6,hK⟩:=key;obtain⟨c1,s7,g8,hs7,c10,c11⟩:=aB (n:=n+7) (many:=e.many) hi' hs6 (by have:=he.many;omega) (by have:=he.many;omega);obtain⟨c2,s8,g9,hs8,c20,c21⟩:=aB (n:=n+7) (many:=2) hi' hs7 (by decide) (by decide);obtain⟨z,hz,hzm⟩:=ci (xs:=[T.int e.many,.int (1+c1)]) c20 (by simpa using c21);have hz':∃v:Int,z=.int v:=by
  simp only[R5,RV,or_false]at hzm;rcases hzm with rfl|rfl<;>exact⟨_,rfl⟩
 obtain⟨left,rfl⟩:=hz';have hi2:i<(mm m ((ws++([⟨nb,{ e with left:=left }⟩]:List Wt)).map Wt.t)).length:=by rw[vm];omega
 obtain⟨d9,s9,g10,hs9,d90,d91⟩:=aB (n:=n+7) (many:=4) hi2 hs8 (by decide) (by decide);refine⟨⟨nb,{ e with left:=left }⟩,s9,nb+1+d9,Zz (.t (.str sd)),Zz (.t (.str kd)),Zz (.t (.str nm)),Zz (.t e.off),Zz (.t (.int left)),?_,hs9,⟨⟨he.gU,he.wish,he.sd,he.many⟩,hek⟩,rfl,by omega⟩;unfold db;refine(aj (w:=.t (.str sd)) (m1:=put (mm m (ws.map Wt.t)) i s1) ((aO (af (aa rfl) (af (bF (af (ae _) (af (ae _) (af (ae _) (af (ae _) (af (ae _) aq))))) rfl aR) aq))).trans g1)).trans ?_;dsimp only[RU,RP];refine(aj (w:=.t (.str kd)) (m1:=put (mm m (ws.map Wt.t)) i s2) (am (bF (af (ae _) (af (ae _) (af (ae _) aq))) rfl aR) ((aO (af (aa rfl) (af (aV (ae _) (aa rfl) rfl) aq))).trans g2) hkd)).trans ?_;dsimp only[RU,RP];refine(aj (w:=.t (.str nm)) (m1:=put (mm m (ws.map Wt.t)) i s3) ((aO (af (aV (aa rfl) (aV (aa rfl) (l9 (af (au ((aO (af (aa rfl) (af (ae _) aq))).trans g3) (ae _) rfl) aq) rfl rfl) hmu) rfl) aq)).trans g4)).trans ?_;dsimp only[RU,RP];refine(aj (w:=.t (uC sd nm kd mk sz w many least wt fN)) (m1:=put (mm m (ws.map Wt.t)) i s5) ((aO (af (aa rfl) (af (aa rfl) (af (aa rfl) (af (aa rfl) (af ((aO (af (aa rfl) (af (ae _) aq))).trans g5) aq)))))).trans g6)).trans ?_;dsimp only[RU,RP];refine(hK _).trans ?_;refine(aj (w:=.t (.int left)) (m1:=put (mm m (ws.map Wt.t)) i s8) (am (bF (af (am (aa rfl) (ae _) rfl) (af (aV (ae _) ((aO (af (aa rfl) (af (am (aa rfl) (ae _) rfl) aq))).trans g8) rfl) aq)) rfl aR) ((aO (af (aa rfl) (af (ae _) aq))).trans g9) hz)).trans ?_;dsimp only[RU,RP];have hu:ki .append (ws.map Wt.t) [Wt.t ⟨nb,{ e with left:=left }⟩]=Zz (.non,(ws++([⟨nb,{ e with left:=left }⟩]:List Wt)).map Wt.t):=by
  rw[Si];exact Yq (by rw[R1];unfold lim;omega)
 refine(fE (ku (.inl rfl) rfl (uD hi) (kZ (aa rfl) (aa rfl) (aa rfl)) (uD hi) hu)).trans ?_;rw[GM hi];exact(aj (w:=.t (.int (nb+1+d9))) (m1:=put (mm m ((ws++([⟨nb,{ e with left:=left }⟩]:List Wt)).map Wt.t)) i s9) (aV (aV (aa rfl) (ae _) rfl) ((aO (af (aa rfl) (af (ae _) aq))).trans g10) rfl)).trans aL
theorem rF{most turn few:Int}(hi:i<m.length)(hf:0<=few/\few<3):∀(ks:List Int) (ws:List Wt) (s:List T) (nb:Int) (f6 f7 f8 f9 f10 f11:Option W),bp s->ws.length+ks.length<100->(∀w∈ws,G1 w)->(ws.map (·.no)).Nodup->(∀w∈ws,w.no<nb) ->
  ∃(ws':List Wt) (s':List T) (env':Env),aJ (ex (cf (n+8)) gv db) (.nm 6) (ks.map .int) [Zz (.c i),Zz (.t (.int most)),Zz (.c m.length),Zz (.t (.int turn)),Zz (.t (.int nb)),Zz (.t (.int few)),f6,f7,f8,f9,f10,f11] (put (mm m (ws.map Wt.t)) i s)=.ok (.next env') (put (mm m (ws'.map Wt.t)) i s')/\bp s'/\(∀w∈ws',G1 w)/\(ws'.map (·.no)).Nodup/\ws'.length=ws.length+ks.length/\env'[2]?=Zz (Zz (.c m.length))
 |[],ws,s,nb,f6,f7,f8,f9,f10,f11,hs,_,ho,hn,_=>⟨ws,s,_,rfl,hs,ho,hn,rfl,rfl⟩
 |k::ks,ws,s,nb,f6,f7,f8,f9,f10,f11,hs,hl,ho,hn,hb=>by
  rw[Rp]at hl;obtain⟨w,s1,nb',g7,g8,g9,g10,g11,h1,hs1,hw,hno,hlt⟩:=zH (n:=n) (most:=most) (turn:=turn) (nb:=nb) (few:=few) (k:=k) (f7:=f7) (f8:=f8) (f9:=f9) (f10:=f10) (f11:=f11) hi hs ho (by omega) hf;have hm:∀v∈ws++[w],v∈ws∨v=w:=λv hv=>by
   rcases RN.mp hv with h|h
   ·exact .inl h
   ·exact .inr (RQ.mp h)
  obtain⟨ws',s',env',h2,hs',ho',hn',hlen,hv⟩:=rF hi hf ks (ws++[w]) s1 nb' (Zz (.t (.int k))) g7 g8 g9 g10 g11 hs1 (by rw[RI,S3];omega)
   (λv hv=>(hm v hv).elim (λh=>ho v h) λh=>h▸hw)
   (by
    rw[Si,Uz];refine⟨hn,by simp,λa ha b hb' e=>?_⟩;obtain⟨v,hv,rfl⟩:=RS.mp ha;have hb':b=w.no:=by simpa using hb'
    have:=hb v hv;omega)
   (λv hv=>by
    rcases hm v hv with h|rfl
    ·have:=hb v h
     omega
    ·omega)
  refine⟨ws',s',env',?_,hs',ho',hn',by rw[hlen,RI,S3,Rp];omega,hv⟩;rw[RG,aJ];show(ex (cf (n+8)) gv db [Zz (.c i),Zz (.t (.int most)),Zz (.c m.length),Zz (.t (.int turn)),Zz (.t (.int nb)),Zz (.t (.int few)),Zz (.t (.int k)),f7,f8,f9,f10,f11] (put (mm m (ws.map Wt.t)) i s)).bind _=_;rw[h1];exact h2
theorem wC{most:Int}(hi:i<m.length)(hs:bp s)(hmo:0<=most/\most<=30):∃(ws:List Wt) (s':List T),cf (n+9) 39 [.c i,.t (.int most)] (put m i s)=.ok (.t (bU ws)) (put m i s')/\bp s'/\(∀w∈ws,G1 w)/\(ws.map (·.no)).Nodup/\ws.length<=30:=by
 have hi':i<(mm m []).length:=by rw[vm];omega
 obtain⟨turn,s1,g1,hs1,_,_⟩:=aB (n:=n+7) (many:=12) hi' hs (by decide) (by decide);obtain⟨nb,s2,g2,hs2,_,_⟩:=aB (n:=n+7) (many:=5) hi' hs1 (by decide) (by decide);obtain⟨few,s3,g3,hs3,f0,f1⟩:=aB (n:=n+7) (many:=3) hi' hs2 (by decide) (by decide);obtain⟨r,s4,g4,hs4,r0,r1⟩:=aB (n:=n+7) (many:=most+1) hi' hs3 (by omega) (by omega);have hrng:rangeT 0 r.toNat=((Rf r.toNat).map λk:Nat=>(k:Int)).map T.int:=by
  unfold rangeT;rw[Rq];refine congrArg (λf=>Yl f (Rf r.toNat)) (funext λk=>?_);show T.int (0+(k:Int))=T.int (k:Int);rw[Int.zero_add]
 obtain⟨ws,s5,env',h5,hs5,ho,hn,hlen,hv⟩:=rF (n:=n) (most:=most) (turn:=turn) (few:=few) hi ⟨f0,f1⟩ ((Rf r.toNat).map λk:Nat=>(k:Int)) [] s4 nb Zy Zy Zy Zy Zy Zy hs4 (by simp;omega) (λ_ h=>by cases h) Tu (λ_ h=>by cases h);refine⟨ws,s5,?_,hs5,ho,hn,by rw[hlen];simp;omega⟩;have key:ex (cf (n+8)) gv fc [Zz (.c i),Zz (.t (.int most)),Zy,Zy,Zy,Zy,Zy,Zy,Zy,Zy,Zy,Zy] (put m i s)=.ok (.ret (.c m.length)) (put (mm m (ws.map Wt.t)) i s5):=by
  unfold fc;refine(aj (w:=.c m.length) (m1:=put (mm m []) i s) ?_).trans ?_
  ·rw[<-Gf hi]
   rw[ev,evs];show Res.ok (W.c (put m i s).length) _=_;rw[aI]
  dsimp only[RU,RP];refine(aj ((az (aa rfl) (ae _)).trans g1)).trans ?_;dsimp only[RU,RP];refine(aj ((az (aa rfl) (ae _)).trans g2)).trans ?_;dsimp only[RU,RP];refine(aj ((az (aa rfl) (ae _)).trans g3)).trans ?_;dsimp only[RU,RP];have hit:ev (cf (n+8)) gv (.blt .cK (.cons (.call 24 (.cons (.var 0) (.cons (.bin .Add (.var 1) (.con (.int 1))) .nil))) .nil)) [Zz (.c i),Zz (.t (.int most)),Zz (.c m.length),Zz (.t (.int turn)),Zz (.t (.int nb)),Zz (.t (.int few)),Zy,Zy,Zy,Zy,Zy,Zy] (put (mm m []) i s3)=.ok (.t (.lst (((Rf r.toNat).map λk:Nat=>(k:Int)).map T.int))) (put (mm m []) i s4):=by
   rw[<-hrng];exact aK ((az (aa rfl) (aV (aa rfl) (ae _) (pb _ _))).trans g4) (tM ⟨by omega,by omega⟩)
  refine(bP hit rfl h5).trans ?_;exact ah (aa hv)
 refine aH (uJ _ _ _) rfl key ?_;show fin (put m i s).length false (.ret (.c m.length)) _=_;rw[aI];unfold fin;dsimp only;rw[Yr (SU _),uD hi];dsimp only;rw[Yr RL,Ei hi];rfl
end
theorem dR{m xs:Mem}{i:Nat}{s:List T}(hi:i<m.length):put (m++xs) i s=put m i s++xs:=by
 unfold put;rw[V8 _ _ hi]
noncomputable def m2(m:Mem)(A F:List T):Mem:=m++[Zz (false,A),Zz (false,F)]
section
variable{n:Nat}{m:Mem}{i:Nat}{s A F A' F':List T}
theorem AA(hi:i<m.length):(put (m2 m A F) i s)[m.length]?=Zz (Zz (false,A)):=by
 unfold m2;rw[dR hi,S4 (by rw[aI];omega),aI,UP];rfl
theorem GR(hi:i<m.length):(put (m2 m A F) i s)[m.length+1]?=Zz (Zz (false,F)):=by
 unfold m2;rw[dR hi,S4 (by rw[aI];omega),aI,SM];rfl
theorem HL(hi:i<m.length):(put (m2 m A F) i s).set m.length (Zz (false,A'))=put (m2 m A' F) i s:=by
 unfold m2;rw[dR hi,dR hi,UE _ _ (by rw[aI];omega),aI,UP];rfl
theorem Hd(hi:i<m.length):(put (m2 m A F) i s).set (m.length+1) (Zz (false,F'))=put (m2 m A F') i s:=by
 unfold m2;rw[dR hi,dR hi,UE _ _ (by rw[aI];omega),aI,SM];rfl
theorem EA(hi:i<m.length):(put (m2 m A F) i s).take m.length=put m i s:=by
 unfold m2;rw[dR hi];exact WD aI
theorem l6{α β:Type}(f:α->β):∀(l:List α) (k:Nat),(l.map f).eraseIdx k=(l.eraseIdx k).map f
 |[],_=>rfl
 |_::_,0=>rfl
 |a::l,k+1=>by
  rw[RG,List.eraseIdx_cons_succ,List.eraseIdx_cons_succ,RG,l6 f l k]
theorem Cf{as fs:List Wt}{e1:Option W}(hi:i<m.length)(hs:bp s)(h0:0<as.length)(hl:as.length<1000)(hf:fs.length<1000):
  ∃(w:Wt) (k:Nat) (s':List T),ex (cf (n+1)) gv cX [Zz (.c i),e1,Zz (.c m.length),Zz (.c (m.length+1))] (put (m2 m (as.map Wt.t) (fs.map Wt.t)) i s)=.ok (.next [Zz (.c i),e1,Zz (.c m.length),Zz (.c (m.length+1))]) (put (m2 m ((as.eraseIdx k).map Wt.t) ((fs++[w]).map Wt.t)) i s')/\bp s'/\as[k]?=Zz w:=by
 have hi':i<(m2 m (as.map Wt.t) (fs.map Wt.t)).length:=by unfold m2;rw[RI];omega
 obtain⟨r,s1,g,hs1,r0,r1⟩:=aB (n:=n) (many:=(as.length:Int)) hi' hs (by omega) (by omega);obtain⟨w,hw⟩:∃w,as[r.toNat]?=Zz w:=⟨as[r.toNat]'(by omega),R8 (by omega)⟩
 refine⟨w,r.toNat,s1,?_,hs1,hw⟩;have hlen:ev (cf (n+1)) gv (.blt .len (.cons (.var 2) .nil)) [Zz (.c i),e1,Zz (.c m.length),Zz (.c (m.length+1))] (put (m2 m (as.map Wt.t) (fs.map Wt.t)) i s)=.ok (.t (.int (as.length:Int))) (put (m2 m (as.map Wt.t) (fs.map Wt.t)) i s):=by
  have hv:views [W.c m.length] (put (m2 m (as.map Wt.t) (fs.map Wt.t)) i s)=Zz [.lst (as.map Wt.t)]:=by
   show(view (.c m.length) (put (m2 m (as.map Wt.t) (fs.map Wt.t)) i s)).bind _=_;rw[sw (AA hi)];rfl
  refine l9 (af (aa rfl) aq) hv ?_;rw[xG,R1]
 have mp:ki .dK (as.map Wt.t) [.int r]=Zz (w.t,(as.eraseIdx r.toNat).map Wt.t):=by
  show(match fK (as.map Wt.t).length r with
   |some k=>((as.map Wt.t)[k]?).map λt=>(t,(as.map Wt.t).eraseIdx k)
   |none=>Zy)=_
  have:fK (as.map Wt.t).length r=Zz r.toNat:=by
   unfold fK;rw[Yq r0,R1,Yq r1]
  rw[this];dsimp only;rw[Rj,hw,l6];rfl
 have ma:ki .append (fs.map Wt.t) [w.t]=Zz (.non,(fs++[w]).map Wt.t):=by
  rw[Si];exact Yq (by rw[R1];unfold lim;omega)
 have hP:ev (cf (n+1)) gv (.n8 .dK (.var 2) (.cons (.call 24 (.cons (.var 0) (.cons (.blt .len (.cons (.var 2) .nil)) .nil))) .nil)) [Zz (.c i),e1,Zz (.c m.length),Zz (.c (m.length+1))] (put (m2 m (as.map Wt.t) (fs.map Wt.t)) i s)=.ok (.t w.t) (put (m2 m ((as.eraseIdx r.toNat).map Wt.t) (fs.map Wt.t)) i s1):=by
  refine(ku (.inr (.inl rfl)) rfl (AA hi) ((az (aa rfl) hlen).trans g) (AA hi) mp).trans ?_;rw[HL hi]
 unfold cX;refine(fE (ku (.inl rfl) rfl (GR hi) hP (GR hi) ma)).trans ?_;rw[Hd hi];exact aL
theorem He{e1:Option W}(hi:i<m.length):∀(k:Nat) (as fs:List Wt) (s:List T) (t:Nat),as.length=k->k<t->bp s->as.length+fs.length<1000->(∀w∈as,bC w.e) ->
  ∃(gs:List Wt) (s':List T),iG (λenv m=>(ev (cf (n+1)) gv (.cmp .NotEq (.var 2) (.lst .nil)) env m).bind b8) (λenv m=>ex (cf (n+1)) gv cX env m) t [Zz (.c i),e1,Zz (.c m.length),Zz (.c (m.length+1))] (put (m2 m (as.map Wt.t) (fs.map Wt.t)) i s) =
   .ok (.next [Zz (.c i),e1,Zz (.c m.length),Zz (.c (m.length+1))]) (put (m2 m [] (gs.map Wt.t)) i s')/\bp s'/\gs.Perm (fs++as)
 |k,as,fs,s,0,hk,ht,hs,hl,ho=>Yv ht (Nat.not_lt_zero _)
 |0,as,fs,s,t+1,hk,ht,hs,hl,ho=>by
  obtain rfl:as=[]:=RR.mp hk;refine⟨fs,s,?_,hs,by rw[SZ]⟩;rw[iG];rw[show ev (cf (n+1)) gv (.cmp .NotEq (.var 2) (.lst .nil)) [Zz (.c i),e1,Zz (.c m.length),Zz (.c (m.length+1))] (put (m2 m (([]:List Wt).map Wt.t) (fs.map Wt.t)) i s)=.ok (.t (.bl false)) (put (m2 m (([]:List Wt).map Wt.t) (fs.map Wt.t)) i s)from sA (aa rfl) (bF aq rfl aR) (sw (AA hi)) (gB rfl).2];rfl
 |k+1,as,fs,s,t+1,hk,ht,hs,hl,ho=>by
  obtain⟨w,j,s1,h1,hs1,hj⟩:=Cf (n:=n) (as:=as) (fs:=fs) (e1:=e1) hi hs (by omega) (by omega) (by omega);have hjl:j<as.length:=(RA.mp hj).1;have hjw:as[j]=w:=(RA.mp hj).2;have hlen:(as.eraseIdx j).length=k:=by rw[UB hjl];omega
  have hpe:=gV as j hjl;rw[hjw]at hpe;obtain⟨gs,s',h2,hs',hp⟩:=He hi k (as.eraseIdx j) (fs++[w]) s1 t hlen (by omega) hs1 (by rw[RI,S3];omega) (λv hv=>ho v (hpe.mem_iff.mp (R2 _ hv)));refine⟨gs,s',?_,hs',hp.trans ?_⟩
  ·rw[iG]
   have hne:(!(as.map Wt.t).isEmpty)=true:=by
    cases as with
    |nil=>cases hk
    |cons _ _=>rfl
   have hq:=sA (call:=cf (n+1)) (gv:=gv) (env:=[Zz (.c i),e1,Zz (.c m.length),Zz (.c (m.length+1))]) (m:=put (m2 m (as.map Wt.t) (fs.map Wt.t)) i s) (a:=.var 2) (b:=.lst .nil) (op:=.NotEq) (aa rfl) (bF aq rfl aR) (sw (AA hi)) (gB (te ho)).2;rw[hne]at hq;rw[hq];show(ex (cf (n+1)) gv cX [Zz (.c i),e1,Zz (.c m.length),Zz (.c (m.length+1))] (put (m2 m (as.map Wt.t) (fs.map Wt.t)) i s)).bind _=_;rw[h1];exact h2
  ·rw[Rg]
   exact Uu fs hpe
theorem y8{ws:List Wt}(hi:i<m.length)(hs:bp s)(hl:ws.length<=30)(ho:∀w∈ws,bC w.e):∃(us:List Wt) (s':List T),cf (n+2) 40 [.c i,.t (bU ws)] (put m i s)=.ok (.t (bU us)) (put m i s')/\bp s'/\us.Perm ws:=by
 obtain⟨us,s1,h,hs1,hp⟩:=He (n:=n) (e1:=Zz (.t (bU ws))) hi ws.length ws [] s turns rfl (by unfold turns;omega) hs (by simp;omega) ho;refine⟨us,s1,?_,hs1,hp⟩;have key:ex (cf (n+1)) gv fY [Zz (.c i),Zz (.t (bU ws)),Zy,Zy] (put m i s)=.ok (.ret (.c (m.length+1))) (put (m2 m [] (us.map Wt.t)) i s1):=by
  unfold fY;refine(aj (w:=.c m.length) (m1:=put m i s++[Zz (false,ws.map Wt.t)]) (by rw[ev,aa rfl,ai];show Res.ok (W.c (put m i s).length) _=_;rw[aI])).trans ?_;dsimp only[RU,RP];refine(aj (w:=.c (m.length+1)) (m1:=put (m2 m (ws.map Wt.t) []) i s) ?_).trans ?_
  ·rw[ev,evs]
   show Res.ok (W.c (put m i s++[Zz (false,ws.map Wt.t)]).length) (put m i s++[Zz (false,ws.map Wt.t)]++[Zz (false,[])])=_;unfold m2;rw[dR hi,RI,aI,Rg];rfl
  dsimp only[RU,RP];rw[ex];rw[show iG (λenv m=>(ev (cf (n+1)) gv (.cmp .NotEq (.var 2) (.lst .nil)) env m).bind b8) (λenv m=>ex (cf (n+1)) gv cX env m) turns [Zz (.c i),Zz (.t (bU ws)),Zz (.c m.length),Zz (.c (m.length+1))] (put (m2 m (ws.map Wt.t) []) i s)=_ from h];show ex (cf (n+1)) gv (.ret (.var 3) .done) [Zz (.c i),Zz (.t (bU ws)),Zz (.c m.length),Zz (.c (m.length+1))] (put (m2 m [] (us.map Wt.t)) i s1)=_;exact ah (aa rfl)
 refine aH (vW _ _ _) rfl key ?_;show fin (put m i s).length false (.ret (.c (m.length+1))) _=_;rw[aI];unfold fin;dsimp only;rw[Yr (by omega),GR hi];dsimp only;rw[Yr RL,EA hi];rfl
end
end My
set_option maxRecDepth 20000
namespace My
open Mi
section
variable{call:Nat->List W->Mem->Res W}{gv:List T}{env:Env}{m m1 m2:Mem}{a b:E}{w w':W}
theorem HZ{α:Type}{own:Nat}{keep:List Nat}{it:E}{tg:Tg}{cs:Es}{inner:E}{j:Nat}{emb:α->T}{g:α->List T}(as:List α)(hit:ev call gv it env m=.ok (.c j) m)(hj:m[j]?=Zz (Zz (false,as.map emb)))(h:∀a∈as,∃env',bB tg (emb a) (Rx own Zy++keep.map λi=>(env[i]?).join)=Zz env'/\∀m',bS call gv cs inner env' m'=.ok (g a) m')(hz:(as.flatMap g).length<=lim):ev call gv (.comp own keep it tg cs inner) env m=.ok (.t (.lst (as.flatMap g))) m:=by
 have hb:aU (.c j) m=.ok (as.map emb) (m.set j (Zz (true,as.map emb))):=by
  unfold aU;dsimp only;rw[hj]
 have:=bN (own:=own) (keep:=keep) (tg:=tg) (cs:=cs) (inner:=inner) hit hb (cZ as λa ha=>let⟨e,h1,h2⟩:=h a ha;⟨e,h1,h2 _⟩) hz;rw[this];have e:giveBack (.c j) m (m.set j (Zz (true,as.map emb)))=m:=by
  unfold giveBack;dsimp only;rw[hj];show(m.set j (Zz (true,as.map emb))).set j (Zz (false,as.map emb))=m;rw[Y5];obtain⟨h1,h2⟩:=RA.mp hj;rw[<-h2];exact List.set_getElem_self h1
 rw[e]
end
noncomputable def four:List (List Nat):=[[104,101,97,118,121],[103,114,101,97,116],[115,109,97,108,108],[115,111,111,110]]
theorem mI{α:Type}:∀{A:List α}{k:Nat}{w:α},A[k]?=Zz w->A.Perm (w::A.eraseIdx k)
 |[],_,_,h=>by simp at h
 |a::A,0,w,h=>by
  have:a=w:=by simpa using h
  subst this;exact TZ _
 |a::A,k+1,w,h=>by
  have h':A[k]?=Zz w:=by simpa using h
  exact((mI h').cons a).trans (WQ w a _)
structure MI (m:Mem) (i c1 c2:Nat) (A F:List (List Nat)) (M:Mem):Prop where
 tk:M.take m.length=m
 i:i<m.length
 l1:m.length<=c1
 l2:m.length<=c2
 ne:c1≠c2
 g1:M[c1]?=Zz (Zz (false,A.map .str))
 g2:M[c2]?=Zz (Zz (false,F.map .str))
theorem MI.at1{m:Mem}{i c1 c2:Nat}{A F:List (List Nat)}{M:Mem}(h:MI m i c1 c2 A F M)(s:List T):(put M i s)[c1]?=Zz (Zz (false,A.map .str)):=by
 unfold put;rw[Rs (by have:=h.i;have:=h.l1;omega)];exact h.g1
theorem MI.at2{m:Mem}{i c1 c2:Nat}{A F:List (List Nat)}{M:Mem}(h:MI m i c1 c2 A F M)(s:List T):(put M i s)[c2]?=Zz (Zz (false,F.map .str)):=by
 unfold put;rw[Rs (by have:=h.i;have:=h.l2;omega)];exact h.g2
theorem MI.hi{m:Mem}{i c1 c2:Nat}{A F:List (List Nat)}{M:Mem}(h:MI m i c1 c2 A F M):i<M.length:=by
 have h1:=h.i;have h2:=congrArg W7 h.tk;rw[Sh]at h2;omega
theorem MI.fin{m:Mem}{i c1 c2:Nat}{A F:List (List Nat)}{M:Mem}(h:MI m i c1 c2 A F M)(s:List T):(put M i s).take m.length=put m i s:=by
 unfold put;rw[List.take_set,h.tk]
theorem GA{n:Nat}{m:Mem}{i c1 c2 f:Nat}{A F:List (List Nat)}{M:Mem}{s:List T}{env:Env}(h:MI m i c1 c2 A F M)(hs:bp s)(hA:0<A.length)(hA':A.length<100)(hF:F.length<100)(e0:env[0]?=Zz (Zz (.c i)))(e1:env[1]?=Zz (Zz (.c c1)))(ef:env[f]?=Zz (Zz (.c c2))):
  ∃(w:List Nat) (k:Nat) (s':List T) (M':Mem),ev (cf (n+1)) gv (.n8 .append (.var f) (.cons (.n8 .dK (.var 1) (.cons (.call 24 (.cons (.var 0) (.cons (.blt .len (.cons (.var 1) .nil)) .nil))) .nil)) .nil)) env (put M i s)=.ok (.t .non) (put M' i s')/\bp s'/\A[k]?=Zz w/\MI m i c1 c2 (A.eraseIdx k) (F++[w]) M':=by
 obtain⟨r,s1,g,hs1,r0,r1⟩:=aB (n:=n) (many:=(A.length:Int)) h.hi hs (by omega) (by omega);have hr:r.toNat<A.length:=by omega
 have hw:=R8 hr;generalize A[r.toNat]=w at hw;have i1:i≠c1:=by have:=h.i;have:=h.l1;omega
 have i2:i≠c2:=by have:=h.i;have:=h.l2;omega
 have b1:c1<M.length:=(RA.mp h.g1).1;have b2:c2<M.length:=(RA.mp h.g2).1;refine⟨w,r.toNat,s1,(M.set c1 (Zz (false,(A.eraseIdx r.toNat).map .str))).set c2 (Zz (false,(F++[w]).map .str)),?_,hs1,hw,⟨?_,h.i,h.l1,h.l2,h.ne,?_,?_⟩⟩
 ·have hlen:ev (cf (n+1)) gv (.blt .len (.cons (.var 1) .nil)) env (put M i s)=.ok (.t (.int (A.length:Int))) (put M i s):=by
   have hv:views [W.c c1] (put M i s)=Zz [.lst (A.map T.str)]:=by
    show(view (.c c1) (put M i s)).bind _=_;unfold view;dsimp only;rw[h.at1 s];rfl
   refine l9 (af (aa e1) aq) hv ?_;rw[xG,R1]
  have hD:ev (cf (n+1)) gv (.call 24 (.cons (.var 0) (.cons (.blt .len (.cons (.var 1) .nil)) .nil))) env (put M i s)=.ok (.t (.int r)) (put M i s1):=(az (aa e0) hlen).trans g;have t1:Ad .dK (.c c1) (put M i s)=true:=by
   show(match(put M i s)[c1]? with
    |some (Zz _)=>true
    |_=>false)=true
   rw[h.at1 s]
  have t2:Ad .append (.c c2) (put M i s)=true:=by
   show(match(put M i s)[c2]? with
    |some (Zz _)=>true
    |_=>false)=true
   rw[h.at2 s]
  have mp:ki .dK (A.map T.str) [.int r]=Zz (.str w,(A.eraseIdx r.toNat).map T.str):=by
   show(match fK (A.map T.str).length r with
    |some k=>((A.map T.str)[k]?).map λt=>(t,(A.map T.str).eraseIdx k)
    |none=>Zy)=_
   have:fK (A.map T.str).length r=Zz r.toNat:=by
    unfold fK;rw[Yq r0,R1,Yq r1]
   rw[this];dsimp only;rw[Rj,hw,l6];rfl
  have hP:ev (cf (n+1)) gv (.n8 .dK (.var 1) (.cons (.call 24 (.cons (.var 0) (.cons (.blt .len (.cons (.var 1) .nil)) .nil))) .nil)) env (put M i s)=.ok (.t (.str w)) ((put M i s1).set c1 (Zz (false,(A.eraseIdx r.toNat).map T.str))):=by
   rw[ev,aa e1,ai,Yq t1,af hD aq,ai];show ya .dK (.c c1) [.t (.int r)] (put M i s1)=_;simp[ya,ip,iq,ai,h.at1 s1,mp]
  rw[ev,aa ef,ai,Yq t2,af hP aq,ai];have h2:((put M i s1).set c1 (Zz (false,(A.eraseIdx r.toNat).map T.str)))[c2]?=Zz (Zz (false,F.map T.str)):=by
   rw[Rs h.ne];exact h.at2 s1
  have ma:ki .append (F.map T.str) [.str w]=Zz (.non,F.map T.str++[.str w]):=Yq (by rw[R1];unfold lim;omega);show ya .append (.c c2) [.t (.str w)] _=_;simp only[ya,ip,iq,ai,h2,ma];unfold put;rw[Si,Xl _ _ i1,Xl _ _ i2];rfl
 ·rw[VI h.l2,VI h.l1]
  exact h.tk
 ·rw[Rs h.ne.symm,S6 b1]
 ·rw[S6 (by rw[U1];exact b2)]
theorem xO{n:Nat}{m:Mem}{i c1 c2 f v:Nat}{body:S}(hb:body=.expr (.n8 .append (.var f) (.cons (.n8 .dK (.var 1) (.cons (.call 24 (.cons (.var 0) (.cons (.blt .len (.cons (.var 1) .nil)) .nil))) .nil)) .nil)) .done)(hv0:v≠0)(hv1:v≠1)(hvf:v≠f):∀(ts:List T) (A F:List (List Nat)) (M:Mem) (s:List T) (env:Env),MI m i c1 c2 A F M->bp s->ts.length<=A.length->A.length<50->F.length+ts.length<50->env[0]?=Zz (Zz (.c i))->env[1]?=Zz (Zz (.c c1))->env[f]?=Zz (Zz (.c c2)) ->
  ∃(A' F':List (List Nat)) (M':Mem) (s':List T) (env':Env),aJ (ex (cf (n+1)) gv body) (.nm v) ts env (put M i s)=.ok (.next env') (put M' i s')/\bp s'/\MI m i c1 c2 A' F' M'/\(A'++F').Perm (A++F)/\F'.length=F.length+ts.length/\env'[f]?=Zz (Zz (.c c2))
 |[],A,F,M,s,env,h,hs,_,_,_,_,_,ef=>⟨A,F,M,s,env,rfl,hs,h,TZ _,rfl,ef⟩
 |t::ts,A,F,M,s,env,h,hs,hl,hA,hF,e0,e1,ef=>by
  rw[Rp]at hl hF;have q0:(env.set v (Zz (.t t)))[0]?=Zz (Zz (.c i)):=by rw[Rs hv0];exact e0
  have q1:(env.set v (Zz (.t t)))[1]?=Zz (Zz (.c c1)):=by rw[Rs hv1];exact e1
  have qf:(env.set v (Zz (.t t)))[f]?=Zz (Zz (.c c2)):=by rw[Rs hvf];exact ef
  obtain⟨w,k,s1,M1,g,hs1,hw,h1⟩:=GA (n:=n) h hs (by omega) (by omega) (by omega) q0 q1 qf;have hk:=(RA.mp hw).1;have hlen:(A.eraseIdx k).length=A.length-1:=UB hk;obtain⟨A',F',M',s',env',g2,hs2,h2,hp,hf,he⟩:=xO hb hv0 hv1 hvf ts (A.eraseIdx k) (F++[w]) M1 s1 _ h1 hs1 (by omega) (by omega) (by rw[RI,S3];omega) q0 q1 qf;refine⟨A',F',M',s',env',?_,hs2,h2,hp.trans ?_,by rw[hf,RI,S3,Rp];omega,he⟩
  ·rw[aJ]
   show(ex (cf (n+1)) gv body (env.set v (Zz (.t t))) (put M i s)).bind _=_;have:ex (cf (n+1)) gv body (env.set v (Zz (.t t))) (put M i s)=.ok (.next (env.set v (Zz (.t t)))) (put M1 i s1):=by
    rw[hb];exact(fE g).trans aL
   rw[this];exact g2
  ·have h3:=mI hw
   have h4:(A.eraseIdx k++(F++[w])).Perm (w::(A.eraseIdx k++F)):=by
    rw[<-Rg];exact Vr
   exact h4.trans (h3.symm.append_right F)
theorem AG{n:Nat}{f c:Nat}{env:Env}{m:Mem}{xs:List T}(ef:env[f]?=Zz (Zz (.c c)))(hc:m[c]?=Zz (Zz (false,xs))):ev (cf n) gv (.blt .tuple (.cons (.var f) .nil)) env m=.ok (.t (.tup xs)) m:=by
 have hv:views [W.c c] m=Zz [.lst xs]:=by
  show(view (.c c) m).bind _=_;unfold view;dsimp only;rw[hc];rfl
 exact l9 (af (aa ef) aq) hv (sH _)
theorem DL{n:Nat}{m:Mem}{i:Nat}{s:List T}(hi:i<m.length)(hs:bp s):∃(ws:List (List Nat)) (s':List T),cf (n+2) 37 [.c i] (put m i s)=.ok (.t (.tup (ws.map .str))) (put m i s')/\bp s'/\ws.Nodup/\ws.length<=3/\∀w∈ws,w∈four:=by
 have hM:MI m i m.length (m.length+1) four [] (m++[Zz (false,four.map .str),Zz (false,[])]):=by
  refine⟨WD rfl,hi,RC _,UQ _,by omega,?_,?_⟩
  ·rw[S4 (RC _),UP];rfl
  ·rw[S4 (by omega),SM];rfl
 generalize hMM:m++[Zz (false,four.map T.str),Zz (false,[])]=M at hM;obtain⟨r,s1,g1,hs1,r0,r1⟩:=aB (n:=n) (many:=5) hM.hi hs (by decide) (by decide);obtain⟨z,hz,hzm⟩:=ci (xs:=[T.int 0,.int 1,.int 1,.int 2,.int 3]) r0 (by simpa using r1);have hz':∃v:Nat,z=.int (v:Int)/\v<=3:=by
  simp only[R5,RV,or_false]at hzm;rcases hzm with rfl|rfl|rfl|rfl|rfl
  ·exact⟨0,rfl,by decide⟩
  ·exact⟨1,rfl,by decide⟩
  ·exact⟨1,rfl,by decide⟩
  ·exact⟨2,rfl,by decide⟩
  ·exact⟨3,rfl,by decide⟩
 obtain⟨v,rfl,hv⟩:=hz';have hrl:(rangeT 0 v).length=v:=by simp[rangeT]
 obtain⟨A',F',M',s2,env',g2,hs2,h2,hp,hf,he⟩:=xO (n:=n) (f:=2) (v:=3) (body:=rj) rfl (by decide) (by decide) (by decide) (rangeT 0 v) four [] M s1 [Zz (.c i),Zz (.c m.length),Zz (.c (m.length+1)),Zy] hM hs1 (by rw[hrl];show v<=4;omega) (by decide) (by rw[hrl];simp;omega) rfl rfl rfl;rw[SZ]at hp;refine⟨F',s2,?_,hs2,?_,by rw[hf,hrl];simpa using hv,λw hw=>hp.mem_iff.mp (Sa _ hw)⟩
 ·have key:ex (cf (n+1)) gv lg [Zz (.c i),Zy,Zy,Zy] (put m i s)=.ok (.ret (.t (.tup (F'.map .str)))) (put M' i s2):=by
   unfold lg;have p1:put M i s=put m i s++[Zz (false,four.map .str),Zz (false,[])]:=by
    rw[<-hMM];unfold put;rw[V8 _ _ hi]
   have w1:ev (cf (n+1)) gv (.oD (.cons (.con (.str [104,101,97,118,121])) (.cons (.con (.str [103,114,101,97,116])) (.cons (.con (.str [115,109,97,108,108])) (.cons (.con (.str [115,111,111,110])) .nil))))) [Zz (.c i),Zy,Zy,Zy] (put m i s)=.ok (.c m.length) (put m i s++[Zz (false,four.map .str)]):=by
    rw[ev,af (ae _) (af (ae _) (af (ae _) (af (ae _) aq)))];show Res.ok (W.c (put m i s).length) _=_;rw[aI];rfl
   have w2:ev (cf (n+1)) gv (.oD .nil) [Zz (.c i),Zz (.c m.length),Zy,Zy] (put m i s++[Zz (false,four.map .str)])=.ok (.c (m.length+1)) (put M i s):=by
    rw[ev,aq];show Res.ok (W.c (put m i s++[Zz (false,four.map T.str)]).length) _=_;rw[RI,aI,p1,Rg];rfl
   refine(aj w1).trans ?_;dsimp only[RU,RP];refine(aj w2).trans ?_;dsimp only[RU,RP];have hr:=tM (i:=(v:Int)) (by omega);rw[T8]at hr;refine(bP (aK (am (bF (af (ae _) (af (ae _) (af (ae _) (af (ae _) (af (ae _) aq))))) rfl aR) ((az (aa rfl) (ae _)).trans g1) hz) hr) rfl g2).trans ?_;exact ah (AG he (h2.at2 s2))
  refine aH (Ap _ _ _) rfl key ?_;show Res.ok _ ((put M' i s2).take (put m i s).length)=_;rw[aI,h2.fin]
 ·have:=hp.nodup_iff.mpr (show four.Nodup by decide)
  exact(Uz.mp this).2.1
noncomputable def rk(w:List Nat)(x:Wt):Int:=if w==[104,101,97,118,121]then -x.e.wt else if w==[103,114,101,97,116]then -x.e.left else if w==[115,109,97,108,108]then x.e.left else x.e.fN
noncomputable def rks(ru:List (List Nat))(x:Wt):List Int:=ru.map (rk · x)++[x.no]
noncomputable def fz(ru:List (List Nat)):T:=.tup (ru.map .str)
noncomputable def lE(ru:List (List Nat))(x:Wt):List Wt->List Wt
 |[]=>[x]
 |y::r=>if aC (rks ru y) (rks ru x)then y::lE ru x r else x::y::r
noncomputable def dO(ru:List (List Nat))(xs:List Wt):List Wt:=xs.foldr (lE ru) []
def Sd(ru:List (List Nat))(l:List Wt):Prop:=l.Pairwise λa b=>aC (rks ru b) (rks ru a)=false
section
variable{ru:List (List Nat)}
theorem iR(x:Wt):∀l:List Wt,(lE ru x l).Perm (x::l)
 |[]=>.refl _
 |y::r=>by
  rw[lE];split
  ·exact((iR x r).cons y).trans (.swap _ _ _)
  ·exact .refl _
theorem bD:∀xs:List Wt,(dO ru xs).Perm xs
 |[]=>.refl _
 |x::r=>(iR x _).trans ((bD r).cons x)
theorem sU(x:Wt):∀{l:List Wt},Sd ru l->Sd ru (lE ru x l)
 |[],_=>Sb _ _
 |y::r,h=>by
  rw[lE];obtain⟨h1,h2⟩:=Rv.mp h;split
  ·rename_i q
   refine Rv.mpr ⟨λz hz=>?_,sU x h2⟩;rcases R5.mp ((iR x r).mem_iff.mp hz)with rfl|hz
   ·exact c9 q
   ·exact h1 z hz
  ·rename_i q
   have q:aC (rks ru y) (rks ru x)=false:=by simpa using q
   refine Rv.mpr ⟨λz hz=>?_,h⟩;rcases R5.mp hz with rfl|hz
   ·exact q
   ·exact dG q (h1 z hz)
theorem pr:∀xs:List Wt,Sd ru (dO ru xs)
 |[]=>.nil
 |x::r=>sU x (pr r)
theorem sG{x y:Wt}(h:rks ru x=rks ru y):x.no=y.no:=by
 have h:ru.map (rk · x)++[x.no]=ru.map (rk · y)++[y.no]:=h;exact(List.cons.inj (List.append_inj h (by rw[R1,R1])).2).1
theorem Hz{xs ys zs:List Wt}(hn:(xs.map (·.no)).Nodup)(py:ys.Perm xs)(pz:zs.Perm xs)(hy:Sd ru ys)(hz:Sd ru zs):ys=zs:=
 Uc (λa b ha hb h1 h2=>iK hn (py.mem_iff.mp ha) (pz.mem_iff.mp hb) (sG (cQ h2 h1))) hy hz (py.trans pz.symm)
theorem Bo(x:Wt):∀l:List Wt,nu (rks ru x,x.t) (l.map λy=>(rks ru y,y.t))=(lE ru x l).map λy=>(rks ru y,y.t)
 |[]=>rfl
 |y::r=>by
  rw[RG,nu,lE];dsimp only;split
  ·rw[Bo x r];rfl
  ·rfl
theorem wS:∀xs:List Wt,iM (xs.map λy=>(rks ru y,y.t))=(dO ru xs).map λy=>(rks ru y,y.t)
 |[]=>rfl
 |x::r=>by
  rw[RG];show nu (rks ru x,x.t) (iM (r.map λy=>(rks ru y,y.t)))=_;rw[wS r,Bo];rfl
theorem EO{xs:List Wt}(hn:(xs.map (·.no)).Nodup):(xs.map (rks ru)).Nodup:=by
 refine SN.mpr ?_;exact(SN.mp hn).imp λh z=>h (sG z)
end
section
variable{n:Nat}{m:Mem}{ru:List (List Nat)}{x y:Wt}
theorem Co{call:Nat->List W->Mem->Res W}{gv:List T}{env:Env}{m m1:Mem}{a:E}{i:Int}(h:ev call gv a env m=.ok (.t (.int i)) m1):ev call gv (.neg a) env m=.ok (.t (.int (-i))) m1:=by rw[ev,h];rfl
theorem E4{w:List Nat}:cf (n+1) 15 [.t (.str w),.t x.t] m=.ok (.t (.int (rk w x))) m:=by
 have key:ex (cf n) gv oR [Zz (.t (.str w)),Zz (.t x.t),Zy,Zy,Zy] m=.ok (.ret (.t (.int (rk w x)))) m:=by
  unfold oR;rw[ex,aa rfl];show ex (cf n) gv _ [Zz (.t (.str w)),Zz (.t x.t),Zz (.t (.int x.no)),Zz (.t x.e.off),Zz (.t (.int x.e.left))] m=_;unfold rk;have c1:∀z,ev (cf n) gv (.cmp .Eq (.var 0) (.con (.str z))) [Zz (.t (.str w)),Zz (.t x.t),Zz (.t (.int x.no)),Zz (.t x.e.off),Zz (.t (.int x.e.left))] m=.ok (.t (.bl (w==z))) m:=λz=>au (aa rfl) (ae _) (gu _ _)
  have h1:=c1 [104,101,97,118,121];have h2:=c1 [103,114,101,97,116];have h3:=c1 [115,109,97,108,108];cases e1:w==[104,101,97,118,121]with
  |true=>rw[e1]at h1;exact bg h1 (ah (Co (am (aa rfl) (ae _) rfl)))
  |false =>
   rw[e1]at h1;refine(aP h1).trans ?_;rw[Yr RL];cases e2:w==[103,114,101,97,116]with
   |true=>rw[e2]at h2;exact bg h2 (ah (Co (aa rfl)))
   |false =>
    rw[e2]at h2;refine(aP h2).trans ?_;rw[Yr RL];cases e3:w==[115,109,97,108,108]with
    |true=>rw[e3]at h3;exact bg h3 (ah (aa rfl))
    |false =>
     rw[e3]at h3;exact(aP h3).trans (ah (am (aa rfl) (ae _) rfl))
 exact aH (Ez _ _ _) rfl key (ax rfl)
theorem Am(hl:ru.length<=3):cf (n+2) 16 [.t (fz ru),.t x.t] m=.ok (.t (.lst ((rks ru x).map .int))) m:=by
 have hc:ev (cf (n+1)) gv qG [Zz (.t (fz ru)),Zz (.t x.t)] m=.ok (.t (.lst (ru.flatMap λw=>[T.int (rk w x)]))) m:=
  eh (emb:=T.str) ru (aa rfl) rfl (λw _=>⟨[Zz (.t (.str w)),Zz (.t x.t)],rfl,dw (bj ((az (aa rfl) (aa rfl)).trans E4))⟩) (by rw[aA,R1];unfold lim;omega)
 rw[aA]at hc;have e:(rks ru x).map T.int=(ru.map λw=>T.int (rk w x))++[.int x.no]:=by
  unfold rks;rw[Si,Rq];rfl
 rw[e];refine aH (Cr _ _ _) rfl (ah (aV hc (bF (af (am (aa rfl) (ae _) rfl) aq) rfl aR) (AD ?_))) (ax rfl);rw[R1,S3];unfold lim;omega
theorem xw(hl:ru.length<=3):∀us:List Wt,dP (λenv m=>ev (cf (n+2)) gv fk env m) [Zz (.t (fz ru))] (us.map Wt.t) m=.ok (us.map (rks ru)) m
 |[]=>rfl
 |u::us=>by
  have h:ev (cf (n+2)) gv fk [Zz (.t u.t),Zz (.t (fz ru))] m=.ok (.t (.lst ((rks ru u).map .int))) m:=(az (aa rfl) (aa rfl)).trans (Am hl);have hi:yF (.t (.lst ((rks ru u).map .int)))=Zz (rks ru u):=by
   show cn _=_;generalize rks ru u=ns
   induction ns with
   |nil=>rfl
   |cons n ns ih=>rw[RG,cn,ih];rfl
  rw[RG,dP,h,ai,hi];show(dP _ _ (us.map Wt.t) m).bind _=_;rw[xw hl us];rfl
theorem lK{α β γ:Type}(f:α->β)(g:α->γ):∀l:List α,(l.map f).zip (l.map g)=l.map λa=>(f a,g a)
 |[]=>rfl
 |a::l=>by rw[RG,RG,Us,lK f g l];rfl
theorem Ie{env:Env}{ws:List Wt}{w:W}{m0 m1:Mem}{it:E}(hl:ws.length<=30)(h1:ev (cf n) gv it env m=.ok w m0)(h2:aU w m0=.ok (ws.map Wt.t) m1)(h3:giveBack w m0 m1=m0):ev (cf n) gv (.comp 3 [] it (.tp [0,1,2]) .nil (.emit (.var 0))) env m=.ok (.t (il (ws.map (·.no)))) m0:=by
 have:=bN (own:=3) (keep:=[]) (tg:=.tp [0,1,2]) (cs:=.nil) (inner:=.emit (.var 0)) h1 h2 (cZ (m:=m1) (g:=λw:Wt=>[T.int w.no]) ws λw _=>⟨[Zz (.t (.int w.no)),Zz (.t w.e.off),Zz (.t (.int w.e.left))],rfl,dw (bj (aa rfl))⟩) (by rw[aA,R1];unfold lim;omega);rw[this,aA,h3];unfold il;rw[Rq];rfl
theorem Gh{us:List Wt}(hl:ru.length<=3)(hu:us.length<=30)(hn:(us.map (·.no)).Nodup):cf (n+3) 17 [.t (fz ru),.t (bU us)] m=.ok (.t (il ((dO ru us).map (·.no)))) m:=by
 have hs:ev (cf (n+2)) gv (.pF [0] (.var 1) fk) [Zz (.t (fz ru)),Zz (.t (bU us)),Zy] m=.ok (.t (bU (dO ru us))) m:=by
  rw[ev,aa rfl,ai];show(dP (λenv m=>ev (cf (n+2)) gv fk env m) [Zz (.t (fz ru))] (us.map Wt.t) m).bind _=_;rw[xw hl us];show eO (gG (us.map (rks ru)) (us.map Wt.t)) m=_;unfold gG;rw[Yq ⟨EO hn,by rw[R1];omega⟩,lK,wS,Rq];rfl
 have hlw:(dO ru us).length<=30:=by rw[(bD us).length_eq];exact hu
 have hc:ev (cf (n+2)) gv p7 [Zz (.t (fz ru)),Zz (.t (bU us)),Zz (.t (bU (dO ru us)))] m=.ok (.t (il ((dO ru us).map (·.no)))) m:=Ie hlw (aa rfl) rfl rfl;have key:ex (cf (n+2)) gv iz [Zz (.t (fz ru)),Zz (.t (bU us)),Zy] m=.ok (.ret (.t (il ((dO ru us).map (·.no))))) m:=by
  unfold iz;refine(aj hs).trans ?_;dsimp only[RU,RP];exact ah hc
 exact aH (zj _ _ _) rfl key (ax (cell:=false) rfl)
end
section
variable{ru:List (List Nat)}
theorem Aj(x:Wt):∀{l:List Wt},Sd ru l->l.take (l.countP λy=>aC (rks ru y) (rks ru x))++x::l.drop (l.countP λy=>aC (rks ru y) (rks ru x))=lE ru x l
 |[],_=>rfl
 |y::r,h=>by
  obtain⟨h1,h2⟩:=Rv.mp h;rw[lE,List.countP_cons];cases q:aC (rks ru y) (rks ru x)with
  |true =>
   rw[Yq rfl,Yq rfl,List.take_succ_cons,List.drop_succ_cons,Wr,Aj x h2]
  |false =>
   have:(r.countP λy=>aC (rks ru y) (rks ru x))=0:=by
    rw[List.countP_eq_zero];intro z hz e;exact Yv (dG (h1 z hz) (c9 e)) (by
     intro w;have:=dG (x:=rks ru x) (y:=rks ru y) (z:=rks ru z) q (h1 z hz);rw[e]at this;cases this)
   rw[this,Yr RL,Yr RL];rfl
end
section
variable{n:Nat}{m:Mem}{ru:List (List Nat)}{x y:Wt}
theorem Hi{w:List Nat}(hw:w∈four){z:Wt}{e0 e1 e2 e4 e5:Option W}:ev (cf n) gv (.blt .nj (.cons (.HW [[104,101,97,118,121],[103,114,101,97,116],[115,109,97,108,108],[115,111,111,110]] (.cons (.bin .Sub (.con (.int 0)) (.ix (.var 6) (.con (.int 5)))) (.cons (.bin .Sub (.con (.int 0)) (.var 7)) (.cons (.var 7) (.cons (.ix (.var 6) (.con (.int 6))) .nil))))) (.cons (.var 3) .nil))) [e0,e1,e2,Zz (.t (.str w)),e4,e5,Zz (.t z.e.off),Zz (.t (.int z.e.left))] m=.ok (.t (.int (rk w z))) m:=by
 have h1:ev (cf n) gv (.HW [[104,101,97,118,121],[103,114,101,97,116],[115,109,97,108,108],[115,111,111,110]] (.cons (.bin .Sub (.con (.int 0)) (.ix (.var 6) (.con (.int 5)))) (.cons (.bin .Sub (.con (.int 0)) (.var 7)) (.cons (.var 7) (.cons (.ix (.var 6) (.con (.int 6))) .nil))))) [e0,e1,e2,Zz (.t (.str w)),e4,e5,Zz (.t z.e.off),Zz (.t (.int z.e.left))] m =
   .ok (.t (.dct ([[104,101,97,118,121],[103,114,101,97,116],[115,109,97,108,108],[115,111,111,110]].map λk=>.inr ⟨k.toArray⟩) [.int (0-z.e.wt),.int (0-z.e.left),.int z.e.left,.int z.e.fN])) m:=by
  rw[ev,af (aV (ae _) (am (aa rfl) (ae _) rfl) (B1 _ _)) (af (aV (ae _) (aa rfl) (B1 _ _)) (af (aa rfl) (af (am (aa rfl) (ae _) rfl) aq)))];rfl
 have e:cM .nj [.dct ([[104,101,97,118,121],[103,114,101,97,116],[115,109,97,108,108],[115,111,111,110]].map λk=>.inr ⟨k.toArray⟩) [.int (0-z.e.wt),.int (0-z.e.left),.int z.e.left,.int z.e.fN],.str w]=Zz (.int (rk w z)):=by
  unfold four at hw;simp only[R5,RV,or_false]at hw;rcases hw with rfl|rfl|rfl|rfl
  ·exact congrArg (λi=>Zz (T.int i)) (Int.zero_sub _)
  ·exact congrArg (λi=>Zz (T.int i)) (Int.zero_sub _)
  ·rfl
  ·rfl
 exact l9 (af h1 (af (aa rfl) aq)) rfl e
theorem xX{w:List Nat}(hw:w∈four){z:Wt}{j:Nat}{xs:List T}{e0 e1 e2:Option W}(hj:m[j]?=Zz (Zz (false,xs)))(hl:xs.length<1000):
  ex (cf n) gv cY [e0,e1,e2,Zz (.t (.str w)),Zz (.c j),Zz (.t (.int z.no)),Zz (.t z.e.off),Zz (.t (.int z.e.left))] m=.ok (.next [e0,e1,e2,Zz (.t (.str w)),Zz (.c j),Zz (.t (.int z.no)),Zz (.t z.e.off),Zz (.t (.int z.e.left))]) (m.set j (Zz (false,xs++[.int (rk w z)]))):=by
 unfold cY;exact(fE (ku (.inl rfl) rfl hj (Hi hw) hj (Yq (by unfold lim;omega)))).trans aL
theorem EY{w:List Nat}(hw:w∈four){e0 e4 e5 e6 e7:Option W}:∃M f5 f6 f7,M=m++[Zz (false,[T.int (rk w x),.int (rk w y)])] /\
  ex (cf n) gv bT [e0,Zz (.t x.t),Zz (.t y.t),Zz (.t (.str w)),e4,e5,e6,e7] m=(if rk w x=rk w y then .ok (.next [e0,Zz (.t x.t),Zz (.t y.t),Zz (.t (.str w)),Zz (.c m.length),f5,f6,f7]) M else .ok (.ret (.t (.bl (decide (rk w x<rk w y))))) M):=by
 refine⟨_,Zz (.t (.int y.no)),Zz (.t y.e.off),Zz (.t (.int y.e.left)),rfl,?_⟩;have g:∀c:List T,(m++[Zz (false,c)])[m.length]?=Zz (Zz (false,c)):=λc=>cS
 have st:∀c d:List T,(m++[Zz (false,c)]).set m.length (Zz (false,d))=m++[Zz (false,d)]:=λc d=>nO
 unfold bT;refine(aj (w:=.c m.length) (m1:=m++[Zz (false,[])]) (by rw[ev,aq];rfl)).trans ?_;dsimp only[RU,RP];have hloop:aJ (ex (cf n) gv cY) (.tp [5,6,7]) [x.t,y.t] [e0,Zz (.t x.t),Zz (.t y.t),Zz (.t (.str w)),Zz (.c m.length),e5,e6,e7] (m++[Zz (false,[])])=.ok (.next [e0,Zz (.t x.t),Zz (.t y.t),Zz (.t (.str w)),Zz (.c m.length),Zz (.t (.int y.no)),Zz (.t y.e.off),Zz (.t (.int y.e.left))]) (m++[Zz (false,[T.int (rk w x),.int (rk w y)])]):=by
  rw[aJ];show(ex (cf n) gv cY [e0,Zz (.t x.t),Zz (.t y.t),Zz (.t (.str w)),Zz (.c m.length),Zz (.t (.int x.no)),Zz (.t x.e.off),Zz (.t (.int x.e.left))] _).bind _=_;rw[xX (xs:=[]) hw (g []) (by decide),ai,st];dsimp only;rw[aJ];show(ex (cf n) gv cY [e0,Zz (.t x.t),Zz (.t y.t),Zz (.t (.str w)),Zz (.c m.length),Zz (.t (.int y.no)),Zz (.t y.e.off),Zz (.t (.int y.e.left))] (m++[Zz (false,[T.int (rk w x)])])).bind _=_;rw[xX (xs:=[T.int (rk w x)]) hw (g _) (by show(1:Nat)<1000;decide),ai,st];rfl
 refine(bP (lm (aa rfl) (aa rfl)) rfl hloop).trans ?_;have q0:=gC (call:=cf n) (gv:=gv) (env:=[e0,Zz (.t x.t),Zz (.t y.t),Zz (.t (.str w)),Zz (.c m.length),Zz (.t (.int y.no)),Zz (.t y.e.off),Zz (.t (.int y.e.left))]) (c:=4) (k:=0) rfl (g [T.int (rk w x),.int (rk w y)]) (at0 _ _);have q1:=gC (call:=cf n) (gv:=gv) (env:=[e0,Zz (.t x.t),Zz (.t y.t),Zz (.t (.str w)),Zz (.c m.length),Zz (.t (.int y.no)),Zz (.t y.e.off),Zz (.t (.int y.e.left))]) (c:=4) (k:=1) rfl (g [T.int (rk w x),.int (rk w y)]) (at1 _ _ _);have hc:=au q0 q1 (xx _ _);by_cases he:rk w x=rk w y
 ·rw[Yq he]
  rw[show(!(rk w x==rk w y))=false by rw[he,beq_self_eq_true];rfl]at hc;exact(aP hc).trans aL
 ·rw[Yr he]
  rw[show(!(rk w x==rk w y))=true by rw[Yu.mpr he];rfl]at hc;exact bg hc (ah (au q0 q1 (yS _ _)))
theorem Ao{e0:Option W}{k:Nat}:∀(ru:List (List Nat)) (m:Mem) (e3 e4 e5 e6 e7:Option W),(∀w∈ru,w∈four)->k<=m.length ->
  (∃env' M,aJ (ex (cf n) gv bT) (.nm 3) (ru.map .str) [e0,Zz (.t x.t),Zz (.t y.t),e3,e4,e5,e6,e7] m=.ok (.next env') M/\env'[1]?=Zz (Zz (.t x.t))/\env'[2]?=Zz (Zz (.t y.t))/\M.take k=m.take k/\aC (rks ru x) (rks ru y)=decide (x.no<y.no)) ∨
  ∃M,aJ (ex (cf n) gv bT) (.nm 3) (ru.map .str) [e0,Zz (.t x.t),Zz (.t y.t),e3,e4,e5,e6,e7] m=.ok (.ret (.t (.bl (aC (rks ru x) (rks ru y))))) M/\M.take k=m.take k
 |[],m,e3,e4,e5,e6,e7,_,_=>.inl ⟨_,m,rfl,rfl,rfl,rfl,by
  show(if x.no=y.no then aC [] []else decide (x.no<y.no))=_;split
  ·rename_i h;rw[h];simp[aC]
  ·rfl⟩
 |w::ru,m,e3,e4,e5,e6,e7,hw,hk=>by
  obtain⟨M,f5,f6,f7,hM,h⟩:=EY (n:=n) (m:=m) (x:=x) (y:=y) (w:=w) (e0:=e0) (e4:=e4) (e5:=e5) (e6:=e6) (e7:=e7) (hw w R6);have tk:M.take k=m.take k:=by rw[hM,SK hk]
  have hk':k<=M.length:=by rw[hM,RI];omega
  have el:aC (rks (w::ru) x) (rks (w::ru) y)=if rk w x=rk w y then aC (rks ru x) (rks ru y)else decide (rk w x<rk w y):=rfl
  have st:aJ (ex (cf n) gv bT) (.nm 3) ((w::ru).map .str) [e0,Zz (.t x.t),Zz (.t y.t),e3,e4,e5,e6,e7] m=(ex (cf n) gv bT [e0,Zz (.t x.t),Zz (.t y.t),Zz (.t (.str w)),e4,e5,e6,e7] m).bind λfl m=>match fl with
   |.next env=>aJ (ex (cf n) gv bT) (.nm 3) (ru.map .str) env m
   |.ret w=>.ok (.ret w) m:=rfl
  rw[st,h,el];by_cases he:rk w x=rk w y
  ·rw[Yq he,Yq he,ai]
   rcases Ao ru M (Zz (.t (.str w))) (Zz (.c m.length)) f5 f6 f7 (λv hv=>hw v (R2 _ hv)) hk' with⟨env',M',q1,q2,q3,q4,q5⟩|⟨M',q1,q2⟩
   ·exact .inl ⟨env',M',q1,q2,q3,q4.trans tk,q5⟩
   ·exact .inr ⟨M',q1,q2.trans tk⟩
  ·rw[Yr he,Yr he,ai]
   exact .inr ⟨M,rfl,tk⟩
theorem Ed{call:Nat->List W->Mem->Res W}{gv:List T}{tg:Tg}{it:E}{body k:S}{env:Env}{m m0 m1 m2:Mem}{x:W}{ts:List T}{w:W}(h1:ev call gv it env m=.ok x m0)(h2:aU x m0=.ok ts m1)(h3:aJ (ex call gv body) tg ts env m1=.ok (.ret w) m2):
  ex call gv (.dJ tg it body k) env m=.ok (.ret w) (giveBack x m0 m2):=by
 rw[ex,h1];show(aU x m0).bind _=_;rw[h2];show(aJ (ex call gv body) tg ts env m1).bind _=_;rw[h3];rfl
theorem zL(hw:∀w∈ru,w∈four):cf (n+1) 33 [.t (fz ru),.t x.t,.t y.t] m=.ok (.t (.bl (aC (rks ru x) (rks ru y)))) m:=by
 have key:∃M,ex (cf n) gv gg [Zz (.t (fz ru)),Zz (.t x.t),Zz (.t y.t),Zy,Zy,Zy,Zy,Zy] m=.ok (.ret (.t (.bl (aC (rks ru x) (rks ru y))))) M/\M.take m.length=m:=by
  unfold gg;rcases Ao (n:=n) (x:=x) (y:=y) (e0:=Zz (.t (fz ru))) (k:=m.length) ru m Zy Zy Zy Zy Zy hw (RC _)with⟨env',M,q1,q2,q3,q4,q5⟩|⟨M,q1,q2⟩
  ·refine⟨M,(bP (aa rfl) rfl q1).trans ?_,q4.trans VE⟩
   rw[q5];exact ah (au (am (aa q2) (ae _) rfl) (am (aa q3) (ae _) rfl) (yS _ _))
  ·exact⟨M,Ed (x:=.t (fz ru)) (m0:=m) (m1:=m) (aa rfl) rfl q1,q2.trans VE⟩
 obtain⟨M,h1,h2⟩:=key;refine aH (wi _ _ _) rfl h1 ?_;show Res.ok _ (M.take m.length)=_;rw[h2]
theorem uG{α:Type}(p:α->Bool)(F:α->T)(l:List α):(l.flatMap λa=>if p a then[F a]else[]).length=l.countP p:=by
 rw[bG,R1,List.countP_eq_length_filter]
theorem CS{fs:List Wt}{e1 e4:Option W}(hw:∀w∈ru,w∈four)(hs:Sd ru fs)(hl:fs.length<=30):∃f4,
  ex (cf (n+1)) gv iw [Zz (.t (fz ru)),e1,Zz (.c m.length),Zz (.t x.t),e4] (m++[Zz (false,fs.map Wt.t)])=.ok (.next [Zz (.t (fz ru)),e1,Zz (.c m.length),Zz (.t x.t),f4]) (m++[Zz (false,(lE ru x fs).map Wt.t)]):=by
 have hc:ev (cf (n+1)) gv uE [Zz (.t (fz ru)),e1,Zz (.c m.length),Zz (.t x.t),e4] (m++[Zz (false,fs.map Wt.t)])=.ok (.t (.lst (fs.flatMap λy=>if aC (rks ru y) (rks ru x)then[y.t]else[]))) (m++[Zz (false,fs.map Wt.t)]):=by
  refine HZ (emb:=Wt.t) fs (aa rfl) cS (λz _=>⟨[Zz (.t z.t),Zz (.t (fz ru)),Zz (.t x.t)],rfl,λm'=>?_⟩) (by rw[uG];exact Ro List.countP_le_length (Ro hl (by decide)));have ht:ev (cf (n+1)) gv (.call 33 (.cons (.var 1) (.cons (.var 0) (.cons (.var 2) .nil)))) [Zz (.t z.t),Zz (.t (fz ru)),Zz (.t x.t)] m'=.ok (.t (.bl (aC (rks ru z) (rks ru x)))) m':=(iI (aa rfl) (aa rfl) (aa rfl)).trans (zL hw);cases h:aC (rks ru z) (rks ru x)with
  |true=>rw[h]at ht;exact kj ht (bj (aa rfl))
  |false=>rw[h]at ht;exact kg ht
 refine⟨Zz (.t (.int (fs.countP λy=>aC (rks ru y) (rks ru x):Nat))),?_⟩;unfold iw;refine(aj (aK hc (by rw[xG,uG]))).trans ?_;dsimp only[RU,RP];have hcl:(fs.countP λy=>aC (rks ru y) (rks ru x))<=fs.length:=List.countP_le_length;have hu:ki .insert (fs.map Wt.t) [.int (fs.countP λy=>aC (rks ru y) (rks ru x):Nat),x.t]=Zz (.non,(lE ru x fs).map Wt.t):=by
  show(if 0<=((fs.countP λy=>aC (rks ru y) (rks ru x):Nat):Int)/\((fs.countP λy=>aC (rks ru y) (rks ru x):Nat):Int)<=(fs.map Wt.t).length/\(fs.map Wt.t).length<lim then Zz (T.non,(fs.map Wt.t).take ((fs.countP λy=>aC (rks ru y) (rks ru x):Nat):Int).toNat++x.t::(fs.map Wt.t).drop ((fs.countP λy=>aC (rks ru y) (rks ru x):Nat):Int).toNat)else Zy)=_;rw[Yq ⟨by omega,by rw[R1];omega,by rw[R1];unfold lim;omega⟩,T8,<-Aj x hs,Si,RG,List.map_take,List.map_drop]
 refine(fE (w:=.t .non) (m1:=m++[Zz (false,(lE ru x fs).map Wt.t)]) ?_).trans aL;rw[ev,aa rfl,ai];have ht:Ad .insert (.c m.length) (m++[Zz (false,fs.map Wt.t)])=true:=by
  unfold Ad;dsimp only;rw[cS]
 rw[Yq ht,af (aa rfl) (af (aa rfl) aq),ai];show(match(m++[Zz (false,fs.map Wt.t)])[m.length]? with
   |some (Zz (false,xs))=>match ki .insert xs [.int (fs.countP λy=>aC (rks ru y) (rks ru x):Nat),x.t]with
    |some (t,ys)=>Res.ok (W.t t) ((m++[Zz (false,fs.map Wt.t)]).set m.length (Zz (false,ys)))
    |none=>.stuck
   |_=>.stuck)=_
 rw[cS];dsimp only;rw[hu];dsimp only;rw[nO]
theorem t6{e1:Option W}(hw:∀w∈ru,w∈four):∀(us fs:List Wt) (e3 e4:Option W),Sd ru fs->fs.length+us.length<=30->∃env' gs,
  aJ (ex (cf (n+1)) gv iw) (.nm 3) (us.map Wt.t) [Zz (.t (fz ru)),e1,Zz (.c m.length),e3,e4] (m++[Zz (false,fs.map Wt.t)])=.ok (.next env') (m++[Zz (false,gs.map Wt.t)])/\env'[2]?=Zz (Zz (.c m.length))/\Sd ru gs/\gs.Perm (us++fs)
 |[],fs,e3,e4,hs,_=>⟨_,fs,rfl,rfl,hs,.refl _⟩
 |u::us,fs,e3,e4,hs,hl=>by
  rw[Rp]at hl;obtain⟨f4,h1⟩:=CS (n:=n) (m:=m) (x:=u) (e1:=e1) (e4:=e4) hw hs (by omega);have hp:=iR (ru:=ru) u fs;obtain⟨env',gs,h2,h3,h4,h5⟩:=t6 hw us (lE ru u fs) (Zz (.t u.t)) f4 (sU u hs) (by rw[hp.length_eq,Rp];omega);refine⟨env',gs,?_,h3,h4,h5.trans ((hp.append_left us).trans List.perm_middle)⟩;rw[RG,aJ];show(ex (cf (n+1)) gv iw [Zz (.t (fz ru)),e1,Zz (.c m.length),Zz (.t u.t),e4] (m++[Zz (false,fs.map Wt.t)])).bind _=_;rw[h1];exact h2
theorem yn{m:Mem}{j:Nat}{xs:List T}(hj:m[j]?=Zz (Zz (false,xs))):aU (.c j) m=.ok xs (m.set j (Zz (true,xs)))/\giveBack (.c j) m (m.set j (Zz (true,xs)))=m:=by
 constructor
 ·unfold aU
  dsimp only;rw[hj]
 ·unfold giveBack
  dsimp only;rw[hj];show(m.set j (Zz (true,xs))).set j (Zz (false,xs))=m;rw[Y5];obtain⟨h1,h2⟩:=RA.mp hj;rw[<-h2];exact List.set_getElem_self h1
theorem DF{us:List Wt}(hw:∀w∈ru,w∈four)(hu:us.length<=30)(hn:(us.map (·.no)).Nodup):cf (n+2) 34 [.t (fz ru),.t (bU us)] m=.ok (.t (il ((dO ru us).map (·.no)))) m:=by
 obtain⟨env',gs,h1,h2,h3,h4⟩:=t6 (n:=n) (m:=m) (e1:=Zz (.t (bU us))) hw us [] Zy Zy .nil (by simpa using hu);rw[SZ]at h4;obtain rfl:gs=dO ru us:=Hz hn h4 (bD us) h3 (pr us);obtain⟨b1,b2⟩:=yn (cS (m:=m) (c:=Zz (false,(dO ru us).map Wt.t)));have key:ex (cf (n+1)) gv pT [Zz (.t (fz ru)),Zz (.t (bU us)),Zy,Zy,Zy] m=.ok (.ret (.t (il ((dO ru us).map (·.no))))) (m++[Zz (false,(dO ru us).map Wt.t)]):=by
  unfold pT;refine(aj (w:=.c m.length) (m1:=m++[Zz (false,[])]) (by rw[ev,aq];rfl)).trans ?_;dsimp only[RU,RP];refine(bP (aa rfl) rfl h1).trans ?_;exact ah (Ie (by rw[(bD us).length_eq];exact hu) (aa h2) b1 b2)
 refine aH (D6 _ _ _) rfl key ?_;show Res.ok _ ((m++[Zz (false,(dO ru us).map Wt.t)]).take m.length)=_;rw[WD rfl]
end
end My
set_option maxRecDepth 20000
namespace Mi
theorem ik:∀x:List Int,aC x x=false
 |[]=>rfl
 |a::x=>by rw[aC,Yq rfl,ik x]
end Mi
namespace My
open Mi
noncomputable def pK(f:Int->Int)(a:Int):List Int->List Int
 |[]=>[a]
 |b::r=>if f b<f a then b::pK f a r else a::b::r
noncomputable def jL(f:Int->Int)(x:List Int):List Int:=x.foldr (pK f) []
noncomputable def keyB(f:Int->Int)(x:List Int):List Int:=(jL f x).map f
section
variable{f g:Int->Int}
theorem qI(a:Int):∀l:List Int,(pK f a l).Perm (a::l)
 |[]=>TZ _
 |b::r=>by
  unfold pK;split
  ·exact((qI a r).cons b).trans (WQ a b r)
  ·exact TZ _
theorem cy:∀x:List Int,(jL f x).Perm x
 |[]=>TZ _
 |a::x=>(qI a (jL f x)).trans ((cy x).cons a)
theorem GV(a b:Int):aC [a] [b]=decide (a<b):=by
 unfold aC;by_cases h:a=b
 ·rw[Yq h,h];simp[aC]
 ·rw[Yr h]
theorem CZ(a:Int):∀l:List Int,insI [f a] (l.map λb=>[f b])=(pK f a l).map λb=>[f b]
 |[]=>rfl
 |b::r=>by
  rw[RG,insI,GV,pK];by_cases h:f b<f a
  ·rw[Yq h,Yq (Yt h),CZ a r];rfl
  ·rw[Yr h,Yr (by simpa using h)];rfl
theorem x8:∀x:List Int,sortI (x.map λb=>[f b])=(jL f x).map λb=>[f b]
 |[]=>rfl
 |a::x=>by
  show insI [f a] (sortI (x.map λb=>[f b]))=_;rw[x8 x,CZ];rfl
theorem yd{a:Int}:∀l:List Int,(∀b∈l,f b<f a↔g b<g a)->pK f a l=pK g a l
 |[],_=>rfl
 |b::r,h=>by
  unfold pK;have:=h b R6;by_cases c:f b<f a
  ·rw[Yq c,Yq (this.mp c),yd r λb hb=>h b (R2 _ hb)]
  ·rw[Yr c,Yr (λz=>c (this.mpr z))]
theorem pG:∀x:List Int,(∀a∈x,∀b∈x,f a<f b↔g a<g b)->jL f x=jL g x
 |[],_=>rfl
 |a::x,h=>by
  show pK f a (jL f x)=pK g a (jL g x);rw[pG x λc hc b hb=>h c (R2 _ hc) b (R2 _ hb)];exact yd _ λb hb=>h b (R2 _ ((cy x).mem_iff.mp hb)) a R6
theorem Cy:∀u v:List Int,(∀a∈u,∀b∈v,(f a<f b↔g a<g b)/\(f b<f a↔g b<g a))->aC (u.map f) (v.map f)=aC (u.map g) (v.map g)
 |[],[],_=>rfl
 |[],_::_,_=>rfl
 |_::_,[],_=>rfl
 |a::u,b::v,h=>by
  rw[RG,RG,RG,RG,aC,aC];obtain⟨h1,h2⟩:=h a R6 b R6;by_cases c:f a=f b
  ·have d:g a=g b:=by omega
   rw[Yq c,Yq d];exact Cy u v λa ha b hb=>h a (R2 _ ha) b (R2 _ hb)
  ·have d:¬g a=g b:=by omega
   rw[Yr c,Yr d];exact decide_eq_decide.mpr h1
theorem G0{x y:List Int}(h:∀a∈x++y,∀b∈x++y,f a<f b↔g a<g b):aC (keyB f x) (keyB f y)=aC (keyB g x) (keyB g y):=by
 unfold keyB;rw[pG x λa ha b hb=>h a (Sn _ ha) b (Sn _ hb),pG y λa ha b hb=>h a (Sa _ ha) b (Sa _ hb)];refine Cy _ _ λa ha b hb=>?_
 have ha:=Sn y ((cy x).mem_iff.mp ha);have hb:=Sa x ((cy y).mem_iff.mp hb);exact⟨h a ha b hb,h b hb a ha⟩
theorem tN:∀{u v:List Int},(∀a∈u,∀b∈v,f a=f b->a=b)->u.map f=v.map f->u=v
 |[],[],_,_=>rfl
 |[],_::_,_,h=>by cases h
 |_::_,[],_,h=>by cases h
 |a::u,b::v,hi,h=>by
  rw[RG,RG,List.cons.injEq]at h;rw[hi a R6 b R6 h.1,tN (λa ha b hb=>hi a (R2 _ ha) b (R2 _ hb)) h.2]
theorem BA{x y:List Int}(hi:∀a∈x,∀b∈y,f a=f b->a=b)(h:keyB f x=keyB f y):x.Perm y:=by
 have e:jL f x=jL f y:=tN (λa ha b hb=>hi a ((cy x).mem_iff.mp ha) b ((cy y).mem_iff.mp hb)) h;exact(cy x).symm.trans (by rw[e];exact cy y)
end
noncomputable def row(ru:List (List Nat))(ws:List Wt):List Int:=(dO ru ws).map (·.no)
noncomputable def pos(ru:List (List Nat))(ws:List Wt)(x:Int):Int:=((row ru ws).idxOf x:Int)
section
variable{ru:List (List Nat)}{ws:List Wt}
theorem xI:∀{L:List Wt},Sd ru L->(L.map (·.no)).Nodup->∀v∈L,∀w∈L,((L.map (·.no)).idxOf v.no<(L.map (·.no)).idxOf w.no↔aC (rks ru v) (rks ru w)=true)
 |[],_,_,v,hv,_,_=>by cases hv
 |a::L,hs,hn,v,hv,w,hw=>by
  rw[RG]at hn ⊢;obtain⟨n1,n2⟩:=Ss.mp hn;obtain⟨s1,s2⟩:=Rv.mp hs;have ne:∀u∈L,a.no≠u.no:=λu hu e=>n1 (RS.mpr ⟨u,hu,e.symm⟩)
  rw[List.idxOf_cons,List.idxOf_cons];rcases R5.mp hv with rfl|hv1<;>rcases R5.mp hw with rfl|hw1
  ·rw[ik];simp
  ·have h1:=ne w hw1
   have h2:aC (rks ru v) (rks ru w)=true:=by
    cases q:aC (rks ru v) (rks ru w)with
    |true=>rfl
    |false=>exact Yv (sG (cQ q (s1 w hw1))) h1
   rw[h2,beq_self_eq_true,show(v.no==w.no)=false by simpa using h1];simp
  ·have h1:=ne v hv1
   rw[s1 v hv1,beq_self_eq_true,show(w.no==v.no)=false by simpa using h1];simp
  ·rw[show(a.no==v.no)=false by simpa using ne v hv1,show(a.no==w.no)=false by simpa using ne w hw1]
   have:=xI s2 n2 v hv1 w hw1;simpa using this
theorem vS(hn:(ws.map (·.no)).Nodup):((dO ru ws).map (·.no)).Nodup:=((bD ws).map _).nodup_iff.mpr hn
theorem tj(hn:(ws.map (·.no)).Nodup){v w:Wt}(hv:v∈ws)(hw:w∈ws):pos ru ws v.no<pos ru ws w.no↔aC (rks ru v) (rks ru w)=true:=by
 have:=xI (pr (ru:=ru) ws) (vS hn) v ((bD ws).mem_iff.mpr hv) w ((bD ws).mem_iff.mpr hw);rw[<-this];unfold pos row;exact Int.ofNat_lt
theorem xe(hn:(ws.map (·.no)).Nodup){v w:Wt}(hv:v∈ws)(hw:w∈ws)(h:pos ru ws v.no=pos ru ws w.no):v.no=w.no:=by
 have h1:=tj (ru:=ru) hn hv hw;have h2:=tj (ru:=ru) hn hw hv;rw[h]at h1 h2;cases a:aC (rks ru v) (rks ru w)with
 |true=>exact Yv (h1.mpr a) (Int.lt_irrefl _)
 |false =>
  cases b:aC (rks ru w) (rks ru v)with
  |true=>exact Yv (h2.mpr b) (Int.lt_irrefl _)
  |false=>exact sG (cQ a b)
end
def Num(ws:List Wt)(x:List Int):Prop:=∀a∈x,∃w∈ws,w.no=a
theorem cB{bn:List (List Nat)}{ws:List Wt}{x:List Int}(h:lG bn ws x):Num ws x:=by
 obtain⟨v,hv,w,hw,_,_,_,h⟩:=h;rcases h with⟨_,u,hu,_,_,rfl⟩|⟨_,rfl⟩<;>intro a ha<;>simp only[R5,RV,or_false]at ha
 ·rcases ha with rfl|rfl|rfl
  ·exact⟨v,hv,rfl⟩
  ·exact⟨w,hw,rfl⟩
  ·exact⟨u,hu,rfl⟩
 ·rcases ha with rfl|rfl
  ·exact⟨v,hv,rfl⟩
  ·exact⟨w,hw,rfl⟩
noncomputable def key(ru:List (List Nat))(ws:List Wt)(x:List Int):List Int:=keyB (pos ru ws) x
noncomputable def II:Ent:=⟨[],[],[],[],[],.non,0,0,0,0,0⟩
noncomputable def dY(ws:List Wt)(a:Int):Ent:=match ws.find? (λw=>w.no==a)with
 |some w=>w.e
 |none=>II
noncomputable def ii(ws:List Wt)(x:List Int):Int:=qg (x.map (dY ws))
theorem fM{ws:List Wt}(hn:(ws.map (·.no)).Nodup){w:Wt}(hw:w∈ws):dY ws w.no=w.e:=by
 unfold dY;cases h:ws.find? (λv=>v.no==w.no)with
 |none =>
  have:=List.find?_eq_none.mp h w hw;simp at this
 |some v =>
  have h1:=List.find?_some h;have h2:=List.mem_of_find?_eq_some h;rw[iK hn h2 hw (by simpa using h1)]
def FS(ru bn:List (List Nat))(ws:List Wt):Option (List Int×Int)->Prop
 |none=>∀x,lG bn ws x->¬0<ii ws x
 |some (x,k)=>lG bn ws x/\0<ii ws x/\k=ii ws x/\∀y,lG bn ws y->0<ii ws y->aC (key ru ws y) (key ru ws x)=false
section
variable{ru bn:List (List Nat)}{ws us:List Wt}
theorem ei{v w:Wt}(hn:(ws.map (·.no)).Nodup)(hv:v∈ws)(hw:w∈ws)(h:v.e.sd≠w.e.sd):v.no≠w.no:=λe=>h (by rw[iK hn hv hw e])
theorem Bv(hn:(ws.map (·.no)).Nodup){x y:List Int}(hx:lG bn ws x)(hy:lG bn ws y)(h:x.Perm y):x=y:=by
 obtain⟨v,hv,w,hw,a1,a2,a3,hx⟩:=hx;obtain⟨v',hv',w',hw',b1,b2,b3,hy⟩:=hy;have gt:bw≠bA:=by decide
 have gb:bw≠bR:=by decide
 have tb:bA≠bR:=by decide
 have e1:v.no≠w'.no:=ei hn hv hw' (by rw[a1,b2];exact gt);have e2:w.no≠v'.no:=ei hn hw hv' (by rw[a2,b1];exact gt.symm);rcases hx with⟨_,u,hu,c1,c2,rfl⟩|⟨_,rfl⟩<;>rcases hy with⟨_,u',hu',d1,d2,rfl⟩|⟨_,rfl⟩
 ·have e3:v.no≠u'.no:=ei hn hv hu' (by rw[a1,d2];exact gb)
  have e4:w.no≠u'.no:=ei hn hw hu' (by rw[a2,d2];exact tb);have e5:u.no≠v'.no:=ei hn hu hv' (by rw[c2,b1];exact gb.symm);have e6:u.no≠w'.no:=ei hn hu hw' (by rw[c2,b2];exact tb.symm);have m1:v.no∈[v'.no,w'.no,u'.no]:=h.mem_iff.mp (by simp);have m2:w.no∈[v'.no,w'.no,u'.no]:=h.mem_iff.mp (by simp);have m3:u.no∈[v'.no,w'.no,u'.no]:=h.mem_iff.mp (by simp);simp only[R5,RV,or_false,e1,e2,e3,e4,e5,e6,false_or]at m1 m2 m3;rw[m1,m2,m3]
 ·have:=h.length_eq
  cases this
 ·have:=h.length_eq
  cases this
 ·have m1:v.no∈[v'.no,w'.no]:=h.mem_iff.mp (by simp)
  have m2:w.no∈[v'.no,w'.no]:=h.mem_iff.mp (by simp);simp only[R5,RV,or_false,e1,e2,false_or]at m1 m2;rw[m1,m2]
theorem xE(hn:(ws.map (·.no)).Nodup){x y:List Int}(hx:lG bn ws x)(hy:lG bn ws y)(h:key ru ws x=key ru ws y):x=y:=by
 refine Bv hn hx hy (BA (f:=pos ru ws) (λa ha b hb e=>?_) h);obtain⟨v,hv,rfl⟩:=cB hx a ha;obtain⟨w,hw,rfl⟩:=cB hy b hb;exact xe hn hv hw e
theorem FS.AS(hn:(ws.map (·.no)).Nodup):∀{r r':Option (List Int×Int)},FS ru bn ws r->FS ru bn ws r'->r=r'
 |none,Zy,_,_=>rfl
 |none,Zz (x,k),h,⟨h1,h2,_⟩=>Yv h2 (h x h1)
 |some (x,k),Zy,⟨h1,h2,_⟩,h=>Yv h2 (h x h1)
 |some (x,k),Zz (y,l),⟨a1,a2,a3,a4⟩,⟨b1,b2,b3,b4⟩=>by
  have e:=xE hn a1 b1 (cQ (b4 x a1 a2) (a4 y b1 b2));subst e;rw[a3,b3]
theorem xQ(hs:∀w∈us,w∈ws){x:List Int}(h:lG bn us x):lG bn ws x:=by
 obtain⟨v,hv,w,hw,a1,a2,a3,h⟩:=h;refine⟨v,hs v hv,w,hs w hw,a1,a2,a3,?_⟩;rcases h with⟨k,u,hu,h⟩|h
 ·exact .inl ⟨k,u,hs u hu,h⟩
 ·exact .inr h
theorem GZ(hn:(ws.map (·.no)).Nodup)(hs:∀w∈us,w∈ws){x:List Int}(h:lG bn ws x)(hx:Num us x):lG bn us x:=by
 have back:∀w∈ws,w.no∈x->w∈us:=λw hw h=>by
  obtain⟨u,hu,e⟩:=hx _ h;rw[<-iK hn (hs u hu) hw e];exact hu
 obtain⟨v,hv,w,hw,a1,a2,a3,h⟩:=h;rcases h with⟨k,u,hu,c1,c2,rfl⟩|⟨k,rfl⟩
 ·exact⟨v,back v hv (by simp),w,back w hw (by simp),a1,a2,a3,.inl ⟨k,u,back u hu (by simp),c1,c2,rfl⟩⟩
 ·exact⟨v,back v hv (by simp),w,back w hw (by simp),a1,a2,a3,.inr ⟨k,rfl⟩⟩
theorem nI(hn:(ws.map (·.no)).Nodup)(hn':(us.map (·.no)).Nodup)(hs:∀w∈us,w∈ws){x:List Int}(hx:Num us x):ii us x=ii ws x:=by
 unfold ii;refine congrArg qg (Ud λa ha=>?_);obtain⟨w,hw,rfl⟩:=hx a ha;rw[fM hn' hw,fM hn (hs w hw)]
theorem EH(hn:(ws.map (·.no)).Nodup)(hn':(us.map (·.no)).Nodup)(hs:∀w∈us,w∈ws){x y:List Int}(hx:Num us x)(hy:Num us y):aC (key ru us x) (key ru us y)=aC (key ru ws x) (key ru ws y):=by
 refine G0 λa ha b hb=>?_
 have num:∀a∈x++y,∃w∈us,w.no=a:=λa ha=>by
  rcases RN.mp ha with h|h
  ·exact hx a h
  ·exact hy a h
 obtain⟨v,hv,rfl⟩:=num a ha;obtain⟨w,hw,rfl⟩:=num b hb;rw[tj hn' hv hw,tj hn (hs v hv) (hs w hw)]
theorem FS.sub(hn:(ws.map (·.no)).Nodup)(hn':(us.map (·.no)).Nodup)(hs:∀w∈us,w∈ws):∀{r:Option (List Int×Int)},FS ru bn ws r->(∀x k,r=Zz (x,k)->Num us x)->FS ru bn us r
 |none,h,_=>λx hx hp=>h x (xQ hs hx) (by rw[<-nI hn hn' hs (cB hx)];exact hp)
 |some (x,k),⟨h1,h2,h3,h4⟩,hx=>by
  have nx:=hx x k rfl;refine⟨GZ hn hs h1 nx,by rw[nI hn hn' hs nx];exact h2,by rw[nI hn hn' hs nx];exact h3,λy hy hp=>?_⟩;rw[EH hn hn' hs (cB hy) nx];exact h4 y (xQ hs hy) (by rw[<-nI hn hn' hs (cB hy)];exact hp)
end
theorem Ck{α:Type}{f:α->Int}:∀{as:List α},(as.map f).Nodup->∀{a b:α},a∈as->b∈as->f a=f b->a=b
 |[],_,_,_,h,_,_=>by cases h
 |c::as,hn,a,b,ha,hb,e=>by
  rw[RG,Ss]at hn;rcases R5.mp ha with h1|h1<;>rcases R5.mp hb with h2|h2
  ·rw[h1,h2]
  ·exact Yv (RS.mpr ⟨b,h2,by rw[<-e,h1]⟩) hn.1
  ·exact Yv (RS.mpr ⟨a,h1,by rw[e,h2]⟩) hn.1
  ·exact Ck hn.2 h1 h2 e
noncomputable def Do{α:Type}(f:α->Int)(g:α->T)(as:List α):T:=.dct (as.map λa=>.inl (f a)) (as.map g)
section
variable{α:Type}{f:α->Int}{g:α->T}
theorem yf:∀as:List α,jO (as.flatMap λa=>[T.int (f a),g a])=Zz (as.map λa=>.inl (f a),as.map g)
 |[]=>rfl
 |a::as=>by
  rw[T9];show jO (T.int (f a)::g a::as.flatMap λa=>[T.int (f a),g a])=_;rw[jO,yf as];rfl
theorem ye{as:List α}(hn:(as.map f).Nodup)(hl:as.length<=1000):cM .q6 [.lst (as.flatMap λa=>[T.int (f a),g a])]=Zz (Do f g as):=by
 show pB (as.flatMap λa=>[T.int (f a),g a])=_;unfold pB;rw[yf];refine Yq ⟨?_,by rw[R1];exact hl⟩;have:=o7 (f:=λi:Int=>(VA i:L2.Key)) hn λa b e=>Y9 e
 rw[Rq]at this;exact this
theorem vJ{as:List α}(hn:(as.map f).Nodup){a:α}(ha:a∈as):cM .nj [Do f g as,.int (f a)]=Zz (g a):=by
 show iC (as.map λa=>.inl (f a)) (as.map g) (.inl (f a))=_;unfold iC;rw[lK,List.find?_map];cases h:as.find? ((λp:L2.Key×T=>decide (p.1=VA (f a))) ∘ λa=>(VA (f a),g a))with
 |none =>
  have:=List.find?_eq_none.mp h a ha;simp at this
 |some b =>
  have h1:=List.find?_some h;have h2:=List.mem_of_find?_eq_some h;have h3:f b=f a:=by simpa using h1
  rw[Ck hn h2 ha h3];rfl
end
theorem tF{call:Nat->List W->Mem->Res W}{gv:List T}{env:Env}{m:Mem}{a b:E}{i:Int}{u:T}(h1:ev call gv a env m=.ok (.t (.int i)) m)(h2:ev call gv b env m=.ok (.t u) m):ev call gv (.jI a b) env m=.ok (.t (.lst [.int i,u])) m:=by
 rw[ev,h1,ai,h2,ai];rfl
noncomputable def bv(ws:List Wt):T:=Do (·.no) (·.e.t) ws
noncomputable def bV(r:List Int):T:=Do (λp:Nat×Int=>p.2) (λp=>.int (p.1:Int)) ((Rf r.length).zip r)
noncomputable def yH{α:Type}(k:α->List Int)(x:α):List α->List α
 |[]=>[x]
 |y::r=>if aC (k y) (k x)then y::yH k x r else x::y::r
noncomputable def pn{α:Type}(k:α->List Int)(xs:List α):List α:=xs.foldr (yH k) []
section
variable{α:Type}{k:α->List Int}{t:α->T}
theorem rC(x:α):∀l:List α,(yH k x l).Perm (x::l)
 |[]=>TZ _
 |y::r=>by
  unfold yH;split
  ·exact((rC x r).cons y).trans (WQ x y r)
  ·exact TZ _
theorem oM:∀x:List α,(pn k x).Perm x
 |[]=>TZ _
 |a::x=>(rC a (pn k x)).trans ((oM x).cons a)
theorem BC(x:α):∀l:List α,nu (k x,t x) (l.map λy=>(k y,t y))=(yH k x l).map λy=>(k y,t y)
 |[]=>rfl
 |y::r=>by
  rw[RG,nu,yH];cases h:aC (k y) (k x)with
  |true=>rw[Yq rfl,Yq rfl,BC x r];rfl
  |false=>rw[Yr RL,Yr RL];rfl
theorem th:∀xs:List α,iM (xs.map λy=>(k y,t y))=(pn k xs).map λy=>(k y,t y)
 |[]=>rfl
 |a::x=>by
  show nu (k a,t a) (iM (x.map λy=>(k y,t y)))=_;rw[th x,BC];rfl
theorem B9(xs:List α):(pn k xs).Pairwise λa b=>aC (k b) (k a)=false:=by
 have h:=oV (xs.map λy=>(k y,T.non));rw[th (t:=λ_=>T.non)]at h;exact SN.mp h
end
noncomputable def resT:Option (List Int×Int)->T
 |none=>.non
 |some (x,k)=>.tup [aw x,.int k]
section
variable{n:Nat}{m:Mem}{ru bn:List (List Nat)}{ws:List Wt}
theorem qr(hu:ws.length<=30)(hn:(ws.map (·.no)).Nodup):cf (n+1) 20 [.t (bU ws)] m=.ok (.t (bv ws)) m:=by
 have hc:ev (cf n) gv iP [Zz (.t (bU ws))] m=.ok (.t (.lst (ws.flatMap λw=>[T.int w.no,w.e.t]))) m:=by
  refine eh ws (aa rfl) rfl (λw _=>⟨[Zz (.t (.int w.no)),Zz (.t w.e.off),Zz (.t (.int w.e.left))],rfl,dw (tF (aa rfl) (dq (aa rfl) (aa rfl)))⟩) ?_;have:=fP (l:=ws) (f:=λw:Wt=>[T.int w.no,w.e.t]) (c:=2) λ_ _=>RC _
  unfold lim;omega
 exact aH (qx _ _ _) rfl (ah (aK hc (ye hn (by omega)))) (ax (cell:=false) rfl)
theorem yk(r:List Int):hH (r.map .int)=((Rf r.length).zip r).map λp=>T.tup [.int (p.1:Int),.int p.2]:=by
 unfold hH;rw[R1,List.zip_eq_zipWith,List.map_zipWith,List.zipWith_map_right]
theorem xi(r:List Int):((Rf r.length).zip r).map (λp=>p.2)=r:=List.map_snd_zip (by rw[UR];exact RC _)
theorem zI{e0 e1 e2 e3 e4 e5 e6 e7:Option W}{r:List Int}(h1:e0=Zz (.t (fz ru)))(h2:e2=Zz (.t (bU ws)))(hl:ru.length<=3)(hu:ws.length<=30)(hn:(ws.map (·.no)).Nodup):
  ev (cf (n+3)) gv (.blt .q6 (.cons dm .nil)) [e0,e1,e2,e3,e4,e5,e6,e7] m=.ok (.t (bV (row ru ws))) m:=by
 subst h1 h2;have hlen:(row ru ws).length<=30:=by
  unfold row;rw[R1,(bD ws).length_eq];exact hu
 have hz:((Rf (row ru ws).length).zip (row ru ws)).length<=30:=by
  rw[TP];omega
 have hrow:ev (cf (n+3)) gv (.call 17 (.cons (.var 0) (.cons (.var 2) .nil))) [Zz (.t (fz ru)),e1,Zz (.t (bU ws)),e3,e4,e5,e6,e7] m=.ok (.t (il (row ru ws))) m:=(az (aa rfl) (aa rfl)).trans (Gh (n:=n) hl (by omega) hn);have hc:ev (cf (n+3)) gv dm [Zz (.t (fz ru)),e1,Zz (.t (bU ws)),e3,e4,e5,e6,e7] m=.ok (.t (.lst (((Rf (row ru ws).length).zip (row ru ws)).flatMap λp=>[T.int p.2,.int (p.1:Int)]))) m:=by
  refine eh ((Rf (row ru ws).length).zip (row ru ws)) (emb:=λp=>T.tup [.int (p.1:Int),.int p.2]) (x:=.lst (hH ((row ru ws).map .int))) (aK (Fd hrow) (Yq (by rw[R1];unfold lim;omega))) (by rw[yk];rfl) (λp _=>⟨[Zz (.t (.int (p.1:Int))),Zz (.t (.int p.2))],rfl,dw (tF (aa rfl) (aa rfl))⟩) ?_;have:=fP (l:=(Rf (row ru ws).length).zip (row ru ws)) (f:=λp:Nat×Int=>[T.int p.2,.int (p.1:Int)]) (c:=2) λ_ _=>RC _
  unfold lim;omega
 exact aK hc (ye (by rw[xi];exact vS hn) (by omega))
theorem Av(hn:(ws.map (·.no)).Nodup){w:Wt}(hw:w∈ws):cM .nj [bV (row ru ws),.int w.no]=Zz (.int (pos ru ws w.no)):=by
 have hm:w.no∈row ru ws:=RS.mpr ⟨w,(bD ws).mem_iff.mpr hw,rfl⟩;have hi:(row ru ws).idxOf w.no<(row ru ws).length:=List.idxOf_lt_length_of_mem hm;have hp:((row ru ws).idxOf w.no,w.no)∈(Rf (row ru ws).length).zip (row ru ws):=by
  refine Sl.mpr ⟨(row ru ws).idxOf w.no,by rw[TP,UR,Xu];exact hi,?_⟩;rw[W0,WU,List.getElem_idxOf]
 exact vJ (f:=λp:Nat×Int=>p.2) (g:=λp=>T.int (p.1:Int)) (by rw[xi];exact vS hn) hp
theorem Gv(hn:(ws.map (·.no)).Nodup){x:List Int}(h:lG bn ws x):(x.map (pos ru ws)).Nodup:=by
 have hx:x.Nodup:=by
  obtain⟨v,hv,w,hw,a1,a2,a3,h⟩:=h;have e1:v.no≠w.no:=ei hn hv hw (by rw[a1,a2];decide);rcases h with⟨_,u,hu,c1,c2,rfl⟩|⟨_,rfl⟩
  ·have e2:v.no≠u.no:=ei hn hv hu (by rw[a1,c2];decide)
   have e3:w.no≠u.no:=ei hn hw hu (by rw[a2,c2];decide);simp[e1,e2,e3]
  ·simp[e1]
 have num:=cB h;clear h
 induction x with
 |nil=>exact Tu
 |cons a x ih =>
  obtain⟨h1,h2⟩:=Ss.mp hx;rw[RG,Ss];refine⟨λhm=>?_,ih h2 λb hb=>num b (R2 _ hb)⟩;obtain⟨b,hb,e⟩:=RS.mp hm;obtain⟨v,hv,rfl⟩:=num a R6;obtain⟨w,hw,rfl⟩:=num b (R2 _ hb);rw[xe hn hw hv e]at hb;exact h1 hb
theorem qJ(hn:(ws.map (·.no)).Nodup){x:List Int}(h:lG bn ws x):v7 (x.map λa=>T.int (pos ru ws a))=Zz (.lst ((key ru ws x).map .int)):=by
 have hlen:=df h;unfold v7;rw[ints_map (pos ru ws)];show(if(x.map (pos ru ws)).Nodup/\(x.map (pos ru ws)).length<=900000 then _ else Zy)=_;rw[Yq ⟨Gv hn h,by rw[R1];omega⟩];rw[Rq,show(λn:Int=>[n]) ∘ pos ru ws=λb=>[pos ru ws b]from rfl,x8,Rq];unfold key keyB;rw[Rq];rfl
theorem GG(hn:(ws.map (·.no)).Nodup){x:List Int}(h:lG bn ws x):ev (cf n) gv bI [Zz (.t (aw x)),Zz (.t (bV (row ru ws)))] m=.ok (.t (.lst ((key ru ws x).map .int))) m:=by
 have hlen:=df h;have num:=cB h;have hc:ev (cf n) gv fy [Zz (.t (aw x)),Zz (.t (bV (row ru ws)))] m=.ok (.t (.lst (x.flatMap λa=>[T.int (pos ru ws a)]))) m:=by
  refine eh (emb:=T.int) x (aa rfl) rfl (λa ha=>⟨[Zz (.t (.int a)),Zz (.t (bV (row ru ws)))],rfl,dw (bj (jq (aa rfl) (aa rfl) ?_))⟩) ?_
  ·obtain⟨w,hw,rfl⟩:=num a ha
   exact Av hn hw
  ·rw[aA,R1]
   unfold lim;omega
 rw[aA]at hc;refine aK hc ?_;exact qJ hn h
theorem u5(hn:(ws.map (·.no)).Nodup):∀L:List (List Int),(∀x∈L,lG bn ws x)->dP (λenv m=>ev (cf n) gv bI env m) [Zz (.t (bV (row ru ws)))] (L.map aw) m=.ok (L.map (key ru ws)) m
 |[],_=>rfl
 |x::L,h=>by
  have hk:yF (.t (.lst ((key ru ws x).map .int)))=Zz (key ru ws x):=jd _;rw[RG,dP,GG hn (h x R6),ai,hk];show(dP _ _ (L.map aw) m).bind _=_;rw[u5 hn L λy hy=>h y (R2 _ hy)];rfl
noncomputable def sE(ws:List Wt)(x:List Int):Option T:=if 0<ii ws x then Zz (.tup [aw x,.int (ii ws x)])else Zy
theorem DQ(hn:(ws.map (·.no)).Nodup){x:List Int}(hx:Num ws x)(hl:x.length<=3){e0 e1 e2 e4 e5 e7:Option W}:ev (cf n) gv cg [e0,e1,e2,Zz (.t (bv ws)),e4,e5,Zz (.t (aw x)),e7] m=.ok (.t (aT (x.map (dY ws)))) m:=by
 have hc:ev (cf n) gv cg [e0,e1,e2,Zz (.t (bv ws)),e4,e5,Zz (.t (aw x)),e7] m=.ok (.t (.lst (x.flatMap λa=>[(dY ws a).t]))) m:=by
  refine eh (emb:=T.int) x (aa rfl) rfl (λa ha=>⟨[Zz (.t (.int a)),Zz (.t (bv ws))],rfl,dw (bj (jq (aa rfl) (aa rfl) ?_))⟩) ?_
  ·obtain⟨w,hw,rfl⟩:=hx a ha
   rw[fM hn hw];exact vJ (f:=λw:Wt=>w.no) (g:=λw=>w.e.t) hn hw
  ·rw[aA,R1]
   unfold lim;omega
 rw[aA]at hc;unfold aT;rw[Rq];exact hc
theorem xP(hn:(ws.map (·.no)).Nodup)(ho:∀w∈ws,bC w.e){x:List Int}(hx:Num ws x):∀e∈x.map (dY ws),bC e:=λe he=>by
 obtain⟨a,ha,rfl⟩:=RS.mp he;obtain⟨w,hw,rfl⟩:=hx a ha;rw[fM hn hw];exact ho w hw
theorem Gx(hn:(ws.map (·.no)).Nodup)(ho:∀w∈ws,bC w.e){x:List Int}(h:lG bn ws x):cf (n+8) 14 [.t (aT (x.map (dY ws)))] m=.ok (.t (.int (ii ws x))) m:=by
 have hlen:=df h;refine EE (λz=>?_) (by rw[R1];omega) (xP hn ho (cB h));have:=congrArg W7 z;rw[R1]at this;rcases hlen with h|h<;>rw[h]at this<;>cases this
theorem t7(hl:ru.length<=3)(hu:ws.length<=30)(hn:(ws.map (·.no)).Nodup)(ho:∀w∈ws,bC w.e):
  ∃r,cf (n+9) 21 [.t (fz ru),.t (dx bn),.t (bU ws)] m=.ok (.t (resT r)) m/\FS ru bn ws r:=by
 have mL:∀x,x∈sortI (cH bn ws)↔lG bn ws x:=λx=>(sortI_perm _).mem_iff.trans my
 have nL:(sortI (cH bn ws)).Nodup:=(sortI_perm _).nodup_iff.mpr (qh hn);have lL:(sortI (cH bn ws)).length<=900000:=by rw[(sortI_perm _).length_eq];exact Ro (qO hn hu) (by decide)
 have hs:ev (cf (n+8)) gv (.pF [4] (.call 19 (.cons (.var 1) (.cons (.var 2) .nil))) bI) [Zz (.t (fz ru)),Zz (.t (dx bn)),Zz (.t (bU ws)),Zz (.t (bv ws)),Zz (.t (bV (row ru ws))),Zy,Zy,Zy] m=.ok (.t (.lst ((pn (key ru ws) (sortI (cH bn ws))).map aw))) m:=by
  rw[ev,(az (aa rfl) (aa rfl)).trans (EZ (n:=n+5) hu hn),ai];show(dP (λenv m=>ev (cf (n+8)) gv bI env m) [Zz (.t (bV (row ru ws)))] ((sortI (cH bn ws)).map aw) m).bind _=_;rw[u5 (bn:=bn) hn _ λx hx=>(mL x).mp hx];show eO (gG ((sortI (cH bn ws)).map (key ru ws)) ((sortI (cH bn ws)).map aw)) m=_;unfold gG;have kn:∀L:List (List Int),L.Nodup->(∀x∈L,lG bn ws x)->(L.map (key ru ws)).Nodup:=λL=>by
   induction L with
   |nil=>exact λ_ _=>Tu
   |cons a L ih =>
    intro h1 h2;obtain⟨h3,h4⟩:=Ss.mp h1;rw[RG,Ss];refine⟨λhm=>?_,ih h4 λx hx=>h2 x (R2 _ hx)⟩;obtain⟨b,hb,e⟩:=RS.mp hm;rw[xE hn (h2 b (R2 _ hb)) (h2 a R6) e]at hb;exact h3 hb
  rw[Yq ⟨kn _ nL λx hx=>(mL x).mp hx,by rw[R1];exact lL⟩,lK,th,Rq];rfl
 have mQ:∀x,x∈pn (key ru ws) (sortI (cH bn ws))↔lG bn ws x:=λx=>(oM _).mem_iff.trans (mL x)
 have pQ:=B9 (k:=key ru ws) (sortI (cH bn ws));generalize pn (key ru ws) (sortI (cH bn ws))=Q at hs mQ pQ;have hf:=eQ (call:=cf (n+8)) (tg:=.nm 6) (it:=.var 5) (body:=bq) (k:=.ret (.con .non) .done) (m:=m) (P:=λenv=>∃e6 e7,env=[Zz (.t (fz ru)),Zz (.t (dx bn)),Zz (.t (bU ws)),Zz (.t (bv ws)),Zz (.t (bV (row ru ws))),Zz (.t (.lst (Q.map aw))),e6,e7]) (emb:=aw) (g:=sE ws) (as:=Q) (env:=[Zz (.t (fz ru)),Zz (.t (dx bn)),Zz (.t (bU ws)),Zz (.t (bv ws)),Zz (.t (bV (row ru ws))),Zz (.t (.lst (Q.map aw))),Zy,Zy]) (aa rfl) rfl ⟨_,_,rfl⟩ (λx hx env he=>by
  obtain⟨e6,e7,rfl⟩:=he;have hI:=(mQ x).mp hx;have hlen:=df hI;refine⟨[Zz (.t (fz ru)),Zz (.t (dx bn)),Zz (.t (bU ws)),Zz (.t (bv ws)),Zz (.t (bV (row ru ws))),Zz (.t (.lst (Q.map aw))),Zz (.t (aw x)),e7],rfl,?_⟩;have step:∀K:S,ex (cf (n+8)) gv (.asg 7 (.call 14 (.cons cg .nil)) K) [Zz (.t (fz ru)),Zz (.t (dx bn)),Zz (.t (bU ws)),Zz (.t (bv ws)),Zz (.t (bV (row ru ws))),Zz (.t (.lst (Q.map aw))),Zz (.t (aw x)),e7] m=ex (cf (n+8)) gv K [Zz (.t (fz ru)),Zz (.t (dx bn)),Zz (.t (bU ws)),Zz (.t (bv ws)),Zz (.t (bV (row ru ws))),Zz (.t (.lst (Q.map aw))),Zz (.t (aw x)),Zz (.t (.int (ii ws x)))] m:=λK =>
   aj ((bE (DQ hn (cB hI) (by omega))).trans (Gx hn ho hI))
  have ht:ev (cf (n+8)) gv (.cmp .Gt (.var 7) (.con (.int 0))) [Zz (.t (fz ru)),Zz (.t (dx bn)),Zz (.t (bU ws)),Zz (.t (bv ws)),Zz (.t (bV (row ru ws))),Zz (.t (.lst (Q.map aw))),Zz (.t (aw x)),Zz (.t (.int (ii ws x)))] m=.ok (.t (.bl (decide (0<ii ws x)))) m:=au (aa rfl) (ae _) (y5 _ _);unfold sE;by_cases c:0<ii ws x
  ·rw[Yq c]
   rw[Yt c]at ht;show ex (cf (n+8)) gv bq _ m=_;unfold bq;rw[step];exact bg ht (ah (dq (aa rfl) (aa rfl)))
  ·rw[Yr c]
   rw[Ys c]at ht;refine⟨_,?_,Zz (.t (aw x)),Zz (.t (.int (ii ws x))),rfl⟩;unfold bq;rw[step];exact(aP ht).trans aL)
 have head:∀R:Res Flow,ex (cf (n+8)) gv (.dJ (.nm 6) (.var 5) bq (.ret (.con .non) .done)) [Zz (.t (fz ru)),Zz (.t (dx bn)),Zz (.t (bU ws)),Zz (.t (bv ws)),Zz (.t (bV (row ru ws))),Zz (.t (.lst (Q.map aw))),Zy,Zy] m=R->ex (cf (n+8)) gv bZ [Zz (.t (fz ru)),Zz (.t (dx bn)),Zz (.t (bU ws)),Zy,Zy,Zy,Zy,Zy] m=R:=λR h=>by
  unfold bZ;refine(aj ((bE (aa rfl)).trans (qr (n:=n+7) hu hn))).trans ?_;dsimp only[RU,RP];refine(aj (zI (n:=n+5) (r:=[]) rfl rfl hl hu hn)).trans ?_;dsimp only[RU,RP];refine(aj hs).trans ?_;dsimp only[RU,RP];exact h
 cases q:Q.findSome? (sE ws)with
 |none =>
  rw[q]at hf;obtain⟨env',h1,_⟩:=hf;have hz:=List.findSome?_eq_none_iff.mp q;refine⟨Zy,aH (fR _ _ _) rfl (head _ (h1.trans (ah (ae _)))) (ax (cell:=false) rfl),λx hx hp=>?_⟩;have:=hz x ((mQ x).mpr hx);unfold sE at this;rw[Yq hp]at this;cases this
 |some t =>
  rw[q]at hf;obtain⟨l1,x,l2,e,h1,h2⟩:=List.findSome?_eq_some_iff.mp q;have hx:x∈Q:=by rw[e];simp
  have c:0<ii ws x:=by
   unfold sE at h1;by_cases c:0<ii ws x
   ·exact c
   ·rw[Yr c]at h1;cases h1
  have ht:t=resT (Zz (x,ii ws x)):=by
   unfold sE at h1;rw[Yq c]at h1;exact(Sj h1).symm
  subst ht;refine⟨Zz (x,ii ws x),aH (fR _ _ _) rfl (head _ hf) (ax (cell:=false) rfl),(mQ x).mp hx,c,rfl,λy hy hp=>?_⟩;have hyQ:=(mQ y).mpr hy;rw[e]at hyQ pQ;rcases RN.mp hyQ with h|h
  ·have:=h2 y h
   unfold sE at this;rw[Yq hp]at this;cases this
  ·rcases R5.mp h with rfl|h
   ·exact ik _
   ·exact(Rv.mp (SJ.mp pQ).2.1).1 y h
end
end My
set_option maxRecDepth 20000
namespace My
open Mi
noncomputable def kK(ru:List (List Nat))(ws:List Wt):Option (List Int)->T
 |none=>.non
 |some x=>.tup [.lst ((key ru ws x).map .int),aw x,.int (ii ws x)]
noncomputable def xL(ru:List (List Nat))(ws:List Wt)(x:List Int):Option (List Int)->Bool
 |none=>true
 |some y=>aC (key ru ws x) (key ru ws y)
noncomputable def better(ru:List (List Nat))(ws:List Wt)(b:Option (List Int))(x:List Int):Option (List Int):=if(decide (0<ii ws x)&&xL ru ws x b)=true then Zz x else b
def BI(ru:List (List Nat))(ws:List Wt)(L:List (List Int)):Option (List Int)->Prop
 |none=>∀x∈L,¬0<ii ws x
 |some y=>y∈L/\0<ii ws y/\∀z∈L,0<ii ws z->aC (key ru ws z) (key ru ws y)=false
section
variable{n:Nat}{m:Mem}{ru bn:List (List Nat)}{ws:List Wt}
theorem zR{L:List (List Int)}{b:Option (List Int)}{x:List Int}(h:BI ru ws L b):BI ru ws (L++[x]) (better ru ws b x):=by
 unfold better;by_cases hp:0<ii ws x
 ·rw[Yt hp,VO]
  cases b with
  |none =>
   refine⟨by simp,hp,λz hz hz0=>?_⟩;rcases RN.mp hz with hz|hz
   ·exact Yv hz0 (h z hz)
   ·rw[RQ.mp hz]
    exact ik _
  |some y =>
   obtain⟨h1,h2,h3⟩:=h;cases q:xL ru ws x (Zz y)with
   |true =>
    rw[Yq rfl];refine⟨by simp,hp,λz hz hz0=>?_⟩;rcases RN.mp hz with hz|hz
    ·exact dG (c9 q) (h3 z hz hz0)
    ·rw[RQ.mp hz]
     exact ik _
   |false =>
    rw[Yr RL];refine⟨Sn _ h1,h2,λz hz hz0=>?_⟩;rcases RN.mp hz with hz|hz
    ·exact h3 z hz hz0
    ·rw[RQ.mp hz]
     exact q
 ·rw[Ys hp,Bool.false_and,Yr RL]
  cases b with
  |none =>
   intro z hz;rcases RN.mp hz with hz|hz
   ·exact h z hz
   ·rw[RQ.mp hz]
    exact hp
  |some y =>
   refine⟨Sn _ h.1,h.2.1,λz hz hz0=>?_⟩;rcases RN.mp hz with hz|hz
   ·exact h.2.2 z hz hz0
   ·rw[RQ.mp hz]at hz0
    exact Yv hz0 hp
theorem qX:∀(L' L:List (List Int)) (b:Option (List Int)),BI ru ws L b->BI ru ws (L++L') (L'.foldl (better ru ws) b)
 |[],L,b,h=>by rw[SZ];exact h
 |x::r,L,b,h=>by
  have:=qX r (L++[x]) _ (zR (x:=x) h);rw[Rg]at this;exact this
theorem B0(hn:(ws.map (·.no)).Nodup){x:List Int}(h:lG bn ws x):((x.map (dY ws)).map (·.sd)).Nodup:=by
 obtain⟨v,hv,w,hw,a1,a2,_,⟨_,u,hu,_,a3,rfl⟩|⟨_,rfl⟩⟩:=h
 ·show[(dY ws v.no).sd,(dY ws w.no).sd,(dY ws u.no).sd].Nodup
  rw[fM hn hv,fM hn hw,fM hn hu,a1,a2,a3];decide
 ·show[(dY ws v.no).sd,(dY ws w.no).sd].Nodup
  rw[fM hn hv,fM hn hw,a1,a2];decide
theorem EL(hn:(ws.map (·.no)).Nodup)(ho:∀w∈ws,bC w.e){x:List Int}(h:lG bn ws x):cf (n+4) 32 [.t (aT (x.map (dY ws)))] m=.ok (.t (.int (ii ws x))) m:=by
 have hlen:=df h;refine(law_part_ok (λz=>?_) (by rw[R1];omega) (xP hn ho (cB h))).trans (by rw[Dz (B0 hn h)];rfl);have:=congrArg W7 z;rw[R1]at this;rcases hlen with h|h<;>rw[h]at this<;>cases this
theorem C0(hn:(ws.map (·.no)).Nodup){x:List Int}(hx:Num ws x)(hl:x.length<=3){e0 e1 e2 e3 e5 e7 e8:Option W}:ev (cf n) gv j6 [e0,e1,e2,e3,Zz (.t (bv ws)),e5,Zz (.t (aw x)),e7,e8] m=.ok (.t (aT (x.map (dY ws)))) m:=by
 have hc:ev (cf n) gv j6 [e0,e1,e2,e3,Zz (.t (bv ws)),e5,Zz (.t (aw x)),e7,e8] m=.ok (.t (.lst (x.flatMap λa=>[(dY ws a).t]))) m:=by
  refine eh (emb:=T.int) x (aa rfl) rfl (λa ha=>⟨[Zz (.t (.int a)),Zz (.t (bv ws))],rfl,dw (bj (jq (aa rfl) (aa rfl) ?_))⟩) ?_
  ·obtain⟨w,hw,rfl⟩:=hx a ha
   rw[fM hn hw];exact vJ (f:=λw:Wt=>w.no) (g:=λw=>w.e.t) hn hw
  ·rw[aA,R1]
   unfold lim;omega
 rw[aA]at hc;unfold aT;rw[Rq];exact hc
theorem Bl{w:Wt}(hu:ws.length<=30)(hw:w∈ws):y6 .index (il (row ru ws)) [.int w.no]=Zz (.int (pos ru ws w.no)):=by
 have hm:w.no∈row ru ws:=RS.mpr ⟨w,(bD ws).mem_iff.mpr hw,rfl⟩;have hl:(row ru ws).length<=lim:=by
  unfold row;rw[R1,(bD ws).length_eq];unfold lim;omega
 show((cn ((row ru ws).map .int)).bind λns=>if ns.length<=lim then(ns.findIdx? (·==w.no)).map λk=>T.int (k:Int)else Zy)=_;rw[jd,X2,Yq hl,List.findIdx?_eq_some_of_exists ⟨w.no,hm,by simp⟩];rfl
theorem yy(hn:(ws.map (·.no)).Nodup)(hu:ws.length<=30){x:List Int}(h:lG bn ws x){e0 e1 e2 e4 e5 e7 e8:Option W}:ev (cf n) gv (.blt .rh (.cons jX .nil)) [e0,e1,e2,Zz (.t (il (row ru ws))),e4,e5,Zz (.t (aw x)),e7,e8] m=.ok (.t (.lst ((key ru ws x).map .int))) m:=by
 have hlen:=df h;have hc:ev (cf n) gv jX [e0,e1,e2,Zz (.t (il (row ru ws))),e4,e5,Zz (.t (aw x)),e7,e8] m=.ok (.t (.lst (x.flatMap λa=>[T.int (pos ru ws a)]))) m:=by
  refine eh (emb:=T.int) x (aa rfl) rfl (λa ha=>⟨[Zz (.t (.int a)),Zz (.t (il (row ru ws)))],rfl,dw (bj ?_)⟩) ?_
  ·obtain⟨w,hw,rfl⟩:=cB h a ha
   rw[ev,aa rfl,ai,Yq (show Ad .index (.t (il (row ru ws))) m=true from rfl),af (aa rfl) aq,ai];show eO (y6 .index (il (row ru ws)) [.int w.no]) m=_;rw[Bl hu hw];rfl
  ·rw[aA,R1]
   unfold lim;omega
 rw[aA]at hc;exact aK hc (qJ hn h)
theorem Gi(x y:List Int):cM .G4 [.lst (x.map .int),.lst (y.map .int)]=Zz (.bl (aC x y)):=by
 show((cn (x.map .int)).bind λns=>(cn (y.map .int)).map λms=>T.bl (aC ns ms))=_;rw[jd,jd];rfl
theorem vy(hu:ws.length<=30)(hn:(ws.map (·.no)).Nodup)(ho:∀w∈ws,bC w.e){x:List Int}(h:lG bn ws x)(b:Option (List Int)){e0 e1 e2 e7 e8:Option W}:
  ex (cf (n+4)) gv fb [e0,e1,e2,Zz (.t (il (row ru ws))),Zz (.t (bv ws)),Zz (.t (kK ru ws b)),Zz (.t (aw x)),e7,e8] m=.ok (.next [e0,e1,e2,Zz (.t (il (row ru ws))),Zz (.t (bv ws)),Zz (.t (kK ru ws (better ru ws b x))),Zz (.t (aw x)),Zz (.t (.int (ii ws x))),Zz (.t (.lst ((key ru ws x).map .int)))]) m:=by
 have hlen:=df h;have hc:ev (cf (n+4)) gv (.and (.cmp .Gt (.var 7) (.con (.int 0))) (.or (.cmp .Is (.var 5) (.con .non)) (.blt .G4 (.cons (.var 8) (.cons (.ix (.var 5) (.con (.int 0))) .nil))))) [e0,e1,e2,Zz (.t (il (row ru ws))),Zz (.t (bv ws)),Zz (.t (kK ru ws b)),Zz (.t (aw x)),Zz (.t (.int (ii ws x))),Zz (.t (.lst ((key ru ws x).map .int)))] m=.ok (.t (.bl (decide (0<ii ws x)&&xL ru ws x b))) m:=by
  have h1:∀{e:E},ev (cf (n+4)) gv (.and (.cmp .Gt (.var 7) (.con (.int 0))) e) [e0,e1,e2,Zz (.t (il (row ru ws))),Zz (.t (bv ws)),Zz (.t (kK ru ws b)),Zz (.t (aw x)),Zz (.t (.int (ii ws x))),Zz (.t (.lst ((key ru ws x).map .int)))] m=if decide (0<ii ws x)=true then ev (cf (n+4)) gv e [e0,e1,e2,Zz (.t (il (row ru ws))),Zz (.t (bv ws)),Zz (.t (kK ru ws b)),Zz (.t (aw x)),Zz (.t (.int (ii ws x))),Zz (.t (.lst ((key ru ws x).map .int)))] m else .ok (.t (.bl false)) m:=by
   intro e;rw[ev,au (aa rfl) (ae _) (y5 _ _)];cases decide (0<ii ws x)<;>rfl
  rw[h1];cases decide (0<ii ws x)with
  |false=>rfl
  |true =>
   rw[Yq rfl,VO];cases b with
   |none=>exact AB (au (k:=true) (aa rfl) (ae _) rfl)
   |some y=>exact(sV (au (k:=false) (aa rfl) (ae _) rfl)).trans (jq (aa rfl) (am (aa rfl) (ae _) rfl) (Gi _ _))
 unfold fb;refine(aj ((bE (C0 hn (cB h) (by omega))).trans (EL hn ho h))).trans ?_;refine(aj (yy hn hu h)).trans ?_;unfold better;cases q:decide (0<ii ws x)&&xL ru ws x b with
 |true =>
  rw[q]at hc;rw[Yq rfl];exact(lY hc ((aj (kZ (aa rfl) (aa rfl) (aa rfl))).trans aL)).trans aL
 |false =>
  rw[q]at hc;rw[Yr RL];exact(aP hc).trans aL
theorem oX(hu:ws.length<=30)(hn:(ws.map (·.no)).Nodup)(ho:∀w∈ws,bC w.e){e0 e1 e2:Option W}:∀(L:List (List Int)) (b:Option (List Int)) (e6 e7 e8:Option W),(∀x∈L,lG bn ws x)->∃f6 f7 f8,
  aJ (ex (cf (n+4)) gv fb) (.nm 6) (L.map aw) [e0,e1,e2,Zz (.t (il (row ru ws))),Zz (.t (bv ws)),Zz (.t (kK ru ws b)),e6,e7,e8] m=.ok (.next [e0,e1,e2,Zz (.t (il (row ru ws))),Zz (.t (bv ws)),Zz (.t (kK ru ws (L.foldl (better ru ws) b))),f6,f7,f8]) m
 |[],b,e6,e7,e8,_=>⟨_,_,_,rfl⟩
 |x::L,b,e6,e7,e8,h=>by
  obtain⟨f6,f7,f8,h2⟩:=oX hu hn ho L (better ru ws b x) (Zz (.t (aw x))) (Zz (.t (.int (ii ws x)))) (Zz (.t (.lst ((key ru ws x).map .int)))) λy hy=>h y (R2 _ hy)
  refine⟨f6,f7,f8,?_⟩;rw[RG,aJ];show(ex (cf (n+4)) gv fb [e0,e1,e2,Zz (.t (il (row ru ws))),Zz (.t (bv ws)),Zz (.t (kK ru ws b)),Zz (.t (aw x)),e7,e8] m).bind _=_;rw[vy hu hn ho (h x R6)];exact h2
theorem EB(hu:ws.length<=30)(hn:(ws.map (·.no)).Nodup){e0 e1 e3 e4 e5 e6 e7 e8:Option W}:ev (cf n) gv (.blt .uH (.cons kw .nil)) [e0,e1,Zz (.t (bU ws)),e3,e4,e5,e6,e7,e8] m=.ok (.t (bv ws)) m:=by
 have hc:ev (cf n) gv kw [e0,e1,Zz (.t (bU ws)),e3,e4,e5,e6,e7,e8] m=.ok (.t (.lst (ws.flatMap λw=>[T.tup [.int w.no,w.e.t]]))) m:=by
  refine eh ws (aa rfl) rfl (λw _=>⟨[Zz (.t (.int w.no)),Zz (.t w.e.off),Zz (.t (.int w.e.left))],rfl,dw (bj (dq (aa rfl) (dq (aa rfl) (aa rfl))))⟩) ?_;rw[aA,R1];unfold lim;omega
 rw[aA]at hc;refine aK hc ?_;have hp:∀us:List Wt,de (us.map λw=>T.tup [.int w.no,w.e.t])=Zz (us.map λw=>(w.no,w.e.t)):=λus=>by
  induction us with
  |nil=>rfl
  |cons w us ih=>rw[RG,de,ih];rfl
 show((de (ws.map λw=>T.tup [.int w.no,w.e.t])).bind λps=>if(ws.map λw=>T.tup [.int w.no,w.e.t]).length<=lim/\(ps.map (·.1)).Nodup then Zz (T.dct (ps.map λp=>.inl p.1) (ps.map (·.2)))else Zy)=_;rw[hp,X2,Yq ⟨by rw[R1];unfold lim;omega,by rw[Rq];exact hn⟩,Rq,Rq];rfl
theorem law_first_ok(hw:∀w∈ru,w∈four)(hu:ws.length<=30)(hn:(ws.map (·.no)).Nodup)(ho:∀w∈ws,bC w.e):
  ∃r,cf (n+5) 36 [.t (fz ru),.t (dx bn),.t (bU ws)] m=.ok (.t (resT r)) m/\FS ru bn ws r:=by
 have mL:∀x,x∈sortI (dM bn ws)↔lG bn ws x:=λx=>(sortI_perm _).mem_iff.trans lW
 obtain⟨f6,f7,f8,hl⟩:=oX (n:=n) (m:=m) (ru:=ru) hu hn ho (e0:=Zz (.t (fz ru))) (e1:=Zz (.t (dx bn))) (e2:=Zz (.t (bU ws))) (sortI (dM bn ws)) Zy Zy Zy Zy λx hx=>(mL x).mp hx
 have hB:=qX (ru:=ru) (ws:=ws) (sortI (dM bn ws)) [] Zy (λ_ h=>Yv h RV);rw[Sz]at hB;generalize (sortI (dM bn ws)).foldl (better ru ws) Zy=B at hl hB;have head:∀R:Res Flow,ex (cf (n+4)) gv (.cT (.cmp .Is (.var 5) (.con .non)) (.ret (.con .non) .done) .done (.ret (.FU (.var 5) (.con (.int 1)) .hole) .done)) [Zz (.t (fz ru)),Zz (.t (dx bn)),Zz (.t (bU ws)),Zz (.t (il (row ru ws))),Zz (.t (bv ws)),Zz (.t (kK ru ws B)),f6,f7,f8] m=R->ex (cf (n+4)) gv iB [Zz (.t (fz ru)),Zz (.t (dx bn)),Zz (.t (bU ws)),Zy,Zy,Zy,Zy,Zy,Zy] m=R:=λR h=>by
  unfold iB;refine(aj ((az (aa rfl) (aa rfl)).trans (DF (n:=n+2) hw hu hn))).trans ?_;refine(aj (EB hu hn)).trans ?_;refine(aj (ae _)).trans ?_;exact(bP ((az (aa rfl) (aa rfl)).trans (law_sets_ok (n:=n+3) hu ho hn)) rfl hl).trans h
 cases B with
 |none =>
  refine⟨Zy,aH (rD _ _ _) rfl (head _ (bg (au (k:=true) (aa rfl) (ae _) rfl) (ah (ae _)))) (ax (cell:=false) rfl),λx hx=>hB x ((mL x).mpr hx)⟩
 |some y =>
  refine⟨Zz (y,ii ws y),aH (rD _ _ _) rfl (head _ ((aP (au (k:=false) (aa rfl) (ae _) rfl)).trans (ah ?_))) (ax (cell:=false) rfl),(mL y).mp hB.1,hB.2.1,rfl,λz hz=>hB.2.2 z ((mL z).mpr hz)⟩;rw[ev,aa rfl,ai];rfl
end
end My
set_option maxRecDepth 20000
namespace My
open Mi
theorem CQ(k:Nat)(x:List Int):ak (k+1) (aw x)=true:=by
 unfold aw;rw[ak];exact bL.mpr λt ht=>by
  obtain⟨a,_,rfl⟩:=RS.mp ht;cases k<;>rfl
theorem wK(r:Option (List Int×Int)):ak 60 (resT r)=true:=by
 rcases r with _|⟨x,k⟩
 ·rfl
 ·unfold resT
  rw[ak];exact bL.mpr λt ht=>by
   simp only[R5,RV,or_false]at ht;rcases ht with rfl|rfl
   ·exact CQ 58 x
   ·rfl
theorem qH(r:Option (List Int×Int)):dr .IsNot (resT r) .non=Zz (!r.isNone):=by
 rcases r with _|⟨x,k⟩<;>rfl
theorem wV{f:Env->Mem->Res Flow}{tg:Tg}{env env1 env2:Env}{m m2:Mem}{t:T}{ts:List T}(h1:bB tg t env=Zz env1)(h2:f env1 m=.ok (.next env2) m2):aJ f tg (t::ts) env m=aJ f tg ts env2 m2:=by
 rw[aJ,h1];show(f env1 m).bind _=_;rw[h2];rfl
section
variable{n:Nat}{m M:Mem}{i:Nat}{s:List T}{ns:List Int}{ru bn:List (List Nat)}{ws us:List Wt}{r:Option (List Int×Int)}
theorem FS.perm(hn:(ws.map (·.no)).Nodup)(hp:us.Perm ws)(h:FS ru bn ws r):FS ru bn us r:=
 FS.sub hn ((hp.map _).nodup_iff.mpr hn) (λw hw=>hp.mem_iff.mp hw) h λx k e a ha=>by
  subst e;obtain⟨w,hw,e⟩:=cB h.1 a ha;exact⟨w,hp.mem_iff.mpr hw,e⟩
theorem law_0{e1 e2 e8 e9 e10 e11:Option W}(hi:i<M.length)(hs:bp s)(hr:ru.length<=3)(hl:ws.length<=30)(ho:∀w∈ws,G1 w)(hn:(ws.map (·.no)).Nodup)(hF:FS ru bn ws r):
  ∃(s':List T) (g9 g10 g11:Option W),ex (cf (n+20)) gv sY [Zz (.t (.du ns)),e1,e2,Zz (.c i),Zz (.t (fz ru)),Zz (.t (dx bn)),Zz (.t (bU ws)),Zz (.t (resT r)),e8,e9,e10,e11] (put M i s)=.ok (.next [Zz (.t (.du ns)),e1,e2,Zz (.c i),Zz (.t (fz ru)),Zz (.t (dx bn)),Zz (.t (bU ws)),Zz (.t (resT r)),e8,g9,g10,g11]) (put M i s')/\bp s':=by
 obtain⟨us,s1,g1,hs1,hp⟩:=y8 (n:=n+18) hi hs hl λw hw=>(ho w hw).ent
 have hn':=(hp.map (·.no)).nodup_iff.mpr hn;have ho':∀w∈us,bC w.e:=λw hw=>(ho w (hp.mem_iff.mp hw)).ent
 obtain⟨r',g2,h2⟩:=t7 (n:=n+11) (m:=put M i s1) (ru:=ru) (bn:=bn) hr (by rw[hp.length_eq];exact hl) hn' ho';cases FS.AS hn' h2 (FS.perm hn hp hF);have hdu:ak 60 (bU us)=true:=te ho';refine⟨s1,Zz (.t (bU us)),Zz (.t (bU us)),Zz (.t (resT r)),?_,hs1⟩;unfold sY;refine(aj ((az (aa rfl) (aa rfl)).trans g1)).trans ?_;refine(aj (aK (aa rfl) (Ga _))).trans ?_;refine(aj ((iI (aa rfl) (aa rfl) (aa rfl)).trans g2)).trans ?_;refine(aP ((sV (au (k:=false) (aa rfl) (aa rfl) (xR (wK r)))).trans (au (k:=false) (aa rfl) (aa rfl) (xR hdu)))).trans ?_;cases r with
 |none=>exact(aP (jk (au (k:=false) (aa rfl) (ae _) (qH Zy)))).trans aL
 |some p=>exact(aP ((gR (au (k:=true) (aa rfl) (ae _) (qH (Zz p)))).trans ((sV (lV (k:=true) (Ah (aa rfl) rfl))).trans (Ah (k:=false) (am (aa rfl) (ae _) rfl) rfl)))).trans aL
theorem Da{at':Int}(hi:i<M.length)(hs:bp s){e0 e2 e4 e5 e6 e7 e8 e9 e10 e11:Option W}:∃(most:Int) (s':List T),ev (cf (n+20)) gv (.ix (.lst (.cons (.con (.int 10)) (.cons (.con (.int 30)) .nil))) (.blt .int (.cons (.and (.cmp .Eq (.var 1) (.con (.int 0))) (.cmp .Eq (.call 24 (.cons (.var 3) (.cons (.con (.int 8)) .nil))) (.con (.int 7)))) .nil))) [e0,Zz (.t (.int at')),e2,Zz (.c i),e4,e5,e6,e7,e8,e9,e10,e11] (put M i s)=.ok (.t (.int most)) (put M i s')/\bp s'/\0<=most/\most<=30:=by
 obtain⟨d,s1,g1,hs1,_,_⟩:=aB (n:=n+19) (many:=8) hi hs (by decide) (by decide);cases h:at'==0 with
 |false=>exact⟨10,s,am (lm (ae _) (ae _)) (aK (jk (au (aa rfl) (ae _) ((uF _ _).trans (by rw[h])))) (tO _)) rfl,hs,by decide,by decide⟩
 |true =>
  have h1:=λk (hk:(d==7)=k)=>(gR (call:=cf (n+20)) (gv:=gv) (env:=[e0,Zz (.t (.int at')),e2,Zz (.c i),e4,e5,e6,e7,e8,e9,e10,e11]) (m:=put M i s) (au (aa (i:=1) rfl) (ae (.int 0)) ((uF _ _).trans (by rw[h])))).trans (au ((az (aa (i:=3) rfl) (ae (.int 8))).trans g1) (ae (.int 7)) ((uF _ _).trans (by rw[hk])))
  cases q:d==7 with
  |false=>exact⟨10,s1,am (lm (ae _) (ae _)) (aK (h1 _ q) (tO _)) rfl,hs1,by decide,by decide⟩
  |true=>exact⟨30,s1,am (lm (ae _) (ae _)) (aK (h1 _ q) (tO _)) rfl,hs1,by decide,by decide⟩
theorem law_1{x a:Int}{e3 e4 e5 e6 e7 e8 e9 e10 e11:Option W}:∃(m':Mem) (f3 f4 f5 f6 f7 f8 f9 f10 f11:Option W),ex (cf (n+20)) gv oy [Zz (.t (.du ns)),Zz (.t (.int a)),Zz (.t (.int x)),e3,e4,e5,e6,e7,e8,e9,e10,e11] m=.ok (.next [Zz (.t (.du ns)),Zz (.t (.int a)),Zz (.t (.int x)),f3,f4,f5,f6,f7,f8,f9,f10,f11]) m':=by
 obtain⟨s0,g0,hs0⟩:=Dt (n:=n+19) (m:=m) (x:=x);have hi:m.length<(m++[Zy]).length:=by simp
 generalize hM:m++[Zy]=M at g0 hi;generalize hI:m.length=i at g0 hi;obtain⟨ru,s1,g1,hs1,_,hr,hw⟩:=DL (n:=n+18) hi hs0;obtain⟨bn,s2,g2,hs2⟩:=CI (n:=n+18) hi hs1;obtain⟨most,s3,g3,hs3,hm⟩:=Da (n:=n) (at':=a) (e0:=Zz (.t (.du ns))) (e2:=Zz (.t (.int x))) (e4:=Zz (.t (fz ru))) (e5:=Zz (.t (dx bn))) (e6:=e6) (e7:=e7) (e8:=e8) (e9:=e9) (e10:=e10) (e11:=e11) hi hs2;obtain⟨ws,s4,g4,hs4,ho,hn,hl⟩:=wC (n:=n+11) hi hs3 hm;obtain⟨r,g5,hF⟩:=law_first_ok (n:=n+15) (m:=put M i s4) (ru:=ru) (bn:=bn) (ws:=ws) hw hl hn λw h=>(ho w h).ent
 obtain⟨s5,a9,a10,a11,h5,hs5⟩:=law_0 (n:=n) (ns:=ns) (e1:=Zz (.t (.int a))) (e2:=Zz (.t (.int x))) (e8:=Zz (.t (.int 0))) (e9:=e9) (e10:=e10) (e11:=e11) hi hs4 hr hl ho hn hF;obtain⟨s6,b9,b10,b11,h6,hs6⟩:=law_0 (n:=n) (ns:=ns) (e1:=Zz (.t (.int a))) (e2:=Zz (.t (.int x))) (e8:=Zz (.t (.int 1))) (e9:=a9) (e10:=a10) (e11:=a11) hi hs5 hr hl ho hn hF;refine⟨put M i s6,Zz (.c i),Zz (.t (fz ru)),Zz (.t (dx bn)),Zz (.t (bU ws)),Zz (.t (resT r)),Zz (.t (.int 1)),b9,b10,b11,?_⟩;unfold oy;refine(aj ((bE (aa rfl)).trans g0)).trans ?_;refine(aj ((bE (aa rfl)).trans g1)).trans ?_;refine(aj ((bE (aa rfl)).trans g2)).trans ?_;refine(aj ((az (aa rfl) g3).trans g4)).trans ?_;refine(aj ((iI (aa rfl) (aa rfl) (aa rfl)).trans g5)).trans ?_;exact(bP (aK (ae _) (tM (i:=2) (by decide))) rfl ((wV rfl h5).trans ((wV rfl h6).trans rfl))).trans aL
end
theorem law_true(ns:List Int)(hl:ns.length<=63):∃m,c6 fns gv 41 41 [.t (.du ns)] []=.ok (.t (.bl true)) m:=by
 obtain⟨v,hv⟩:=Ej (n:=39) (m:=[]) (ns:=ns);obtain⟨env1,m1,e1,e2⟩:=pJ (f:=ex (cf 40) gv oy) (tg:=.tp [1,2]) (P:=λenv m=>∃e1 e2 e3 e4 e5 e6 e7 e8 e9 e10 e11,env=[Zz (.t (.du ns)),e1,e2,e3,e4,e5,e6,e7,e8,e9,e10,e11]) (hH (.int v::(cut ns (Zz 1) (Zz 6)).map .int)) [Zz (.t (.du ns)),Zy,Zy,Zy,Zy,Zy,Zy,Zy,Zy,Zy,Zy,Zy] [] ⟨_,_,_,_,_,_,_,_,_,_,_,rfl⟩ (by
  rintro t ht env m ⟨e1,e2,e3,e4,e5,e6,e7,e8,e9,e10,e11,rfl⟩;have:∃a x:Int,t=.tup [.int a,.int x]:=by
   have:=yk (v::cut ns (Zz 1) (Zz 6));rw[RG]at this;rw[this]at ht;obtain⟨p,_,rfl⟩:=RS.mp ht;exact⟨_,_,rfl⟩
  obtain⟨a,x,rfl⟩:=this;obtain⟨m',f3,f4,f5,f6,f7,f8,f9,f10,f11,h1⟩:=law_1 (n:=20) (ns:=ns) (x:=x) (a:=a) (m:=m) (e3:=e3) (e4:=e4) (e5:=e5) (e6:=e6) (e7:=e7) (e8:=e8) (e9:=e9) (e10:=e10) (e11:=e11);exact⟨_,_,m',rfl,h1,_,_,_,_,_,_,_,_,_,_,_,rfl⟩)
 obtain⟨r,g,hF⟩:=t7 (n:=31) (m:=m1) (ru:=[]) (bn:=[rZ]) (ws:=[]) (by decide) (by decide) Tu (λ_ h=>Yv h RV);have hr:r=Zy:=by
  cases r with
  |none=>rfl
  |some p=>obtain⟨w,hw,_⟩:=hF.1;exact Yv hw RV
 subst hr;refine⟨[],?_⟩;have key:ex (cf 40) gv t8 [Zz (.t (.du ns)),Zy,Zy,Zy,Zy,Zy,Zy,Zy,Zy,Zy,Zy,Zy] []=.ok (.ret (.t (.bl true))) m1:=by
  unfold t8;have hcl:(cut ns (Zz 1) (Zz 6)).length<=ns.length:=by unfold cut;simp;omega
  have hit:ev (cf 40) gv (.bin .Add (.lst (.cons (.call 22 (.cons (.var 0) (.cons (.con (.int 0)) .nil))) .nil)) (.FU (.var 0) (.con (.int 1)) (.con (.int 6)))) [Zz (.t (.du ns)),Zy,Zy,Zy,Zy,Zy,Zy,Zy,Zy,Zy,Zy,Zy] []=.ok (.t (.lst (.int v::(cut ns (Zz 1) (Zz 6)).map .int))) []:=by
   simp[ev,evs,hV,aN,jw,hv,lim];rw[AD (by simp[lim];omega)];rfl
  have he:cM .enum [.lst (.int v::(cut ns (Zz 1) (Zz 6)).map .int)]=Zz (.lst (hH (.int v::(cut ns (Zz 1) (Zz 6)).map .int))):=Yq (by simp[lim];omega);refine(bP (x:=.t (.lst (hH (.int v::(cut ns (Zz 1) (Zz 6)).map .int)))) (m0:=[]) (aK (Fd hit) he) rfl e1).trans ?_;obtain⟨e1,e2,e3,e4,e5,e6,e7,e8,e9,e10,e11,rfl⟩:=e2;exact ah (au (k:=true) ((iI (w:=.t (fz [])) (w1:=.t (dx [rZ])) (w2:=.t (bU [])) (dU aq rfl aR) (tn (ae _)) (bF aq rfl aR)).trans g) (ae _) rfl)
 show cf 41 41 [.t (.du ns)] []=_;rw[FH];simp[key,ai,fin]
end My
end
section
set_option maxHeartbeats 1000000
namespace My
open PySem PySem.Spec PyProof.Rows Mi
noncomputable def top(i:Nat):TM:=PySem.Challenge.pw_matepoint_k44_who_meets_first.main.body.getD i (.Pass ⟨0,0,0,0⟩)
noncomputable abbrev gF:TM:=top 1
noncomputable abbrev iX:TM:=top 2
noncomputable abbrev sS:TM:=top 4
noncomputable abbrev fA:TM:=top 5
noncomputable abbrev i9:TM:=top 8
noncomputable abbrev js:TM:=top 9
noncomputable abbrev jc:TM:=top 10
noncomputable abbrev je:TM:=top 11
noncomputable abbrev eE:TM:=top 12
noncomputable abbrev bW:TM:=top 13
noncomputable abbrev cr:TM:=top 14
noncomputable abbrev cC:TM:=top 15
noncomputable abbrev ck:TM:=top 16
noncomputable abbrev kB:TM:=top 17
noncomputable abbrev tq:TM:=top 18
noncomputable abbrev sj:TM:=top 20
noncomputable abbrev nR:TM:=top 21
noncomputable abbrev kO:TM:=top 22
noncomputable abbrev gO:TM:=top 23
noncomputable abbrev i6:TM:=top 24
noncomputable abbrev eM:TM:=top 25
noncomputable abbrev cU:TM:=top 26
noncomputable abbrev gz:TM:=top 28
noncomputable abbrev oA:TM:=top 29
noncomputable abbrev nN:TM:=top 30
noncomputable abbrev n9:TM:=top 31
noncomputable abbrev nA:TM:=top 32
noncomputable abbrev jf:TM:=top 33
noncomputable abbrev nJ:TM:=top 34
noncomputable abbrev ou:TM:=top 35
noncomputable abbrev kY:TM:=top 36
noncomputable abbrev oh:TM:=top 37
noncomputable abbrev ny:TM:=top 38
noncomputable abbrev i0:TM:=top 39
noncomputable abbrev sD:TM:=top 40
noncomputable abbrev om:TM:=top 41
noncomputable abbrev kG:TM:=top 42
noncomputable abbrev nP:TM:=top 43
noncomputable abbrev k9:TM:=top 44
noncomputable abbrev gK:TM:=top 45
noncomputable abbrev iQ:TM:=top 46
noncomputable abbrev ng:TM:=top 47
set_option hygiene false
local macro_rules
 | `(tactic| wtm_at $s:str)=>do
  let q ←`(?_)
  let mut r:Array (Lean.TSyntax `tactic):=#[]
  for c in s.getString.toList do
   let t ← match c with
    | '0'=>`(tactic| exact rfl)
    | '5'=>`(tactic| exact (fun _ _=>rfl))
    | 'c'=>`(tactic| exact (by with_unfolding_all rfl))
    | 'd'=>`(tactic| exact (En (by decide +kernel)))
    | 'e'=>`(tactic| exact (by kernel_rfl))
    | 'h'=>`(tactic| exact (by decide))
    | 'm'=>`(tactic| exact (fun _=>rfl))
    | 'n'=>`(tactic| exact ⟨rfl,rfl,rfl,by decide +kernel,rfl,by decide +kernel,by decide +kernel⟩)
    | 'o'=>`(tactic| refine ⟨?_⟩)
    | 'p'=>`(tactic| intro B k f cdv A sk fs z T0 T1 hr)
    | 't'=>`(tactic| intro _ _ _)
    | 'v'=>`(tactic| refine ⟨?_,?_,?_⟩)
    | 'w'=>`(tactic| refine .emit ?_ ?_)
    | 'L'=>`(tactic| refine ⟨?_,?_⟩)
    | 'P'=>`(tactic| exact (by decide +kernel))
    | '-'=>`(tactic| exact (.inl rfl))
    | '_'=>`(tactic| exact (bz [0,1] rfl (show SF (["offer","left"]:List Str) from by decide +kernel)))
    | 'Ã'=>`(tactic| exact (bz [0,1] rfl (show SF (["_law_offer_here","_law_left"]:List Str) from by decide +kernel)))
    | 'Ç'=>`(tactic| refine bh (N':=["one","card"]) ?_ ?_)
    | 'È'=>`(tactic| exact (aG 0 (show SF (["one","card"]:List Str) from by decide +kernel)))
    | 'Ê'=>`(tactic| refine ut (N':=["offer","left"]) ?_ ?_ ?_ ?_)
    | 'Í'=>`(tactic| exact (aG 1 mi.nd))
    | 'Î'=>`(tactic| intro B k f cdv A sk fs z T0 T1 hr hr2 hcd)
    | 'Ï'=>`(tactic| exact (fun _=>eK.lam hr2))
    | 'Ð'=>`(tactic| exact (fun _ _ _ _ _=>rfl))
    | 'Ñ'=>`(tactic| exact (bz [0,1,2] rfl (show SF (["number","offer","left"]:List Str) from by decide +kernel)))
    | 'Õ'=>`(tactic| refine ⟨?_,?_,?_,?_⟩)
    | 'Ü'=>`(tactic| refine bh (N':=["_law_one","_law_card_here"]) ?_ ?_)
    | 'Ý'=>`(tactic| exact (aG 0 (show SF (["_law_one","_law_card_here"]:List Str) from by decide +kernel)))
    | 'ß'=>`(tactic| refine bh (N':=["_law_offer_here","_law_left"]) ?_ ?_)
    | 'à'=>`(tactic| refine bh (N':=["_law_number_here","_law_offer_here","_law_left"]) ?_ ?_)
    | 'á'=>`(tactic| exact (bz [0,1,2] rfl (show SF (["_law_number_here","_law_offer_here","_law_left"]:List Str) from by decide +kernel)))
    |_=>match("13BO 20Dv 30EI 4v0 63FK 70hr 84Ar 9v1 a1Bq b0hr.units fv2 g0By i4DH j2Ee k1Hm l4Dj q0WV r0T1.oq s1EM u7t5 xv3 y1C8 z4Eh Av4 B5Ct Cs2 D0T0.H2 Ev7 Fv6 G0Dr Hv5 I0iL.nd J5Dq K2H1 M1Eo Ns3 O1PW.pt Q2yz Rs4 S0p6.nd T3vM U0T0.EW V0T0.Bf W0FW Xs5 Yv10 Z0mq.nd !s7 #5Bm $0T0.HF %0T0.D1 &2Dx (1Ea )2wM *v9 +0T1.rT ,0T0.HN .0dD.nd /4Bh :5wk ;0rg.nd <v8 =0T1.nK >2Gp ?1F1 @3BH [0kE.nd ]v11 ^1EX `0T1.jr {1E6 |0tP.nd }0T1.nT ~0T1.oE Às6 Ás8 Â1D8 Äs9 Å2AL Æs10 É5ze Ë3Cd Ì5Bb Ò2wN Ó5vd Ô6zZ Ö3Ba Ø5u6 Ù4A6 Ús1 Û0T1.jA Þ6vh â3DJ ãs11 ä0o0.nd å0T1.cW æ6Em".splitOn " ").find? (λe=>e.toList.head?==some c) with
     |some e=>
      let d:=e.toList.tail.headD c
      let x:=String.ofList (e.toList.drop 2)
      if d=='v' then `(tactic| exact (vr $(Lean.quote x.toNat!)))
      else if d=='s' then `(tactic| refine sg (i:=$(Lean.quote x.toNat!)) ?_ ?_ ?_)
      else if d=='0' then `(tactic| exact $(Lean.mkIdent x.toName))
      else `(tactic| refine $(Lean.mkIdent x.toName) $((List.replicate (d.toNat-48) q).toArray)*)
     |_=>Lean.Macro.throwUnsupported
   r:=r.push t
  `(tactic| ($[$r:tactic];*))
theorem tJ:ao ["card","word"] ["card","word"] (ag gF):=by
 wtm_at "n"
theorem pH:ao ["card","word","name","number"] ["card","word"] (ag iX):=by
 wtm_at "n"
theorem yc:ao ["wish","card","word"] ["wish","card"] (ag sS):=by
 wtm_at "n"
theorem kH:ao ["wish","card","size"] ["wish","card"] (ag fA):=by
 wtm_at "n"
theorem wg:ao ["offer"] ["offer"] (ag i9):=by
 wtm_at "n"
theorem wa:ao ["offer"] ["offer"] (ag js):=by
 wtm_at "n"
theorem vZ:ao ["some","place"] ["some","place"] (ag jc):=by
 wtm_at "n"
theorem vk:ao ["some","place"] ["some","place"] (ag je):=by
 wtm_at "n"
theorem qD:ao ["some"] ["some"] (ag eE):=by
 wtm_at "n"
theorem jD:ao ["some"] ["some"] (ag bW):=by
 wtm_at "n"
theorem jS:ao ["some"] ["some"] (ag cr):=by
 wtm_at "n"
theorem kQ:ao ["some","i","j"] ["some","i","j"] (ag cC):=by
 wtm_at "n"
theorem fj:ao ["some","i","offer","left"] ["some","i"] (ag ck):=by
 wtm_at "n"
theorem mi:ao ["some","i","j"] ["some"] (ag kB):=by
 wtm_at "n"
theorem DU:ao ["some"] ["some"] (ag tq):=by
 wtm_at "n"
theorem xW:ao ["word","waiter","number","offer","left"] ["word","waiter"] (ag sj):=by
 wtm_at "n"
theorem Bg:ao ["rule","waiter"] ["rule","waiter"] (ag nR):=by
 wtm_at "n"
theorem rq:ao ["rule","waiters","by_rule"] ["rule","waiters"] (ag kO):=by
 wtm_at "n"
theorem mR:ao ["kind","waiters","alike"] ["kind","waiters"] (ag gO):=by
 wtm_at "n"
theorem eW:ao ["borne","waiters","told","kind","givers","takers","bearers","pairs"] ["borne","waiters"] (ag i6):=by
 wtm_at "n"
theorem qE:ao ["waiters"] ["waiters"] (ag eM):=by
 wtm_at "n"
theorem dD:ao ["rule","borne","waiters","known","places","by_row","numbers","many"] ["rule","borne","waiters"] (ag cU):=by
 wtm_at "n"
theorem uI:ao ["_law_script","_law_k"] ["_law_script","_law_k"] (ag gz):=by
 wtm_at "n"
theorem BU:ao ["_law_cell"] ["_law_cell"] (ag oA):=by
 wtm_at "n"
theorem tP:ao ["_law_tape_here","_law_many","_law_found","_law_number_here"] ["_law_tape_here","_law_many"] (ag nN):=by
 wtm_at "n"
theorem BP:ao ["_law_tape_here","_law_some"] ["_law_tape_here","_law_some"] (ag n9):=by
 wtm_at "n"
theorem ud:ao ["_law_k","_law_some"] ["_law_k"] (ag nA):=by
 wtm_at "n"
theorem wn:ao ["_law_tape_here"] ["_law_tape_here"] (ag jf):=by
 wtm_at "n"
theorem pN:ao ["_law_tape_here","_law_name_here","_law_kind","_law_marks","_law_sizes"] ["_law_tape_here","_law_name_here","_law_kind"] (ag nJ):=by
 wtm_at "n"
theorem oW:ao ["_law_tape_here","_law_deep","_law_way","_law_many"] ["_law_tape_here","_law_deep"] (ag ou):=by
 wtm_at "n"
theorem rg:ao ["_law_tape_here","_law_side","_law_name_here","_law_kind","_law_till","_law_many","_law_least","_law_wish_here","_law_weight"] ["_law_tape_here","_law_side","_law_name_here","_law_kind","_law_till"] (ag kY):=by
 wtm_at "n"
theorem pX:ao ["_law_wish_here","_law_card_here","_law_word","_law_numbers"] ["_law_wish_here","_law_card_here"] (ag oh):=by
 wtm_at "n"
theorem iE:ao ["_law_some","_law_names","_law_offer_here","_law_left","_law_other","_law_more","_law_many"] ["_law_some"] (ag ny):=by
 wtm_at "n"
theorem gT:ao ["_law_rule_here","_law_one","_law_other","_law_word","_law_ranks","_law_number_here","_law_offer_here","_law_left"] ["_law_rule_here","_law_one","_law_other"] (ag i0):=by
 wtm_at "n"
theorem n7:ao ["_law_rule_here","_law_waiters_here","_law_found","_law_one","_law_many"] ["_law_rule_here","_law_waiters_here"] (ag sD):=by
 wtm_at "n"
theorem kE:ao ["_law_borne_here","_law_waiters_here","_law_found","_law_one","_law_giver","_law_some","_law_two","_law_taker","_law_more","_law_kind","_law_third"] ["_law_borne_here","_law_waiters_here"] (ag om):=by
 wtm_at "n"
theorem mq:ao ["_law_rule_here","_law_borne_here","_law_waiters_here","_law_row_here","_law_ones","_law_best","_law_numbers","_law_many","_law_places"] ["_law_rule_here","_law_borne_here","_law_waiters_here"] (ag kG):=by
 wtm_at "n"
theorem lB:ao ["_law_tape_here","_law_words","_law_found","_law_k"] ["_law_tape_here"] (ag nP):=by
 wtm_at "n"
theorem zF:ao ["_law_tape_here"] ["_law_tape_here"] (ag k9):=by
 wtm_at "n"
theorem iL:ao ["_law_tape_here","_law_most","_law_found","_law_turn","_law_number_here","_law_few","_law_k","_law_side","_law_kind","_law_name_here","_law_offer_here","_law_left"] ["_law_tape_here","_law_most"] (ag gK):=by
 wtm_at "n"
theorem o0:ao ["_law_tape_here","_law_some","_law_left","_law_found"] ["_law_tape_here","_law_some"] (ag iQ):=by
 wtm_at "n"
theorem p6:ao ["_law_script","_law_at","_law_cell","_law_tape_here","_law_rule_here","_law_borne_here","_law_waiters_here","_law_due","_law_turn","_law_some","_law_handed","_law_found"] ["_law_script"] (ag ng):=by
 wtm_at "n"
structure yZ (B:Bs):Prop where
 Hs:B.mg "all" = Zy
 Hw:B.mg "any" = Zy
 FP:B.mg "bool" = Zy
 GF:B.mg "dict" = Zy
 mZ:B.mg "enumerate" = Zy
 HF:B.mg "int" = Zy
 ky:B.mg "isinstance" = Zy
 H2:B.mg "len" = Zy
 AJ:B.mg "list" = Zy
 HN:B.mg "min" = Zy
 EW:B.mg "range" = Zy
 Fj:B.mg "set" = Zy
 Bf:B.mg "sorted" = Zy
 D1:B.mg "tuple" = Zy
 EQ:wP B "SIDES" (.tup [(.str [103,105,118,101]),(.str [116,97,107,101]),(.str [98,101,97,114])])
 lam:wf B
structure A2 (B:Bs) (k:Nat):Prop where
 gM:eI B fns gv k "has_mark" 0
 jy:eI B fns gv k "size_of" 1
 rT:eI B fns gv k "lets" 2
 fx:eI B fns gv k "lets_size" 3
 i8:eI B fns gv k "name_of" 4
 jr:eI B fns gv k "kind_of" 5
 jh:eI B fns gv k "wish_at" 6
 iT:eI B fns gv k "card_at" 7
 dk:eI B fns gv k "least_left" 8
 bX:eI B fns gv k "are_kinds_unlike" 9
 cx:eI B fns gv k "are_names_alike" 10
 cD:eI B fns gv k "is_wish_in_way" 11
 cw:eI B fns gv k "is_least_in_way" 12
 kC:eI B fns gv k "in_way" 13
 sy:eI B fns gv k "part" 14
 rV:eI B fns gv k "rank" 15
 n6:eI B fns gv k "ranks" 16
 lH:eI B fns gv k "row_of" 17
 gN:eI B fns gv k "sides_of" 18
 i5:eI B fns gv k "sets_of" 19
 eH:eI B fns gv k "by_numbers" 20
 cW:eI B fns gv k "first_meeting" 21
 gL:eI B fns gv k "_law_cell_at" 22
 nB:eI B fns gv k "_law_tape" 23
 oq:eI B fns gv k "_law_draw" 24
 nT:eI B fns gv k "_law_pick" 25
 lr:eI B fns gv k "_law_name" 26
 jA:eI B fns gv k "_law_number" 27
 nM:eI B fns gv k "_law_card" 28
 oE:eI B fns gv k "_law_wish" 29
 kN:eI B fns gv k "_law_offer" 30
 nK:eI B fns gv k "_law_lets" 31
 nU:eI B fns gv k "_law_part" 32
 i7:eI B fns gv k "_law_before" 33
 tw:eI B fns gv k "_law_row" 34
 nX:eI B fns gv k "_law_sets" 35
 kP:eI B fns gv k "_law_first" 36
 og:eI B fns gv k "_law_rule" 37
 lC:eI B fns gv k "_law_borne" 38
 gJ:eI B fns gv k "_law_waiters" 39
 jx:eI B fns gv k "_law_turned" 40
 A9:eI B fns gv k "law" 41
abbrev gm(ns:List Str)(x:Str)(st:TM)(b:S):Prop:=∀{B:Bs}{k:Nat}{f:RB}{cdv:R3}{A:SV}{sk:List Td}{fs:List RB}{z:Nat},yZ B->A2 B k->eK k (A.deeper (envOfC x (ag st) z f cdv))->Bd (c6 fns gv k) gv (Ep B ns x (ag st) f cdv A sk fs z) (cq st) b
abbrev IR(ns:List Str)(x:Str)(st:TM)(b:S):Prop:=∀{B:Bs}{k:Nat}{f:RB}{cdv:R3}{A:SV}{sk:List Td}{fs:List RB}{z:Nat},yZ B->A2 B k->eK k (A.deeper (envOfC x (ag st) z f cdv))->eK (k+1) A->codeIn B.K cdv x=true->Bd (c6 fns gv k) gv (Ep B ns x (ag st) f cdv A sk fs z) (cq st) b
section
variable{B:Bs}{k:Nat}{f:RB}{cdv:R3}{A:SV}{sk:List Td}{fs:List RB}{z:Nat}
theorem tI:gm ["card","word"] "has_mark" gF eY:=by
 wtm_at "poaz96435cb"
theorem wE:gm ["card","word","name","number"] "size_of" iX fX:=by
 wtm_at "poB0k6435";exact(bz [2,3] rfl pH.nd);wtm_at "lif9cbaxggaG"
theorem D3:gm ["wish","card","word"] "lets" sS gI:=by
 wtm_at "poC";exact yc.nd;wtm_at "6435lifdcbaWglifdcba8";exact T1.gM;wtm_at "701916435200glifdcbaz69356435cbglifdcba^8+701643519200glifdcba";refine Aq ?_ ?_ ?_ ?_ ?_;wtm_at "0";exact T0.Hs;wtm_at "1Ç0ueek6435mtvÈqw08+701419200hh2000glifdcba";refine CX ?_ ?_ ?_ ?_ ?_;wtm_at "0";exact T0.Hw;wtm_at "1Ç0ueek6435mtvÈqw08+701419200hh2000ga8";exact T1.fx;wtm_at "701419200"
theorem rN:gm ["wish","card","size"] "lets_size" fA dH:=by
 wtm_at "poC";exact kH.nd;wtm_at "8";exact T1.jy;wtm_at "701916435200lifGcbaWgli6435dcbazf6435cbgazf6435cb"
theorem wL:gm ["offer"] "name_of" i9 jz:=by
 wtm_at "poa6643535"
theorem vY:gm ["offer"] "kind_of" js iS:=by
 wtm_at "poa6643535"
theorem wO:gm ["some","place"] "wish_at" jc iW:=by
 wtm_at "poa6664953535"
theorem vI:gm ["some","place"] "card_at" je iU:=by
 wtm_at "poa6664953535"
theorem qB:gm ["some"] "least_left" eE er:=by
 wtm_at "poaÉ0,1";refine bh (N':=["offer","left"]) ?_ ?_;wtm_at "0ueek4mtv_qw09hh2000"
theorem jC:gm ["some"] "are_kinds_unlike" bW bY:=by
 wtm_at "poazÊ00Dueek4mtv_qw08`701420hh3cb"
theorem jU:gm ["some"] "are_names_alike" cr cu:=by
 wtm_at "poazÊ00Dueek4mtv_qw08";exact T1.i8;wtm_at "701420hhJ0D142000cb"
theorem kW:gm ["some","i","j"] "is_wish_in_way" cC cE:=by
 wtm_at "poa";refine wZ ?_ ?_;wtm_at "z9fcb";refine BR ?_;wtm_at "^8+7018";exact T1.jh;wtm_at "70141920018";exact T1.iT;wtm_at "70141f200200"
theorem jR:gm ["some","i","offer","left"] "is_least_in_way" ck bJ:=by
 wtm_at "poË6495";exact(bz [2,3] rfl fj.nd);wtm_at "azÌ0,16f351x200008";exact T1.dk;wtm_at "701420cb"
theorem zc:gm ["some","i","j"] "in_way" kB iy:=by
 wtm_at "polK8";exact T1.bX;wtm_at "701420mas1d20glK8";exact T1.cx;wtm_at "701420mas1d20gB0T0U1J0D14200020ÍB0T0U1J0D14200020";exact(aG 2 mi.nd);wtm_at "lK8";exact T1.cD;wtm_at "7014191f2000mas1d191f2000gggB0T0U1J0D14200020ÍlK8";exact T1.cw;wtm_at "701419200mas1d19200ggaG"
theorem DR:gm ["some"] "part" tq pj:=by
 wtm_at "poli8";exact T1.kC;wtm_at "701420Gcba8";exact T1.dk;wtm_at "701420ga3"
theorem Ec:gm ["word","waiter","number","offer","left"] "rank" sj oR:=by
 wtm_at "poË9";exact(bz [2,3,4] rfl xW.nd);wtm_at "li4dcba{6x35gli4dcba{Agli4dcbaAga6x35"
theorem CT:gm ["rule","waiter"] "ranks" nR sB:=by
 wtm_at "poaj";refine bh (N':=["word","waiter"]) ?_ ?_;wtm_at "0ueek4mtv";exact(aG 0 (show SF (["word","waiter"]:List Str)from by decide +kernel));wtm_at "qw08";exact T1.rV;wtm_at "701419200hhy1693520"
theorem y4:IR ["rule","waiters","by_rule"] "row_of" kO iz:=by
 wtm_at "ÎoC";exact rq.nd;refine qV (k:=k) (y:="one") (N':=["rule"]) "row_of" ?_ ?_ ?_ ?_ ?_ ?_ ?_ ?_ ?_ ?_ ?_ ?_ ?_ ?_ ?_;wtm_at "7Ï";exact T0.lam;exact hcd;wtm_at "Vee00P0Ð09";intro _ _ _ _ _ hr;wtm_at "8";exact T1.n6;wtm_at "701914200a";refine bh (N':=["number","offer","left"]) ?_ ?_;wtm_at "0ueekfmtvÑqw04hh"
theorem ui:gm ["kind","waiters","alike"] "sides_of" gO fg:=by
 wtm_at "poC";exact mR.nd;refine bh (N':=["waiter","kind"]) ?_ ?_;wtm_at "0ueek9mtv";exact(aG 0 (show SF (["waiter","kind"]:List Str)from by decide +kernel));wtm_at "Li8`7016435209cbqw04hha";refine bh (N':=["side","alike"]) ?_ ?_;wtm_at "0ueek";exact(GJ rfl rfl T0.EQ (by decide));wtm_at "mtv";exact(aG 0 (show SF (["side","alike"]:List Str)from by decide +kernel));wtm_at "qw0";refine bh (N':=["number","offer","left","side"]) ?_ ?_;wtm_at "0ueek9mtv";exact(bz [0,1,2] rfl (show SF (["number","offer","left","side"]:List Str)from by decide +kernel));wtm_at "Li6935xcbqw04hhhh"
theorem v4:gm ["borne","waiters","told","kind","givers","takers","bearers","pairs"] "sets_of" i6 gw:=by
 wtm_at "poC";exact eW.nd;wtm_at "M2B0k";refine sJ (N':=["waiter"]) ?_ ?_ ?_ ?_;wtm_at "00Vueek9mtv";exact(aG 0 (show SF (["waiter"]:List Str)from by decide +kernel));wtm_at "qw08`701643520hh";exact(aG 3 eW.nd);refine yt ?_ ?_ ?_;wtm_at "8";exact T1.gN;wtm_at "701x19200";exact(DS [4,5,6] rfl eW.nd);refine lI (N':=["giver","taker","takers"]) ?_ ?_ ?_ ?_ ?_ ?_;wtm_at "0ueekAmtv";exact(aG 0 (show SF (["giver","taker","takers"]:List Str)from by decide +kernel));wtm_at "q";refine .more rfl ?_ (λ_=>rfl) ?_ ?_ (by decide) (show ∀i∈qC (.nm 1)++fv (.emit (.tup (.cons (.var 0) (.cons (.var 1) .nil)))),i<3 from by decide) ?_;wtm_at "kf";exact(aG 1 (show SF (["giver","taker","takers"]:List Str)from by decide +kernel));wtm_at "qw0s1419200hh";exact eW.nd;wtm_at "0-lix4cbQÒf1";refine bh (N':=["giver","taker","bearer","bearers"]) ?_ ?_;wtm_at "0ueekEmtv";exact(bz [0,1] rfl (show SF (["giver","taker","bearer","bearers"]:List Str)from by decide +kernel));wtm_at "q";refine .more rfl ?_ (λ_=>rfl) ?_ ?_ (by decide) (show ∀i∈qC (.nm 2)++fv (.emit (.tup (.cons (.var 0) (.cons (.var 1) (.cons (.var 2) .nil))))),i<4 from by decide) ?_;wtm_at "kx";exact(aG 2 (show SF (["giver","taker","bearer","bearers"]:List Str)from by decide +kernel));wtm_at "qw0s14191f2000hh20gQÒf1E20ggaÓ0V1f2000"
theorem qo:gm ["waiters"] "by_numbers" eM gX:=by
 wtm_at "poa";refine rB (N':=["number","offer","left"]) ?_ ?_;wtm_at "0Ôeek4mtÕÑq4s191f200h"
theorem md:IR ["rule","borne","waiters","known","places","by_row","numbers","many"] "first_meeting" cU bZ:=by
 wtm_at "ÎoN.8";exact T1.eH;wtm_at "701f20R.";refine rB (N':=["place","number"]) ?_ ?_;wtm_at "0ÔeeÖ0";exact T0.mZ;wtm_at "1";refine PE.tree ?_;wtm_at "8";exact T1.lH;wtm_at "70141f20020mtÕ";exact(bz [0,1] rfl (show SF (["place","number"]:List Str)from by decide +kernel));wtm_at "q94hX.";refine qV (k:=k) (y:="numbers") (N':=["places"]) "first_meeting" ?_ ?_ ?_ ?_ ?_ ?_ ?_ ?_ ?_ ?_ ?_ ?_ ?_ ?_ ?_;wtm_at "7Ï";exact T0.lam;exact hcd;wtm_at "Vee00P0Ð08";exact T1.i5;wtm_at "70191f200";intro _ _ _ _ _ hr;wtm_at "Ø0V1";refine bh (N':=["number","places"]) ?_ ?_;wtm_at "0ueek4mtv";exact(aG 0 (show SF (["number","places"]:List Str)from by decide +kernel));wtm_at "qw0/945bhh2000B0kH";exact(aG 6 dD.nd);wtm_at "!.8";exact T1.sy;wtm_at "701";refine bh (N':=["number","known"]) ?_ ?_;wtm_at "0ueekFmtv";exact(aG 0 (show SF (["number","known"]:List Str)from by decide +kernel));wtm_at "qw0/945bhh20liE3cbas1F1E200ggaG"
theorem u4:gm ["_law_script","_law_k"] "_law_cell_at" gz eT:=by
 wtm_at "poli9J0D142000cba6495ga3"
theorem Cj:gm ["_law_cell"] "_law_tape" oA lJ:=by
 wtm_at "poaM1j4#0$1z4j33cb20001j43132000"
theorem AU:gm ["_law_tape_here","_law_many","_law_found","_law_number_here"] "_law_draw" nN lx:=by
 wtm_at "poli64353cbC|j64359Ùj6435943afgÙj6435343N|jjjj6435j36435333N|jjxjjx333ajjjxjjx3339"
theorem B6:gm ["_law_tape_here","_law_some"] "_law_pick" n9 kM:=by
 wtm_at "poa698r70141J0D1920002005"
theorem CD:gm ["_law_k","_law_some"] "_law_name" nA kX:=by
 wtm_at "poÚ";exact ud.nd;wtm_at "y1d1d1d1d1d1d1d1d1d1d1d1d2000000000000a69j435"
theorem vU:gm ["_law_tape_here"] "_law_number" jf fU:=by
 wtm_at "poa6y18r70141320018r7014132001jj338r70141320020008r7014132005"
theorem Cv:gm ["_law_tape_here","_law_name_here","_law_kind","_law_marks","_law_sizes"] "_law_card" nJ kT:=by
 wtm_at "poN";exact pN.nd;wtm_at ":0%1";refine bh (N':=["_law_mark","_law_tape_here"]) ?_ ?_;wtm_at "0ueeky1d1d1d2000mtv";exact(aG 0 (show SF (["_law_mark","_law_tape_here"]:List Str)from by decide +kernel));wtm_at "Li8r7019132003cbqw04hh2000R";exact pN.nd;wtm_at ":0%1";refine bh (N':=["_law_word","_law_tape_here"]) ?_ ?_;wtm_at "0ueeky1d1d200mtv";exact(aG 0 (show SF (["_law_word","_law_tape_here"]:List Str)from by decide +kernel));wtm_at "Li8r7019132003cbqw0s1418Û701920200hh2000as191f1x1A20000"
theorem A8:gm ["_law_tape_here","_law_deep","_law_way","_law_many"] "_law_wish" ou gW:=by
 wtm_at "poC";exact oW.nd;wtm_at "8r70141j3j3#0$1z93cb2000200lif3cbas1d20glif3cbas1d18}70141y1d1d1d1d20000200200glif3cbas1d18";exact T1.lr;wtm_at "7018r70141320020200glif3cbas16y1d1d200jf3518}70141y1d1d1d200020018Û7014202000glif3cbas1d18~70141j93200200gN";exact oW.nd;wtm_at "j38r701413200as16y1d1d200jf351:0%1";refine bh (N':=["_law_k","_law_tape_here","_law_deep"]) ?_ ?_;wtm_at "0ueeT0U1x20mtv";exact(aG 0 (show SF (["_law_k","_law_tape_here","_law_deep"]:List Str)from by decide +kernel));wtm_at "qw08~70191jf3200hh2000200"
theorem yW:gm ["_law_tape_here","_law_side","_law_name_here","_law_kind","_law_till","_law_many","_law_least","_law_wish_here","_law_weight"] "_law_offer" kY ln:=by
 wtm_at "poX;6y1j38r7014132001j38r7014132001j38r70141j3320020008r7014132005À;6y131j38r70141H2001H20008r7014132005!;6y1s1d2018~7014132002008r7014132005Á;6y18r70141320018r7014132002008r7014132005as1918";exact T1.nM;wtm_at "70141f1x20001E1H1F1<1A20000000"
theorem B2:gm ["_law_wish_here","_law_card_here","_law_word","_law_numbers"] "_law_lets" oh eC:=by
 wtm_at "poC";exact pX.nd;wtm_at "6435lifdcbaWglifdcbaz64356935cbglifdcbaz69356435cbglifdcba^8=701643519200glifdcbazÜ0ueek6435mtvÝLÂK8=701419200mqw04hhy2cbglifdcbazÜ0ueek6435mtvÝLK8=701419200mqw04hhy2cbg";refine lI (N':=["_law_size","_law_number_here","_law_wish_here"]) ?_ ?_ ?_ ?_ ?_ ?_;wtm_at "0ueek6935mtv";exact(bz [0,1] rfl (show SF (["_law_size","_law_number_here","_law_wish_here"]:List Str)from by decide +kernel));wtm_at "Li46f35cbqw09hh";exact pX.nd;wtm_at "0-lixy2cbaWga6y1z6x356435cb1z6x356435cb200#0$1zfdcb20005"
theorem Cq:gm ["_law_some","_law_names","_law_offer_here","_law_left","_law_other","_law_more","_law_many"] "_law_part" ny k7:=by
 wtm_at "po";refine lI (N':=["_law_offer_here","_law_left"]) ?_ ?_ ?_ ?_ ?_ ?_;wtm_at "0ueek4mtvÃqw06643535hh";exact iE.nd;wtm_at "0-lO>iÞ00D0";exact T0.Fj;wtm_at "1ß0ueek4mtvÃqw06643535hh203cb?iÞ00D0";exact T0.Fj;wtm_at "1920J0D192000cba3gB0k4";exact(bz [2,3] rfl iE.nd);wtm_at "B0k4";exact(bz [4,5] rfl iE.nd);wtm_at "lO&i6A356f35cb(ÂK8=7016f3516A35200ma3gggÀ";exact iE.nd;wtm_at "É0,1ß0ueek4mtvÃqw09hh2000li";refine bh (N':=["_law_offer_here","_law_left","_law_many"]) ?_ ?_;wtm_at "0ueek4mtv";exact(bz [0,1] rfl (show SF (["_law_offer_here","_law_left","_law_many"]:List Str)from by decide +kernel));wtm_at "LifÌ0,164351920000cbqw03hhy2cba3gaF"
theorem v6:gm ["_law_rule_here","_law_one","_law_other","_law_word","_law_ranks","_law_number_here","_law_offer_here","_law_left"] "_law_before" i0 gg:=by
 wtm_at "poB0k4";exact(aG 3 gT.nd);wtm_at "R";exact gT.nd;wtm_at "M2B0ky191f200";exact(bz [5,6,7] rfl gT.nd);wtm_at "Q)A1/";refine EJ ?_ ?_ ?_ ?_ ?_;intro _;wtm_at "@Pj36F35@Pj3E@PE@P6F35";exact El;wtm_at "00";exact(by simp);wtm_at "hx5b20gli6A356A35cbaz6A356A35cbggaz69356f35cb"
theorem Ev:gm ["_law_rule_here","_law_waiters_here","_law_found","_law_one","_law_many"] "_law_row" sD pT:=by
 wtm_at "poC";exact n7.nd;wtm_at "M2B0k9";exact(aG 3 n7.nd);wtm_at "R";exact n7.nd;wtm_at "J0D1";refine bh (N':=["_law_other","_law_rule_here","_law_one"]) ?_ ?_;wtm_at "0ueekfmtv";exact(aG 0 (show SF (["_law_other","_law_rule_here","_law_one"]:List Str)from by decide +kernel));wtm_at "LK8";exact T1.i7;wtm_at "7019141f2000mqw04hh2000Q";refine u7 ?_ ?_;wtm_at "f1A1x200gaà0ueekfmtváqw04hh"
theorem Bt:gm ["_law_borne_here","_law_waiters_here","_law_found","_law_one","_law_giver","_law_some","_law_two","_law_taker","_law_more","_law_kind","_law_third"] "_law_sets" om ly:=by
 wtm_at "poC[M2B0k9";exact(bz [3,4,5] rfl kE.nd);wtm_at "B0k9";exact(bz [6,7,8] rfl kE.nd);wtm_at "Ä[66A3535lO&is16A3516E35200s1d1d200cb(i*66E3535cb";refine lI (N':=["_law_number_here","_law_offer_here","_law_left","_law_kind"]) ?_ ?_ ?_ ?_ ?_ ?_;wtm_at "0ueek9mtv";exact(bz [0,1,2] rfl (show SF (["_law_number_here","_law_offer_here","_law_left","_law_kind"]:List Str)from by decide +kernel));wtm_at "Lis1693516693535200s1d1x200cbqw04hh[0-li*4cbC[";refine AM ?_ ?_;wtm_at "f";refine bh (N':=["_law_number_here","_law_one","_law_two"]) ?_ ?_;wtm_at "0ueekYmtv";exact(aG 0 (show SF (["_law_number_here","_law_one","_law_two"]:List Str)from by decide +kernel));wtm_at "qw0s191f142000hhgQ)f1s1x1F20020gggggaÓ0V1f2000"
theorem zP:gm ["_law_rule_here","_law_borne_here","_law_waiters_here","_law_row_here","_law_ones","_law_best","_law_numbers","_law_many","_law_places"] "_law_first" kG iB:=by
 wtm_at "poNZ8";exact T1.tw;wtm_at "70141f200RZ";refine wc ?_ ?_ ?_ ?_ ?_;wtm_at "0";exact T0.GF;wtm_at "1à0ueekfmtváqw0s141s191f200200hh2000XZGB0k8";exact T1.nX;wtm_at "70191f200";exact(aG 6 mq.nd);wtm_at "!Z8";exact T1.nU;wtm_at "701";refine bh (N':=["_law_number_here","_law_ones"]) ?_ ?_;wtm_at "0ueekFmtv";exact(aG 0 (show SF (["_law_number_here","_law_ones"]:List Str)from by decide +kernel));wtm_at "qw0/945bhh20ÁZØ0V1";refine bh (N':=["_law_number_here","_law_row_here"]) ?_ ?_;wtm_at "0ueekFmtv";exact(aG 0 (show SF (["_law_number_here","_law_row_here"]:List Str)from by decide +kernel));wtm_at "qw0";refine zu ?_ ?_;wtm_at "91420hh2000lO&iE3cb(O>iHGcb?";refine Ey ?_ ?_ ?_ ?_;wtm_at "<6H35cbXZs1<1F1E2000gggliHGcbaGgaâHÅ30";exact Cz
theorem BX:gm ["_law_tape_here","_law_words","_law_found","_law_k"] "_law_rule" nP lg:=by
 wtm_at "poÚ";exact lB.nd;wtm_at "M1d1d1d1d20000C";exact lB.nd;wtm_at "M2B0T0U16y13131313132000008r701413200520";exact(aG 3 lB.nd);wtm_at "Q)f1";refine xA ?_ ?_;wtm_at "918r70141J0D1920002002020ga:0%1f2000"
theorem Ac:gm ["_law_tape_here"] "_law_borne" k9 iF:=by
 wtm_at "poa6y1s21s21s1d201s1d1d2001s1d1d1d1d200002000008r7014132005"
theorem uj:gm ["_law_tape_here","_law_most","_law_found","_law_turn","_law_number_here","_law_few","_law_k","_law_side","_law_kind","_law_name_here","_law_offer_here","_law_left"] "_law_waiters" gK fc:=by
 wtm_at "poCIM2NI8r701413200RI8r701413200XI8r701413200B0T0U18r70141j9320020";exact(aG 6 iL.nd);wtm_at "!I8}70141y1d1d1d1d1d200000200ÁI6y1d1d1d20008r70141j3H2005ÄI8";exact T1.lr;wtm_at "701jxjF#0$1z8r7014132003cb200020ÆI8";exact T1.kN;wtm_at "70141E1*1<18r701413200200000lO&ify2cb(i8r7014132003cbÆI66f{3535ggãI6y16Y351j38r701416Y352002008r7014132005Q)f1s1A1Y1]200020RIjjA38r701413200gaf"
theorem va:gm ["_law_tape_here","_law_some","_law_left","_law_found"] "_law_turned" iQ fY:=by
 wtm_at "poCä";refine Bn ?_ ?_ ?_ ?_;wtm_at "0";exact T0.AJ;wtm_at "19200NäM2";refine vX ?_ ?_ ?_;wtm_at "ify2cbQ)x1";refine xA ?_ ?_;wtm_at "f18r70141J0D1f20002002020gax"
theorem CO:gm ["_law_script","_law_at","_law_cell","_law_tape_here","_law_rule_here","_law_borne_here","_law_waiters_here","_law_due","_law_turn","_law_some","_law_handed","_law_found"] "law" ng t8:=by
 wtm_at "poB0Ö0";exact T0.mZ;wtm_at "1";refine PE.tree ?_;wtm_at "jy18";exact T1.gL;wtm_at "70141320020â4Å30Å3020";exact(bz [1,2] rfl p6.nd);wtm_at "NS8";exact T1.nB;wtm_at "701f20RS8";exact T1.og;wtm_at "701x20XS8";exact T1.lC;wtm_at "701x20ÀS8";exact T1.gJ;wtm_at "701x16y1313200#0$1";refine wZ ?_ ?_;wtm_at "z93cb";refine BR ?_;wtm_at "z8r701x132003cb20005200!S8";exact T1.kP;wtm_at "701A1H1F2000B0T0U1320";exact(aG 8 p6.nd);wtm_at "ÄS8";exact T1.jx;wtm_at "701x1F200ÆS";refine yx ?_ ?_ ?_ ?_ ?_;wtm_at "0";exact T0.AJ;wtm_at "1*2000ãS8å701A1H1Y2000lO>i]Ecb?iY*cbaWglO&iEGcb(O>ÂKæ]0";exact T0.ky;wtm_at "0%Pm?Kæ6]350";exact T0.ky;wtm_at "0";exact T0.FP;wtm_at "PmaWgggaz8å701s21s1d201y22000Gcb"
end
abbrev FB(B:Bs)(x:Str)(st:TM)(ps:List Str):Prop:=∃f fd,DN B.K x x st f fd/\B.mg x=Zz (.ref f)/\Binds B.K fd ps []
structure HM (B:Bs):Prop where
 gM:FB B "has_mark" gF ["card","word"]
 jy:FB B "size_of" iX ["card","word"]
 rT:FB B "lets" sS ["wish","card"]
 fx:FB B "lets_size" fA ["wish","card"]
 i8:FB B "name_of" i9 ["offer"]
 jr:FB B "kind_of" js ["offer"]
 jh:FB B "wish_at" jc ["some","place"]
 iT:FB B "card_at" je ["some","place"]
 dk:FB B "least_left" eE ["some"]
 bX:FB B "are_kinds_unlike" bW ["some"]
 cx:FB B "are_names_alike" cr ["some"]
 cD:FB B "is_wish_in_way" cC ["some","i","j"]
 cw:FB B "is_least_in_way" ck ["some","i"]
 kC:FB B "in_way" kB ["some"]
 sy:FB B "part" tq ["some"]
 rV:FB B "rank" sj ["word","waiter"]
 n6:FB B "ranks" nR ["rule","waiter"]
 lH:FB B "row_of" kO ["rule","waiters"]
 gN:FB B "sides_of" gO ["kind","waiters"]
 i5:FB B "sets_of" i6 ["borne","waiters"]
 eH:FB B "by_numbers" eM ["waiters"]
 cW:FB B "first_meeting" cU ["rule","borne","waiters"]
 gL:FB B "_law_cell_at" gz ["_law_script","_law_k"]
 nB:FB B "_law_tape" oA ["_law_cell"]
 oq:FB B "_law_draw" nN ["_law_tape_here","_law_many"]
 nT:FB B "_law_pick" n9 ["_law_tape_here","_law_some"]
 lr:FB B "_law_name" nA ["_law_k"]
 jA:FB B "_law_number" jf ["_law_tape_here"]
 nM:FB B "_law_card" nJ ["_law_tape_here","_law_name_here","_law_kind"]
 oE:FB B "_law_wish" ou ["_law_tape_here","_law_deep"]
 kN:FB B "_law_offer" kY ["_law_tape_here","_law_side","_law_name_here","_law_kind","_law_till"]
 nK:FB B "_law_lets" oh ["_law_wish_here","_law_card_here"]
 nU:FB B "_law_part" ny ["_law_some"]
 i7:FB B "_law_before" i0 ["_law_rule_here","_law_one","_law_other"]
 tw:FB B "_law_row" sD ["_law_rule_here","_law_waiters_here"]
 nX:FB B "_law_sets" om ["_law_borne_here","_law_waiters_here"]
 kP:FB B "_law_first" kG ["_law_rule_here","_law_borne_here","_law_waiters_here"]
 og:FB B "_law_rule" nP ["_law_tape_here"]
 lC:FB B "_law_borne" k9 ["_law_tape_here"]
 gJ:FB B "_law_waiters" gK ["_law_tape_here","_law_most"]
 jx:FB B "_law_turned" iQ ["_law_tape_here","_law_some"]
 A9:FB B "law" ng ["_law_script"]
theorem aZ{x:Str}{st:TM}{N ps:List Str}{fi np n:Nat}{b:S}{cell:Bool}(sc:ao N ps (ag st))(p:gm N x st b)(hd:fns[fi]?=Zz ⟨np,n,b,cell⟩)(hps:np=ps.length)(hn:N.length=n){B:Bs}{k:Nat}(T0:yZ B)(ih:A2 B k)(F:FB B x st ps):eI B fns gv (k+1) x fi:=
 let⟨_,_,F,m,bb⟩:=F
 GI F m bb sc hd hps hn λ_ _ _ _ _ hr=>p T0 ih hr
theorem aX{x:Str}{st:TM}{ps:List Str}{i:Nat}{B:Bs}(F:FB B x st ps):eI B fns gv 0 x i:=
 let⟨_,_,F,m,b⟩:=F
 DO F m b
theorem FD{x:Str}{st:TM}{N ps:List Str}{fi np n:Nat}{b:S}{cell:Bool}(sc:ao N ps (ag st))(p:IR N x st b)(hd:fns[fi]?=Zz ⟨np,n,b,cell⟩)(hps:np=ps.length)(hn:N.length=n){B:Bs}{k:Nat}(T0:yZ B)(ih:A2 B k)(F:FB B x st ps):eI B fns gv (k+1) x fi:=
 let⟨_,_,F,m,bb⟩:=F
 DI F m bb sc hd hps hn λ_ hcd _ _ _ _ hr=>p T0 ih (hr.deeper _) hr hcd
theorem Bj{B:Bs}(T0:yZ B)(TF:HM B):∀k:Nat,A2 B k
 |0=>⟨aX TF.gM,aX TF.jy,aX TF.rT,aX TF.fx,aX TF.i8,aX TF.jr,aX TF.jh,aX TF.iT,aX TF.dk,aX TF.bX,aX TF.cx,aX TF.cD,aX TF.cw,aX TF.kC,aX TF.sy,aX TF.rV,aX TF.n6,aX TF.lH,aX TF.gN,aX TF.i5,aX TF.eH,aX TF.cW,aX TF.gL,aX TF.nB,aX TF.oq,aX TF.nT,aX TF.lr,aX TF.jA,aX TF.nM,aX TF.oE,aX TF.kN,aX TF.nK,aX TF.nU,aX TF.i7,aX TF.tw,aX TF.nX,aX TF.kP,aX TF.og,aX TF.lC,aX TF.gJ,aX TF.jx,aX TF.A9⟩
 |k+1 =>
  have ih:=Bj T0 TF k
  ⟨aZ tJ tI rfl rfl rfl T0 ih TF.gM,aZ pH wE rfl rfl rfl T0 ih TF.jy,aZ yc D3 rfl rfl rfl T0 ih TF.rT,aZ kH rN rfl rfl rfl T0 ih TF.fx,aZ wg wL rfl rfl rfl T0 ih TF.i8,aZ wa vY rfl rfl rfl T0 ih TF.jr,aZ vZ wO rfl rfl rfl T0 ih TF.jh,aZ vk vI rfl rfl rfl T0 ih TF.iT,aZ qD qB rfl rfl rfl T0 ih TF.dk,aZ jD jC rfl rfl rfl T0 ih TF.bX,aZ jS jU rfl rfl rfl T0 ih TF.cx,aZ kQ kW rfl rfl rfl T0 ih TF.cD,aZ fj jR rfl rfl rfl T0 ih TF.cw,aZ mi zc rfl rfl rfl T0 ih TF.kC,aZ DU DR rfl rfl rfl T0 ih TF.sy,aZ xW Ec rfl rfl rfl T0 ih TF.rV,aZ Bg CT rfl rfl rfl T0 ih TF.n6,FD rq y4 rfl rfl rfl T0 ih TF.lH,aZ mR ui rfl rfl rfl T0 ih TF.gN,aZ eW v4 rfl rfl rfl T0 ih TF.i5,aZ qE qo rfl rfl rfl T0 ih TF.eH,FD dD md rfl rfl rfl T0 ih TF.cW,aZ uI u4 rfl rfl rfl T0 ih TF.gL,aZ BU Cj rfl rfl rfl T0 ih TF.nB,aZ tP AU rfl rfl rfl T0 ih TF.oq,aZ BP B6 rfl rfl rfl T0 ih TF.nT,aZ ud CD rfl rfl rfl T0 ih TF.lr,aZ wn vU rfl rfl rfl T0 ih TF.jA,aZ pN Cv rfl rfl rfl T0 ih TF.nM,aZ oW A8 rfl rfl rfl T0 ih TF.oE,aZ rg yW rfl rfl rfl T0 ih TF.kN,aZ pX B2 rfl rfl rfl T0 ih TF.nK,aZ iE Cq rfl rfl rfl T0 ih TF.nU,aZ gT v6 rfl rfl rfl T0 ih TF.i7,aZ n7 Ev rfl rfl rfl T0 ih TF.tw,aZ kE Bt rfl rfl rfl T0 ih TF.nX,aZ mq zP rfl rfl rfl T0 ih TF.kP,aZ lB BX rfl rfl rfl T0 ih TF.og,aZ zF Ac rfl rfl rfl T0 ih TF.lC,aZ iL uj rfl rfl rfl T0 ih TF.gJ,aZ o0 va rfl rfl rfl T0 ih TF.jx,aZ p6 CO rfl rfl rfl T0 ih TF.A9⟩
end My
namespace My
open PySem PySem.Spec PyProof.Rows Mi
theorem IV{α:Type}{P:List α->Prop}{us:List α}(hl:us.length=1)(h:∀x0:α,P [x0]):P us:=by
 rcases us with _|⟨x0,us⟩
 ·simp at hl
 rcases us with _|⟨y,us⟩
 ·exact h x0
 ·simp at hl
theorem Iu{α:Type}{P:List α->Prop}{us:List α}(hl:us.length=2)(h:∀x0 x1:α,P [x0,x1]):P us:=by
 rcases us with _|⟨x0,us⟩
 ·simp at hl
 rcases us with _|⟨x1,us⟩
 ·simp at hl
 rcases us with _|⟨y,us⟩
 ·exact h x0 x1
 ·simp at hl
theorem Iq{α:Type}{P:List α->Prop}{us:List α}(hl:us.length=3)(h:∀x0 x1 x2:α,P [x0,x1,x2]):P us:=by
 rcases us with _|⟨x0,us⟩
 ·simp at hl
 rcases us with _|⟨x1,us⟩
 ·simp at hl
 rcases us with _|⟨x2,us⟩
 ·simp at hl
 rcases us with _|⟨y,us⟩
 ·exact h x0 x1 x2
 ·simp at hl
theorem Iw{α:Type}{P:List α->Prop}{us:List α}(hl:us.length=5)(h:∀x0 x1 x2 x3 x4:α,P [x0,x1,x2,x3,x4]):P us:=by
 rcases us with _|⟨x0,us⟩
 ·simp at hl
 rcases us with _|⟨x1,us⟩
 ·simp at hl
 rcases us with _|⟨x2,us⟩
 ·simp at hl
 rcases us with _|⟨x3,us⟩
 ·simp at hl
 rcases us with _|⟨x4,us⟩
 ·simp at hl
 rcases us with _|⟨y,us⟩
 ·exact h x0 x1 x2 x3 x4
 ·simp at hl
abbrev FE(K:V5)(x:Str)(st:TM):Prop:=∃(f:RB) (oc kV dc pm cd ct:R3) (od an:Option RB) (sl:Array (Option R3)),nsIn K Rz x=Zz (Zz (.ref f))/\K.lookup f=Zz ⟨oc,od,.func (fnOf x x (fB st) (cq st) (ag st) .none kV dc pm an cd ct),sl⟩/\codeIn K cd x=true
theorem aY{P:S9}{w:SY}{K:V5}{mg:Str->Option R3}{tbs:List RB}{base:SA}(tT:∀P∈tbs,K.lookup P=Zz (tabObj #[])){h:SA}{x:Str}{st:TM}{ps:List Str}(X:K.In h)(G:h.Ns Rz mg)(e:FE K x st)(hb:∀(kV doc pm:R3) (an:Option RB) (cdv ct:R3) (us:List R3),us.length=ps.length->Tf (fnOf x x (fB st) (cq st) (ag st) .none kV doc pm an cdv ct) ⟨us,[]⟩=pure (ps.zip us)):FB (C1 P w K mg tbs base) x st ps:=by
 obtain⟨f,oc,kV,dc,pm,cd,ct,od,an,sl,a,l,c⟩:=e;have F:=As (st:=st) (sT tT l (λz=>by cases z)) (wU tT c) (xU tT l);exact⟨_,_,F,mg_of X G a,F.binds (ps:=ps) hb⟩
theorem fe_in{K:V5}{x:Str}{st:TM}{f:RB}{oc kV dc pm cd ct:R3}{od an:Option RB}{sl:Array (Option R3)}(a:nsIn K Rz x=Zz (Zz (.ref f)))(l:K.lookup f=Zz ⟨oc,od,.func (fnOf x x (fB st) (cq st) (ag st) .none kV dc pm an cd ct),sl⟩)(c:codeIn K cd x=true):FE K x st:=
 ⟨_,_,_,_,_,_,_,_,_,_,a,l,c⟩
theorem jV{fd:UW}{ps:List Str}(h:∀x0:R3,Tf fd ⟨[x0],[]⟩=pure (V9 ps [x0]))(us:List R3)(hl:us.length=1):Tf fd ⟨us,[]⟩=pure (V9 ps us):=IV (P:=λus=>Tf fd ⟨us,[]⟩=pure (V9 ps us)) hl h
theorem fH{fd:UW}{ps:List Str}(h:∀x0 x1:R3,Tf fd ⟨[x0,x1],[]⟩=pure (V9 ps [x0,x1]))(us:List R3)(hl:us.length=2):Tf fd ⟨us,[]⟩=pure (V9 ps us):=Iu (P:=λus=>Tf fd ⟨us,[]⟩=pure (V9 ps us)) hl h
theorem BY{fd:UW}{ps:List Str}(h:∀x0 x1 x2:R3,Tf fd ⟨[x0,x1,x2],[]⟩=pure (V9 ps [x0,x1,x2]))(us:List R3)(hl:us.length=3):Tf fd ⟨us,[]⟩=pure (V9 ps us):=Iq (P:=λus=>Tf fd ⟨us,[]⟩=pure (V9 ps us)) hl h
theorem IH{fd:UW}{ps:List Str}(h:∀x0 x1 x2 x3 x4:R3,Tf fd ⟨[x0,x1,x2,x3,x4],[]⟩=pure (V9 ps [x0,x1,x2,x3,x4]))(us:List R3)(hl:us.length=5):Tf fd ⟨us,[]⟩=pure (V9 ps us):=Iw (P:=λus=>Tf fd ⟨us,[]⟩=pure (V9 ps us)) hl h
theorem all_mk{l:Xp}{w:SY}{K:V5}{h:SA}{mg:Str->Option R3}{fa:RB}(tT:∀P∈([126,146]:List RB),K.lookup P=Zz (tabObj #[]))(tB:yw ([126,146]:List RB) K=true)(X:K.In h)(G:h.Ns Rz mg)(hfa:mg "law" = Zz (.ref fa))(h0:FE K "has_mark" gF)(h1:FE K "size_of" iX)(h2:FE K "lets" sS)(h3:FE K "lets_size" fA)(h4:FE K "name_of" i9)(h5:FE K "kind_of" js)(h6:FE K "wish_at" jc)(h7:FE K "card_at" je)(h8:FE K "least_left" eE)(h9:FE K "are_kinds_unlike" bW)(h10:FE K "are_names_alike" cr)(h11:FE K "is_wish_in_way" cC)(h12:FE K "is_least_in_way" ck)(h13:FE K "in_way" kB)(h14:FE K "part" tq)(h15:FE K "rank" sj)(h16:FE K "ranks" nR)(h17:FE K "row_of" kO)(h18:FE K "sides_of" gO)(h19:FE K "sets_of" i6)(h20:FE K "by_numbers" eM)(h21:FE K "first_meeting" cU)(h22:FE K "_law_cell_at" gz)(h23:FE K "_law_tape" oA)(h24:FE K "_law_draw" nN)(h25:FE K "_law_pick" n9)(h26:FE K "_law_name" nA)(h27:FE K "_law_number" jf)(h28:FE K "_law_card" nJ)(h29:FE K "_law_wish" ou)(h30:FE K "_law_offer" kY)(h31:FE K "_law_lets" oh)(h32:FE K "_law_part" ny)(h33:FE K "_law_before" i0)(h34:FE K "_law_row" sD)(h35:FE K "_law_sets" om)(h36:FE K "_law_first" kG)(h37:FE K "_law_rule" nP)(h38:FE K "_law_borne" k9)(h39:FE K "_law_waiters" gK)(h40:FE K "_law_turned" iQ)(h41:FE K "law" ng){ga0:RB}{its0:Array R3}{gn0:Nat}{gsl0:Array (Option R3)}(gv0:nsIn K Rz "SIDES" = Zz (Zz (.ref ga0)))(gl0:K.lookup ga0=Zz ⟨.type "tuple",Zy,.seq its0 gn0,gsl0⟩)(gz0:its0.size<=Ru)(gs0:oP [[103,105,118,101],[116,97,107,101],[98,101,97,114]] its0.toList)(z0:nsIn K Rz "all" = Zz Zy)(z1:nsIn K Rz "any" = Zz Zy)(z2:nsIn K Rz "bool" = Zz Zy)(z3:nsIn K Rz "dict" = Zz Zy)(z4:nsIn K Rz "enumerate" = Zz Zy)(z5:nsIn K Rz "int" = Zz Zy)(z6:nsIn K Rz "isinstance" = Zz Zy)(z7:nsIn K Rz "len" = Zz Zy)(z8:nsIn K Rz "list" = Zz Zy)(z9:nsIn K Rz "min" = Zz Zy)(z10:nsIn K Rz "range" = Zz Zy)(z11:nsIn K Rz "set" = Zz Zy)(z12:nsIn K Rz "sorted" = Zz Zy)(z13:nsIn K Rz "tuple" = Zz Zy): ∃fd:UW,(∀(s:R9) (v:R3),Y2 s fd ⟨[v],[]⟩ [("_law_script",v)])/\∀base:SA,(cR ([126,146]:List RB) K).In base->zX (C1 l.prog w K mg ([126,146]:List RB) base) (c6 fns gv 41 41) 41 fa fd ["_law_script"]:=by
 have T0:∀base:SA,yZ (C1 l.prog w K mg ([126,146]:List RB) base):=λbase=>⟨To X G z0,To X G z1,To X G z2,To X G z3,To X G z4,To X G z5,To X G z6,To X G z7,To X G z8,To X G z9,To X G z10,To X G z11,To X G z12,To X G z13,yr (mg_of X G gv0) (sT tT gl0 (λz=>by cases z)) gz0 gs0,ED tT tB⟩
 have TF:∀base:SA,HM (C1 l.prog w K mg ([126,146]:List RB) base):=λbase=>⟨aY tT X G h0 λ_ _ _ _ _ _ us hl=>fH (λ_ _=>rfl) us hl,aY tT X G h1 λ_ _ _ _ _ _ us hl=>fH (λ_ _=>rfl) us hl,aY tT X G h2 λ_ _ _ _ _ _ us hl=>fH (λ_ _=>rfl) us hl,aY tT X G h3 λ_ _ _ _ _ _ us hl=>fH (λ_ _=>rfl) us hl,aY tT X G h4 λ_ _ _ _ _ _ us hl=>jV (λ_=>rfl) us hl,aY tT X G h5 λ_ _ _ _ _ _ us hl=>jV (λ_=>rfl) us hl,aY tT X G h6 λ_ _ _ _ _ _ us hl=>fH (λ_ _=>rfl) us hl,aY tT X G h7 λ_ _ _ _ _ _ us hl=>fH (λ_ _=>rfl) us hl,aY tT X G h8 λ_ _ _ _ _ _ us hl=>jV (λ_=>rfl) us hl,aY tT X G h9 λ_ _ _ _ _ _ us hl=>jV (λ_=>rfl) us hl,aY tT X G h10 λ_ _ _ _ _ _ us hl=>jV (λ_=>rfl) us hl,aY tT X G h11 λ_ _ _ _ _ _ us hl=>BY (λ_ _ _=>rfl) us hl,aY tT X G h12 λ_ _ _ _ _ _ us hl=>fH (λ_ _=>rfl) us hl,aY tT X G h13 λ_ _ _ _ _ _ us hl=>jV (λ_=>rfl) us hl,aY tT X G h14 λ_ _ _ _ _ _ us hl=>jV (λ_=>rfl) us hl,aY tT X G h15 λ_ _ _ _ _ _ us hl=>fH (λ_ _=>rfl) us hl,aY tT X G h16 λ_ _ _ _ _ _ us hl=>fH (λ_ _=>rfl) us hl,aY tT X G h17 λ_ _ _ _ _ _ us hl=>fH (λ_ _=>rfl) us hl,aY tT X G h18 λ_ _ _ _ _ _ us hl=>fH (λ_ _=>rfl) us hl,aY tT X G h19 λ_ _ _ _ _ _ us hl=>fH (λ_ _=>rfl) us hl,aY tT X G h20 λ_ _ _ _ _ _ us hl=>jV (λ_=>rfl) us hl,aY tT X G h21 λ_ _ _ _ _ _ us hl=>BY (λ_ _ _=>rfl) us hl,aY tT X G h22 λ_ _ _ _ _ _ us hl=>fH (λ_ _=>rfl) us hl,aY tT X G h23 λ_ _ _ _ _ _ us hl=>jV (λ_=>rfl) us hl,aY tT X G h24 λ_ _ _ _ _ _ us hl=>fH (λ_ _=>rfl) us hl,aY tT X G h25 λ_ _ _ _ _ _ us hl=>fH (λ_ _=>rfl) us hl,aY tT X G h26 λ_ _ _ _ _ _ us hl=>jV (λ_=>rfl) us hl,aY tT X G h27 λ_ _ _ _ _ _ us hl=>jV (λ_=>rfl) us hl,aY tT X G h28 λ_ _ _ _ _ _ us hl=>BY (λ_ _ _=>rfl) us hl,aY tT X G h29 λ_ _ _ _ _ _ us hl=>fH (λ_ _=>rfl) us hl,aY tT X G h30 λ_ _ _ _ _ _ us hl=>IH (λ_ _ _ _ _=>rfl) us hl,aY tT X G h31 λ_ _ _ _ _ _ us hl=>fH (λ_ _=>rfl) us hl,aY tT X G h32 λ_ _ _ _ _ _ us hl=>jV (λ_=>rfl) us hl,aY tT X G h33 λ_ _ _ _ _ _ us hl=>BY (λ_ _ _=>rfl) us hl,aY tT X G h34 λ_ _ _ _ _ _ us hl=>fH (λ_ _=>rfl) us hl,aY tT X G h35 λ_ _ _ _ _ _ us hl=>fH (λ_ _=>rfl) us hl,aY tT X G h36 λ_ _ _ _ _ _ us hl=>BY (λ_ _ _=>rfl) us hl,aY tT X G h37 λ_ _ _ _ _ _ us hl=>jV (λ_=>rfl) us hl,aY tT X G h38 λ_ _ _ _ _ _ us hl=>jV (λ_=>rfl) us hl,aY tT X G h39 λ_ _ _ _ _ _ us hl=>fH (λ_ _=>rfl) us hl,aY tT X G h40 λ_ _ _ _ _ _ us hl=>fH (λ_ _=>rfl) us hl,aY tT X G h41 λ_ _ _ _ _ _ us hl=>jV (λ_=>rfl) us hl⟩
 obtain⟨f41,oc41,kV41,dc41,pm41,cd41,ct41,od41,an41,sl41,a41,l41,c41⟩:=h41;have e:=hfa.symm.trans (mg_of X G a41);cases e;have F41:=As (st:=ng) (sT tT l41 (λz=>by cases z)) (wU tT c41) (xU tT l41);refine⟨fnOf "law" "law" (fB ng) (cq ng) (ag ng) .none kV41 dc41 pm41 an41 cd41 ct41,λs v=>.of_eq rfl,λbase _=>(wm (B:=(C1 l.prog w K mg ([126,146]:List RB) base)) F41 p6 rfl rfl rfl λ_ _ _ _ _ _ hr=>(CO (T0 base) (Bj (T0 base) (TF base) 40) (hr.deeper _)).h).2⟩
theorem Hu{l:Xp}{q:S9}{loose:List Str}{XP:(Str->Option R3)->SA->Prop}{d:DefRec}{K:Ym->V5}{as:List RB}{n t:Nat}(hn:l.most=Zz 63)(hdf:d.params.defaults=[])(he:∀P,as=(K P).map (·.1))(T:∀(w:SY) P,P∈([126,146]:List RB)->(K w.params).lookup P=Zz (tabObj #[]))(C:∀(w:SY) P,P∈([126,146]:List RB)->∃c,WX (K w.params) c P=true)(B:∀w:SY,yw ([126,146]:List RB) (K w.params)=true)(F:∀(w:SY) (mg:Str->Option R3) (fa:RB) (h:SA),(K w.params).In h->h.Ns Rz mg->mg d.name=Zz (.ref fa) ->
   ∃fd:UW,(∀(s:R9) (u:R3),Y2 s fd ⟨[u],[]⟩ [("_law_script",u)])/\∀base:SA,(cR ([126,146]:List RB) (K w.params)).In base->zX (C1 l.prog w (K w.params) mg ([126,146]:List RB) base) (c6 fns gv 41 41) 41 fa fd ["_law_script"]):
  PySem.W.WalkX q loose XP (PySem.W.X.obsZ as) (PySem.W.X.valZ K n t) l.row.toRowW d [] (λf vs=>TE f vs):=by
 intro w s₀ s₁ mg mb G y fa o pm cd doc dV kV ho hd hcd hD hmg hg args vals as' L;exact Mi.CU (n:=63) (k:=41) (x:="_law_script") (YP:=λw h=>(K w.params).In h) hn (by decide) hdf ⟨rfl,by decide,by decide⟩ (λ_ _ h=>h) T C B F (λns hl=>law_true ns hl) w s₀ s₁ mg mb G (PySem.W.InK.keeps w _ _ (PySem.W.X.z_facts he y).2.1 (PySem.W.Laid.keeps L)) fa o pm cd doc dV kV ho hd hcd hD hmg hg args vals as'
end My
set_option Elab.async false
namespace PySem.W.Fast
def tw518011526646979890:=()
def tw13547642330062574455:=()
def tw12715157384922431531:=()
def tw9114448674545430625:=()
def tw6852681727115682319:=()
def tw6547932824908749278:=()
def tw15888814672976705777:=()
def tw977212123729349611:=()
def tw1136337132311626591:=()
def tw5842303999261737825:=()
def tw12591901423336878286:=()
def tw3032526990078578159:=()
def tw13823297716109664064:=()
def tw17118919312217839822:=()
def tw12404245399278096250:=()
def tw15057289315674233720:=()
def tw1068197697689502952:=()
def tw9471988580712817690:=()
def tw3341439649755574693:=()
def tw4097821852437001384:=()
def tw12012281213693825435:=()
def tw6435128368481350341:=()
def tw17354173468250012635:=()
def tw12205875978618812354:=()
def tw13201041884557281417:=()
def tw1874915336320485831:=()
def tw8065979069108079221:=()
def tw2471295429002679205:=()
def tw14773753926573286590:=()
def tw10610927942753625105:=()
def tw4061191720228063936:=()
def tw17286977452179185530:=()
def tw14355936955254280523:=()
def tw282928161617043257:=()
def tw13408197841020906456:=()
def tw8546722407709769016:=()
def tw12355895408412435270:=()
def tw2776525110287454297:=()
def tw14853179298020649359:=()
def tw6167461659694973540:=()
def tw6603098608707057692:=()
def tw16878806677771118287:=()
def tw11377676351458933750:=()
def tw8179567913854924015:=()
def tw4613940995036133512:=()
def tw7634413822750130832:=()
def tw12309457898706752115:=()
def tw11757943641540198841:=()
def tw9355322017288164135:=()
def tw11386511488681009702:=()
def tw12751355757726885869:=()
def tw7271214984250678307:=()
def tw12678599257016177325:=()
def tw775451891530539100:=()
def tw4719068169696274181:=()
def tw14536408468102606703:=()
def tw6076363040652152055:=()
def tw13481341278898372447:=()
def tw10976171103114583192:=()
def tw11538838658647563495:=()
def tw3071945981702314579:=()
def tw11111432141613186643:=()
def tw4729924522568261119:=()
def tw10079916281723290138:=()
def tw6165821785676386146:=()
def tw16666160118641673806:=()
def tw1037838923233252445:=()
def tw7704614643823810456:=()
def tw2213893135112283942:=()
def tw6585433377553371596:=()
def tw15617938166139753480:=()
def tw10421650178550311553:=()
def tw6009809330545131112:=()
def tw1201612362127042442:=()
def tw7902471138092411743:=()
def tw3432811371776762999:=()
def tw15093442301610745882:=()
def tw6754796802456530181:=()
def tw4425822362367971449:=()
def tw9633787687531152332:=()
def tw16026836074074690831:=()
def tw3205590357516662602:=()
def tw5166181979799618454:=()
def tw1829743423875100176:=()
def tw11837970276247722281:=()
def tw3626399884959845804:=()
def tw9302946310491259194:=()
def tw3392388505396184977:=()
def tw9482578152437453211:=()
def tw17404260123371285224:=()
def tw6297392681007993034:=()
def tw7757778561987464829:=()
def tw7476328430655183883:=()
def tw18215833299388592907:=()
def tw10419748749240025472:=()
def tw2066928075580275389:=()
def tw5789320632615073198:=()
def tw17347558755422444059:=()
def tw10976040185314934383:=()
def tw11057893382746695796:=()
def tw2164926829880085812:=()
def tw17515159822603163269:=()
def tw16230630674644592441:=()
def tw7962986831676907695:=()
def tw7500946116705595925:=()
def tw15762421803206001659:=()
def tw10565070021187282299:=()
def tw16494308832368304081:=()
def tw17316215265165682556:=()
def tw1984568230822826044:=()
def tw4050114015250539217:=()
def tw12323191082935979573:=()
def tw7347424894297572853:=()
def tw5624507955547858451:=()
def tw10488505203303854398:=()
def tw1329835555049388482:=()
def tw12087407077764690565:=()
def tw1766421489049763581:=()
def tw6201943338585911190:=()
def tw16529065027886988800:=()
def tw4798090923684586644:=()
def tw1386878666754480600:=()
def tw7464890286327054430:=()
def tw14875697112582998031:=()
def tw4349145108248207287:=()
def tw6196280226982010394:=()
def tw3220689601694887578:=()
def tw960810104316255355:=()
def tw14202867404600719750:=()
def tw8113199975308380106:=()
def tw7711052112467353216:=()
def tw8468464112510247073:=()
def tw1339164394384213533:=()
def tw13164892166993807296:=()
def tw9481020836134659715:=()
def tw7895753914782889719:=()
def tw7593241242421218751:=()
def tw18378405188551023854:=()
def tw2658685267996971797:=()
def tw2425287278436261940:=()
def tw16405463078546011766:=()
def tw2900912575191764318:=()
def tw10922148145230248212:=()
def tw11696776994222699114:=()
def tw17110603132867712367:=()
def tw2415665768904791961:=()
def tw13590819682972447807:=()
def tw9134604620122551968:=()
def tw12155213483754387164:=()
def tw7690432302050243105:=()
def tw14601660440343018819:=()
def tw13305617928462354583:=()
def tw6683269574419126226:=()
def tw5223701602423856493:=()
def tw12613543136169852773:=()
def tw17678416215410311026:=()
def tw14984552757003546421:=()
def tw13095901927054754422:=()
def tw942753617610552078:=()
def tw17532757817898151483:=()
def tw2809093289510395793:=()
def tw4371937985460802263:=()
def tw1071128140948678301:=()
def tw1562076852511403267:=()
def tw11259654238823044357:=()
def tw8138481182806466241:=()
def tw14687608974331483807:=()
def tw1053905030725820714:=()
def tw12416198053270692515:=()
def tw10974017258364292892:=()
def tw7772790187162063493:=()
end PySem.W.Fast
noncomputable def PySem.W.Fast.tw2444616187882635236:PySem.Program:=PySem.Challenge.pw_matepoint_k44_who_meets_first
theorem PySem.W.Fast.te2444616187882635236:PySem.Challenge.pw_matepoint_k44_who_meets_first=PySem.W.Fast.tw2444616187882635236:=rfl
open PySem PySem.W PyProof.Rows
set_option maxRecDepth 100000 in
set_option maxHeartbeats 0 in
theorem PySem.Challenge.cw_matepoint_k44_who_meets_first_holds : PySem.Challenge.rw_matepoint_k44_who_meets_first.Holds := by
 w_on;o_law;z_head;(case hw=>w_witness2)
 k_fill
 refine My.Hu (l:=PySem.Challenge.rw_matepoint_k44_who_meets_first) rfl rfl (λ_=>rfl) ?T ?C ?B ?F
 case T=>exact λw=>(Tx.mpr ⟨by k_is,(Tx.mpr ⟨by k_is,(λ_ h=>Yv h RV)⟩)⟩)
 case C=>exact λw=>(Tx.mpr ⟨⟨128,by kernel_rfl⟩,(Tx.mpr ⟨⟨148,by kernel_rfl⟩,(λ_ h=>Yv h RV)⟩)⟩)
 case B=>exact λw=>by kernel_rfl
 case F =>
  intro w mg fa h KX G hmg
  refine' My.all_mk ?tT ?tB KX G hmg ?h0 ?h1 ?h2 ?h3 ?h4 ?h5 ?h6 ?h7 ?h8 ?h9 ?h10 ?h11 ?h12 ?h13 ?h14 ?h15 ?h16 ?h17 ?h18 ?h19 ?h20 ?h21 ?h22 ?h23 ?h24 ?h25 ?h26 ?h27 ?h28 ?h29 ?h30 ?h31 ?h32 ?h33 ?h34 ?h35 ?h36 ?h37 ?h38 ?h39 ?h40 ?h41 ?gv0 ?gl0 ?gz0 ?gs0 ?z0 ?z1 ?z2 ?z3 ?z4 ?z5 ?z6 ?z7 ?z8 ?z9 ?z10 ?z11 ?z12 ?z13
  (case h0|h1|h2|h3|h4|h5|h6|h7|h8|h9|h10|h11|h12|h13|h14|h15|h16|h17|h18|h19|h20|h21|h22|h23|h24|h25|h26|h27|h28|h29|h30|h31|h32|h33|h34|h35|h36|h37|h38|h39|h40|h41=>refine' My.fe_in ?a ?l ?c;(case a=>k_is);(case l=>k_is);(case c=>k_is))
  (case tT=>exact(Tx.mpr ⟨by k_is,(Tx.mpr ⟨by k_is,(λ_ h=>Yv h RV)⟩)⟩))
  (case tB=>kernel_rfl)
  (case gv0|gl0=>k_is)
  (case gz0=>decide)
  (case gs0=>exact(.cons (by decide +kernel) (.cons (by decide +kernel) (.cons (by decide +kernel) .nil))))
  (case z0|z1|z2|z3|z4|z5|z6|z7|z8|z9|z10|z11|z12|z13=>k_is)
end
