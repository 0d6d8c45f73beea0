import PyProof.Rows.All
import Wide.All
import OpenK.AllK
import Wide.FinOn
import Lean
import PyProof.EqAt
import PyProof.EqKinds
import PyProof.TupleCall
import PyProof.ToksMono
import PyProof.StrCalls6
import PyProof.StrLawsReplace
import PyProof.DictUpdate
import PyProof.AutoListH
import PyProof.PassesOwn
import PyProof.Rows.StrSplitMax
import PyProof.Rows.SortWalk
import PyProof.Rows.SortShellK
import PyProof.Rows.SortRunsK
import PyProof.NeKinds
import KE.KSortTup
import KE.KNestM
import KE.KLam
import PySem.Challenge.RW_matepoint_k54_out_at_just_the_till
set_option Elab.async false
set_option linter.all false
set_option maxRecDepth 100000
noncomputable section
theorem Yn{c:Prop}{h:Decidable c}(hc:c){α:Sort u}{t e:α}:ite c t e=t:=if_pos hc
theorem Yo{c:Prop}{h:Decidable c}(hc:¬c){α:Sort u}{t e:α}:ite c t e=e:=if_neg hc
theorem Yp{p:Prop}[Decidable p](h:¬p):decide p=false:=decide_eq_false h
theorem Yq{p:Prop}[Decidable p](h:p):decide p=true:=decide_eq_true h
theorem Yr{α}[BEq α][LawfulBEq α]{a b:α}:(a==b)=false↔a≠b:=beq_eq_false_iff_ne
theorem Ys{a b:Prop}(h:a)(k:¬a):b:=absurd h k
theorem Yt{p:Prop}[i:Decidable p](h:decide p=true):p:=of_decide_eq_true h
open Option renaming some->Zz,none->Zy,ite_none_right_eq_some->RI,map_eq_some_iff->RL,bind_eq_some_iff->RP,map->Sr
open PySem renaming wpAny_bind->R0,Value->R3,wpAny_pure->R5,Shared->RA,Addr->RB,wpAny->RF,mainGlobals->RU,Heap->Rm,model->Rp,sizeLine->Rq,Program->Ry,Expr->S4,Stmt->S5,wpAny_execs_cons->S6,wpAny_holding->SE,Around->SF,wpAny_newObj_type->SG,wpAny_loadPart'->SJ,wpAny_call_entry->SK,World->SS,wpAny_callSpecial?_slot->SU,wpAny_field->SV,Env->SZ,wpAny_Call_Name_kw->Se,mem_of_lookup->Sf,strKind->Sg,wpAny_truthy_bool->Sh,codeAny_builtin->Sj,wpAny_setField->Sk,call->Sq,wpAny_mono->Sv,wpAny_seqItems->Sw,bindArgs->Sx,wpAny_setEntries_of->T4,wpAny_setState_of->T6,wpAny_standAt->TA,codeAny_mono->TC,sizeLine_eq->TS,letOwnedTupleGo->TU,FuncData->TX,plainId_quiet->Te,Str->Tk,starEach->Tx,wpAny_passesOwn->UA,codeAny->UB,bootBuiltins->UE,foldedSetIterable->UF,wpAny_rule->UH,call_meets->UK,Comprehension->UM,wpAny_askSetting->UQ,Scope->UR,Within->UW,assignEach->UX,wpAny_setField_rec->UY,SetTable->Ud,wpAny_attempt->Ui,scanBound->Uj,standAt->Uo,wpAny_fieldsOf->Uq,NameKind->Uu,cellsFrom->V2,attributeBase->V9,wpAny_execs_nil->VD,builtinsNs->VF,wpAny_pyIter_tuple->VG,wpAny_letGo->VI,pickOrder->VJ,sliceBounds->VO,wpAny_pyIter_list->VS,compTurn->VZ,recursionLimit->Va,argBest->Vc,wpAny_tryCatch->Ve,wpAny_call->Vl,compareOp->Vn,wpAny_newList->Vs,codeAny_of_tree->W3,wpAny_ite_false->W4,wpAny_Assign_stores->WB,holding->WE,getItem->WF,setFlight->WH,wpAny_newTuple->WJ,relayAll->WM,Flow->WQ,fits_of_scanBound->WY,wpAny_of_eq->WZ,subscripted->Wc,wpAny_assign_Name->Wd,wpAny_pyIter_enum->We,IsPart->Wi,wpAny_eqBool_int->Wl,slotArgs->Wn,wpAny_isInstance->Wo,Operator->Wp,binaryOp->Wr,noFill_tuple_add->Ws,swapsWith->Wv,noteFrame->Wx,codeAmong->Wz,wpAny_typeOf->X7,valueAt->X9,wpAny_updateSeq->XD,wpAny_runValue->XJ,isSubtype_type->XK,slicePicked->XN,keywordEach->XO,Arguments->XX,TriplesOk->XY,seq_tuple_add->XZ,swapsWithSole->Xa,swappedStores->Xb,wpAny_onRaise->Xc,typeLookup->Xe,typeIs_int->Xf,setAddHashed->Xn,concat_meets->Xq,BindsTo->Xr,intItems->Xx,wpAny_alloc->Y1,intItems_at->Y4,callerA->Y5,setsByText->Y8,wpAny_Name->Y9,backToKw->YB,closureFor->YD,defaultsOf->YE,Model->YI,drawOrder->YJ,storeName->YK,IsZip->YL,Fin->YM,compStart->YN,getMethod->YQ,seqItems?->YR,setNext->YT,spliced->YU,PlainL->YV,operate->YW,Keyword->YX,IsPair->YZ,entryFor->Yb,setField->Yc,raiseNew->Yd,Meets->Yf,IntMulOk->Yg,ZipApart->Yi,Params->Yk,CmpOp->Yl,Drawn->Ym
open List renaming length_map->R2,mem_cons_of_mem->R4,mem_cons->R6,getElem?_eq_some_iff->R8,mem_cons_self->R9,getElem?_eq_getElem->RC,length_append->RD,replicate->RE,not_mem_nil->RG,mem_singleton->RH,getElem?_append_left->RQ,getElem?_map->RR,getElem?_append_right->RV,mem_map->RX,length_eq_zero_iff->RY,getElem?_set_ne->Rc,map_cons->Rf,append_nil->Rh,getElem?_set_self->Ri,mem_of_getElem?->Rj,forall_mem_cons->Rn,Nodup->Ro,length_cons->Rr,map_map->Ru,length_replicate->Rx,size_toArray->Rz,append_assoc->S9,pairwise_map->SA,all_eq_true->SC,map_eq_flatMap->SD,length_set->SI,map_append->SL,mem_append->SM,mem_filter->SN,pairwise_cons->SQ,length_filter_le->SR,range->SX,lookup_cons->Sa,mem_zipIdx_iff_getElem?->Sl,length_take->Sm,replicate_succ->Sp,length_nil->Sy,drop_eq_getElem_cons->T3,getElem_of_mem->T5,length_range->T7,length_singleton->T8,pairwise_singleton->TE,mem_append_left->TG,lookup->TV,pairwise_iff_getElem->TW,isEmpty_nil->TZ,mem_filterMap->Ta,length_drop->Tc,getElem?_replicate->Ti,drop_eq_nil_of_le->Tq,getElem?_take->Tw,getD_eq_getElem?_getD->U1,length_zipIdx->U2,zip->U3,mem_append_right->U4,forIn_cons->U8,length_zip->U9,filter_congr->UG,map_congr_left->UO,getElem_mem->UP,eq_nil_of_length_eq_zero->UT,zip_cons_cons->UZ,filter_filter->Uc,foldl_cons->Ue,nil_append->Uf,nodup_cons->Ug,of_mem_zip->Uh,getElem?_eq_none->Uk,contains_iff_mem->Ul,mem_range->Ur,set_append_left->Uw,mem_iff_getElem->Ux,getElem_inj->V0,any_eq_true->V1,getElem?_eq_none_iff->V5,map_eq_nil_iff->V6,take_left'->VE,filter_append->VH,flatMap_eq_nil_iff->VR,ext_getElem?->VV,flatten_cons->VX,getElem?_zipWith->Vj,take_length->Vp,filter_cons->Vq,map_fst_zip->Vr,length->Vz,pairwise_append->W0,getElem?_of_mem->W1,filterMap_cons->WA,filter_sublist->WC,forIn_nil->WL,foldl->WO,nodup_append->WX,flatMap_cons->Wg,all_cons->Wh,getElem_map->Wm,getElem_zip->X2,map_nil->X3,set_set->XA,drop_zero->XM,toArray->Xj,getD->Xz,map->Yj
open PySem.Heap renaming get?_push_of_some->R7,get?_push_size->RN,lt_size->Re,get?_none_of_le->Rk,get?_update_other->Rs,size_push->S3,get?_update_self->SH,get?_update_ne->Sn,get?_push_ne->TL,SameBut->Tp,ExtBut->VL,size_update->Vk
open Bool renaming and_eq_true->RJ,false_ne_true->RK,false_eq_true->RS,not_true->TJ,or_eq_true->Tl,eq_false_iff->VW,not_eq_true'->Vb,eq_iff_iff->W6,or_true->Xs
open Array renaming length_toList->RM,getElem?_toList->Rw,getElem?_eq_some_iff->TN,toList_map->Tt,getElem?_eq_none_iff->Ut,getElem?_eq_getElem->V3,getElem_toList->Vw,isEmpty_toList->Vx,toList_push->WW,getD->X4,size_map->XH
open Nat renaming le_refl->RO,ne_of_lt->Rd,le_trans->Rg,lt_succ_of_lt->Rv,lt_irrefl->S7,zero_le->S8,lt_of_lt_of_le->SO,le_of_lt->Sb,lt_of_le_of_lt->Si,lt_succ_self->TY,le_succ->Tf,le_of_ble_eq_true->U5,lt_trans->UC,le_of_eq->UD,zero_add->Ua,le_add_right->Uy,ne_of_gt->Uz,sub_self->Vf,le_add_left->W2,not_lt->WI,le_of_succ_le->Wa,succ_le_succ->Wu,succ_ne_self->Wy,sub_le->X5,not_lt_zero->XB,succ_pos->Xu
open PySem.Obj renaming mapSeq->RZ,data_mapFields->SP,isFreed_of_fields->T9,mapFields->UI,cls_mapFields->VU,putSet->WN
open PySem.NameKind renaming free->Rt,cell->Wk
open PySem.Heap.SameBut renaming update->SW
open Option.some renaming inj->SY
open PySem.Around renaming under_plainId->Sc,frames_deeper->Uv
open PyProof.Rows renaming callWith_type1->Ss,IntsAre->TB,callWith_builtin1->Tb,listUpdate_at->Tr,pairsOf_toList->US,pairsOf->Um,get?_update_seq->VC,slot_tuple_getitem->Vi,SortKind->Vv,Keyed->W9,pairsOf_size->WD,seqEpoch_at->WV,subscriptTail->Wj,size_push'->X6,entry_list_sort->XC,keyKind'->XG,slot_list_sort->XI,AllBare->XU,StrsAre->XV,listItems_at->Xk,plain_sorted->Xl,entry_sorted->Xm,oneType'->Xv,mem_zip_self->Xw,sortedAll->Xy,kind_sorted->Y0,Subscript_->YA,failedOf->Ya,IsTup->Ye
open Ne renaming symm->Su
open PySem.F renaming plain_min_loop->T2,slot_tuple_iterator_next->U0,args_tuple_add_2->V8,entry_tuple_add->VN,plainAttrs_list->VP,slot_tuple_add->VY,entry_min_loop->Vd,slot_int_rmul->W5,slot_zip_next->W7,args_tuple_mul_2->WP,entry_tuple_mul->Wb,slot_tuple_mul->Wt
open ForInStep renaming yield->TD
open PySem.W renaming kas_item->TK,mg_none_of->TQ,Frag->To,emptyDict->VQ,instObj->Vu,cellsFrom_some->WR,codeHdIn->WT,hasDictIn->Ww,kia_one->XW,callWith_K->Xh,OpenLaw->Xi,plainGet->Xt,plainGet_of->Y3,hideAll->Y6,Looks->YG,plainOver->YO,kas_rev->YS
open Int renaming toNat_natCast->TM,toNat->Tu,lt_of_le_of_lt->Ub,le_trans->Vh,emod_lt_of_pos->WU,le_refl->Wf,emod_nonneg->XE,not_lt->YF
open False renaming elim->TP
open PySem.Value renaming ref->TR,isStrOf->Td,type->UV,none->Us,bool->Vo,isStrOf_shape->W8,int->XS,str->YH
open PySem.SetTable renaming below->Th,grown->Tv
open PyProof.Rows.F renaming plain_set_update_loop->Tn
open PySem.Calls renaming spliced_cons->Tz,spliced_nil->Un
open PySem.Builtin.Slice renaming slicePlaces->U6,sliceAdjust->V4
open PySem.Builtin.SmallTypes renaming nextOf->U7
open PySem.Builtin.List renaming listTooLong->UJ
open PySem.Builtin.Tuple renaming tupleExact->UL
open List.cons renaming inj->UN
open PySem.Str renaming ofString->UU
open PySem.AutoSeq1 renaming sub_tuple_tuple->V7,idx_int->Wq
open List.Perm renaming eq_of_pairwise->VA
open PySem.W.KasT renaming kasWp_bind->VB
open PySem.Builtin.Str renaming occurrences->VM
open Exists renaming intro->Vg
open PySem.Walks renaming list->Vm,tuple->Vy,strAscii->XQ,strWide->Xd,range->Y2
open PySem.Shared renaming TypeIs->Vt
open And renaming intro->WG
open PySem.W.Looks renaming here->WS
open True renaming intro->X8
open Sum renaming inl->XR,inr->XT
open PySem.SeqAt renaming EqAt->Xg
open PySem.pickOrder renaming go->Xo
open Nat.succ renaming inj->Xp
open PyProof.Rows.SortSt renaming mk'->Y7
open Or renaming inr->YC,inl->YY
open Prod renaming ext->Yh
open PySem.W (Frag OpenLaw callWith_K cellsFrom_some codeHdIn codeIn emptyDict envX findIn fnOf hasDictIn hideAll instObj isFn keepIn kia_one kla_fn lookIn makesIn mg_none_of mg_of nsIn plainGet plainGet_of plainOver tabObj takerIn)
section
set_option Elab.async false
namespace L2
open PySem PySem.Spec PyProof.Rows
noncomputable abbrev Key:=Sum Int Str
noncomputable def n8:Key->R3->Bool
 |.inl k,v=>Value.isInt k v
 |.inr x,v=>Td x v
noncomputable def Lb(w:SS):Key->Int
 |.inl k=>hashInt k
 |.inr x=>hashStr w x
theorem bc:∀{k:Key}{v:R3},n8 k v=true->(∃i t,k=XR i/\v=XS i t)∨(∃x t,k=XT x/\v=YH x t)
 |.inl i,v,h=>by
  obtain⟨t,e⟩:=Value.isInt_shape (k:=i) (v:=v) h;exact .inl ⟨i,t,rfl,e⟩
 |.inr x,v,h=>by
  obtain⟨t,e⟩:=W8 (x:=x) (v:=v) h;exact .inr ⟨x,t,rfl,e⟩
theorem A7(i:Int)(t:Tok):n8 (.inl i) (.int i t)=true:=by simp[n8,Value.isInt]
theorem Bg(x:Str)(t:Tok):n8 (.inr x) (.str x t)=true:=by simp[n8,Td]
theorem Hz(a b:Int):decide ((XR a:Key)=XR b)=(a==b):=by
 by_cases e:a=b
 ·subst e;simp
 ·have h:¬(XR a:Key)=XR b:=λq=>e (Sum.inl.inj q)
  rw[Yp h];exact(Yr.mpr e).symm
theorem HF(a b:Str):decide ((XT a:Key)=XT b)=decide (a=b):=by
 by_cases e:a=b
 ·subst e;simp
 ·have h:¬(XT a:Key)=XT b:=λq=>e (Sum.inr.inj q)
  rw[Yp h,Yp e]
theorem HE(a:Int)(b:Str):decide ((XR a:Key)=XT b)=false:=Yp (λq=>nomatch q)
theorem Ic(a:Str)(b:Int):decide ((XT a:Key)=XR b)=false:=Yp (λq=>nomatch q)
noncomputable def fc(prog:Ry)(w:SS):PySem.KeyKind prog w Key where
 is:=n8
 hash:=Lb w
 inj:=λv a b ha hb=>by
  rcases bc ha with⟨i,t,rfl,rfl⟩|⟨x,t,rfl,rfl⟩
  ·rcases bc hb with⟨j,u,rfl,e⟩|⟨y,u,rfl,e⟩
   ·injection e with e1 _;rw[e1]
   ·exact nomatch e
  ·rcases bc hb with⟨j,u,rfl,e⟩|⟨y,u,rfl,e⟩
   ·exact nomatch e
   ·injection e with e1 _;rw[e1]
 byValue:=λk v h=>by
  rcases bc h with⟨i,t,rfl,rfl⟩|⟨x,t,rfl,rfl⟩<;>rfl
 pyHash:=λhv h=>by
  rcases bc hv with⟨i,t,rfl,rfl⟩|⟨x,t,rfl,rfl⟩
  ·exact wpAny_pyHash_int h
  ·exact wpAny_pyHash_str h
 eqBool:=λhu hv h=>by
  rcases bc hu with⟨i,t,rfl,rfl⟩|⟨x,t,rfl,rfl⟩
  ·rcases bc hv with⟨j,u,rfl,rfl⟩|⟨y,u,rfl,rfl⟩
   ·rw[Hz]at h;exact Wl h
   ·rw[HE]at h;exact SeqAt.EqAt.int_str i t y u _ _ _ _ h
  ·rcases bc hv with⟨j,u,rfl,rfl⟩|⟨y,u,rfl,rfl⟩
   ·rw[Ic]at h;exact SeqAt.EqAt.str_int x t j u _ _ _ _ h
   ·rw[HF]at h;exact wpAny_eqBool_str h
 «strs»:=λk x t v h=>by
  rcases bc h with⟨i,u,rfl,e⟩|⟨y,u,rfl,e⟩
  ·exact nomatch e
  ·injection e with e1 _
   subst e1;cases v<;>rfl
theorem wJ(prog:Ry)(w:SS)(i:Int)(t:Tok):(fc prog w).is (.inl i) (.int i t)=true:=A7 i t
theorem vO(prog:Ry)(w:SS)(x:Str)(t:Tok):(fc prog w).is (.inr x) (.str x t)=true:=Bg x t
end L2
namespace Att
open PySem PySem.W PySem.Calls PyProof.Rows
theorem oZ{P:Yk}{h:Rm}:∀(ns:List Int) (vs:List R3),WellAll P h vs (ns.map WData.int)->TB vs ns:=by
 intro ns
 induction ns with
 |nil =>
  intro vs w;rw[X3]at w;cases w;exact .nil
 |cons n ns ih =>
  intro vs w;rw[Rf]at w;cases w with
  |cons a b =>
   cases a;exact .cons _ _ (ih _ b)
theorem Bb{l:Xi}{n:Nat}(hn:l.most=Zz n){P:Yk}{h:Rm}{args:List WData}{vals:List R3}(hpre:l.row.toRowW.claim.pre args=true)(hwl:WellAll P h vals args):
  ∃a vs ns,vals=[TR a]/\args=[WData.list (ns.map WData.int)]/\h.get? a=Zz { cls:=.type "list",data:=.seq vs.toArray }/\TB vs ns/\ns.length<=n:=by
 have hsh:WShape.hasAll [] args [.list .int]=true:=(pre_splitW hpre).1;have hc:l.pre.holds [] { args:=args }=true:=(pre_splitW hpre).2;obtain⟨d,r,rfl,h1,h2⟩:=hasAllW_cons hsh;obtain rfl:=hasAllW_nil h2;obtain⟨xs,rfl,h3⟩:=hasW_list h1;obtain⟨ns,rfl⟩:=items_int h3;have hlen:ns.length<=n:=by
  unfold OpenLaw.pre at hc;have h4:(WTm.not (.lt (.lit (.int (n:Int))) (.len (.arg 0)))).holds [] { args:=[.list (ns.map .int)] }=true:=by
   have h4:=(holds_andW hc).1;rw[hn]at h4;exact h4
  have h5:=condW_of h4 (w_not (w_lt w_lit (w_len_list (w_arg rfl))));rw[R2]at h5;refine Nat.le_of_not_lt λq=>?_
  have q':(n:Int)<((ns.length:Nat):Int):=by omega
  first
   |(rw[Yq q']at h5;exact Ys h5 (by decide))
   |(simp at h5;omega)
 cases hwl with
 |cons w1 w2 =>
  cases w2;cases w1 with
  |list ho hall=>exact⟨_,_,ns,rfl,rfl,ho,oZ ns _ hall,hlen⟩
theorem Bw(l:Xi)(args:List WData):l.row.toRowW.claim.post args (.bool true) args=true:=
 postW_of (r:=l.row.toRowW) (X:=(true==true))
  (show WShape.has [] (.bool true) .bool=true by first|rfl|decide|simp[WShape.has,WShape.arms,WShape.armsAll])
  (show(WTm.eq .res (.lit (.bool true))).value [] { args:=args,res:=Zz (.bool true),after:=args }=Zz (.bool (true==true))from w_eq_bool (w_res rfl) w_lit) rfl
theorem wE{l:Xi}{n:Nat}{q:Ry}{loose:List Str}{XP:(Str->Option R3)->Rm->Prop}{YP:SS->Rm->Prop}{d:DefRec}(hn:l.most=Zz n)(hdf:d.params.defaults=[])(call:∀(w:SS) (s₀ s₁:RA) (mg mb:Str->Option R3) (fa:RB) (o:Obj) (pm cd doc:R3) (a:RB) (vs:List R3) (ns:List Int),
   Ground q loose [] XP w s₀ mg mb s₁.heap->YP w s₁.heap ->
   s₁.heap.get? fa=Zz o->o.data=.func (docDef d.name d.params d.body d.scope pm cd doc)->s₁.heap.CodeRec cd d.name->mg d.name=Zz (.ref fa) ->
   s₁.heap.get? a=Zz { cls:=.type "list",data:=.seq vs.toArray }->TB vs ns->ns.length<=n->s₁.gens=#[] ->
   UB (Rp l.prog w) Y5 (.call (.ref fa) ⟨[.ref a],[]⟩) (λr s'=>r=.ok (.ret (.bool true))/\OldK s₁.heap s'.heap/\s'.os=s₁.os/\XU s'.gens) s₁):
  WalkO q loose XP YP l.row.toRowW d [] (λf vs=>Sq f vs):=by
 intro w s₀ s₁ mg mb G Y fa o pm cd doc dV kV ho hd hcd hD hmg hg args vals as hpre hlay hrd hwl hlo;obtain rfl:dV=.none:=Dflts.none hD hdf;obtain rfl:kV=.none:=Dflts.noKw hD;obtain⟨a,vs,ns,rfl,rfl,hobj,hints,hlen⟩:=Bb hn hpre hwl;refine enter_call (TC (call w s₀ s₁ mg mb fa o pm cd doc a vs ns G Y ho (fd_plain hd) hcd hmg hobj hints hlen hg) λr s' hq=>?_);obtain⟨rfl,h2,h3,h4⟩:=hq;exact⟨.inl ⟨.bool true,.bool true,[],rfl,λ_=>rfl,.bool true,Bw l _,λ_=>⟨List.Pairwise.nil,λ_ hm=>(nomatch hm)⟩⟩,h2,h3,h4⟩
end Att
end
section
set_option backward.eqns.nonrecursive false
set_option backward.eqns.deepRecursiveSplit false
namespace So
open PySem PySem.W PyProof.Rows
variable{n:Nat}{R:Nat->Nat->Bool}{cmp:Nat->Nat->(Bool->RA->Prop)->RA->Prop}{s:RA}{p:Array Nat}
structure Kx (n:Nat) (R:Nat->Nat->Bool):Prop where
 tr:∀i j k,i<n->j<n->k<n->R i j=true->R j k=true->R i k=true
 tot:∀i j,i<n->j<n->i≠j->R i j=false->R j i=true
 IS:∀i j,i<n->j<n->R i j=true->R j i=false
def Pm(n:Nat)(p:Array Nat):Prop:=p.toList.Perm (SX n)
theorem Pm.size(h:Pm n p):p.size=n:=by
 have:=h.length_eq;simpa using this
theorem Pm.lt(h:Pm n p)(hk:k<n):p.getD k 0<n:=by
 have hs:=h.size;have e:p.getD k 0=p[k]'(by omega):=by simp[X4,hs,hk]
 rw[e];have:p[k]'(by omega)∈p.toList:=by simp
 have:=h.mem_iff.1 this;simpa using this
theorem Pm.ne(h:Pm n p)(hi:i<n)(hj:j<n)(hij:i≠j):p.getD i 0≠p.getD j 0:=by
 have hs:=h.size;have nd:p.toList.Nodup:=h.nodup_iff.2 List.nodup_range;have ei:p.getD i 0=p.toList[i]'(by simp;omega):=by simp[X4,hs,hi]
 have ej:p.getD j 0=p.toList[j]'(by simp;omega):=by simp[X4,hs,hj]
 rw[ei,ej];have pw:=TW.1 nd;rcases Nat.lt_or_gt_of_ne hij with c|c
 ·exact pw i j _ _ c
 ·exact λe=>pw j i _ _ c e.symm
theorem Pm.rev(h:Pm n p)(i j:Nat):Pm n (YS p i j):=(Array.perm_iff_toList_perm.1 (mirror_perm p i j _)).trans h
theorem Pm.Lw(h:Pm n p)(k d:Nat):Pm n (bubble p k d):=(Array.perm_iff_toList_perm.1 (bubble_perm p k d)).trans h
theorem ii(q:Array Nat)(k:Nat):q.getD k 0=(q[k]?).getD 0:=by
 simp[Array.getD_eq_getD_getElem?]
theorem Dg(h:Pm n p)(hm:m<=n)(k:Nat):(YS p 0 m).getD k 0=if k<m then p.getD (m-1-k) 0 else p.getD k 0:=by
 rw[ii,YS,getElem?_mirror_all (by rw[h.size];exact hm)];by_cases hk:k<m
 ·rw[Yn ⟨S8 _,hk⟩,Yn hk,ii];simp
 ·rw[Yo (by omega),Yo hk,ii]
theorem B9(h:Pm n p)(hk:k<n)(hl:l<=k)(x:Nat):(bubble p k (k-l)).getD x 0=if x=l then p.getD k 0 else if l<x/\x<=k then p.getD (x-1) 0 else p.getD x 0:=by
 rw[ii,getElem?_bubble (by rw[h.size];exact hk) _ (by omega)];have e:k-(k-l)=l:=by omega
 rw[e];split
 ·rw[ii]
 split
 ·rw[ii]
 ·rw[ii]
def Up(R:Nat->Nat->Bool)(p:Array Nat)(m:Nat):Prop:=∀i j,i<j->j<m->R (p.getD i 0) (p.getD j 0)=true
def Dn(R:Nat->Nat->Bool)(p:Array Nat)(m:Nat):Prop:=∀i j,i<j->j<m->R (p.getD j 0) (p.getD i 0)=true
theorem Up.succ(O:Kx n R)(P:Pm n p)(h1:1<=m)(hm:m<n)(u:Up R p m)(e:R (p.getD (m-1) 0) (p.getD m 0)=true):Up R p (m+1):=by
 intro i j hij hj;by_cases c:j<m
 ·exact u i j hij c
 have:j=m:=by omega
 subst this;by_cases d:i=j-1
 ·subst d;exact e
 have d1:i<j-1:=by omega
 have d2:j-1<j:=by omega
 exact O.tr _ _ _ (P.lt (UC hij hm)) (P.lt (UC d2 hm)) (P.lt hm) (u i (j-1) d1 d2) e
theorem Dn.succ(O:Kx n R)(P:Pm n p)(h1:1<=m)(hm:m<n)(u:Dn R p m)(e:R (p.getD m 0) (p.getD (m-1) 0)=true):Dn R p (m+1):=by
 intro i j hij hj;by_cases c:j<m
 ·exact u i j hij c
 have:j=m:=by omega
 subst this;by_cases d:i=j-1
 ·subst d;exact e
 have d1:i<j-1:=by omega
 have d2:j-1<j:=by omega
 exact O.tr _ _ _ (P.lt hm) (P.lt (UC d2 hm)) (P.lt (UC hij hm)) e (u i (j-1) d1 d2)
theorem Dn.rev(P:Pm n p)(hm:m<=n)(u:Dn R p m):Up R (YS p 0 m) m:=by
 intro i j hij hj;rw[Dg P hm,Dg P hm,Yn (by omega),Yn hj];exact u _ _ (by omega) (by omega)
section
variable(O:Kx n R) (hc:∀i j (C:Bool->RA->Prop),i<n->j<n->C (R i j) s->cmp i j C s)
include O hc
theorem xr(P:Pm n p):∀(f m:Nat),1<=m->m+f<=n->Up R p m->(∀m',m<=m'->m'<=m+f->Up R p m'->(m'<m+f->R (p.getD m' 0) (p.getD (m'-1) 0)=true)->Q m' s)->(kas_asc p f m).kasWp cmp Q s
 |0,m,h1,hn,u,q=>q m (RO _) (RO _) u (λh=>Ys h (S7 _))
 |f+1,m,h1,hn,u,q=>by
  have hm:m<n:=by omega
  have hm1:m-1<n:=Si (X5 _ _) hm;have hne:m≠m-1:=by omega
  have hf1:m+1+f<=n:=by omega
  refine hc _ _ _ (P.lt hm) (P.lt hm1) ?_;cases e:R (p.getD m 0) (p.getD (m-1) 0)with
  |true=>exact q m (RO _) (Uy _ _) u (λ_=>e)
  |false =>
   have e2:=O.tot _ _ (P.lt hm) (P.lt hm1) (P.ne hm hm1 hne) e;exact xr P f (m+1) (W2 _ _) hf1 (u.succ O P h1 hm e2) λm' a b c d=>q m' (by omega) (by omega) c (λx=>d (by omega))
theorem zq(P:Pm n p){Q:Array Nat×Nat×Nat->RA->Prop}:∀(f m:Nat),1<=m->m+f<=n->Dn R p m->(∀m',m<=m'->m'<=m+f->Dn R p m'->Q (p,m',0) s)->(kas_desc f p m 0).kasWp cmp Q s
 |0,m,h1,hn,u,q=>q m (RO _) (RO _) u
 |f+1,m,h1,hn,u,q=>by
  have hm:m<n:=by omega
  have hm1:m-1<n:=Si (X5 _ _) hm;have hne:m≠m-1:=by omega
  have hf1:m+1+f<=n:=by omega
  refine hc _ _ _ (P.lt hm) (P.lt hm1) ?_;cases e:R (p.getD m 0) (p.getD (m-1) 0)with
  |true=>exact zq P f (m+1) (W2 _ _) hf1 (u.succ O P h1 hm e) λm' a b c=>q m' (by omega) (by omega) c
  |false =>
   have e2:=O.tot _ _ (P.lt hm) (P.lt hm1) (P.ne hm hm1 hne) e;refine hc _ _ _ (P.lt hm1) (P.lt hm) ?_;rw[e2];exact q m (RO _) (Uy _ _) u
theorem BI(P:Pm n p){m:Nat}(h1:1<=m)(hm:m<=n)(u:Dn R p m){Q:Nat×Array Nat->RA->Prop}(q:∀m' p',1<=m'->m'<=n->Pm n p'->Up R p' m'->Q (m',p') s):(kas_tail3 m n p).kasWp cmp Q s:=by
 unfold kas_tail3;rw[VB];exact xr O hc (P.rev 0 m) (n-m) m h1 (by omega) (u.rev P hm) λm' a b c _=>q m' _ (by omega) (by omega) (P.rev 0 m) c
theorem v3(P:Pm n p)(h2:2<=n)(u:Dn R p 2){Q:Nat×Array Nat->RA->Prop}(q:∀m' p',1<=m'->m'<=n->Pm n p'->Up R p' m'->Q (m',p') s):(kas_descPart 1 n p).kasWp cmp Q s:=by
 unfold kas_descPart;rw[VB];refine zq O hc P (n-(1+1)) 2 (by omega) (by omega) u λm' a b c=>?_
 exact BI O hc P (by omega) (by omega) c q
theorem BF(h1:1<=n)(P:Pm n p)(q:∀m' p',1<=m'->m'<=n->Pm n p'->Up R p' m'->Q (m',p') s):(kas_count n p).kasWp cmp Q s:=by
 unfold kas_count;rw[VB];refine xr O hc P (n-1) 1 (RO _) (by omega) (λi j a b=>by omega) λm a b c d=>?_
 by_cases e:m=n
 ·subst e
  rw[Yn (by simp)];exact q _ _ h1 (RO _) P c
 rw[Yo (by simpa using e)];have hmn:m<n:=by omega
 by_cases g:m>1
 ·rw[Yn g]
  refine hc _ _ _ (P.lt (by first|exact Si (X5 _ _) hmn|exact Si (S8 _) hmn)) (P.lt (by first|exact Si (X5 _ _) hmn|exact Si (S8 _) hmn)) ?_;rw[c 0 (m-1) (Nat.sub_pos_of_lt g) (Nat.sub_lt a Nat.one_pos)];exact q _ _ a (Sb hmn) P c
 ·rw[Yo g]
  have:m=1:=Nat.le_antisymm (Nat.le_of_not_lt g) a;subst this;refine v3 O hc P hmn (λi j hij hj=>?_) q;have:i=0:=by omega
  have:j=1:=by omega
  subst i;subst j;exact d (by omega)
theorem qJ(P:Pm n p)(hk:k<n)(u:Up R p k)(q:∀l,l<=k->(∀i,i<l->R (p.getD i 0) (p.getD k 0)=true)->(∀i,l<=i->i<k->R (p.getD k 0) (p.getD i 0)=true)->Q l s):∀(f l r:Nat),l<=r->r<=k->r-l<=f->(∀i,i<l->R (p.getD i 0) (p.getD k 0)=true)->(∀i,r<=i->i<k->R (p.getD k 0) (p.getD i 0)=true)->(kas_place p k f l r).kasWp cmp Q s
 |0,l,r,hl,hr,hf,a,b=>q l (by omega) a λi x y=>b i (by omega) y
 |f+1,l,r,hl,hr,hf,a,b=>by
  unfold kas_place;by_cases c:l ≥ r
  ·rw[Yn c];exact q l (by omega) a λi x y=>b i (by omega) y
  rw[Yo c];have hm:(l+r) / 2<r:=by omega
  have hl2:l<=(l+r) / 2:=by omega
  have hmk:(l+r) / 2<k:=SO hm hr;have hmn:(l+r) / 2<n:=UC hmk hk;refine hc _ _ _ (P.lt hk) (P.lt hmn) ?_;cases e:R (p.getD k 0) (p.getD ((l+r) / 2) 0)with
  |true =>
   refine qJ P hk u q f l ((l+r) / 2) hl2 (Sb hmk) (by omega) a λi x y=>?_
   by_cases d:i=(l+r) / 2
   ·subst d;exact e
   exact O.tr _ _ _ (P.lt hk) (P.lt hmn) (P.lt (UC y hk)) e (u _ _ (Nat.lt_of_le_of_ne x (Su d)) y)
  |false =>
   have e2:=O.tot _ _ (P.lt hk) (P.lt hmn) (P.ne hk hmn (Uz hmk)) e;refine qJ P hk u q f ((l+r) / 2+1) r hm hr (by omega) (λi x=>?_) b;by_cases d:i=(l+r) / 2
   ·subst d;exact e2
   have x2:i<(l+r) / 2:=Nat.lt_of_le_of_ne (Nat.le_of_lt_succ x) d;exact O.tr _ _ _ (P.lt (UC x2 hmn)) (P.lt hmn) (P.lt hk) (u _ _ x2 hmk) e2
theorem BH(q:∀p',Pm n p'->Up R p' n->Q p' s):∀(f k:Nat) (p:Array Nat),Pm n p->k+f=n->Up R p k->(kas_bin f p k).kasWp cmp Q s
 |0,k,p,P,hk,u=>q p P (by have e:k=n:=(by omega);subst e;exact u)
 |f+1,k,p,P,hk,u=>by
  unfold kas_bin;rw[VB];have hkn:k<n:=by omega
  have hk1:k+1+f=n:=by omega
  refine qJ O hc P hkn u (λl hl a b=>?_) k 0 k (S8 _) (RO _) (X5 _ _) (λi x=>Ys x (XB _)) (λi x y=>Ys y (WI.mpr x));refine BH q f (k+1) _ (P.Lw _ _) hk1 λi j hij hj=>?_
  have hj:j<=k:=Nat.le_of_lt_succ hj;rw[B9 P hkn hl,B9 P hkn hl];by_cases c1:i=l
  ·subst c1
   rw[Yn rfl,Yo (Uz hij),Yn ⟨hij,hj⟩];exact b _ (by omega) (by omega)
  rw[Yo c1];by_cases c2:j=l
  ·subst c2
   rw[Yn rfl,Yo (λz=>Nat.lt_asymm hij z.1)];exact a _ hij
  rw[Yo c2];by_cases c3:l<i/\i<=k
  ·rw[Yn c3,Yn ⟨UC c3.1 hij,hj⟩]
   exact u _ _ (by omega) (by omega)
  rw[Yo c3];by_cases c4:l<j/\j<=k
  ·rw[Yn c4]
   exact u _ _ (by omega) (by omega)
  rw[Yo c4];exact u _ _ hij (by omega)
theorem F9(h1:1<=n)(q:∀p',Pm n p'->Up R p' n->Q p' s):(kas_sort n).kasWp cmp Q s:=by
 unfold kas_sort;rw[VB];refine BF O hc h1 (p:=Xj (SX n)) (by unfold Pm;simp) λm p' a b P u=>?_
 dsimp only;by_cases c:m<n
 ·rw[Yn c]
  have e:max m 1=m:=by omega
  rw[e];exact BH O hc q (n-m) m p' P (by omega) u
 ·rw[Yo c]
  have:m=n:=by omega
  subst this;exact q p' P u
end
end So
namespace Ts
open PySem PySem.W PyProof.Rows
def Fw(B:W9->W9->Bool)(l:List W9):Prop:=l.Pairwise λx y=>B y x=false
structure Ia (prog:Ry) (w:SS) (A:SF) (s:RA) (κ:Vv) (U:W9->Prop) (B:W9->W9->Bool):Prop where
 lt:∀x y,U x->U y->∀(E:R3->RA->Prop) (Q:Bool->RA->Prop),Q (B x y) s->RF (Rp prog w) A (keyLt' κ x.1 y.1) Q E s
 tr:∀x y z,U x->U y->U z->B y x=false->B z y=false->B z x=false
 IS:∀x y,U x->U y->B x y=true->B y x=false
 tot:∀x y,U x->U y->B x y=false->B y x=false->x=y
section
variable{prog:Ry}{w:SS}{A:SF}{E:R3->RA->Prop}{s:RA}{κ:Vv}{U:W9->Prop}{B:W9->W9->Bool}
theorem Di(h:i<it.size):TK it i=it[i]:=by
 unfold TK;rw[Array.getD_eq_getD_getElem?,V3 h,Option.getD_some]
theorem zk(C:Ia prog w A s κ U B)(hU:∀x∈it.toList,U x)(hN:it.toList.Nodup)(h2:2<=it.size)(h64:it.size<64):
  RF (Rp prog w) A ((sortRuns').run (Y7 κ it #[] 7 Zy)) (λr s'=>s'=s/\Ya r.2=Zy/\(arrOf r.2).toList.Perm it.toList/\Fw B (arrOf r.2).toList) E s:=by
 have u:∀i,i<it.size->U (TK it i):=λi h=>by rw[Di h];exact hU _ (by simp)
 have ne:∀i j,i<it.size->j<it.size->i≠j->TK it i≠TK it j:=λi j hi hj h e=>by
  rw[Di hi,Di hj,<-Vw,<-Vw]at e;exact h ((V0 hN).mp e)
 have tot:∀i j,i<it.size->j<it.size->i≠j->B (TK it i) (TK it j)=false->B (TK it j) (TK it i)=true:=λi j hi hj h e=>by
  cases f:B (TK it j) (TK it i)with
  |true=>rfl
  |false=>exact Ys (C.tot _ _ (u i hi) (u j hj) e f) (ne i j hi hj h)
 have O:So.Kx it.size λi j=>B (TK it i) (TK it j):=by
  refine⟨λi j k hi hj hk a b=>?_,tot,λi j hi hj a=>C.IS _ _ (u i hi) (u j hj) a⟩;have c:=C.tr _ _ _ (u i hi) (u j hj) (u k hk) (C.IS _ _ (u i hi) (u j hj) a) (C.IS _ _ (u j hj) (u k hk) b);by_cases e:k=i
  ·subst e
   have:=C.IS _ _ (u k hk) (u j hj) a;rw[this]at b;exact Ys b (by simp)
  ·exact tot k i hk hi e c
 have est:Y7 κ it #[] 7 Zy=kas_st κ it (Xj (SX it.size)):=by
  show _=Y7 κ ((Xj (SX it.size)).map (TK it)) #[] 7 Zy;rw[kas_range it]
 rw[est];refine kas_runs (Q:=λ_ st' s'=>s'=s/\Ya st'=Zy/\(arrOf st').toList.Perm it.toList/\Fw B (arrOf st').toList) (G:=λp s'=>s'=s/\So.Pm it.size p/\So.Up (λi j=>B (TK it i) (TK it j)) p it.size) h2 h64 (λp st' s' hp ha hf hg=>?_) (So.F9 O (λi j Cc hi hj h=>C.lt _ _ (u i hi) (u j hj) _ _ h) (by omega) λp P q=>⟨rfl,P,q⟩);obtain⟨rfl,P,q⟩:=hg;refine⟨rfl,hf,?_,?_⟩
 ·rw[ha,Tt]
  refine(P.map (TK it)).trans ?_;have:=kas_range it;have:=congrArg Array.toList this;rw[Tt]at this;rw[show(SX it.size).map (TK it)=it.toList from this]
 ·rw[ha]
  refine TW.mpr λi j hi hj hij=>?_
  rw[Tt,R2,RM]at hi hj;have a:=q i j hij (by omega);have ei:p.getD i 0=p[i]:=by simp[X4,hi]
  have ej:p.getD j 0=p[j]:=by simp[X4,hj]
  simp only[Tt,Wm,Vw];have a:B (TK it (p.getD i 0)) (TK it (p.getD j 0))=true:=a;rw[ei,ej]at a;refine C.IS _ _ (u _ ?_) (u _ ?_) a
  ·rw[<-ei];exact P.lt (by omega)
  ·rw[<-ej];exact P.lt (by omega)
end
end Ts
end
section
set_option backward.eqns.nonrecursive false
set_option backward.eqns.deepRecursiveSplit false
set_option maxHeartbeats 1000000
namespace Ts
open PySem PyProof.Rows
section
variable{prog:Ry}{w:SS}{A:SF}{E:R3->RA->Prop}{s:RA}{κ:Vv}{B:W9->W9->Bool}
theorem Dk{α:Type}{R:α->α->Prop}{l:List α}(h:l.length<2):l.Pairwise R:=by
 rcases l with _|⟨x,_|⟨y,r⟩⟩
 ·exact .nil
 ·exact TE _ _
 ·rw[Rr,Rr]at h
  exact Ys h (WI.mpr (W2 _ _))
theorem fy(h:n<64):n<=Rq:=Rg (Sb h) (by decide)
theorem FJ(ho:s.heap.get? a=Zz (seqObj "list" vs.toArray n))(hs:vs.length<64)(hN:(Um vs).toList.Nodup)(hk:2<=vs.length->∀h',(∀b o,b≠a->s.heap.get? b=Zz o->h'.get? b=Zz o)->∀Q':Vv->RA->Prop,Q' κ { s with heap:=h' }->RF (Rp prog w) A (XG vs.toArray) Q' E { s with heap:=h' })(hC:∀h',(∀b o,b≠a->s.heap.get? b=Zz o->h'.get? b=Zz o)->Ia prog w A { s with heap:=h' } κ (λx=>x∈(Um vs).toList) B)(h:∀out:Array W9,out.toList.Perm (Um vs).toList->Fw B out.toList->P (.done (.ret .none)) { s with heap:=sortedHeap s.heap a vs (out.map (·.2)) }):
  RF (Rp prog w) A (Builtin.«list.sort» ⟨[.ref a],[]⟩) P E s:=by
 have hz:=fy hs;rw[list_sort_plain];have ha:a<s.heap.objs.size:=Re ho;have hsz:vs.toArray.size=vs.length:=by simp
 refine R0 (Xk ho rfl (R0 (Tr ho rfl ?_ (by rw[hsz];exact hz) (S8 _))));obtain⟨e1,ho1⟩:∃e1,(s.heap.update a (RZ λ_=>(#[]:Array R3))).get? a=Zz (seqObj "list" #[] e1):=⟨_,VC ho (λ_=>#[])⟩
 refine R0 (WV ho1 rfl (R0 (WJ (R0 (Vs (SE ?_) (S8 _))) (by show vs.length<=_;exact hz))));have nk:∀b o,s.heap.get? b=Zz o->b≠(s.heap.update a (RZ λ_=>(#[]:Array R3))).objs.size/\b≠((s.heap.update a (RZ λ_=>(#[]:Array R3))).push (seqObj "tuple" vs.toArray 0)).objs.size:=λb o q=>by
  rw[X6,Vk];have:=Re q;exact⟨Rd this,Rd (Rv this)⟩
 have kp:∀b o,b≠a->s.heap.get? b=Zz o->(((s.heap.update a (RZ λ_=>(#[]:Array R3))).push (seqObj "tuple" vs.toArray 0)).push (seqObj "list" #[] 0)).get? b=Zz o:=λb o hb q=>by
  rw[TL _ _ _ (nk b o q).2,TL _ _ _ (nk b o q).1,Sn _ _ _ _ hb];exact q
 have ho6:(((s.heap.update a (RZ λ_=>(#[]:Array R3))).push (seqObj "tuple" vs.toArray 0)).push (seqObj "list" #[] 0)).get? a=Zz (seqObj "list" #[] e1):=by
  rw[TL _ _ _ (nk a _ ho).2,TL _ _ _ (nk a _ ho).1];exact ho1
 dsimp only;by_cases h2:vs.toArray.size<2
 ·rw[Yn h2,Yn h2]
  refine R0 (R5 ?_);rw[StateT.run_pure];refine R0 (R5 (R0 (WV ho6 rfl (R0 (Tr ho6 rfl ?_ (S8 _) (by rw[XH];show(Um vs).size<=_;rw[WD];omega))))));simp only[bne_self_eq_false,RS,if_false];refine R5 (h (Um vs) (List.Perm.refl _) ?_);have hl:(Um vs).toList.length<2:=by rw[RM,WD];omega
  exact Dk hl
 ·rw[Yo h2,Yo h2]
  refine R0 (hk (by omega) _ kp _ ?_);refine R0 (Sv (zk (it:=Um vs) (hC _ kp) (λx hx=>hx) hN (by rw[WD];omega) (by rw[WD];exact hs)) ?_ λ_ _ e=>e);rintro ⟨⟨⟩,st'⟩ s' ⟨rfl,b1,b2,b3⟩;dsimp only;refine R0 (WV ho6 rfl (R0 (Tr ho6 rfl ?_ (S8 _) ?_)))
  ·rw[b1]
   simp only[bne_self_eq_false,RS,if_false];exact R5 (h (arrOf st') b2 b3)
  ·have:=b2.length_eq
   rw[RM,RM,WD]at this;rw[XH,this];omega
theorem zJ(hl:s.heap.IsList l vs.toArray)(hs:vs.length<64)(hN:(Um vs).toList.Nodup)(hk:2<=vs.length->∀A' h',(∀b o,s.heap.get? b=Zz o->h'.get? b=Zz o)->∀(E':R3->RA->Prop) (Q':Vv->RA->Prop),Q' κ { s with heap:=h' }->RF (Rp prog w) A' (XG vs.toArray) Q' E' { s with heap:=h' })(hC:∀A' h',(∀b o,s.heap.get? b=Zz o->h'.get? b=Zz o)->Ia prog w A' { s with heap:=h' } κ (λx=>x∈(Um vs).toList) B)(h:∀out:Array W9,out.toList.Perm (Um vs).toList->Fw B out.toList->Q (.ref (s.heap.objs.size+1)) { s with heap:=Xy s.heap vs (out.map (·.2)) }):
  RF (Rp prog w) A (call (.builtin "sorted") [.ref l]) Q E s:=by
 have hz:=fy hs;refine Calls.call_function_entry Y0 Xl Xm (args_sorted1 _) ?_
 unfold Builtin.«sorted»;refine R0 (m:=checkCount "sorted" 1 1 _) (R5 (R0 (collect_list hl (R0 (Vs ?_ (by simpa using hz))) hz)));have hsz:((s.heap.push (seqObj "list" #[] 0)).update s.heap.objs.size (RZ (·++vs.toArray))).objs.size=s.heap.objs.size+1:=by rw[Vk,X6]
 have hoL:(((s.heap.push (seqObj "list" #[] 0)).update s.heap.objs.size (RZ (·++vs.toArray))).push (seqObj "list" vs.toArray 0)).get? (s.heap.objs.size+1)=Zz (seqObj "list" vs.toArray 0):=by
  rw[<-hsz];exact RN _ rfl
 have kp:∀h':Rm,(∀b o,b≠s.heap.objs.size+1->(((s.heap.push (seqObj "list" #[] 0)).update s.heap.objs.size (RZ (·++vs.toArray))).push (seqObj "list" vs.toArray 0)).get? b=Zz o->h'.get? b=Zz o)->∀b o,s.heap.get? b=Zz o->h'.get? b=Zz o:=λh' k b o q=>by
  have hlt:=Re q;refine k b o (Rd (Rv hlt)) ?_;rw[TL _ _ _ (by rw[hsz];exact Rd (Rv hlt)),Sn _ _ _ _ (Rd hlt),TL _ _ _ (Rd hlt)];exact q
 show RF _ _ _ _ _ { s with heap:=((s.heap.push (seqObj "list" #[] 0)).update s.heap.objs.size (RZ (·++vs.toArray))).push (seqObj "list" vs.toArray 0) };rw[hsz];refine R0 (SE (SK XI ⟨_,hoL,rfl⟩ XC (FJ hoL hs hN (λh2 h' k Q' q=>hk h2 _ h' (kp h' k) _ Q' q) (λh' k=>hC _ h' (kp h' k)) λout a1 a2=>⟨_,rfl,R5 ⟨_,rfl,h out a1 a2⟩⟩) (args_list_sort _)))
end
end Ts
namespace Ts
open PySem PyProof.Rows PySem.W PySem.Calls
section
variable{prog:Ry}{w:SS}{A:SF}{E:R3->RA->Prop}{s:RA}
theorem zR{G:List R3->RA->Prop}(hb:∀x ks (s:RA),ks.length<n->G ks s->RF (Rp prog w) A (call f [x]) (λk s2=>∃e,s2.heap.get? kS=Zz (seqObj "list" ks.toArray e)/\G (ks++[k]) { s2 with heap:=s2.heap.update kS (RZ (·.push k)) }) (λ_ _=>False) s ->
   RF (Rp prog w) A (body x ⟨⟩) (λr s'=>r=.yield ⟨⟩/\∃k,G (ks++[k]) s') E s)(vs:List R3)(step:∀ks x r s,vs.drop ks.length=x::r->G ks s->RF (Rp prog w) A (call f [x]) (λk s2=>∃e,s2.heap.get? kS=Zz (seqObj "list" ks.toArray e)/\G (ks++[k]) { s2 with heap:=s2.heap.update kS (RZ (·.push k)) }) (λ_ _=>False) s):∀(r ks:List R3) (s:RA),ks.length+r.length=n->vs.drop ks.length=r->G ks s ->
   RF (Rp prog w) A (forIn r PUnit.unit body) (λ_ s'=>∃ks,ks.length=n/\G ks s') E s
 |[],ks,s,hl,_,h=>by
  rw[WL];exact R5 ⟨ks,by simpa using hl,h⟩
 |x::r,ks,s,hl,hd,h=>by
  rw[Rr]at hl;rw[U8];refine R0 (Sv (hb x ks s (by omega) h (step ks x r s hd h)) (λq s' hq=>?_) λ_ _ x=>x);obtain⟨rfl,k,h2⟩:=hq;show RF (Rp prog w) A (forIn r PUnit.unit body) _ E s';refine zR hb vs step r (ks++[k]) s' (by rw[RD,T8];omega) ?_ h2;rw[RD,T8,<-List.drop_drop,hd];rfl
theorem FH{vs:List R3}(ho:s.heap.get? a=Zz (seqObj "list" vs.toArray n))(hs:vs.length<64)(h:∀kS e1 h',kS=s.heap.objs.size+1->h'.get? a=Zz (seqObj "list" #[] e1)->h'.get? kS=Zz (seqObj "list" #[] 0)->(∀b o,b≠a->s.heap.get? b=Zz o->h'.get? b=Zz o) ->
   ∃G:List R3->RA->Prop,G [] { s with heap:=h' }/\(∀ks s,G ks s->∃e,s.heap.get? kS=Zz (seqObj "list" ks.toArray e)) /\
    (∀ks x r s,vs.drop ks.length=x::r->G ks s->RF (Rp prog w) A (call f [x]) (λk s2=>∃e,s2.heap.get? kS=Zz (seqObj "list" ks.toArray e)/\G (ks++[k]) { s2 with heap:=s2.heap.update kS (RZ (·.push k)) }) (λ_ _=>False) s) /\
    ∀ks s',ks.length=vs.length->G ks s'->∃κ B,(ks.zip vs).Nodup/\(2<=vs.length->∀Q':Vv->RA->Prop,Q' κ s'->RF (Rp prog w) A (XG ks.toArray) Q' E s')/\Ia prog w A s' κ (λx=>x∈ks.zip vs) B /\
     s'.heap.get? a=Zz (seqObj "list" #[] e1)/\∀out:List W9,out.Perm (ks.zip vs)->Fw B out->P (.done (.ret .none)) { s' with heap:=(s'.heap.update kS (RZ λ_=>(#[]:Array R3))).update a (RZ λ_=>(out.map (·.2)).toArray) }):
  RF (Rp prog w) A (ksk_tree a f false) P E s:=by
 have hz:=fy hs;have ha:a<s.heap.objs.size:=Re ho;obtain⟨e1,ho1⟩:∃e1,(s.heap.update a (RZ λ_=>(#[]:Array R3))).get? a=Zz (seqObj "list" #[] e1):=⟨_,VC ho λ_=>#[]⟩
 have hkS:((s.heap.update a (RZ λ_=>(#[]:Array R3))).push (seqObj "tuple" vs.toArray 0)).objs.size=s.heap.objs.size+1:=by rw[X6,Vk]
 have kp:∀b o,b≠a->s.heap.get? b=Zz o->(((s.heap.update a (RZ λ_=>(#[]:Array R3))).push (seqObj "tuple" vs.toArray 0)).push (seqObj "list" #[] 0)).get? b=Zz o:=λb o hb q =>
  R7 _ (R7 _ (by rw[Sn _ _ _ _ hb];exact q))
 obtain⟨G,g0,gk,step,fin⟩:=h _ e1 (((s.heap.update a (RZ λ_=>(#[]:Array R3))).push (seqObj "tuple" vs.toArray 0)).push (seqObj "list" #[] 0)) rfl (R7 _ (R7 _ ho1)) (by rw[<-hkS];exact RN _ rfl) kp;unfold ksk_tree;refine R0 (Xk ho rfl ?_);refine R0 (Tr ho rfl ?_ (by rw[Rz];exact hz) (S8 _));refine R0 (WV ho1 rfl ?_);refine R0 (WJ ?_ (by show vs.length<=_;exact hz));refine R0 (Vs ?_ (S8 _));refine SE ?_;show RF _ _ (ksk_rest a f false vs.toArray e1 (.ref ((s.heap.update a (RZ λ_=>(#[]:Array R3))).push (seqObj "tuple" vs.toArray 0)).objs.size)) _ _ { s with heap:=((s.heap.update a (RZ λ_=>(#[]:Array R3))).push (seqObj "tuple" vs.toArray 0)).push (seqObj "list" #[] 0) };rw[hkS];unfold ksk_rest;refine R0 (UH ?_)
 first
  |rw[List.forIn_toArray]
  |(rw[<-Array.forIn_toList];simp only[List.toList_toArray])
  |rw[<-Array.forIn_toList]
 refine R0 (Sv (zR (n:=vs.length) (λx ks s' hlt hg hx=>?_) vs step vs [] _ (by simp) rfl g0) (λ_ s' hd=>?_) λ_ _ x=>x)
 ·refine R0 (Ui (Sv hx (λk s'' hk=>?_) λ_ _ hF=>hF.elim))
  obtain⟨e,hk1,hk2⟩:=hk;refine R0 (Tr hk1 rfl ?_ (by rw[Rz];omega) (Rg (UD (Array.size_push ..)) (by rw[Rz];omega)));exact R5 ⟨rfl,k,hk2⟩
 ·obtain⟨ks,hl,hg⟩:=hd
  obtain⟨e,hke⟩:=gk ks s' hg;obtain⟨κ,B,hN,hkk,hC,ha',fi⟩:=fin ks s' hl hg;refine R0 (Xk hke rfl ?_);have hzip:(ks.toArray.zip vs.toArray).toList=ks.zip vs:=by simp
  have hka:a≠s.heap.objs.size+1:=Rd (Rv ha);have tail:∀st:SortSt,Ya st=Zy->(arrOf st).toList.Perm (ks.zip vs)->Fw B (arrOf st).toList->RF (Rp prog w) A (ksk_tail a false e1 (.ref (s.heap.objs.size+1)) st) P E s':=λst hf hp hs=>by
   have na:(s'.heap.update (s.heap.objs.size+1) (RZ λ_=>(#[]:Array R3))).get? a=Zz (seqObj "list" #[] e1):=by
    rw[Sn _ _ _ _ hka];exact ha'
   have hlen:(arrOf st).size=vs.length:=by
    have:=hp.length_eq;rw[RM,U9,hl,Nat.min_self]at this;exact this
   unfold ksk_tail;refine R0 (Tr hke rfl ?_ (by rw[Rz];omega) (S8 _));refine R0 (VI ?_);refine R0 (WV na rfl ?_);refine R0 (Tr na rfl ?_ (S8 _) (by
    show((arrOf st).map (·.2)).size<=_;rw[XH,hlen];omega))
   rw[hf];simp only[bne_self_eq_false,RS,if_false];refine R5 ?_;have:=fi (arrOf st).toList hp hs;rw[show((arrOf st).toList.map (·.2)).toArray=(arrOf st).map (·.2) by rw[<-Tt,Array.toArray_toList]]at this;exact this
  unfold ksk_end;simp only[RS,if_false];by_cases h2:vs.toArray.size<2
  ·rw[Yn h2,Yn h2]
   refine R0 (R5 ?_);rw[StateT.run_pure];refine R0 (R5 ?_);refine tail _ rfl (by show(ks.toArray.zip vs.toArray).toList.Perm _;rw[hzip]) ?_;show Fw B (ks.toArray.zip vs.toArray).toList;rw[hzip];refine Dk ?_;rw[U9,hl,Nat.min_self];simpa using h2
  ·rw[Yo h2,Yo h2]
   have h2':2<=vs.length:=by simp at h2;omega
   refine R0 (hkk h2' _ ?_);refine R0 (Sv (zk (it:=ks.toArray.zip vs.toArray) hC (λx hx=>by rw[hzip]at hx;exact hx) (by rw[hzip];exact hN) (by simp;omega) (by simp;omega)) ?_ λ_ _ x=>x);rintro ⟨⟨⟩,st'⟩ s'' ⟨rfl,b1,b2,b3⟩;exact tail st' b1 (by rw[hzip]at b2;exact b2) b3
theorem EX(hl:s.heap.IsList l vs.toArray)(hs:vs.length<64)(h:∀D kS e1 h',s.heap.objs.size<=D->D<kS->h'.get? D=Zz (seqObj "list" #[] e1)->h'.get? kS=Zz (seqObj "list" #[] 0)->(∀b o,s.heap.get? b=Zz o->h'.get? b=Zz o) ->
   ∃G:List R3->RA->Prop,G [] { s with heap:=h' }/\(∀ks s,G ks s->∃e,s.heap.get? kS=Zz (seqObj "list" ks.toArray e)) /\
    (∀ks x r s,vs.drop ks.length=x::r->G ks s->RF (Rp prog w) A.in1.in1 (call (.ref q) [x]) (λk s2=>∃e,s2.heap.get? kS=Zz (seqObj "list" ks.toArray e)/\G (ks++[k]) { s2 with heap:=s2.heap.update kS (RZ (·.push k)) }) (λ_ _=>False) s) /\
    ∀ks s',ks.length=vs.length->G ks s'->∃κ B,(ks.zip vs).Nodup/\(2<=vs.length->∀(E':R3->RA->Prop) (Q':Vv->RA->Prop),Q' κ s'->RF (Rp prog w) A.in1.in1 (XG ks.toArray) Q' E' s')/\Ia prog w A.in1.in1 s' κ (λx=>x∈ks.zip vs) B /\
     s'.heap.get? D=Zz (seqObj "list" #[] e1)/\∀out:List W9,out.Perm (ks.zip vs)->Fw B out->Q (.ref D) { s' with heap:=(s'.heap.update kS (RZ λ_=>(#[]:Array R3))).update D (RZ λ_=>(out.map (·.2)).toArray) }):
  RF (Rp prog w) A (call (.builtin "sorted") [.ref l] [(UU "key",.ref q)]) Q E s:=by
 have hz:=fy hs;refine call_function_entry_kw Y0 Xl Xm (ksk_s1 _ _) ?_
 unfold Builtin.«sorted»;refine R0 (m:=checkCount "sorted" 1 1 _) (R5 (R0 (collect_list hl (R0 (Vs ?_ (by simpa using hz))) hz)));have hsz:((s.heap.push (seqObj "list" #[] 0)).update s.heap.objs.size (RZ (·++vs.toArray))).objs.size=s.heap.objs.size+1:=by rw[Vk,X6]
 have hoL:(((s.heap.push (seqObj "list" #[] 0)).update s.heap.objs.size (RZ (·++vs.toArray))).push (seqObj "list" vs.toArray 0)).get? (s.heap.objs.size+1)=Zz (seqObj "list" vs.toArray 0):=by
  rw[<-hsz];exact RN _ rfl
 have kp:∀h':Rm,(∀b o,b≠s.heap.objs.size+1->(((s.heap.push (seqObj "list" #[] 0)).update s.heap.objs.size (RZ (·++vs.toArray))).push (seqObj "list" vs.toArray 0)).get? b=Zz o->h'.get? b=Zz o)->∀b o,s.heap.get? b=Zz o->h'.get? b=Zz o:=λh' k b o q=>by
  have hlt:=Re q;refine k b o (Rd (Rv hlt)) ?_;rw[TL _ _ _ (by rw[hsz];exact Rd (Rv hlt)),Sn _ _ _ _ (Rd hlt),TL _ _ _ (Rd hlt)];exact q
 show RF _ _ _ _ _ { s with heap:=((s.heap.push (seqObj "list" #[] 0)).update s.heap.objs.size (RZ (·++vs.toArray))).push (seqObj "list" vs.toArray 0) };rw[hsz];refine R0 (SE (wpAny_call_entry_kw XI ⟨_,hoL,rfl⟩ XC ?_ (ksk_l1 _ _)));show RF (Rp prog w) A.in1.in1 (Builtin.«list.sort» ⟨[.ref (s.heap.objs.size+1)],[(UU "key",.ref q)]⟩) _ _ _;rw[ksk_t1];refine FH hoL hs λkS e1 h' hkS h1 h2 h3=>?_
 obtain⟨G,g0,gk,st,fin⟩:=h (s.heap.objs.size+1) kS e1 h' (Tf _) (by rw[hkS];exact Rv (Re hoL)) h1 h2 (kp h' h3);refine⟨G,g0,gk,st,λks s' hk hg=>?_⟩;obtain⟨κ,B,a1,a2,a3,a4,a5⟩:=fin ks s' hk hg;exact⟨κ,B,a1,λz Q' q=>a2 z _ Q' q,a3,a4,λout p o=>⟨_,rfl,R5 ⟨_,rfl,a5 out p o⟩⟩⟩
end
end Ts
end
section
set_option backward.eqns.nonrecursive false
set_option backward.eqns.deepRecursiveSplit false
namespace Mi
open PySem PySem.Spec PyProof.Rows L2
theorem se(t:Ud)(n:Nat):(t.orStandIn n).led=t.led:=by unfold SetTable.orStandIn;split<;>rfl
theorem oW(t:Ud)(n:Nat)(h:t.plain=false):(t.orStandIn n).plain=false:=by unfold SetTable.orStandIn;split<;>first|exact h|rfl
theorem xu(t:Ud)(es:Array (Int×R3))(h:Int)(x:R3):(layNew t es h x).2.1.led=t.led:=by
 unfold layNew;split
 ·exact se _ _
 ·rfl
theorem u2(t:Ud)(es:Array (Int×R3))(h:Int)(x:R3)(hp:t.plain=false):(layNew t es h x).2.1.plain=false:=by
 unfold layNew;split
 ·exact oW _ _ hp
 ·rfl
theorem rB{t t':Ud}(h:t.relaid hs n=Zz (t',o)):t'.led=t.led/\t'.plain=t.plain:=by
 unfold SetTable.relaid SetTable.laid at h;simp only[Option.bind_eq_bind]at h;obtain⟨w,_,h2⟩:=RP.mp h;cases h2;exact⟨rfl,rfl⟩
theorem vd(t:Ud)(es:Array (Int×R3))(n:Nat):(WM t es n).2.1.led=t.led:=by
 unfold WM;split
 ·rename_i t' o h
  dsimp only;split
  ·exact(rB h).1
  ·rfl
 ·rfl
theorem rl(t:Ud)(es:Array (Int×R3))(n:Nat)(hp:t.plain=false):(WM t es n).2.1.plain=false:=by
 unfold WM;split
 ·rename_i t' o h
  dsimp only;split
  ·exact(rB h).2.trans hp
  ·rfl
 ·rfl
structure JY (prog:Ry) (w:SS) (led:Bool) (o:Obj) (D:List Str) (es:Array (Int×R3)) (ep:Nat) (t:Ud):Prop where
 ex:o.ExactSet
 data:o.data=.set es ep t
 el:ElemsOf (Sg prog w) es.toList
 IJ:(es.toList.map λe=>strOf e.2).Perm D
 nd:D.Nodup
 room:es.size<Uj
 fits:t.fits es.size=true
 led:t.led=led
 plain:es.size≠0->t.plain=false
inductive iA (prog:Ry) (w:SS) (led:Bool) (h:Rm) (a:RB) (D:List Str)  : Prop where
 |mk (o es ep t) (_:h.get? a=Zz o) (_:JY prog w led o D es ep t)
theorem n7(h:Td x v=true):strOf v=x:=by
 obtain⟨t,rfl⟩:=W8 h;rfl
section
variable{prog:Ry}{w:SS}{A:SF}{E:R3->RA->Prop}{s:RA}{led:Bool}
theorem Ce(h:∃k,(Sg prog w).is k v=true):Td (strOf v) v=true:=by
 obtain⟨k,hk⟩:=h;have hk:=hk;rw[n7 hk];exact hk
theorem wl(he:ElemsOf (Sg prog w) es)(k:Str):(∃e∈es,(Sg prog w).is k e.2=true)↔k∈es.map λe=>strOf e.2:=by
 constructor
 ·rintro ⟨e,he,hk⟩
  exact RX.mpr ⟨e,he,n7 hk⟩
 ·intro h
  obtain⟨e,hm,rfl⟩:=RX.mp h;obtain⟨⟨k,hk,_⟩,_⟩:=he e hm;exact⟨e,hm,Ce ⟨k,hk⟩⟩
theorem wF(hS:iA prog w led s.heap a D)(hroom:D.length+1<Uj)(h:∀h' b,Tp a s.heap h'->iA prog w led h' a (if x∈D then D else D++[x])->Q b { s with heap:=h' }):
  RF (Rp prog w) A (Xn a (.str x tk) (hashStr w x)) Q E s:=by
 obtain⟨o,es,ep,t,ho,hE⟩:=hS;have hex:=hE.ex;have hd:=hE.data;have hel:=hE.el;have hf:=hE.fits;have hkey:(Sg prog w).is x (.str x tk)=true:=by show Td x (.str x tk)=true;simp[Td]
 have hsc:(YH x tk).scannable=true:=rfl;have hlen:es.size=D.length:=by rw[<-hE.IJ.length_eq,R2,RM]
 show RF (Rp prog w) A (Xn a (.str x tk) ((Sg prog w).hash x)) Q E s;unfold Xn setAddHashedIn;refine SE (R0 (T6 ho hd hf ?_));dsimp only;rw[byScan_of hsc hE.room hel];simp only[↓reduceIte];unfold setAddByScan;refine R0 ?_;refine R0 (UH ?_);refine R0 (wpAny_setScan_of hkey ho hd hf hel ?_);cases hr:List.findIdx? (λe=>(Sg prog w).is x e.2) es.toList with
 |some j =>
  obtain⟨hj,hpj,_⟩:=List.findIdx?_eq_some_iff_getElem.mp hr;have hm:=hE.IJ.mem_iff.mp ((wl hel x).mp ⟨_,UP hj,hpj⟩);refine R5 (R5 ?_);have:=h s.heap false (Heap.SameBut.refl a s.heap) (by rw[Yn hm];exact⟨o,es,ep,t,ho,hE⟩);exact this
 |none =>
  have hm:x∉D:=λhx=>by
   obtain⟨e,he,hp⟩:=(wl hel x).mpr (hE.IJ.mem_iff.mpr hx);have:=List.findIdx?_eq_none_iff.mp hr e he;rw[hp]at this;exact Bool.noConfusion this
  have hgw:∀(b:Bool) (s₁:RA) (Q':Unit->RA->Prop),Q' () s₁->RF (Rp prog w) A (match b with|true=>rule "set.scan.the-table-gave-way" | false=>pure ()) Q' E s₁:=
   λb s₁ Q' hq=>by cases b<;>first|exact R5 hq|exact UH hq
  have hperm:=layNew_perm t es ((Sg prog w).hash x) (.str x tk);have hfits:=layNew_fits t es ((Sg prog w).hash x) (.str x tk);have hled:=xu t es ((Sg prog w).hash x) (.str x tk);have hplain:=u2 t es ((Sg prog w).hash x) (.str x tk);generalize hL:layNew t es ((Sg prog w).hash x) (.str x tk)=L at hperm hfits hled hplain ⊢;obtain⟨es1,t1,wasDummy,gave⟩:=L;dsimp only at hperm hfits hled hplain ⊢;rw[WW]at hperm;have hel1:=(hel.push hkey hsc).perm hperm;have hsz1:es1.size=es.size+1:=by rw[<-RM,hperm.length_eq,RD,RM];rfl
  have hb1:es1.size<Uj:=by omega
  have hst1:(es1.toList.map λe=>strOf e.2).Perm (D++[x]):=by
   refine(hperm.map _).trans ?_;rw[SL];exact hE.IJ.append_right _
  have hnd:(D++[x]).Nodup:=by
   rw[WX];refine⟨hE.nd,by simp,λy hy z hz=>?_⟩;rw[RH.mp hz];exact λe=>hm (e▸hy)
  -- the end,at a table that is plain no more
  have fin:∀t2:Ud,t2.led=led->t2.plain=false->t2.fits es1.size=true->RF (Rp prog w) A (do
    storeSet a es1 t2
    if(!wasDummy&&t2.tooFull)=true then do
      (match(WM t2 es1 (Tv es1.size)).2.2 with|true=>rule "set.scan.the-table-gave-way" | false=>pure ())
      storeSet a (WM t2 es1 (Tv es1.size)).1 (WM t2 es1 (Tv es1.size)).2.1
      pure (Zz true)
     else pure (Zz true)) (λr s'=>match r with
      |some b=>Q b s'
      |none=>False) E s:=λt2 hl2 hp2 hf2=>by
   have hg1:(s.heap.update a (WN es1 t2)).get? a=Zz { o with data:=.set es1 (ep+1) t2 }:=by
    have:=SH (WN es1 t2) ho (by rw[putSet_of es1 t2 hd];rfl);rw[putSet_of es1 t2 hd]at this;exact this
   have hsb1:=SW s.heap a (WN es1 t2);refine R0 (wpAny_storeSet_of ho hd ?_ (WY hb1));split
   ·have hp:=relayAll_perm t2 es1 (Tv es1.size)
    have hfr:=relayAll_fits t2 es1 (Tv es1.size);have hrl:=vd t2 es1 (Tv es1.size);have hrp:=rl t2 es1 (Tv es1.size) hp2;generalize WM t2 es1 (Tv es1.size)=Rl at hp hfr hrl hrp ⊢;obtain⟨es2,t3,gave2⟩:=Rl;dsimp only at hp hfr hrl hrp ⊢;have hsz:es2.size=es1.size:=by rw[<-RM,hp.length_eq,RM]
    refine R0 (hgw _ _ _ ?_);refine R0 (wpAny_storeSet_of hg1 rfl ?_ (WY (by omega)));have hg2:((s.heap.update a (WN es1 t2)).update a (WN es2 t3)).get? a=Zz { o with data:=.set es2 (ep+1+1) t3 }:=
     SH (WN es2 t3) hg1 rfl
    refine R5 (h _ true (hsb1.trans (SW _ a _)) ?_);rw[Yo hm];exact⟨_,es2,_,t3,hg2,⟨hex,rfl,hel1.perm hp,(hp.map _).trans hst1,hnd,by omega,hfr,hrl.trans hl2,λ_=>hrp⟩⟩
   ·refine R5 (h _ true hsb1 ?_)
    rw[Yo hm];exact⟨_,es1,_,t2,hg1,⟨hex,rfl,hel1,hst1,hnd,hb1,hf2,hl2,λ_=>hp2⟩⟩
  refine R0 (hgw _ _ _ ?_);have done:∀{r:Option Bool}{s':RA},(match r with
    |some b=>Q b s'
    |none=>False)->RF (Rp prog w) A (match r with
     |some added=>pure added
     |none=>setAddHashedIn a (.str x tk) ((Sg prog w).hash x) 99999) Q E s':=λ{r s'} hr=>by
   cases r with
   |none=>exact hr.elim
   |some b=>exact R5 hr
  split
  ·refine R0 ?_
   rw[hashByValue_scannable 8 hsc];refine R5 ?_;exact Sv (fin { t1 with plain:=false } (hled.trans hE.led) rfl (SetTable.fits_plain_off hfits)) (λr s' hr=>done hr) λ_ _ e=>e
  ·rename_i hpl
   refine R0 (R5 ?_);simp only[↓reduceIte];exact Sv (fin t1 (hled.trans hE.led) (by simpa using hpl) hfits) (λr s' hr=>done hr) λ_ _ e=>e
noncomputable def dd(val:Nat->Str):Nat->List Str
 |0=>[]
 |i+1=>if val i∈dd val i then dd val i else dd val i++[val i]
theorem w6(val:Nat->Str):∀i,(dd val i).length<=i
 |0=>RO _
 |i+1=>by
  have:=w6 val i;unfold dd;split
  ·omega
  ·rw[RD,T8];omega
noncomputable abbrev aY(w:SS):Bool:=!w.params.followText "set-order"
theorem iA.at'(hS:iA prog w led h a D)(k:∀o,h.get? a=Zz o->h'.get? a=Zz o):iA prog w led h' a D:=by
 obtain⟨o,es,ep,t,ho,hE⟩:=hS;exact⟨o,es,ep,t,k o ho,hE⟩
theorem vS{St:Nat->RA->Prop}(W:WalksS prog w A.in1 I fp wr G n P St)(S:RB)(hSf:S∉fp)(val:Nat->Str)(hval:∀i v,P i v->∃t,v=.str (val i) t)(hb:n+1<Uj):∀(k i:Nat) (s:RA),n-i=k->i<=n->St i s->iA prog w led s.heap S (dd val i) ->
   (∀s',Moved (S::wr) G s s'->iA prog w led s'.heap S (dd val n)->R (.ok (.ret .none)) s')->UB (Rp prog w) A (.builtin "set.update.loop" ⟨[.ref S,.ref I],[]⟩) R s:=by
 have hSw:=λh=>hSf (W.sub _ h)
 have hsub:∀b∈wr,b∈S::wr:=λb hb=>R4 _ hb
 intro k
 induction k with
 |zero =>
  intro i s hk hi hst hS hR;have hin:i=n:=by omega
  subst hin;refine Sj PyProof.Rows.F.entry_set_update_loop ?_;rw[Sc Tn _];refine R0 (W.done s _ _ hst λs' hm=>?_);exact R5 (hR s' (hm.mono hsub) (hS.at' λo ho=>hm.heap S _ hSw ho))
 |succ k ih =>
  intro i s hk hi hst hS hR;have hlt:i<n:=by omega
  refine Sj PyProof.Rows.F.entry_set_update_loop ?_;rw[Sc Tn _];refine R0 (W.item i s _ _ hlt hst λv s' hP hst' hm=>?_);obtain⟨t,rfl⟩:=hval i v hP;have hS':=hS.at' λo ho=>hm.heap S _ hSw ho
  refine R0 (SE ?_);unfold setAdd;refine SE ?_;refine R0 ((Sg prog w).pyHash (by show Td (val i) (.str (val i) t)=true;simp[Td]) ?_);have hroom:(dd val i).length+1<Uj:=by have:=w6 val i;omega
  refine wF hS' hroom λh' b hsb hS2=>?_
  refine R5 ⟨Te Tn _,ih (i+1) _ (by omega) hlt (W.frame _ s' _ _ hst' (Tf _) λb hb o e=>?_) hS2 λs'' hm'' hS''=>?_⟩
  ·rw[hsb.2 b (λh:b=S=>hSf (by rw[<-h];exact hb))];exact e
  ·refine hR s'' (Moved.trans W.gtrans ((hm.mono hsub).then_heap (Tf _) λb o hb e=>?_) hm'') hS''
   rw[hsb.2 b (λh:b=S=>hb (by rw[h];exact R9))];exact e
theorem wI(a:R3)(h:Q₁ (.ref s.heap.objs.size) { s with heap:=s.heap.push { cls:=.type "set",dict:=Zy,data:=.set #[] 0 (.fresh 0 0 (aY w)) } }):
  UB (Rp prog w) A (.call (.builtin "set.__new__") ⟨[.type "set",a],[]⟩) (wants Q₁ E) s:=by
 refine W3 ?_;refine R0 (WZ (PySem.F.newCall_set_1 a) (R5 ⟨Te PySem.F.plain_set_new _,Sj PySem.F.entry_set_new ?_⟩));rw[Sc PySem.F.plain_set_new _];unfold Builtin.«set.__new__» Builtin.Frozenset.newClass;have hsub:=sub_set_self;obtain⟨hp,g,d,tk,os⟩:=s
 wp_walk
 refine UQ (R5 ?_);simp only[newObj];refine R0 (Y1 (R5 ?_));exact R5 h
theorem mO(ha:h.get? a=Zz { cls:=.type "set",dict:=Zy,data:=.set #[] 0 (.fresh 0 0 led) }):iA prog w led h a []:=
 ⟨_,#[],0,_,ha,⟨⟨rfl,rfl,rfl⟩,rfl,λe he=>by simp at he,List.Perm.nil,List.nodup_nil,by unfold Uj;decide,rfl,rfl,λh=>Ys rfl h⟩⟩
set_option maxHeartbeats 3200000 in
theorem rK(hh:A.handled=Zy)(hl:s.heap.IsList l items)(hv:∀(i:Nat) v,items[i]?=Zz v->∃t,v=.str (val i) t)(hb:items.size+1<Uj)(h:∀(h':Rm) (tk:Nat),iA prog w (aY w) h' s.heap.objs.size (dd val items.size)->(∀b o,s.heap.get? b=Zz o->h'.get? b=Zz o)->Q (.ref s.heap.objs.size) { s with heap:=h',toks:=tk }):
  RF (Rp prog w) A (Sq (.type "set") [.ref l]) Q E s:=by
 obtain⟨c,tl,hmro⟩:=PySem.F.called_set.mro;have hmade:=PySem.F.called_set.made;have hsub:=PySem.F.called_set.sub;refine Vl (W3 ?_);refine R5 ⟨Code.quiet_builtin _ (by decide +kernel),Sj PySem.F.entry_type_call ?_⟩;rw[Around.under_plain (weight_type_call_type "set" [.ref l] []) rfl];have h1:=PySem.F.called_set.notType;have h2:=PySem.F.called_set.canCreate;have hct:=PySem.F.typeCall_set_1 (.ref l)
 repeat (any_goals (first|assumption|wp_step))
 refine TC (wI (.ref l) (E:=E) (Q₁:=λobj s₁=>obj=.ref s.heap.objs.size/\s₁={ s with heap:=s.heap.push { cls:=.type "set",dict:=Zy,data:=.set #[] 0 (.fresh 0 0 (aY w)) } }) ⟨rfl,rfl⟩) λr s₁ hr=>?_
 cases r with
 |error e=>exact hr
 |ok fl =>
  cases fl with
  |ret obj =>
   obtain⟨rfl,rfl⟩:=hr;have hS:(s.heap.push { cls:=.type "set",dict:=Zy,data:=.set #[] 0 (.fresh 0 0 (aY w)) }).get? s.heap.objs.size=Zz { cls:=.type "set",dict:=Zy,data:=.set #[] 0 (.fresh 0 0 (aY w)) }:=RN _ rfl;have hT:Vt { s with heap:=s.heap.push { cls:=.type "set",dict:=Zy,data:=.set #[] 0 (.fresh 0 0 (aY w)) } } (.ref s.heap.objs.size) "set":=⟨_,hS,rfl⟩
   have hli:=PySem.F.called_set.init.lookup;have hbi:=PySem.F.called_set.init.bind (.ref s.heap.objs.size)
   repeat (any_goals (first|assumption|wp_step))
   refine TC (codeAny_call_builtin (R:=wants (λr s₂=>r=.none/\∃h' tk,s₂={ s with heap:=h',toks:=tk }/\iA prog w (aY w) h' s.heap.objs.size (dd val items.size)/\(∀b o,s.heap.get? b=Zz o->h'.get? b=Zz o)) E) PySem.F.called_set.init.plain PySem.F.entry_set_init (check_set_init_1 hT ?_)) λr₂ s₂ hr₂=>?_
   ·obtain⟨ol,hol,hcl,nl,hdl⟩:=hl
    obtain⟨ocls,odict,odata,oslots⟩:=ol;simp only at hcl hdl;subst hcl;subst hdl;have hol':(s.heap.push { cls:=.type "set",dict:=Zy,data:=.set #[] 0 (.fresh 0 0 (aY w)) }).get? l=Zz { cls:=.type "list",dict:=odict,data:=.seq items nl,slots:=oslots }:=R7 _ hol;have hsls:=PySem.F.sub_list_set;have hslf:=PySem.F.sub_list_frozenset;have hne:(UV "list" == UV "dict")=false:=by decide
    have hl1:(s.heap.push { cls:=.type "set",dict:=Zy,data:=.set #[] 0 (.fresh 0 0 (aY w)) }).IsList l items:=⟨_,hol',rfl,nl,rfl⟩
    unfold Builtin.«set.__init__» noKeywords Builtin.Frozenset.updateFrom;generalize hPI:pyIter=PI
    wp_walk
    subst hPI;refine VS hl1 ?_;refine R0 (XJ ?_);have hlS:=Re hol;have hh3:A.in1.in1.in1.handled=Zy:=by simp[hh]
    have hneI:l≠(s.heap.push { cls:=.type "set",dict:=Zy,data:=.set #[] 0 (.fresh 0 0 (aY w)) }).objs.size:=by
     rw[S3];exact Rd (Rv hlS)
    have hSf:s.heap.objs.size∉[(s.heap.push { cls:=.type "set",dict:=Zy,data:=.set #[] 0 (.fresh 0 0 (aY w)) }).objs.size,l]:=by
     rw[S3];simp only[R6,RH,RG,or_false,not_or];exact⟨Rd (TY _),Uz hlS⟩
    refine vS (led:=aY w) ((Vm hh3 _ l hneI items).toS) s.heap.objs.size hSf val hv hb (items.size-0) 0 _ (by omega) (S8 _)
     ⟨⟨_,RN _ rfl,rfl,rfl⟩,(hl1.push _)⟩ ?hS0 ?hR
    case hS0 =>
     exact mO (R7 _ hS)
    case hR =>
     intro s' hm hS';obtain⟨h',g',d',tk',os'⟩:=s';have eg:=hm.gens;have ed:=hm.drawn;have eo:=hm.os;subst eg;subst ed;subst eo;refine R5 ?_;refine R5 ⟨rfl,h',tk',rfl,hS',λb o e=>?_⟩;have hb:=Re e;have hb1:=Rd hb;have hb2:b≠(s.heap.push { cls:=.type "set",dict:=Zy,data:=.set #[] 0 (.fresh 0 0 (aY w)) }).objs.size:=by
      rw[S3];exact Rd (Rv hb)
     exact hm.heap b o (by simp only[R6,RH,RG,or_false,not_or];exact⟨hb1,hb2⟩) (R7 _ (R7 _ e))
   ·cases r₂ with
    |error e=>exact hr₂
    |ok fl₂ =>
     cases fl₂ with
     |ret r =>
      obtain⟨rfl,h',tk,rfl,hS',hk'⟩:=hr₂
      repeat (any_goals (first|assumption|wp_step))
      exact h _ _ hS' hk'
     |_=>exact hr₂.elim
  |_=>exact hr.elim
end
end Mi
namespace PySem.F
theorem gV:Manifest.owners.lookup (String.ofList ['r','o','t','a','r','e','t','i','_','t','e','s'].reverse)=Zz Manifest.sig_set_iterator:=by kernel_rfl
theorem aq:Slot "set_iterator" "__next__" "set_iterator.__next__" :=
 .of (owner:="set_iterator") (n:="__next__") (by rw[typeLookup_type,builtinLookup_eq_fast];kernel_rfl) (by decide +kernel) (by decide +kernel) (by decide +kernel)
  (by first|exact .inl (by decide +kernel)|exact .inr (by decide +kernel)) (by rw[XK];kernel_rfl)
theorem aU:Yb table "set_iterator.__next__" = Zz Builtin.«set_iterator.__next__»:=entryFor_of_tree (by kernel_rfl)
theorem aQ(a:R3):argsOk "set_iterator.__next__" ⟨[a],[]⟩:=by
 unfold argsOk;rw[signature?_of (n:=['_','_','t','x','e','n','_','_']) (by kernel_rfl) gV];kernel_rfl
theorem j7:Yb table "set.__iter__" = Zz Builtin.«frozenset.__iter__»:=entryFor_alias (id':="frozenset.__iter__") (by kernel_rfl) rfl (by decide +kernel) (by kernel_rfl)
end PySem.F
namespace Mi
open PySem PySem.Spec PyProof.Rows L2
section
variable{M:YI}{A:SF}{E:R3->RA->Prop}{s:RA}
theorem wp_choose'(b:n≠0)(h:∀i d,i<n->Q i { s with drawn:=d }):RF M A (choose src n) Q E s:=
 λΓ p c=>⟨b,h _ _ (Nat.mod_lt _ (Nat.pos_of_ne_zero b))⟩
theorem k6{α:Type}:∀(l:List α) (i:Nat) (h:i<l.length),(l[i]::l.eraseIdx i).Perm l
 |_::_,0,_=>.refl _
 |x::l,i+1,h=>by
  have a:i<l.length:=by simpa using h
  exact(List.Perm.swap ..).trans ((k6 l i a).cons x)
theorem oA{α:Type}:∀(n:Nat) (xs:List α) {s:RA}{Q:List α->RA->Prop},xs.length=n->(∀ys d,ys.Perm xs->Q ys { s with drawn:=d })->RF M A (YJ n xs) Q E s
 |0,xs,s,Q,hl,h=>by
  have e:=UT hl;subst e;unfold YJ;exact R5 (h [] s.drawn .nil)
 |n+1,[],s,Q,hl,h=>by simp at hl
 |n+1,x::xs,s,Q,hl,h=>by
  unfold YJ;refine R0 (wp_choose' (by simp) λi d hi=>?_);have e:=RC hi;rw[e];refine R0 (oA n ((x::xs).eraseIdx i) (by rw[List.length_eraseIdx_of_lt hi,hl];rfl) λys d' hp=>?_);exact R5 (h _ d' ((hp.cons _).trans (k6 _ _ hi)))
theorem sS{α:Type}(next:Nat->Nat):∀(a k:Nat) (left:List α) (b:Array α),left.length=a->(Xo next a k left b).toList.Perm (b.toList++left)
 |0,k,left,b,h=>by
  have e:=UT h;subst e;unfold Xo;rw[Rh]
 |a+1,k,left,b,h=>by
  unfold Xo;have c:next k%left.length<left.length:=Nat.mod_lt _ (by omega)
  rw[RC c];refine(sS next a (k+1) _ _ (by rw[List.length_eraseIdx_of_lt c];omega)).trans ?_;rw[WW,S9];exact(k6 left _ c).append_left _
theorem picked{α:Type}(next:Nat->Nat)(xs:Array α):(VJ next xs).toList.Perm xs.toList:=by
 unfold VJ;exact sS next xs.size 0 xs.toList #[] (by simp)
end
section
variable{prog:Ry}{w:SS}{A:SF}{E:R3->RA->Prop}{s:RA}
def bT(h:Rm)(it a:RB)(first:R3)(i n ep:Nat):Prop:=∃o,h.get? it=Zz o/\o.cls=.type "set_iterator"/\o.data=.fields #[first,.int i 0,.ref a,.int n 0,.int ep 0]
theorem bT.typeIs(h:bT s.heap it a first i n ep):s.TypeIs (.ref it) "set_iterator":=let⟨o,b,c,_⟩:=h;⟨o,b,c⟩
theorem xw{pp:Nat}(h:bT s.heap it a (.ref tp) i es.size ep)(ha:s.heap.get? a=Zz o)(hd:o.data=.set es ep t)(hf:t.fits es.size=true)(htp:s.heap.IsTuple tp pl)(hp:pl[i]?=Zz (.int pp 0))(he:es[pp]?=Zz e)(q:∀h',bT h' it a (.ref tp) (i+1) es.size ep->Tp it s.heap h'->Q (Zz e.2) { s with heap:=h' }):RF (Rp prog w) A (pyNext (.ref it)) Q E s:=by
 obtain⟨oi,d,hci,b⟩:=id h;obtain⟨ot,hot,_,nt,hdt⟩:=htp;unfold pyNext;refine R0 (Ui (SU h.typeIs PySem.F.aq (SK PySem.F.aq h.typeIs PySem.F.aU ?_ (PySem.F.aQ _))));unfold Builtin.«set_iterator.__next__» Wn;simp only[TZ,TJ,RS,↓reduceIte,bind_assoc,Sy,bne_self_eq_false];refine R0 (R5 ?_);refine R0 (Uq d b ?_);refine R0 (T4 ha hd hf ?_);simp only[bne_self_eq_false,RS,↓reduceIte];refine R0 (Sw hot hdt ?_);simp only[TM,hp];refine R0 ?_;unfold setNextDrawn;refine R0 (T6 ha hd hf ?_);simp only[bne_self_eq_false,RS,↓reduceIte,he];refine R5 ?_;refine R0 (Sk d b (by simp) (R5 ⟨_,rfl,R5 (q _ ⟨_,SH _ d (T9 (SP b _)),(VU ..).trans hci,?_⟩ (SW ..))⟩));rw[SP b];simp[rawInt]
theorem dA(h:Q (M.w.params.followText "set-order") s):RF M A Y8 Q E s:=by
 unfold Y8;exact R0 (UQ (R5 h))
theorem rq{Q:R3->RA->Prop}(h:bT s.heap it a f0 i n ep)(q:∀h',bT h' it a c (i+1) n ep->Tp it s.heap h'->Q v { s with heap:=h' }):
  RF (Rp prog w) A (do Yc (.ref it) 0 c;Yc (.ref it) 1 (rawInt ((i:Int)+1));ret v) (λfin s'=>∃r,fin=.done (.ret r)/\Q r s') E s:=by
 obtain⟨oi,hoi,hci,d⟩:=id h;refine R0 (Sk hoi d (by simp) ?_);have h1:(s.heap.update it (UI λx=>x.setIfInBounds 0 c)).get? it=Zz (UI (λx=>x.setIfInBounds 0 c) oi):=SH _ hoi (T9 (SP d _));have e:(UI (λx=>x.setIfInBounds 0 c) oi).data=.fields #[c,.int i 0,.ref a,.int n 0,.int ep 0]:=by rw[SP d];simp
 refine R0 (Sk h1 e (by simp) (R5 ⟨_,rfl,q _ ⟨_,SH _ h1 (T9 (SP e _)),(VU ..).trans ((VU ..).trans hci),?_⟩ ((SW ..).trans (SW ..))⟩));rw[SP e];simp[rawInt]
theorem A3{i sl:Nat}(hb:w.params.followText "set-order" = true)(h:bT s.heap it a (.int sl 0) i d.size ep)(ha:s.heap.get? a=Zz o)(hd:o.data=.set d ep t)(hf:t.fits d.size=true)(he:(VJ (w.params.setOrder a ep) d)[i]?=Zz e)(q:∀h',bT h' it a (.int sl 0) (i+1) d.size ep->Tp it s.heap h'->Q (Zz e.2) { s with heap:=h' }):RF (Rp prog w) A (pyNext (.ref it)) Q E s:=by
 obtain⟨oi,hoi,hci,hdi⟩:=id h;unfold pyNext;refine R0 (Ui (SU h.typeIs PySem.F.aq (SK PySem.F.aq h.typeIs PySem.F.aU ?_ (PySem.F.aQ _))));unfold Builtin.«set_iterator.__next__» Wn;simp only[TZ,TJ,RS,↓reduceIte,bind_assoc,Sy,bne_self_eq_false];refine R0 (R5 ?_);refine R0 (Uq hoi hdi ?_);refine R0 (T4 ha hd hf ?_);simp only[bne_self_eq_false,RS,↓reduceIte];refine R0 ?_;unfold YT;refine R0 (T6 ha hd hf ?_);refine R0 (dA ?_);show RF _ _ (if w.params.followText "set-order" = true then _ else _) _ _ _;rw[Yn hb];simp only[TM,bne_self_eq_false,RS,↓reduceIte];refine R0 ?_;unfold setWalk;refine R0 (T6 ha hd hf ?_);refine R0 (dA ?_);show RF _ _ (if w.params.followText "set-order" = true then _ else _) _ _ _;rw[Yn hb];refine R0 (UQ (R5 ?_));refine R5 ?_;show RF _ _ (match((VJ (w.params.setOrder a ep) d)[i]?).map λe=>(e.2,sl)with
  |some (x,next)=>_
  |none=>_) _ _ _
 rw[he];exact rq h λh' h1 h2=>R5 (q h' h1 h2)
theorem HO(j:Nat):Th #[j] 0=0:=by simp[Th,SetTable.below.go]
theorem IF(j:Nat):Th #[j] (j+1)=1:=by simp[Th,SetTable.below.go]
theorem kR{α:Type}{Q:α->RA->Prop}(d:A.handled=Zy)(q:∀g e,(∀c o,s.heap.get? c=Zz o->g.get? c=Zz o)->(∃o,g.get? e=Zz o/\o.cls=.type "StopIteration")->E (.ref e) { s with heap:=g }):RF (Rp prog w) A (newExc (.type "StopIteration") [] >>= λe=>(Yd e:Sem α)) Q E s:=by
 refine R0 ?_;simp only[newExc,newTuple];refine R0 (SG ?_ (by size_fits));refine R0 (WZ (by first|rfl|(simp only[firstArgMember];rfl)) (SG ?_ (by size_fits)));simp only[Yd];refine R0 (wpAny_handled ?_);rw[d];exact R0 (R5 (wpAny_throw (q _ _ (λc o e=>R7 _ (R7 _ e)) ⟨_,RN _ rfl,rfl⟩)))
theorem Ch(hb:w.params.followText "set-order" = false)(d:t.led=true)(hpl:t.place=#[j])(h:bT s.heap it a (.int 0 0) 0 1 ep)(ha:s.heap.get? a=Zz o)(hd:o.data=.set #[e] ep t)(hf:t.fits 1=true)(q:∀h',bT h' it a (.int (j+1:Nat) 0) 1 1 ep->Tp it s.heap h'->Q (Zz e.2) { s with heap:=h' }):RF (Rp prog w) A (pyNext (.ref it)) Q E s:=by
 obtain⟨oi,hoi,hci,hdi⟩:=id h;unfold pyNext;refine R0 (Ui (SU h.typeIs PySem.F.aq (SK PySem.F.aq h.typeIs PySem.F.aU ?_ (PySem.F.aQ _))));unfold Builtin.«set_iterator.__next__» Wn;simp only[TZ,TJ,RS,↓reduceIte,bind_assoc,Sy,bne_self_eq_false];refine R0 (R5 ?_);refine R0 (Uq hoi hdi ?_);refine R0 (T4 ha hd hf ?_);rw[Yo (by simp)];refine R0 ?_;unfold YT;refine R0 (T6 ha hd hf ?_);refine R0 (dA ?_);show RF _ _ (if w.params.followText "set-order" = true then _ else _) _ _ _;rw[Yo (by rw[hb];decide)];split
 ·rename_i b
  have b:(!t.plain&&decide (1>1))=true:=b;simp at b
 ·refine R0 ?_
  show RF _ _ (if(!t.led&&!(#[e]:Array (Int×R3)).isEmpty)=true then _ else _) _ _ _;rw[Yo (by rw[d];simp)];refine R5 ?_;rw[hpl];show RF _ _ (pure (match(#[e]:Array (Int×R3))[Th #[j] 0]?,(#[j]:Array Nat)[Th #[j] 0]? with
   |some (_,x),Zz j=>Zz (x,j+1)
   |_,_=>Zy)) _ _ _
  rw[HO];refine R5 ?_;exact rq h λh' h1 h2=>R5 (q h' h1 h2)
theorem ym(hA:A.handled=Zy)(h:bT s.heap it a f0 i n ep)(b:∀{Q':Fin->RA->Prop}{E':R3->RA->Prop},(∀g e,VL it s.heap g->(∃o,g.get? e=Zz o/\o.cls=.type "StopIteration")->E' (.ref e) { s with heap:=g })->RF (Rp prog w) A.in1 (Builtin.«set_iterator.__next__» ⟨[.ref it],[]⟩) Q' E' s)(q:∀g,VL it s.heap g->Q Zy { s with heap:=g }):RF (Rp prog w) A (pyNext (.ref it)) Q E s:=by
 unfold pyNext;refine R0 (Ui (SU h.typeIs PySem.F.aq (SK PySem.F.aq h.typeIs PySem.F.aU (b λg e k he=>?_) (PySem.F.aQ _))));obtain⟨o,ho,hc⟩:=he;exact R0 (Wo ⟨o,ho,hc⟩ isSubtype_stop (R5 (q g k)))
theorem Bo(hA:A.handled=Zy)(h:bT s.heap it a (.ref tp) i es.size ep)(ha:s.heap.get? a=Zz o)(hd:o.data=.set es ep t)(hf:t.fits es.size=true)(htp:s.heap.IsTuple tp pl)(hp:pl[i]?=Zy)(q:∀g,VL it s.heap g->Q Zy { s with heap:=g }):RF (Rp prog w) A (pyNext (.ref it)) Q E s:=by
 refine ym hA h (λ{Q' E'} r=>?_) q;obtain⟨oi,hoi,hci,hdi⟩:=id h;obtain⟨ot,hot,_,nt,hdt⟩:=htp;unfold Builtin.«set_iterator.__next__» Wn;simp only[TZ,TJ,RS,↓reduceIte,bind_assoc,Sy,bne_self_eq_false];refine R0 (R5 ?_);refine R0 (Uq hoi hdi ?_);refine R0 (T4 ha hd hf ?_);simp only[bne_self_eq_false,RS,↓reduceIte];refine R0 (Sw hot hdt ?_);simp only[TM,hp];refine R0 (Sk hoi hdi (by simp) ?_);have h1:(s.heap.update it (UI λx=>x.setIfInBounds 0 (rawInt 0))).get? it=Zz (UI (λx=>x.setIfInBounds 0 (rawInt 0)) oi):=SH _ hoi (T9 (SP hdi _));have hd1:(UI (λx=>x.setIfInBounds 0 (rawInt 0)) oi).data=.fields #[rawInt 0,.int i 0,.ref a,.int es.size 0,.int ep 0]:=by rw[SP hdi];simp
 refine R0 (Sk h1 hd1 (by simp) (kR (by simp[hA]) λg e k he=>r g e (λc o n x=>?_) he));exact k c o (((SW ..).trans (SW ..)).extBut c o n x)
theorem B3{i u:Nat}(hA:A.handled=Zy)(hb:w.params.followText "set-order" = true)(h:bT s.heap it a (.int u 0) i es.size ep)(p:s.heap.get? a=Zz o)(m:o.data=.set es ep t)(j:t.fits es.size=true)(l:(VJ (w.params.setOrder a ep) es)[i]?=Zy)(q:∀g,VL it s.heap g->Q Zy { s with heap:=g }):RF (Rp prog w) A (pyNext (.ref it)) Q E s:=by
 refine ym hA h (λ{Q' E'} r=>?_) q;obtain⟨oi,b,hci,d⟩:=id h;unfold Builtin.«set_iterator.__next__» Wn;simp only[TZ,TJ,RS,↓reduceIte,bind_assoc,Sy,bne_self_eq_false];refine R0 (R5 ?_);refine R0 (Uq b d ?_);refine R0 (T4 p m j ?_);simp only[bne_self_eq_false,RS,↓reduceIte];refine R0 ?_;unfold YT;refine R0 (T6 p m j ?_);refine R0 (dA ?_);show RF _ _ (if w.params.followText "set-order" = true then _ else _) _ _ _;rw[Yn hb];simp only[TM,bne_self_eq_false,RS,↓reduceIte];refine R0 ?_;unfold setWalk;refine R0 (T6 p m j ?_);refine R0 (dA ?_);show RF _ _ (if w.params.followText "set-order" = true then _ else _) _ _ _;rw[Yn hb];refine R0 (UQ (R5 ?_));refine R5 ?_;show RF _ _ (match((VJ (w.params.setOrder a ep) es)[i]?).map λe=>(e.2,u)with
  |some (x,next)=>_
  |none=>_) _ _ _
 rw[l];refine R0 (Sk b d (by simp) (kR (by simp[hA]) λg e k l=>r g e (λc o n x=>?_) l));exact k c o ((SW ..).extBut c o n x)
theorem F7{i sl:Nat}(hA:A.handled=Zy)(hb:w.params.followText "set-order" = false)(f:t.led=true)(h:bT s.heap it a (.int sl 0) i es.size ep)(ha:s.heap.get? a=Zz o)(hd:o.data=.set es ep t)(hf:t.fits es.size=true)(hs:es.size<=1)(he:es[Th t.place sl]?=Zy)(q:∀g,VL it s.heap g->Q Zy { s with heap:=g }):RF (Rp prog w) A (pyNext (.ref it)) Q E s:=by
 refine ym hA h (λ{Q' E'} r=>?_) q;obtain⟨oi,d,hci,l⟩:=id h;unfold Builtin.«set_iterator.__next__» Wn;simp only[TZ,TJ,RS,↓reduceIte,bind_assoc,Sy,bne_self_eq_false];refine R0 (R5 ?_);refine R0 (Uq d l ?_);refine R0 (T4 ha hd hf ?_);simp only[bne_self_eq_false,RS,↓reduceIte];refine R0 ?_;unfold YT;refine R0 (T6 ha hd hf ?_);refine R0 (dA ?_);show RF _ _ (if w.params.followText "set-order" = true then _ else _) _ _ _;rw[Yo (by rw[hb];decide)];split
 ·rename_i b
  have b:(!t.plain&&decide (es.size>1))=true:=b;simp at b;omega
 ·refine R0 ?_
  show RF _ _ (if(!t.led&&!es.isEmpty)=true then _ else _) _ _ _;rw[Yo (by rw[f];simp)];refine R5 ?_;show RF _ _ (pure (match es[Th t.place sl]?,t.place[Th t.place sl]? with
   |some (_,x),Zz j=>Zz (x,j+1)
   |_,_=>Zy)) _ _ _
  rw[he];refine R5 ?_;refine R0 (Sk d l (by simp) (kR (by simp[hA]) λg e k he=>r g e (λc o n x=>?_) he));exact k c o ((SW ..).extBut c o n x)
end
end Mi
namespace PySem.F
theorem cM:Slot "set_iterator" "__iter__" "set_iterator.__iter__" :=
 .of (owner:="set_iterator") (n:="__iter__") (by rw[typeLookup_type,builtinLookup_eq_fast];kernel_rfl) (by decide +kernel) (by decide +kernel) (by decide +kernel)
  (by first|exact .inl (by decide +kernel)|exact .inr (by decide +kernel)) (by rw[XK];kernel_rfl)
theorem gZ:Yb table "set_iterator.__iter__" = Zz Builtin.«dict_keyiterator.__iter__»:=entryFor_alias (id':="dict_keyiterator.__iter__") (by kernel_rfl) rfl (by decide +kernel) (by kernel_rfl)
theorem gK(a:R3):argsOk "set_iterator.__iter__" ⟨[a],[]⟩:=by
 unfold argsOk;rw[signature?_of (n:=['_','_','r','e','t','i','_','_']) (by kernel_rfl) gV];kernel_rfl
end PySem.F
namespace Mi
open PySem PySem.Spec PyProof.Rows L2
section
variable{prog:Ry}{w:SS}{A:SF}{E:R3->RA->Prop}{s:RA}
theorem bT.at'(x:bT h it a f0 i n ep)(k:∀o,h.get? it=Zz o->h'.get? it=Zz o):bT h' it a f0 i n ep:=let⟨o,b,r⟩:=x;⟨o,k o b,r⟩
inductive mv (w:SS) (h:Rm) (it a tp:RB) (vs:List R3) (i:Nat):Prop where
 |drawn {o:Obj}{es:Array (Int×R3)}{ep:Nat}{t:Ud}{pl:Array R3}:bT h it a (.ref tp) i es.size ep->h.get? a=Zz o->o.data=.set es ep t->t.fits es.size=true->h.IsTuple tp pl ->
  (∀(k:Nat) v,vs[k]?=Zz v->∃(pp:Nat) (e:Int×R3),pl[k]?=Zz (.int pp 0)/\es[pp]?=Zz e/\e.2=v)->pl.size=vs.length->mv w h it a tp vs i
 |text {o:Obj}{es:Array (Int×R3)}{ep:Nat}{t:Ud}:w.params.followText "set-order" = true->bT h it a (.int (0:Nat) 0) i es.size ep->h.get? a=Zz o->o.data=.set es ep t->t.fits es.size=true ->
  vs=(VJ (w.params.setOrder a ep) es).toList.map (·.2)->mv w h it a tp vs i
 |few {o:Obj}{es:Array (Int×R3)}{ep:Nat}{t:Ud}{sl:Nat}:w.params.followText "set-order" = false->t.led=true->bT h it a (.int sl 0) i es.size ep->h.get? a=Zz o->o.data=.set es ep t->t.fits es.size=true->es.size<=1 ->
  vs=es.toList.map (·.2)->(i=0/\sl=0∨i=1/\es.size=1/\∃j,t.place=#[j]/\sl=j+1)->mv w h it a tp vs i
theorem mv.at'(x:mv w h it a tp vs i)(k:∀b∈[it,a,tp],∀o,h.get? b=Zz o->h'.get? b=Zz o):mv w h' it a tp vs i:=by
 cases x with
 |drawn g f e d c l j=>exact .drawn (g.at' (k it (by simp))) (k a (by simp) _ f) e d (let⟨o,ho,r⟩:=c;⟨o,k tp (by simp) o ho,r⟩) l j
 |text m g f e d c=>exact .text m (g.at' (k it (by simp))) (k a (by simp) _ f) e d c
 |few m hl g f e d c l j=>exact .few m hl (g.at' (k it (by simp))) (k a (by simp) _ f) e d c l j
theorem Ai{t:Ud}(h:t.fits 1=true):∃j,t.place=#[j]:=by
 unfold SetTable.fits at h;simp only[RJ,beq_iff_eq]at h;have a:=h.1;rcases b:t.place with⟨l⟩
 rw[b]at a
 match l,a with
 |[j],_=>exact⟨j,rfl⟩
theorem EP{α:Type}{es:Array α}(h:es.size=1):∃e,es=#[e]:=by
 rcases es with⟨l⟩
 match l,h with
 |[e],_=>exact⟨e,rfl⟩
theorem Aj(hA:A.handled=Zy):Walks prog w A it [it,a,tp] [it] vs.length (λi v=>vs[i]?=Zz v) (λi h=>mv w h it a tp vs i/\a≠it/\tp≠it) where
 sub:=λb hb=>by simp at hb;simp[hb]
 frame:=λ_ _ _ u hk=>⟨u.1.at' hk,u.2⟩
 item:=λi s Q E hi u hQ=>by
  obtain⟨u,na,nt⟩:=u;have hv:=RC hi;cases u with
  |drawn c m f d p h6 h7 =>
   obtain⟨pp,e,q1,q2,q3⟩:=h6 i _ hv;refine xw c m f d p q1 q2 λh' r hs=>?_
   rw[q3];obtain⟨ot,hot,rt⟩:=p;exact hQ _ h' s.toks hv ⟨.drawn r (hs.extBut _ _ na m) f d ⟨ot,hs.extBut _ _ nt hot,rt⟩ h6 h7,na,nt⟩ λb o hb e=>hs.extBut b o (λh=>hb (by simp[h])) e
  |@text o y ep t h0 c m f d p =>
   have he:∃e,(VJ (w.params.setOrder a ep) y)[i]?=Zz e/\e.2=vs[i]:=by
    have n:=hv;generalize hx:vs[i]=x at n ⊢;rw[p,RR,Rw]at n;cases q:(VJ (w.params.setOrder a ep) y)[i]? with
    |none=>rw[q]at n;cases n
    |some e=>rw[q]at n;exact⟨e,rfl,SY n⟩
   obtain⟨e,he,hev⟩:=he;refine A3 h0 c m f d he λh' r hs=>?_
   rw[hev];exact hQ _ h' s.toks hv ⟨.text h0 r (hs.extBut _ _ na m) f d p,na,nt⟩ λb o hb e=>hs.extBut b o (λh=>hb (by simp[h])) e
  |@few o y ep t sl h0 hl c m f d p h6 h7 =>
   have hsz:vs.length=y.size:=by rw[h6,R2,RM]
   have e1:y.size=1:=by omega
   rcases h7 with⟨rfl,rfl⟩|⟨rfl,_⟩
   ·obtain⟨e,rfl⟩:=EP e1
    obtain⟨j,hj⟩:=Ai d;refine Ch h0 hl hj c m f d λh' r hs=>?_
    have hve:e.2=vs[0]:=by simp[h6]
    rw[hve];exact hQ _ h' s.toks hv ⟨.few h0 hl r (hs.extBut _ _ na m) f d p h6 (.inr ⟨rfl,rfl,j,hj,rfl⟩),na,nt⟩ λb o hb e=>hs.extBut b o (λh=>hb (by simp[h])) e
   ·omega
 done:=λs Q E u hQ=>by
  obtain⟨u,na,nt⟩:=u;have fin:∀g,VL it s.heap g->Q Zy { s with heap:=g }:=λg k=>hQ g s.toks λb o hb e=>k b o (λh=>hb (by simp[h])) e
  cases u with
  |drawn c m f d p h6 h7=>exact Bo hA c m f d p (by rw[<-h7];simp) fin
  |@text o y ep t h0 c m f d p=>exact B3 hA h0 c m f d (by rw[p];simp) fin
  |@few o y ep t sl h0 hl c m f d p h6 h7 =>
   have hsz:vs.length=y.size:=by rw[h6,R2,RM]
   refine F7 hA h0 hl c m f d p ?_ fin;rcases h7 with⟨h8,rfl⟩|⟨h8,h9,j,hj,rfl⟩
   ·have:y.size=0:=by omega
    simp[this]
   ·rw[hj,IF]
    simp[h9]
 self:=λi s Q E u h=>by
  have hT:s.TypeIs (.ref it) "set_iterator":=by
   cases u.1 with
   |drawn c=>exact c.typeIs
   |text _ c=>exact c.typeIs
   |few _ _ c=>exact c.typeIs
  refine wpAny_pyIter_slot hT PySem.F.cM (SK PySem.F.cM hT PySem.F.gZ ?_ (PySem.F.gK _));exact R5 ⟨_,rfl,"set_iterator",_,hT,PySem.F.aq.lookup,h⟩
def pj(vs:List R3)(D:List Str):Prop:=(∀v∈vs,∃x t,v=.str x t)/\(vs.map strOf).Perm D
theorem qa(b:JY prog w led o D es ep t){l:List (Int×R3)}(a:l.Perm es.toList):pj (l.map (·.2)) D:=by
 constructor
 ·intro v c
  obtain⟨e,g,rfl⟩:=RX.mp c;obtain⟨⟨k,f,_⟩,_⟩:=b.el e (a.mem_iff.mp g);obtain⟨u,d⟩:=W8 f;exact⟨k,u,d⟩
 ·rw[Ru]
  exact(a.map (strOf ∘ λe:Int×R3=>e.2)).trans b.IJ
theorem range_list:∀l:List (Int×R3),(SX l.length).filterMap (λp=>l[p]?)=l
 |[]=>rfl
 |x::l=>by
  rw[Rr,List.range_succ_eq_map,WA,List.filterMap_map];show x::(SX l.length).filterMap (λp=>l[p]?)=_;rw[range_list l]
theorem x9(a:Array (Int×R3)):((SX a.size).filterMap λp=>a[p]?)=a.toList:=by
 have:=range_list a.toList;rw[RM]at this;simpa only[Rw]using this
theorem tP{b:Array (Int×R3)}:∀{ys:List Nat},(∀p∈ys,p<b.size)->(ys.filterMap λp=>b[p]?)=ys.map λp=>b[p]?.getD (0,.none)
 |[],_=>rfl
 |p::ys,h=>by
  have a:=h p R9;rw[WA,Rf,tP λq c=>h q (R4 _ c)];simp[a]
theorem Et(hS:iA prog w (aY w) s.heap a D)(h:∀(h':Rm) d it n vs,mv w h' it a n vs 0->a≠it->n≠it->pj vs D->s.heap.objs.size<=it->(n=a∨s.heap.objs.size<=n)->n<h'.objs.size->it<h'.objs.size->(∀b o,s.heap.get? b=Zz o->h'.get? b=Zz o)->Q (.ref it) { s with heap:=h',drawn:=d }):
  RF (Rp prog w) A (pyIter (.ref a)) Q E s:=by
 obtain⟨o,l,ep,t,ha,g⟩:=hS;have hT:s.TypeIs (.ref a) "set":=⟨o,ha,g.ex.1⟩
 have hal:=Re ha;refine wpAny_pyIter_slot hT PySem.F.slot_set_iter (SK PySem.F.slot_set_iter hT PySem.F.j7 ?_ (PySem.F.args_set_iter_1 _));unfold Builtin.«frozenset.__iter__» Builtin.Frozenset.slot0 Wn;simp only[TZ,TJ,RS,↓reduceIte,bind_assoc,Sy,bne_self_eq_false];unfold Builtin.Frozenset.addrOf Builtin.Frozenset.sizeOf;refine R0 (R5 ?_)
 first
  |refine R0 (R0 (T4 ha g.data g.fits (R5 ?_)))
  |(refine R0 (R5 ?_);refine R0 (R0 (T4 ha g.data g.fits (R5 ?_))))
 refine R0 ?_;unfold setDrawn;refine R0 (T6 ha g.data g.fits ?_);refine R0 (dA ?_);refine R5 ?_
 -- what is m at the end
 have m:∀(u:Rm) (d:_) (first:R3),(∀b o,s.heap.get? b=Zz o->u.get? b=Zz o)->s.heap.objs.size<=u.objs.size->(∀h':Rm,(∀b o,u.get? b=Zz o->h'.get? b=Zz o)->h'.objs.size=u.objs.size+1->bT h' u.objs.size a first 0 l.size ep->∃n vs,mv w h' u.objs.size a n vs 0/\n≠u.objs.size/\pj vs D/\(n=a∨s.heap.objs.size<=n)/\n<h'.objs.size) ->
   RF (Rp prog w) A.in1 (do
    let e <-setEpoch a
    let r <-newFields "set_iterator" [first,rawInt 0,.ref a,rawInt l.size,rawInt e]
    ret r) (λfin s'=>∃v,fin=.done (.ret v)/\∃T' r,s'.TypeIs v T'/\Xe (.type T') "__next__" = pure (Zz r)/\Q v s') E { s with heap:=u,drawn:=d }:=λu d first k1 z1 mk=>by
  refine R0 (wpAny_setEpoch_of (k1 _ _ ha) g.data g.fits ?_);refine R0 (SG (R5 ⟨_,rfl,"set_iterator",_,⟨_,RN _ rfl,rfl⟩,PySem.F.aq.lookup,?_⟩));have hz:(u.push { cls:=.type "set_iterator",data:=.fields [first,rawInt 0,.ref a,rawInt l.size,rawInt ep].toArray }).objs.size=u.objs.size+1:=S3 ..;obtain⟨n,vs,q1,q2,q3,q4,q5⟩:=mk (u.push { cls:=.type "set_iterator",data:=.fields [first,rawInt 0,.ref a,rawInt l.size,rawInt ep].toArray }) (λb o e=>R7 _ e) hz ⟨_,RN _ rfl,rfl,rfl⟩;exact h _ d u.objs.size n vs q1 (Rd (SO hal z1)) q2 q3 z1 q4 q5 (by rw[hz];exact TY _) λb o e=>R7 _ (k1 b o e)
 cases hb:w.params.followText "set-order" with
 |true =>
  rw[Yo (by show ¬((!(w.params.followText "set-order")&&_)=true);rw[hb];simp)];refine R0 (R5 ?_);refine m s.heap s.drawn (rawInt 0) (λ_ _ e=>e) (RO _) λh' k hz r=>?_
  exact⟨a,_,.text hb r (k _ _ ha) g.data g.fits rfl,Rd hal,qa g (picked _ _),.inl rfl,by rw[hz];exact Rv hal⟩
 |false =>
  by_cases h2:l.size<=1
  ·rw[Yo (by
    show ¬((!(w.params.followText "set-order")&&(!t.plain&&decide (l.size>1)))=true);simp
    intros
    omega)]
   refine R0 (R5 ?_);refine m s.heap s.drawn (rawInt 0) (λ_ _ e=>e) (RO _) λh' k hz r=>?_
   exact⟨a,_,.few hb (by rw[g.led];simp[hb]) (r) (k _ _ ha) g.data g.fits h2 rfl (.inl ⟨rfl,rfl⟩),Rd hal,qa g (.refl _),.inl rfl,by rw[hz];exact Rv hal⟩
  ·have hpl:=g.plain (by omega)
   rw[Yn (by
    show(!(w.params.followText "set-order")&&(!t.plain&&decide (l.size>1)))=true;rw[hb,hpl];simp;omega)]
   refine R0 (oA l.size (SX l.size) T7 λys d hp=>?_);refine R0 (WJ ?_ (by rw[R2,hp.length_eq,T7];exact WY g.room));have hz1:(s.heap.push { cls:=.type "tuple",data:=.seq (ys.map λ(i:Nat)=>rawInt i).toArray }).objs.size=s.heap.objs.size+1:=S3 ..;refine m (s.heap.push { cls:=.type "tuple",data:=.seq (ys.map λ(i:Nat)=>rawInt i).toArray }) d (.ref s.heap.objs.size) (λb o e=>R7 _ e) (by omega) λh' k hz r=>?_
   have hys:∀p∈ys,p<l.size:=λp hm=>Ur.mp (hp.mem_iff.mp hm)
   have hvs:(ys.filterMap λp=>l[p]?).Perm l.toList:=by
    rw[<-x9 l];exact hp.filterMap _
   refine⟨s.heap.objs.size,(ys.filterMap λp=>l[p]?).map (·.2),.drawn r (k _ _ (R7 _ ha)) g.data g.fits ⟨_,k _ _ (RN _ rfl),rfl,_,rfl⟩ ?_ ?_,by rw[hz1];exact Rd (TY _),qa g hvs,.inr (RO _),by rw[hz,hz1];exact Rv (TY _)⟩
   ·have e:=tP hys
    intro j v hv;rw[e,Ru,RR]at hv;cases q:ys[j]? with
    |none=>rw[q]at hv;cases hv
    |some p =>
     rw[q]at hv;have hlt:=hys p (Rj q);refine⟨p,l[p],?_,by simp[hlt],?_⟩
     ·simp[q,rawInt]
     ·have:=SY hv
      simpa[hlt]using this
   ·rw[tP hys]
    simp only[Rz,R2]
theorem vU(hA:A.handled=Zy)(hS:iA prog w (aY w) s.heap a D)(hz:D.length<=1000)(q:∀h' tk d vs,pj vs D->(∀b o,s.heap.get? b=Zz o->h'.get? b=Zz o)->s.toks<=tk->s.heap.objs.size<h'.objs.size->Q vs { s with heap:=h',toks:=tk,drawn:=d }):RF (Rp prog w) A (collect (.ref a)) Q E s:=by
 obtain⟨o,es,ep,t,ha,hE⟩:=id hS;have hal:=Re ha;have hsz:D.length<=Rq:=by rw[TS];omega
 unfold collect;refine R0 (XJ (Sj PySem.F.entry_proto_collect ?_));rw[Sc PySem.F.plain_proto_collect _];refine R0 (SG ?_);refine R5 ⟨Te PySem.F.plain_list_iadd _,Sj PySem.F.entry_list_iadd ?_⟩;rw[Sc PySem.F.plain_list_iadd _];have hS₁:iA prog w (aY w) (s.heap.push { cls:=.type "list",data:=.seq ([]:List R3).toArray }) a D:=hS.at' λo e=>R7 _ e
 have hL₁:(s.heap.push { cls:=.type "list",data:=.seq ([]:List R3).toArray }).get? s.heap.objs.size=Zz { cls:=.type "list",data:=.seq ([]:List R3).toArray }:=RN _ rfl;have ha₁:(s.heap.push { cls:=.type "list",data:=.seq ([]:List R3).toArray }).get? a=Zz o:=R7 _ ha;have hne:=Uz hal;have h1:Builtin.List.listSameRef (.ref s.heap.objs.size) (.ref a)=false:=by simp[Builtin.List.listSameRef,hne]
 show RF _ A.in1 (Builtin.List.listExtendWith (.ref s.heap.objs.size) (.ref a) (.ref s.heap.objs.size)) _ _ _;unfold Builtin.List.listExtendWith;have hT:Vt { s with heap:=s.heap.push { cls:=.type "list",data:=.seq ([]:List R3).toArray } } (.ref a) "set":=⟨o,ha₁,hE.ex.1⟩
 refine R0 (X7 hT ?_);rw[Yo (by rw[h1];decide)];refine R0 (Et hS₁ λh' d it tp vs st na nt tx l1 l2 l3 l4 k=>?_);have hT':Vt { s with heap:=h',drawn:=d } (.ref a) "set":=⟨o,k _ _ ha₁,hE.ex.1⟩
 refine R0 (SE ?_);unfold Builtin.List.listLengthHint;refine R0 (wpAny_specialOf hT' PySem.F.slot_set_len.lookup ?_);generalize hid:("set.__len__" : String)=id0
 wp_delta
 rw[show splitId id0=Zz ("set","__len__")from by subst hid;decide +kernel];subst hid;refine R0 (Wo (b:=true) hT' (by rw[XK];kernel_rfl) ?_);refine R0 (X7 hT' ?_);refine R5 ?_;rw[Yn (by rfl)];refine R0 (UH ?_);have hL':=k _ _ hL₁;refine R0 ?_;unfold Builtin.List.listTouch;refine R0 (Tr hL' rfl ?_ (by simp) (by simp[TS]));have hL2:=VC hL' (λxs=>xs.push Us);refine Tr hL2 rfl ?_ (by simp[TS]) (by simp[TS]);have hL3:=VC hL2 (λxs=>xs.pop);have hse:((#[]:Array R3).push Us).pop=#[]:=by simp
 rw[hse]at hL3;have hSf:s.heap.objs.size∉[it,a,tp]:=by
  have z:(s.heap.push { cls:=.type "list",data:=.seq ([]:List R3).toArray }).objs.size=s.heap.objs.size+1:=S3 ..;have l1':=z▸l1;simp only[R6,RG,or_false,not_or];refine⟨Rd l1',hne,?_⟩;rcases l2 with rfl|l2
  ·exact hne
  ·have l2':=z▸l2
   exact Rd l2'
 have hot:∀b∈[it,a,tp],∀o,h'.get? b=Zz o->((h'.update s.heap.objs.size (RZ λxs=>xs.push Us)).update s.heap.objs.size (RZ λxs=>xs.pop)).get? b=Zz o:=λb hb o e=>by
  have nb:s.heap.objs.size≠b:=λz=>hSf (by rw[z];exact hb)
  rw[Rs _ _ nb,Rs _ _ nb];exact e
 have hvl:vs.length=D.length:=by rw[<-tx.2.length_eq,R2]
 refine R5 ⟨Te PySem.F.plain_extend_loop _,codeAny_extend_loopS ((Aj (by simp[hA])).toS) (by omega) _ hSf _ vs.length 0 _ _ _ rfl (S8 _) ⟨st.at' hot,na,nt⟩ hL3 (ItemsOf.nil _) λs' acc' c' hm hS' hacc=>?_⟩;refine R0 (wpAny_load hS' ?_);have hacc':acc'.toList=vs:=by
  obtain⟨h1,h2⟩:=hacc;refine VV λj=>?_
  rw[Rw];cases qj:acc'[j]? with
  |some v=>rw[h2 j v qj]
  |none =>
   rw[Uk];have:=Ut.mp qj;omega
 obtain⟨hh,g',d',tk',os'⟩:=s';have eg:g'=s.gens:=hm.gens;have ed:d'=d:=hm.drawn;have eo:os'=s.os:=hm.os;subst eg;subst ed;subst eo;refine R5 ?_;show Q acc'.toList _;rw[hacc'];refine q hh tk' d' vs tx (λb o e=>?_) hm.toks (Re hS');have nb:s.heap.objs.size≠b:=Uz (Re e);have nit:b≠it:=λz=>by
  have z1:(s.heap.push { cls:=.type "list",data:=.seq ([]:List R3).toArray }).objs.size=s.heap.objs.size+1:=S3 ..;have l1':s.heap.objs.size+1<=it:=z1▸l1;have:=Re e;rw[z]at this;exact Ys (SO this (Wa l1')) (S7 _)
 refine hm.heap b o (by simp only[R6,RG,or_false,not_or];exact⟨λz=>nb z.symm,nit⟩) ?_;show((h'.update s.heap.objs.size (RZ λxs=>xs.push Us)).update s.heap.objs.size (RZ λxs=>xs.pop)).get? b=Zz o;rw[Rs _ _ nb,Rs _ _ nb];exact k b o (R7 _ e)
theorem yC(hA:A.handled=Zy)(hS:iA prog w (aY w) s.heap a D)(hz:D.length<64)(q:∀h' tk d l out ss' e,XV out ss'->ss'.Perm D->sortedS ss'=true->h'.get? l=Zz (seqObj "list" out.toArray e)->s.heap.objs.size<=l->(∀b o,s.heap.get? b=Zz o->h'.get? b=Zz o)->s.toks<=tk->Q (.ref l) { s with heap:=h',toks:=tk,drawn:=d }):
  RF (Rp prog w) A (Sq (.builtin "sorted") [.ref a]) Q E s:=by
 refine Calls.call_function_entry Y0 Xl Xm (args_sorted1 _) ?_
 unfold Builtin.«sorted»;refine R0 (R5 ?_);refine R0 (vU (by simp[hA]) hS (by omega) λh' tk d vs tx k ht hlt=>?_);have hvl:vs.length=D.length:=by rw[<-tx.2.length_eq,R2]
 refine R0 (Vs ?_ (by rw[TS];omega));have hoL:(h'.push (seqObj "list" vs.toArray 0)).get? h'.objs.size=Zz (seqObj "list" vs.toArray 0):=RN _ rfl;have hStr:=strsAre_map vs tx.1;refine R0 (SE (SK XI ⟨_,hoL,rfl⟩ XC (list_sort_treeK strKind_oneLt hoL hStr.keysOf (λv₁ v₂ rest e=>keyKind_strs (by rw[<-e];exact hStr)) (by omega) λst' a1 a2=>⟨_,rfl,?_⟩) (args_list_sort _)));obtain⟨ss',b1,b2,b3⟩:=sorted_out_str hStr a1 a2;obtain⟨e,he⟩:=sortedHeap_at hoL;refine R5 ⟨_,rfl,q _ tk d h'.objs.size ((arrOf st').map (·.2)).toList ss' e b1 (b2.trans tx.2) b3 he (Sb hlt) (λb o x=>?_) ht⟩;rw[sortedHeap_old (Rd (Re (k b o x))) (by rw[X6];exact Rv (Re (k b o x)))];exact R7 _ (k b o x)
end
end Mi
namespace Mi
open PySem
inductive T where
 |non|bl (b:Bool)|int (i:Int)|str (cs:List Nat)
 |tup (ts:List T)|lst (ts:List T)
 |dct (ks:List L2.Key) (ts:List T)
 |fH (ns:List Int)
 deriving Inhabited
inductive W where
 |t (x:T)|c (i:Nat)|x (cls:Nat) (nms:List Str) (ts:List T)|e (i:Nat)
 deriving Inhabited
inductive Cl where
 |l (b:Bool) (xs:List T)|o (C:Nat) (fs:List (Str×W))|d
noncomputable abbrev Mem:=List (Option Cl)
structure Exc where
 cls:Nat
 nms:List Str
 Hw:List T
inductive Res (a:Type) where
 |ok (x:a) (m:Mem)|exc (x:Exc) (m:Mem)|stuck
noncomputable def Res.bind{a b:Type}(r:Res a)(f:a->Mem->Res b):Res b:=match r with
 |.ok x m=>f x m
 |.exc x m=>.exc x m
 |.stuck=>.stuck
noncomputable abbrev Env:=List (Option W)
inductive B where
 |len|int|tuple|list|all|any|min2|max2|u3|iV|nU|enum
 |wD|yt|Gd|vy|wu|Ab|Ix
 deriving DecidableEq
inductive Mt where
 |append|mn|extend
 deriving DecidableEq
inductive Ty where
 |int|bool|str|tuple|list|dict
 deriving DecidableEq
inductive Ik where
 |nm (j:Nat)|non|lst
 deriving DecidableEq
inductive Tg where
 |nm (i:Nat)|tp (is:List Nat)
 deriving DecidableEq
mutual
inductive E where
 |var (i:Nat)|gl (k:Nat)|con (x:T)
 |bin (op:Wp) (a b:E)|neg (a:E)|not (a:E)
 |and (a b:E)|or (a b:E)
 |cmp (op:Yl) (a b:E)|GQ (op op':Yl) (a b c:E)
 |tup (es:Es)|lst (es:Es)|rI (es:Es)
 |ix (a b:E)|GZ (a lo hi:E)|hole
 |call (f:Nat) (es:Es)|blt (b:B) (es:Es)|vo (b:Mt) (o:E) (es:Es)
 |rO (a:E) (ty:Ty)
 |comp (own:Nat) (keep:List Nat) (it:E) (tg:Tg) (cs:Es) (inner:E)
 |more (it:E) (tg:Tg) (cs:Es) (inner:E)
 |emit (a:E)|ji (a b:E)
 |tr (a:E)
 |qP (keep:List Nat) (a b:E)
 |fld (C:Nat) (a:E) (nm:Str)|aZ (C:Nat) (a:E) (nm:Str) (f:Nat) (es:Es)|make (C f:Nat) (ks:List (Str×Ik)) (es:Es)|enc (es:Es)
inductive Es where
 |nil|cons (e:E) (es:Es)
end
noncomputable def jc:E->Bool
 |.hole=>true
 |_=>false
inductive S where
 |done
 |asg (i:Nat) (e:E) (k:S)
 |Bj (is:List Nat) (e:E) (k:S)
 |BL (is:List Nat) (e:E) (k:S)
 |set (o i v:E) (k:S)|GR (C:Nat) (o:E) (nm:Str) (v:E) (k:S)
 |aug (i:Nat) (op:Wp) (e:E) (k:S)
 |dv (c:E) (a b k:S)
 |lP (tg:Tg) (it:E) (body k:S)
 |ye (c:E) (body k:S)
 |ret (e:E) (k:S)|DO (k:S)
 |expr (e:E) (k:S)
 |Ku (c:Nat) (nms:List Str) (es:Es) (k:S)|pL
 |tri (b:S) (yes:List Nat) (nm:Option Nat) (h k:S)
noncomputable def lim:Nat:=1000000
noncomputable def gN:List Nat->List Nat->Bool
 |[],[]=>false
 |[],_::_=>true
 |_::_,[]=>false
 |a::x,b::y=>if a<b then true else if b<a then false else gN x y
noncomputable def b2i(b:Bool):Int:=if b then 1 else 0
mutual
noncomputable def eqT:T->T->Bool
 |.non,.non=>true
 |.bl a,.bl b=>a==b
 |.bl a,.int b=>b2i a==b
 |.int a,.bl b=>a==b2i b
 |.int a,.int b=>a==b
 |.str a,.str b=>a==b
 |.tup a,.tup b=>wY a b
 |.lst a,.lst b=>wY a b
 |_,_=>false
noncomputable def wY:List T->List T->Bool
 |[],[]=>true
 |a::x,b::y=>eqT a b&&wY x y
 |_,_=>false
end
mutual
noncomputable def aW:Nat->T->Bool
 |_,.non=>true
 |_,.bl _=>true
 |_,.int _=>true
 |_,.str cs=>PyData.strOk ⟨cs.toArray⟩
 |n+1,.tup ts=>bE n ts
 |n+1,.lst ts=>bE n ts
 |_,_=>false
noncomputable def bE:Nat->List T->Bool
 |_,[]=>true
 |n,t::ts=>aW n t&&bE n ts
end
noncomputable def flat:T->Bool
 |.non|.bl _|.int _|.str _=>true
 |_=>false
mutual
noncomputable def KO:Nat->T->Bool
 |_,.non=>true
 |_,.bl _=>true
 |_,.int _=>true
 |_,.str _=>true
 |n+1,.tup ts=>B2 n ts
 |n+1,.lst ts=>B2 n ts
 |_,_=>false
noncomputable def B2:Nat->List T->Bool
 |_,[]=>true
 |n,t::ts=>KO n t&&B2 n ts
end
noncomputable def xP:T->Bool
 |.non=>false
 |.bl b=>b
 |.int i=>i != 0
 |.str cs=>!cs.isEmpty
 |.tup ts=>!ts.isEmpty
 |.lst ts=>!ts.isEmpty
 |.dct ks _=>!ks.isEmpty
 |.fH ns=>!ns.isEmpty
noncomputable def gM(n:Nat)(i:Int):Option Nat:=if 0<=i then(if i<n then Zz i.toNat else Zy)else if -(n:Int)<=i then Zz (i+n).toNat else Zy
noncomputable def atT{a:Type}(xs:List a)(i:Int):Option a:=(gM xs.length i).bind λj=>xs[j]?
noncomputable def ax(n d:Nat):Option Int->Nat
 |none=>d
 |some i=>if i<0 then(i+n).toNat else min i.toNat n
noncomputable def cut{a:Type}(xs:List a)(lo hi:Option Int):List a:=
 (xs.drop (ax xs.length 0 lo)).take (ax xs.length xs.length hi-ax xs.length 0 lo)
noncomputable def gH{a:Type}(xs:List a)(k:Nat):List a:=(RE k xs).flatten
noncomputable def yh:Nat:=(2^250)^8
noncomputable def small(i:Int):Bool:=decide (i.natAbs<2^64)
noncomputable def lg(i j:Int):Bool:=small i || small j || (decide (i.natAbs<yh)&&decide (j.natAbs<yh))
noncomputable def Hf:T->T->Option T
 |.int i,.int j=>Zz (.int (i+j))
 |.str a,.str b=>if a.length+b.length<=lim then Zz (.str (a++b))else Zy
 |.tup a,.tup b=>if a.length+b.length<=lim then Zz (.tup (a++b))else Zy
 |.lst a,.lst b=>if a.length+b.length<=lim then Zz (.lst (a++b))else Zy
 |_,_=>Zy
noncomputable def H5(x y:T):Option T:=match y with
 |.int k=>match x with
  |.int i=>if lg i k then Zz (.int (i*k))else Zy
  |.tup a=>if(-(lim:Int)<=k/\k<=lim)/\a.length*k.toNat<=lim then Zz (.tup (gH a k.toNat))else Zy
  |.lst a=>if(-(lim:Int)<=k/\k<=lim)/\a.length*k.toNat<=lim then Zz (.lst (gH a k.toNat))else Zy
  |.str a=>if(0<=k/\k<=64)/\a.length<=1000 then Zz (.str (gH a k.toNat))else Zy
  |_=>Zy
 |_=>Zy
noncomputable def As(f:Int->Int->Option T)(x y:T):Option T:=match x with
 |.int i=>match y with
  |.int j=>f i j
  |_=>Zy
 |_=>Zy
noncomputable def uD(op:Wp)(x y:T):Option T:=
 match op with
 |.Add=>Hf x y
 |.Sub=>As (λi j=>Zz (.int (i-j))) x y
 |.Mult=>H5 x y
 |.FloorDiv=>As (λi j=>if 0<j/\j<1073741824 then Zz (.int (i / j))else Zy) x y
 |.Mod=>As (λi j=>if 0<j then Zz (.int (i%j))else Zy) x y
 |.Pow=>As (λi j=>if 0<=j/\j<=1000/\i.natAbs<2^64 then Zz (.int (i^j.toNat))else Zy) x y
 |_=>Zy
noncomputable def Fk(op:Wp)(x y:T):Option T:=
 match op,x,y with
 |.Add,.int i,.int j=>Zz (.int (i+j))
 |.Sub,.int i,.int j=>Zz (.int (i-j))
 |_,_,_=>Zy
noncomputable def tG(x y:T):Bool:=match x,y with
 |.bl _,.int _=>false
 |.int _,.bl _=>false
 |x,y=>flat x&&flat y
noncomputable def vY(x:T)(y:T):Option Bool:=
 match y with
 |.tup ts=>if flat x&&ts.all flat then Zz (ts.any λt=>eqT t x)else if aW 59 x&&bE 59 ts then Zz (ts.any λt=>eqT t x)else Zy
 |.lst ts=>if flat x&&ts.all flat then Zz (ts.any λt=>eqT t x)else if aW 59 x&&bE 59 ts then Zz (ts.any λt=>eqT t x)else Zy
 |_=>Zy
noncomputable def Gy(f:Int->Int->Bool)(x y:T):Option Bool:=match x with
 |.int i=>match y with
  |.int j=>Zz (f i j)
  |_=>Zy
 |_=>Zy
noncomputable def LG(x y:T):Option Bool:=match x with
 |.int i=>match y with
  |.int j=>Zz (decide (i<j))
  |_=>Zy
 |.str a=>match y with
  |.str b=>Zz (gN a b)
  |_=>Zy
 |_=>Zy
noncomputable def Lx(x y:T):Option Bool:=match x with
 |.int i=>match y with
  |.int j=>Zz (decide (i<=j))
  |_=>Zy
 |.str a=>match y with
  |.str b=>Zz (!gN b a)
  |_=>Zy
 |_=>Zy
noncomputable def JM(x y:T):Option Bool:=match x with
 |.str [a]=>match y with
  |.str b=>Zz (decide (a∈b))
  |y=>vY (.str [a]) y
 |.str (a::a'::r)=>match y with
  |.str b=>Zz (!(VM ⟨b.toArray⟩ ⟨(a::a'::r).toArray⟩ 0 b.length 1).isEmpty)
  |y=>vY (.str (a::a'::r)) y
 |x=>vY x y
noncomputable def Af(x y:T):Option Bool:=match y with
 |.non=>Zz (match x with|.non=>true|_=>false)
 |.bl b=>Zz (match x with|.bl a=>a==b|_=>false)
 |_=>Zy
noncomputable def j9(op:Yl)(x y:T):Option Bool:=
 match op with
 |.Lt=>LG x y
 |.LtE=>Lx x y
 |.Gt=>Gy (λi j=>decide (j<i)) x y
 |.GtE=>Gy (λi j=>decide (j<=i)) x y
 |.Eq=>if tG x y || (aW 60 x&&aW 60 y)then Zz (eqT x y)else Zy
 |.NotEq=>if tG x y || (aW 60 x&&aW 60 y)then Zz (!eqT x y)else Zy
 |.In=>JM x y
 |.NotIn=>(JM x y).map (!·)
 |.Is=>Af x y
 |.IsNot=>(Af x y).map (!·)
noncomputable def JR(x:T)(ty:Ty):Bool:=
 match x,ty with
 |.int _,.int=>true
 |.bl _,.int=>true
 |.bl _,.bool=>true
 |.str _,.str=>true
 |.tup _,.tuple=>true
 |.lst _,.list=>true
 |.fH _,.list=>true
 |.dct _ _,.dict=>true
 |_,_=>false
noncomputable def G2(x i:T):Option T:=
 match x,i with
 |.tup ts,.int k=>atT ts k
 |.lst ts,.int k=>atT ts k
 |.fH ns,.int k=>(atT ns k).map .int
 |.str cs,.int k=>if cs.length<=lim then(atT cs k).map λc=>.str [c]else Zy
 |_,_=>Zy
noncomputable def IQ(x:T)(lo hi:Option Int):Option T:=
 match x with
 |.tup ts=>Zz (.tup (cut ts lo hi))
 |.lst ts=>Zz (.lst (cut ts lo hi))
 |.fH ns=>Zz (.lst ((cut ns lo hi).map .int))
 |.str cs=>if cs.length<=lim then Zz (.str (cut cs lo hi))else Zy
 |_=>Zy
noncomputable def sC(x:List Nat):List (List Nat)->List (List Nat)
 |[]=>[x]
 |y::r=>if gN x y then x::y::r else if gN y x then y::sC x r else y::r
noncomputable def aK(xs:List (List Nat)):List (List Nat):=xs.foldr sC []
noncomputable def strs?: List T->Option (List (List Nat))
 |[]=>Zz []
 |.str c::r=>(strs? r).map (c::·)
 |_=>Zy
noncomputable def eG:List T->Option (List Int)
 |[]=>Zz []
 |.int c::r=>(eG r).map (c::·)
 |_=>Zy
noncomputable def cE:List T->Option (List Bool)
 |[]=>Zz []
 |.bl c::r=>(cE r).map (c::·)
 |_=>Zy
noncomputable def D2:T->Option (List Int)
 |.tup ts=>eG ts
 |_=>Zy
noncomputable def kM:List T->Option (List (List Int))
 |[]=>Zz []
 |t::r=>(D2 t).bind λk=>(kM r).map (k::·)
noncomputable def bj:List Int->List Int->Bool
 |[],[]=>false
 |[],_::_=>true
 |_::_,[]=>false
 |x::xs,y::ys=>if x=y then bj xs ys else decide (x<y)
noncomputable def insI(x:List Int):List (List Int)->List (List Int)
 |[]=>[x]
 |y::r=>if bj y x then y::insI x r else x::y::r
noncomputable def sortI(xs:List (List Int)):List (List Int):=xs.foldr insI []
noncomputable def kQ(k:List Int):T:=.tup (k.map .int)
noncomputable def xq(ts:List T):Option T:=(kM ts).bind λks=>if ks.Nodup/\ks.length<64/\(ks.all λk=>!k.isEmpty)=true then Zz (.lst ((sortI ks).map kQ))else Zy
noncomputable def xe(ts:List T):Option T:=(eG ts).bind λns=>if ns.Nodup/\ns.length<64 then Zz (.lst ((sortI (ns.map λn=>[n])).map λk=>.int (k.headD 0)))else Zy
noncomputable def Bh(x:List Int×T):List (List Int×T)->List (List Int×T)
 |[]=>[x]
 |y::r=>if bj y.1 x.1 then y::Bh x r else x::y::r
noncomputable def oC(xs:List (List Int×T)):List (List Int×T):=xs.foldr Bh []
noncomputable def jf(ks:List (List Int))(ts:List T):Option T:=if ks.Nodup/\ks.length<64 then Zz (.lst ((oC (ks.zip ts)).map (·.2)))else Zy
noncomputable def rangeT(lo:Int)(n:Nat):List T:=(SX n).map λk:Nat=>.int (lo+(k:Int))
noncomputable def vk:T->Option (List T)
 |.tup ts=>Zz ts
 |.lst ts=>Zz ts
 |.fH ns=>Zz (ns.map .int)
 |.str cs=>if cs.length<=lim then Zz (cs.map λc=>.str [c])else Zy
 |_=>Zy
noncomputable def view(w:W)(m:Mem):Option T:=match w with
 |.t x=>Zz x
 |.x _ _ _=>Zy
 |.e _=>Zy
 |.c i=>match m[i]? with
  |some (Zz (.l _ ts))=>Zz (.lst ts)
  |_=>Zy
noncomputable def eC(o:Option T)(m:Mem):Res W:=match o with
 |some t=>.ok (.t t) m
 |none=>.stuck
noncomputable def w4(w:W)(m:Mem):Res T:=match w with
 |.t x=>.ok x m
 |.x _ _ _=>.stuck
 |.e _=>.stuck
 |.c i=>match m[i]? with
  |some (Zz (.l false ts))=>.ok (.lst ts) (m.set i Zy)
  |_=>.stuck
noncomputable def db:List W->Mem->Res (List T)
 |[],m=>.ok [] m
 |w::ws,m=>(w4 w m).bind λt m=>(db ws m).bind λts m=>.ok (t::ts) m
noncomputable def views:List W->Mem->Option (List T)
 |[],_=>Zz []
 |w::ws,m=>(view w m).bind λt=>(views ws m).map (t::·)
noncomputable def kb(C:Nat)(x:W)(m:Mem):Option (Nat×List (Str×W)):=match x with
 |.c i=>match m[i]? with
  |some (Zz (.o D fs))=>if D=C then Zz (i,fs)else Zy
  |_=>Zy
 |_=>Zy
noncomputable def D0:W->Bool
 |.x _ _ _=>false
 |.e _=>false
 |_=>true
noncomputable def j8(f:Str)(w:W):List (Str×W)->List (Str×W)
 |[]=>[(f,w)]
 |(g,x)::r=>if g=f then(g,w)::r else(g,x)::j8 f w r
noncomputable def Bk(ws:List W):List (Str×Ik)->Nat->Option (List (Str×W))
 |[],_=>Zz []
 |(f,.nm j)::r,b=>match ws[j]? with
  |some (.t x)=>(Bk ws r b).map ((f,.t x)::·)
  |_=>Zy
 |(f,.non)::r,b=>(Bk ws r b).map ((f,.t .non)::·)
 |(f,.lst)::r,b=>(Bk ws r (b+1)).map ((f,.c b)::·)
noncomputable def A9:List (Str×Ik)->Nat
 |[]=>0
 |(_,.lst)::r=>A9 r+1
 |_::r=>A9 r
noncomputable def dead(m:Mem)(i:Nat):Bool:=match m[i]? with
 |some Zy=>true
 |_=>false
noncomputable def IP(C:Nat)(ks:List (Str×Ik))(ws:List W)(n:Nat)(m:Mem):Res W:=match Bk ws ks (n+2)with
 |some F=>if dead m n=true/\dead m (n+1)=true then .ok (.c (n+1)) ((m.set n (Zz .d)).set (n+1) (Zz (.o C F))++RE (A9 ks) (Zz (.l false [])))else .stuck
 |none=>.stuck
noncomputable def kK(xs:List T):List T:=List.zipWith (λ(k:Nat) x=>T.tup [.int (k:Int),x]) (SX xs.length) xs
noncomputable def aL(w:W)(m:Mem):Res (List T):=match w with
 |.x _ _ _=>.stuck
 |.t x=>match vk x with
  |some ts=>.ok ts m
  |none=>.stuck
 |.c i=>match m[i]? with
  |some (Zz (.l _ ts))=>.ok ts (m.set i (Zz (.l true ts)))
  |_=>.stuck
 |.e i=>match m[i]? with
  |some (Zz (.l _ ts))=>.ok (kK ts) (m.set i (Zz (.l true ts)))
  |_=>.stuck
noncomputable def giveBack(w:W)(m0 m:Mem):Mem:=match w with
 |.t _=>m
 |.x _ _ _=>m
 |.c i=>match m0[i]? with
  |some c=>m.set i c
  |none=>m
 |.e i=>match m0[i]? with
  |some c=>m.set i c
  |none=>m
noncomputable def bz(tg:Tg)(t:T)(env:Env):Option Env:=match tg with
 |.nm i=>Zz (env.set i (Zz (.t t)))
 |.tp is=>match t with
  |.tup ts=>if ts.length=is.length then Zz ((is.zip ts).foldl (λenv p=>env.set p.1 (Zz (.t p.2))) env)else Zy
  |_=>Zy
noncomputable def i4(f:T->Option T):List T->Option T
 |[x]=>f x
 |_=>Zy
noncomputable def Cy(f:Int->Int->Option T):List T->Option T
 |[.int i,.int j]=>f i j
 |_=>Zy
noncomputable def KU:T->Option T
 |.str cs=>if cs.length<=lim then Zz (.int cs.length)else Zy
 |.tup ts=>Zz (.int ts.length)
 |.lst ts=>Zz (.int ts.length)
 |.fH ns=>Zz (.int ns.length)
 |_=>Zy
noncomputable def JZ(cs:List Nat):Int:=((cs.foldl (λn c=>n*10+(c-48)) 0:Nat):Int)
noncomputable def KC:T->Option T
 |.int i=>Zz (.int i)
 |.bl b=>Zz (.int (b2i b))
 |.str cs=>if cs≠[]/\cs.length<=600/\cs.all (λc=>decide (48<=c)&&decide (c<=57))=true then Zz (.int (JZ cs))else Zy
 |_=>Zy
noncomputable def K5:T->Option T
 |.tup ts=>Zz (.tup ts)
 |.lst ts=>Zz (.tup ts)
 |.str cs=>if cs.length<=lim then Zz (.tup (cs.map λc=>.str [c]))else Zy
 |_=>Zy
noncomputable def KD:T->Option T
 |.tup ts=>Zz (.lst ts)
 |.lst ts=>Zz (.lst ts)
 |_=>Zy
noncomputable def rG(f:List T->Option T):T->Option T
 |.lst ts=>f ts
 |_=>Zy
noncomputable def K0:T->Option T
 |.int i=>if i<2^62/\-(2^62)<=i then Zz (.lst (rangeT 0 i.toNat))else Zy
 |_=>Zy
noncomputable def F6(xs ys:List T):List T:=List.zipWith (λx y=>.tup [x,y]) xs ys
noncomputable def J1(ts:List T):Option T:=(strs? ts).bind λxs=>if xs.length<64 then Zz (.int ((aK xs).length:Int))else Zy
noncomputable def eU(n:Int)(ns:List Int):Int:=ns.foldl (λa b=>if b<a then b else a) n
noncomputable def GL(ts:List T):Option T:=(eG ts).bind λns=>match ns with
 |[]=>Zy
 |n::r=>if r.length<64 then Zz (.int (eU n r))else Zy
noncomputable def GT(ts:List T):Option T:=(eG ts).bind λns=>match ns with
 |[]=>Zz .non
 |n::r=>Zz (.int (eU n r))
noncomputable def uH:T->Option L2.Key
 |.int i=>Zz (.inl i)
 |.str cs=>Zz (.inr ⟨cs.toArray⟩)
 |_=>Zy
noncomputable def md(ks:List L2.Key)(ts:List T)(k:L2.Key):Option T:=((ks.zip ts).find? λp=>decide (p.1=k)).map (·.2)
noncomputable def Cd:List T->Option T
 |[.dct ks vs,x]=>(uH x).bind (md ks vs)
 |_=>Zy
noncomputable def DA(f:List T->Option T):T->Option T
 |.lst ts=>f ts
 |.tup ts=>f ts
 |_=>Zy
noncomputable def nB:List T->Option (List L2.Key×List T)
 |[]=>Zz ([],[])
 |k::v::r=>(uH k).bind λkk=>(nB r).map λp=>(kk::p.1,v::p.2)
 |_=>Zy
noncomputable def qd(ts:List T):Option T:=(nB ts).bind λp=>if p.1.Nodup/\p.1.length<=1000 then Zz (.dct p.1 p.2)else Zy
noncomputable def iR(b:B)(ts:List T):Option T:=
 match b with
 |.len=>i4 KU ts
 |.int=>i4 KC ts
 |.tuple=>i4 K5 ts
 |.list=>i4 KD ts
 |.all=>i4 (DA λts=>(cE ts).map λbs=>.bl (bs.all id)) ts
 |.any=>i4 (DA λts=>(cE ts).map λbs=>.bl (bs.any id)) ts
 |.u3=>i4 (rG λts=>(strs? ts).bind λxs=>if xs.length<64 then Zz (.lst ((aK xs).map .str))else Zy) ts
 |.min2=>Cy (λi j=>Zz (.int (if j<i then j else i))) ts
 |.max2=>Cy (λi j=>Zz (.int (if j>i then j else i))) ts
 |.iV=>i4 K0 ts
 |.enum=>i4 (rG λts=>if ts.length<=lim then Zz (.lst (kK ts))else Zy) ts
 |.yt=>i4 (DA J1) ts
 |.Gd=>i4 (rG GL) ts
 |.Ix=>i4 (rG GT) ts
 |.vy=>i4 (rG xq) ts
 |.Ab=>i4 (rG qd) ts
 |.wu=>i4 (rG xe) ts
 |.wD=>Cd ts
 |.nU=>Cy (λi j=>if(i<2^62/\-(2^62)<=i)/\j<2^62/\-(2^62)<=j then Zz (.lst (rangeT i (j-i).toNat))else Zy) ts
noncomputable def AZ(b:Mt)(xs:List T)(ts:List T):Option (T×List T):=
 match b,ts with
 |.append,[t]=>if xs.length<lim then Zz (.non,xs++[t])else Zy
 |.extend,[.lst ys]=>if xs.length+ys.length<=lim then Zz (.non,xs++ys)else Zy
 |.mn,[.int i]=>match gM xs.length i with
  |some k=>(xs[k]?).map λt=>(t,xs.eraseIdx k)
  |none=>Zy
 |_,_=>Zy
noncomputable def xy(b:Mt)(o:W)(ws:List W)(m:Mem):Res W:=match b with
 |.append|.mn|.extend=>match o with
  |.c i=>(db ws m).bind λts m=>match m[i]? with
   |some (Zz (.l false xs))=>match AZ b xs ts with
    |some (t,ys)=>.ok (.t t) (m.set i (Zz (.l false ys)))
    |none=>.stuck
   |_=>.stuck
  |.t _=>.stuck
  |.x _ _ _=>.stuck
  |.e _=>.stuck
noncomputable def setM(o i v:W)(m:Mem):Res Unit:=match o,i with
 |.c c,.t (.int k)=>(w4 v m).bind λt m=>match m[c]? with
  |some (Zz (.l false xs))=>match gM xs.length k with
   |some j=>.ok () (m.set c (Zz (.l false (xs.set j t))))
   |none=>.stuck
  |_=>.stuck
 |_,_=>.stuck
noncomputable def rM(w:W)(m:Mem):Res (Option Int):=match w with
 |.t (.int i)=>.ok (Zz i) m
 |_=>.stuck
noncomputable def GU(b:Mt)(w:W)(m:Mem):Bool:=match b with
 |.append|.mn|.extend=>match w with
  |.c i=>match m[i]? with
   |some (Zz (.l _ _))=>true
   |_=>false
  |_=>false
noncomputable def bC(f:Env->Mem->Res (List T))(tg:Tg):List T->Env->Mem->Res (List T)
 |[],_,m=>.ok [] m
 |t::ts,env,m=>match bz tg t env with
  |none=>.stuck
  |some env'=>(f env' m).bind λxs m=>(bC f tg ts env m).bind λys m=>.ok (xs++ys) m
noncomputable def Dy(w:W):Option (List Int):=match w with
 |.t (.lst us)=>eG us
 |_=>Zy
noncomputable def fP(f:Env->Mem->Res W)(kept:Env):List T->Mem->Res (List (List Int))
 |[],m=>.ok [] m
 |t::ts,m=>(f (Zz (.t t)::kept) m).bind λw m=>match Dy w with
  |some k=>(fP f kept ts m).bind λks m=>.ok (k::ks) m
  |none=>.stuck
noncomputable def Res.only{a:Type}(r:Res a):Res a:=match r with
 |.exc _ _=>.stuck
 |r=>r
inductive Flow where
 |next (env:Env)|ret (w:W)|brk (env:Env)|cont (env:Env)
noncomputable def iW(f:Env->Mem->Res Flow)(tg:Tg):List T->Env->Mem->Res Flow
 |[],env,m=>.ok (.next env) m
 |t::ts,env,m=>match bz tg t env with
  |none=>.stuck
  |some env=>(f env m).bind λfl m=>match fl with
   |.next env=>iW f tg ts env m
   |.cont env=>iW f tg ts env m
   |.brk env=>.ok (.next env) m
   |.ret w=>.ok (.ret w) m
noncomputable def jm(c:Env->Mem->Res Bool)(f:Env->Mem->Res Flow):Nat->Env->Mem->Res Flow
 |0,_,_=>.stuck
 |n+1,env,m=>(c env m).bind λb m=>if b then(f env m).bind λfl m=>match fl with
   |.next env=>jm c f n env m
   |.cont env=>jm c f n env m
   |.brk env=>.ok (.next env) m
   |.ret w=>.ok (.ret w) m
  else .ok (.next env) m
noncomputable def turns:Nat:=1000000
noncomputable def K9:T->Bool
 |.str cs=>decide (cs.length<=lim)
 |_=>true
noncomputable def bq(w:W)(m:Mem):Res Bool:=match view w m with
 |some t=>if K9 t then .ok (xP t) m else .stuck
 |none=>.stuck
noncomputable def lr(w:W)(m:Mem):Res Bool:=match w with
 |.t (.bl b)=>.ok b m
 |_=>.stuck
noncomputable def ja(w:W)(m:Mem):Res (List T):=match w with
 |.t (.lst ts)=>.ok ts m
 |_=>.stuck
noncomputable def Fj(n:Nat)(nm:Option Nat)(x:Exc):Env:=match nm with
 |some i=>(RE n Zy).set i (Zz (.x x.cls x.nms x.Hw))
 |none=>RE n Zy
noncomputable def K8(nm:Option Nat)(env:Env):Env:=match nm with
 |some i=>env.set i Zy
 |none=>env
noncomputable def GB(w:W)(m:Mem):Res W:=match w with
 |.t x=>.ok (.t x) m
 |.c _=>.stuck
 |.x _ _ _=>.stuck
 |.e _=>.stuck
noncomputable def Ir(ws:List W)(m:Mem):Res W:=match ws with
 |[.c i]=>.ok (.e i) m
 |_=>.stuck
section
variable(call:Nat->List W->Mem->Res W) (gv:List T)
mutual
noncomputable def ev:E->Env->Mem->Res W
 |.var i,env,m=>match env[i]? with
  |some (Zz w)=>.ok w m
  |_=>.stuck
 |.gl k,_,m=>eC gv[k]? m
 |.con t,_,m=>.ok (.t t) m
 |.bin op a b,env,m=>(ev a env m).bind λx m=>(ev b env m).bind λy m=>eC ((view x m).bind λx=>(view y m).bind λy=>uD op x y) m
 |.neg a,env,m=>(ev a env m).bind λx m=>eC ((view x m).bind λx=>match x with
  |.int i=>Zz (.int (-i))
  |_=>Zy) m
 |.not a,env,m=>(ev a env m).bind λx m=>(lr x m).bind λk m=>.ok (.t (.bl (!k))) m
 |.and a b,env,m=>(ev a env m).bind λx m=>(lr x m).bind λk m=>if k then ev b env m else .ok (.t (.bl false)) m
 |.or a b,env,m=>(ev a env m).bind λx m=>(lr x m).bind λk m=>if k then .ok (.t (.bl true)) m else ev b env m
 |.cmp op a b,env,m=>(ev a env m).bind λx m=>(ev b env m).bind λy m=>eC (((view x m).bind λx=>(view y m).bind λy=>j9 op x y).map .bl) m
 |.GQ op op' a b c,env,m=>(ev a env m).bind λx m=>(ev b env m).bind λy m =>
   match(view x m).bind λx=>(view y m).bind λy=>j9 op x y with
   |some true=>(ev c env m).bind λz m=>eC (((view y m).bind λy=>(view z m).bind λz=>j9 op' y z).map .bl) m
   |some false=>.ok (.t (.bl false)) m
   |none=>.stuck
 |.tup es,env,m=>(evs es env m).bind λws m=>(db ws m).bind λts m=>if ts.length<=lim then .ok (.t (.tup ts)) m else .stuck
 |.lst es,env,m=>(evs es env m).bind λws m=>(db ws m).bind λts m=>if ts.length<=lim then .ok (.t (.lst ts)) m else .stuck
 |.rI es,env,m=>(evs es env m).bind λws m=>(db ws m).bind λts m=>if ts.length<=lim then .ok (.c m.length) (m++[Zz (.l false ts)])else .stuck
 |.ix a b,env,m=>(ev a env m).bind λx m=>(ev b env m).bind λy m=>eC ((view x m).bind λx=>(view y m).bind λy=>G2 x y) m
 |.GZ a lo hi,env,m=>(ev a env m).bind λx m=>(if jc lo then Res.ok Zy m else(ev lo env m).bind rM).bind λl m =>
   (if jc hi then Res.ok Zy m else(ev hi env m).bind rM).bind λh m=>eC ((view x m).bind λx=>IQ x l h) m
 |.hole,_,m=>.ok (.t .non) m
 |.call f es,env,m=>(evs es env m).bind λws m=>call f ws m
 |.blt b es,env,m=>(evs es env m).bind λws m=>eC ((views ws m).bind λts=>iR b ts) m
 |.vo b o es,env,m=>(ev o env m).bind λx m=>if GU b x m then(evs es env m).bind λws m=>xy b x ws m else .stuck
 |.rO a ty,env,m=>(ev a env m).bind λx m=>eC ((view x m).map λx=>.bl (JR x ty)) m
 |.comp own keep it tg cs inner,env,m=>(ev it env m).only.bind λx m0=>(aL x m0).bind λts m =>
   (bC (λenv m=>(tests cs env m).bind λk m=>if k then(ev inner env m).bind ja else .ok [] m) tg ts (RE own Zy++keep.map λi=>(env[i]?).join) m).only.bind λout m =>
    if out.length<=lim then .ok (.t (.lst out)) (giveBack x m0 m)else .stuck
 |.more it tg cs inner,env,m=>(ev it env m).bind λx m0=>(aL x m0).bind λts m =>
   (bC (λenv m=>(tests cs env m).bind λk m=>if k then(ev inner env m).bind ja else .ok [] m) tg ts env m).bind λout m=>.ok (.t (.lst out)) (giveBack x m0 m)
 |.emit a,env,m=>(ev a env m).bind λx m=>(w4 x m).bind λt m=>.ok (.t (.lst [t])) m
 |.ji a b,env,m=>(ev a env m).bind λx m=>(ev b env m).bind λy m=>match x with
  |.t t=>if(uH t).isSome then(w4 y m).bind λu m=>.ok (.t (.lst [t,u])) m else .stuck
  |_=>.stuck
 |.tr a,env,m=>(ev a env m).bind GB
 |.qP keep a b,env,m=>(ev a env m).bind λx m=>match view x m with
  |some (.lst ts)=>(fP (λenv m=>ev b env m) (keep.map λi=>(env[i]?).join) ts m).only.bind λks m=>eC (jf ks ts) m
  |_=>.stuck
 |.fld C a nm,env,m=>(ev a env m).bind λx m=>match(kb C x m).bind λp=>p.2.lookup nm with
  |some w=>.ok w m
  |none=>.stuck
 |.aZ C a nm f es,env,m=>(ev a env m).bind λx m=>match(kb C x m).map λp=>(p.2.lookup nm).isSome with
  |some false=>(evs es env m).bind λws m=>call f (x::ws) m
  |_=>.stuck
 |.make C f ks es,env,m=>(evs es env m).bind λws m=>(call f (.c (m.length+1)::ws) (m++[Zy,Zy])).bind λ_ m'=>IP C ks ws m.length m'
 |.enc es,env,m=>(evs es env m).bind Ir
noncomputable def evs:Es->Env->Mem->Res (List W)
 |.nil,_,m=>.ok [] m
 |.cons e es,env,m=>(ev e env m).bind λw m=>(evs es env m).bind λws m=>.ok (w::ws) m
noncomputable def tests:Es->Env->Mem->Res Bool
 |.nil,_,m=>.ok true m
 |.cons e es,env,m=>(ev e env m).bind λx m=>(bq x m).bind λk m=>if k then tests es env m else .ok false m
end
noncomputable def ex:S->Env->Mem->Res Flow
 |.done,env,m=>.ok (.next env) m
 |.asg i e k,env,m=>(ev call gv e env m).bind λw m=>ex k (env.set i (Zz w)) m
 |.Bj is e k,env,m=>(ev call gv e env m).bind λw m=>match w with
  |.t t=>match bz (.tp is) t env with
   |some env=>ex k env m
   |none=>.stuck
  |.c _=>.stuck
  |.x _ _ _=>.stuck
  |.e _=>.stuck
 |.BL is e k,env,m=>(ev call gv e env m).bind λw m=>match w with
  |.t (.lst ts)=>match bz (.tp is) (.tup ts) env with
   |some env=>ex k env m
   |none=>.stuck
  |_=>.stuck
 |.set o i v k,env,m=>(ev call gv v env m).bind λz m=>(ev call gv o env m).bind λx m=>(ev call gv i env m).bind λy m =>
   (setM x y z m).bind λ_ m=>ex k env m
 |.GR C o nm v k,env,m=>(ev call gv v env m).bind λw m=>(ev call gv o env m).bind λx m=>match kb C x m with
  |some (i,fs)=>match w with
   |.t t=>if fs.length<1000 then ex k env (m.set i (Zz (.o C (j8 nm (.t t) fs))))else .stuck
   |_=>.stuck
  |none=>.stuck
 |.aug i op e k,env,m=>match env[i]? with
  |some (Zz x)=>(ev call gv e env m).bind λy m=>(eC ((view x m).bind λx=>(view y m).bind λy=>Fk op x y) m).bind λz m=>ex k (env.set i (Zz z)) m
  |_=>.stuck
 |.dv c a b k,env,m=>(ev call gv c env m).bind λx m=>(bq x m).bind λt m =>
   (if t then ex a env m else ex b env m).bind λfl m=>match fl with
    |.next env=>ex k env m
    |fl=>.ok fl m
 |.lP tg it body k,env,m=>(ev call gv it env m).bind λx m0=>(aL x m0).bind λts m =>
   (iW (λenv m=>ex body env m) tg ts env m).bind λfl m=>match fl with
    |.next env=>ex k env (giveBack x m0 m)
    |.ret w=>.ok (.ret w) (giveBack x m0 m)
    |_=>.stuck
 |.ye c body k,env,m=>(jm (λenv m=>(ev call gv c env m).bind bq) (λenv m=>ex body env m) turns env m).bind λfl m=>match fl with
    |.next env=>ex k env m
    |fl=>.ok fl m
 |.ret e _,env,m=>(ev call gv e env m).bind λw m=>.ok (.ret w) m
 |.DO _,_,m=>.ok (.ret (.t .non)) m
 |.expr e k,env,m=>(ev call gv e env m).bind λ_ m=>ex k env m
 |.pL,_,_=>.stuck
 |.Ku c nms es _,env,m=>(evs call gv es env m).bind λws m=>(db ws m).bind λts m=>if nms=[]then(if ts.length<=1000 then .exc ⟨c,[],[]⟩ m else .stuck)else if ts.length=nms.length then .exc ⟨c,nms,ts⟩ m else .stuck
 |.tri b yes nm h k,env,m=>match ex b env m with
  |.ok fl m=>match fl with
   |.next env=>ex k env m
   |fl=>.ok fl m
  |.exc x m=>if x.cls∈yes then(ex h (Fj env.length nm x) m).only.bind λfl m=>match fl with
    |.next env=>ex k (K8 nm env) m
    |.ret w=>.ok (.ret w) m
    |_=>.stuck
   else .stuck
  |.stuck=>.stuck
end
section
variable{call:Nat->List W->Mem->Res W}{gv:List T}
theorem tX{i env m}:ev call gv (.var i) env m=(match env[i]? with
 |some (Zz w)=>.ok w m
 |_=>.stuck):=rfl
theorem GV{k env m}:ev call gv (.gl k) env m=eC gv[k]? m:=rfl
theorem nH{t env m}:ev call gv (.con t) env m=.ok (.t t) m:=rfl
theorem Cs{op a b env m}:ev call gv (.bin op a b) env m=(ev call gv a env m).bind λx m=>(ev call gv b env m).bind λy m=>eC ((view x m).bind λx=>(view y m).bind λy=>uD op x y) m:=rfl
theorem Cb{a env m}:ev call gv (.neg a) env m=((ev call gv a env m).bind λx m=>eC ((view x m).bind λx=>match x with
 |.int i=>Zz (.int (-i))
 |_=>Zy) m):=rfl
theorem xR{a env m}:ev call gv (.not a) env m=(ev call gv a env m).bind λx m=>(lr x m).bind λk m=>.ok (.t (.bl (!k))) m:=rfl
theorem xO{a b env m}:ev call gv (.and a b) env m=(ev call gv a env m).bind λx m=>(lr x m).bind λk m=>if k then ev call gv b env m else .ok (.t (.bl false)) m:=rfl
theorem Ex{a b env m}:ev call gv (.or a b) env m=(ev call gv a env m).bind λx m=>(lr x m).bind λk m=>if k then .ok (.t (.bl true)) m else ev call gv b env m:=rfl
theorem xG{op a b env m}:ev call gv (.cmp op a b) env m=(ev call gv a env m).bind λx m=>(ev call gv b env m).bind λy m=>eC (((view x m).bind λx=>(view y m).bind λy=>j9 op x y).map .bl) m:=rfl
theorem DQ{op op' a b c env m}:ev call gv (.GQ op op' a b c) env m=((ev call gv a env m).bind λx m=>(ev call gv b env m).bind λy m =>
 match(view x m).bind λx=>(view y m).bind λy=>j9 op x y with
 |some true=>(ev call gv c env m).bind λz m=>eC (((view y m).bind λy=>(view z m).bind λz=>j9 op' y z).map .bl) m
 |some false=>.ok (.t (.bl false)) m
 |none=>.stuck):=rfl
theorem CL{es env m}:ev call gv (.tup es) env m=(evs call gv es env m).bind λws m=>(db ws m).bind λts m=>if ts.length<=lim then .ok (.t (.tup ts)) m else .stuck:=rfl
theorem BV{es env m}:ev call gv (.lst es) env m=(evs call gv es env m).bind λws m=>(db ws m).bind λts m=>if ts.length<=lim then .ok (.t (.lst ts)) m else .stuck:=rfl
theorem xJ{es env m}:ev call gv (.rI es) env m=(evs call gv es env m).bind λws m=>(db ws m).bind λts m=>if ts.length<=lim then .ok (.c m.length) (m++[Zz (.l false ts)])else .stuck:=rfl
theorem GJ{a b env m}:ev call gv (.ix a b) env m=(ev call gv a env m).bind λx m=>(ev call gv b env m).bind λy m=>eC ((view x m).bind λx=>(view y m).bind λy=>G2 x y) m:=rfl
theorem w3{a lo hi env m}:ev call gv (.GZ a lo hi) env m=((ev call gv a env m).bind λx m=>(if jc lo then Res.ok Zy m else(ev call gv lo env m).bind rM).bind λl m =>
 (if jc hi then Res.ok Zy m else(ev call gv hi env m).bind rM).bind λh m=>eC ((view x m).bind λx=>IQ x l h) m):=rfl
theorem zF{f es env m}:ev call gv (.call f es) env m=(evs call gv es env m).bind λws m=>call f ws m:=rfl
theorem fA{b es env m}:ev call gv (.blt b es) env m=(evs call gv es env m).bind λws m=>eC ((views ws m).bind λts=>iR b ts) m:=rfl
theorem uI{b o es env m}:ev call gv (.vo b o es) env m=(ev call gv o env m).bind λx m=>if GU b x m then(evs call gv es env m).bind λws m=>xy b x ws m else .stuck:=rfl
theorem Eh{a ty env m}:ev call gv (.rO a ty) env m=(ev call gv a env m).bind λx m=>eC ((view x m).map λx=>.bl (JR x ty)) m:=rfl
theorem pU{own keep it tg cs inner env m}:ev call gv (.comp own keep it tg cs inner) env m=((ev call gv it env m).only.bind λx m0=>(aL x m0).bind λts m =>
 (bC (λenv m=>(tests call gv cs env m).bind λk m=>if k then(ev call gv inner env m).bind ja else .ok [] m) tg ts (RE own Zy++keep.map λi=>(env[i]?).join) m).only.bind λout m =>
  if out.length<=lim then .ok (.t (.lst out)) (giveBack x m0 m)else .stuck):=rfl
theorem zu{it tg cs inner env m}:ev call gv (.more it tg cs inner) env m=((ev call gv it env m).bind λx m0=>(aL x m0).bind λts m =>
 (bC (λenv m=>(tests call gv cs env m).bind λk m=>if k then(ev call gv inner env m).bind ja else .ok [] m) tg ts env m).bind λout m=>.ok (.t (.lst out)) (giveBack x m0 m)):=rfl
theorem va{a env m}:ev call gv (.emit a) env m=(ev call gv a env m).bind λx m=>(w4 x m).bind λt m=>.ok (.t (.lst [t])) m:=rfl
theorem vp{a b env m}:ev call gv (.ji a b) env m=((ev call gv a env m).bind λx m=>(ev call gv b env m).bind λy m=>match x with
 |.t t=>if(uH t).isSome then(w4 y m).bind λu m=>.ok (.t (.lst [t,u])) m else .stuck
 |_=>.stuck):=rfl
theorem C8{a env m}:ev call gv (.tr a) env m=(ev call gv a env m).bind GB:=rfl
theorem v7{keep a b env m}:ev call gv (.qP keep a b) env m=((ev call gv a env m).bind λx m=>match view x m with
 |some (.lst ts)=>(fP (λenv m=>ev call gv b env m) (keep.map λi=>(env[i]?).join) ts m).only.bind λks m=>eC (jf ks ts) m
 |_=>.stuck):=rfl
theorem B4{C a nm env m}:ev call gv (.fld C a nm) env m=((ev call gv a env m).bind λx m=>match(kb C x m).bind λp=>p.2.lookup nm with
 |some w=>.ok w m
 |none=>.stuck):=rfl
theorem lW{C a nm f es env m}:ev call gv (.aZ C a nm f es) env m=((ev call gv a env m).bind λx m=>match(kb C x m).map λp=>(p.2.lookup nm).isSome with
 |some false=>(evs call gv es env m).bind λws m=>call f (x::ws) m
 |_=>.stuck):=rfl
theorem zM{C f ks es env m}:ev call gv (.make C f ks es) env m=(evs call gv es env m).bind λws m=>(call f (.c (m.length+1)::ws) (m++[Zy,Zy])).bind λ_ m'=>IP C ks ws m.length m':=rfl
theorem D5{es env m}:ev call gv (.enc es) env m=(evs call gv es env m).bind Ir:=rfl
theorem mI{env m}:evs call gv (.nil) env m=.ok [] m:=rfl
theorem jb{e es env m}:evs call gv (.cons e es) env m=(ev call gv e env m).bind λw m=>(evs call gv es env m).bind λws m=>.ok (w::ws) m:=rfl
theorem nI{env m}:tests call gv (.nil) env m=.ok true m:=rfl
theorem qm{e es env m}:tests call gv (.cons e es) env m=(ev call gv e env m).bind λx m=>(bq x m).bind λk m=>if k then tests call gv es env m else .ok false m:=rfl
theorem mr{env m}:ex call gv (.done) env m=.ok (.next env) m:=rfl
theorem uj{i e k env m}:ex call gv (.asg i e k) env m=(ev call gv e env m).bind λw m=>ex call gv k (env.set i (Zz w)) m:=rfl
theorem zf{is e k env m}:ex call gv (.Bj is e k) env m=((ev call gv e env m).bind λw m=>match w with
 |.t t=>match bz (.tp is) t env with
  |some env=>ex call gv k env m
  |none=>.stuck
 |.c _=>.stuck
 |.x _ _ _=>.stuck
 |.e _=>.stuck):=rfl
theorem zG{is e k env m}:ex call gv (.BL is e k) env m=((ev call gv e env m).bind λw m=>match w with
 |.t (.lst ts)=>match bz (.tp is) (.tup ts) env with
  |some env=>ex call gv k env m
  |none=>.stuck
 |_=>.stuck):=rfl
theorem yn{o i v k env m}:ex call gv (.set o i v k) env m=((ev call gv v env m).bind λz m=>(ev call gv o env m).bind λx m=>(ev call gv i env m).bind λy m =>
 (setM x y z m).bind λ_ m=>ex call gv k env m):=rfl
theorem Cr{C o nm v k env m}:ex call gv (.GR C o nm v k) env m=((ev call gv v env m).bind λw m=>(ev call gv o env m).bind λx m=>match kb C x m with
 |some (i,fs)=>match w with
  |.t t=>if fs.length<1000 then ex call gv k env (m.set i (Zz (.o C (j8 nm (.t t) fs))))else .stuck
  |_=>.stuck
 |none=>.stuck):=rfl
theorem Cg{i op e k env m}:ex call gv (.aug i op e k) env m=(match env[i]? with
 |some (Zz x)=>(ev call gv e env m).bind λy m=>(eC ((view x m).bind λx=>(view y m).bind λy=>Fk op x y) m).bind λz m=>ex call gv k (env.set i (Zz z)) m
 |_=>.stuck):=rfl
theorem qW{c a b k env m}:ex call gv (.dv c a b k) env m=((ev call gv c env m).bind λx m=>(bq x m).bind λt m =>
 (if t then ex call gv a env m else ex call gv b env m).bind λfl m=>match fl with
  |.next env=>ex call gv k env m
  |fl=>.ok fl m):=rfl
theorem y9{tg it body k env m}:ex call gv (.lP tg it body k) env m=((ev call gv it env m).bind λx m0=>(aL x m0).bind λts m =>
 (iW (λenv m=>ex call gv body env m) tg ts env m).bind λfl m=>match fl with
  |.next env=>ex call gv k env (giveBack x m0 m)
  |.ret w=>.ok (.ret w) (giveBack x m0 m)
  |_=>.stuck):=rfl
theorem yZ{c body k env m}:ex call gv (.ye c body k) env m=((jm (λenv m=>(ev call gv c env m).bind bq) (λenv m=>ex call gv body env m) turns env m).bind λfl m=>match fl with
 |.next env=>ex call gv k env m
 |fl=>.ok fl m):=rfl
theorem B6{e z0 env m}:ex call gv (.ret e z0) env m=(ev call gv e env m).bind λw m=>.ok (.ret w) m:=rfl
theorem Ac{z0 env m}:ex call gv (.DO z0) env m=.ok (.ret (.t .non)) m:=rfl
theorem pO{e k env m}:ex call gv (.expr e k) env m=(ev call gv e env m).bind λ_ m=>ex call gv k env m:=rfl
theorem Eb{env m}:ex call gv (.pL) env m=.stuck:=rfl
theorem G9{c nms es z0 env m}:ex call gv (.Ku c nms es z0) env m=(evs call gv es env m).bind λws m=>(db ws m).bind λts m=>if nms=[]then(if ts.length<=1000 then .exc ⟨c,[],[]⟩ m else .stuck)else if ts.length=nms.length then .exc ⟨c,nms,ts⟩ m else .stuck:=rfl
theorem Ck{b yes nm h k env m}:ex call gv (.tri b yes nm h k) env m=(match ex call gv b env m with
 |.ok fl m=>match fl with
  |.next env=>ex call gv k env m
  |fl=>.ok fl m
 |.exc x m=>if x.cls∈yes then(ex call gv h (Fj env.length nm x) m).only.bind λfl m=>match fl with
   |.next env=>ex call gv k (K8 nm env) m
   |.ret w=>.ok (.ret w) m
   |_=>.stuck
  else .stuck
 |.stuck=>.stuck):=rfl
end
structure Fn where
 ps:Nat
 n:Nat
 body:S
 cell:Bool:=false
noncomputable def fin(n:Nat)(cell:Bool)(fl:Flow)(m:Mem):Res W:=match fl with
 |.ret (.t t)=>.ok (.t t) (m.take n)
 |.ret (.c i)=>if i<n then .ok (.c i) (m.take n)else match m[i]? with
  |some (Zz (.l false ts))=>if cell then .ok (.c n) (m.take n++[Zz (.l false ts)])else .ok (.t (.lst ts)) (m.take n)
  |_=>.stuck
 |.next _=>.ok (.t .non) (m.take n)
 |_=>.stuck
noncomputable def az(fns:List Fn)(gv:List T):Nat->Nat->List W->Mem->Res W
 |0,_,_,_=>.stuck
 |n+1,f,ws,m=>match fns[f]? with
  |none=>.stuck
  |some d=>if ws.length=d.ps then(ex (az fns gv n) gv d.body (ws.map Zz++RE (d.n-d.ps) Zy) m).bind λfl m'=>fin m.length d.cell fl m' else .stuck
end Mi
end
namespace Mi
open PySem PySem.Spec PyProof.Rows
def oy(k:String)(h:Rm)(a:RB)(x:Array R3):Prop:=∃o n,h.get? a=Zz o/\o.cls=.type k/\o.data=.seq x n/\o.dict=Zy/\x.size<=Rq
def d8(fs:List RB)(h:Rm)(a:RB)(x:Array R3):Prop:=(∃n,h.get? a=Zz { cls:=.type "list",data:=.seq x n })/\a∉fs/\x.size<=Rq
def ai(cm:List RB)(m:Mem)(a:RB):Prop:=∀(i:Nat) p,m[i]?=Zz (Zz p)->cm[i]?≠Zz a
def Al{α β:Type}(R:α->β->Prop)(l:List α)(x:List β):Prop:=l.length=x.length/\∀(i:Nat) t v,l[i]?=Zz t->x[i]?=Zz v->R t v
structure Dm where
 P:Ry
 w:SS
 fs:List RB
def Je(D:Dm)(h:Rm)(a:RB)(k:List (L2.Key×R3)):Prop:=k.length<=Rq/\(a==sysModules)=false/\h.DictOf (L2.fc D.P D.w) a k/\a∉D.fs
inductive RT (D:Dm) (cm:List RB) (m:Mem) (h:Rm):T->R3->Prop where
 |non:RT D cm m h .non .none
 |bl (b:Bool):RT D cm m h (.bl b) (.bool b)
 |int (i:Int) (t:Tok):RT D cm m h (.int i) (.int i t)
 |str (x:List Nat) (t:Tok):RT D cm m h (.str x) (.str ⟨x.toArray⟩ t)
 |tup {a:RB}{x:Array R3}{l:List T}:oy "tuple" h a x->a∉D.fs->l.length=x.toList.length->(∀(i:Nat) t v,l[i]?=Zz t->x.toList[i]?=Zz v->RT D cm m h t v)->RT D cm m h (.tup l) (.ref a)
 |lst {a:RB}{x:Array R3}{l:List T}:d8 D.fs h a x->ai cm m a->l.length=x.toList.length->(∀(i:Nat) t v,l[i]?=Zz t->x.toList[i]?=Zz v->RT D cm m h t v)->RT D cm m h (.lst l) (.ref a)
 |dct {a:RB}{k:List L2.Key}{x:List R3}{l:List T}:Je D h a (k.zip x)->ai cm m a->k.length=x.length->l.length=x.length->(∀(i:Nat) t v,l[i]?=Zz t->x[i]?=Zz v->RT D cm m h t v)->RT D cm m h (.dct k l) (.ref a)
 |fH {a:RB}{x:Array R3}(l:List Int):oy "list" h a x->ai cm m a->a∉D.fs->Al (λn v=>∃t,v=.int n t) l x.toList->RT D cm m h (.fH l) (.ref a)
noncomputable abbrev fG(D:Dm)(cm:List RB)(m:Mem)(h:Rm):=Al (RT D cm m h)
def XF(D:Dm)(cm:List RB)(m:Mem)(h:Rm)(k:List Str)(l:List T):Option RB->Prop
 |none=>k=[]/\l=[]
 |some d=>∃vs f,(d∉D.fs/\ai cm m d)/\h.Ns1 d f/\(∀y,(k.zip vs).lookup y=f y)/\k.length=vs.length/\fG D cm m h l vs
def XP(h:Rm)(e C:RB)(dx:Option RB):Prop:=∃o vs u,h.get? e=Zz o/\o.cls=.ref C/\o.dict=dx/\o.data=.fields vs/\vs[1]?=Zz u/\(u=.none∨∃T p ts,u=.ref T/\T≠e/\h.get? T=Zz p/\p.cls=.type "traceback"/\p.data=.fields ts/\ts[3]?=Zz .none)
def RW(D:Dm)(cm:List RB)(m:Mem)(h:Rm):W->R3->Prop
 |.t x,v=>RT D cm m h x v
 |.c i,v=>∃a,cm[i]?=Zz a/\v=.ref a
 |.e _,_=>False
 |.x C k l,v=>∃e dx,v=.ref e/\XP h e C dx/\XF D cm m h k l dx
structure er (h:Rm) (x dx C:RB) (mA:Str->Option R3):Prop where
 obj:h.get? x=Zz (Vu C dx)
 ns:h.Ns1 dx mA
 ne:dx≠x
theorem Bp{h:Rm}{dx:RB}{mA:Str->Option R3}(n:h.Ns1 dx mA):∃od,h.get? dx=Zz od/\∀name,lookIn name od=Zz (mA name):=by
 obtain⟨o,es,ep,ho,hd,hk,_,hm⟩:=n;refine⟨o,ho,λname=>?_⟩;have e:=hm name;unfold nsFind findBy at e;rw[<-Array.find?_toList]at e;unfold lookIn;rw[hd];dsimp only;split
 ·rename_i y q
  rw[q]at e;exact congrArg Zz e
 ·rename_i q
  rw[q]at e;have a:es.toList.any (·.refKey)=false:=by
   rw[List.any_eq_false];intro y hy;obtain⟨z,t,hkey⟩:=hk y (Array.mem_toList_iff.mp hy);simp[DictEntry.refKey,hkey]
  have a':¬es.toList.any (·.refKey)=true:=by rw[a];exact RK
  rw[Yo a'];exact congrArg Zz e
theorem er.look{h:Rm}{x dx C:RB}{mA:Str->Option R3}(I:er h x dx C mA):∃od,PySem.W.InstAt h x (Vu C dx) C (Zz od)/\∀name,lookIn name od=Zz (mA name):=
 let⟨od,ho,hl⟩:=Bp I.ns
 ⟨od,⟨I.obj,rfl,rfl,ho⟩,hl⟩
def sX(D:Dm)(cm:List RB)(m:Mem)(h:Rm)(i:Nat)(a:RB):Cl->Prop
 |.l _ l=>∃x,d8 D.fs h a x/\fG D cm m h l x.toList
 |.d=>∃f,h.Ns1 a f
 |.o C F=>∃j d g,i=j+1/\m[j]?=Zz (Zz .d)/\cm[j]?=Zz d/\er h a d C g/\UW g (F.map (·.1))/\F.length<=1000/\(∀y w,F.lookup y=Zz w->∃u,g y=Zz u/\RW D cm m h w u/\D0 w=true)/\∀y,F.lookup y=Zy->g y=Zy
def Lv(w:W):Cl->Prop
 |.l _ _=>∃t,w=.t t
 |.d=>False
 |.o _ F=>D0 w=true/\∃y,F.lookup y=Zz w
noncomputable abbrev sr(D:Dm)(cm:List RB)(m:Mem)(h:Rm):=Al (RW D cm m h)
structure Mod (K:To) (mg:Str->Option R3) (base:Rm):Prop where
 gO:K.In base
 glob:base.Ns RU mg
 blt:∃f,base.Ns VF f/\∀x:Str,x≠"__name__"->f x=UE x
 nolimit:base.NoLimit
 bm:∃b o,mg "__builtins__" = Zz (.ref b)/\b≠VF/\base.get? b=Zz o/\o.cls=.type "module"/\o.dict=Zz VF/\o.data=.plain
structure Bs where
 prog:Ry
 w:SS
 K:To
 mg:Str->Option R3
 base:Rm
 tb:List RB
 Tab:Rm->Prop
structure Cx extends Bs where
 A:SF
 N:List Str
 env:SZ
 stack:List SZ
 fs:List RB
 fn:Str->Bool
 calm:Bool
noncomputable def frs(l:List SZ):List RB:=l.filterMap (·.frame)
noncomputable abbrev Cx.gs(X:Cx):List RB:=frs X.stack
noncomputable abbrev Cx.D(X:Cx):Dm:=⟨X.prog,X.w,X.fs⟩
noncomputable abbrev Cx.M(X:Cx):YI:=Rp X.prog X.w
structure av (X:Cx) (cm:List RB) (m:Mem) (h:Rm):Prop where
 len:cm.length=m.length
 inj:∀(i j:Nat) a p q,m[i]?=Zz (Zz p)->m[j]?=Zz (Zz q)->cm[i]?=Zz a->cm[j]?=Zz a->i=j
 at':∀(i:Nat) p,m[i]?=Zz (Zz p)->∃a,cm[i]?=Zz a/\(a∉X.fs/\X.base.get? a=Zy)/\sX X.D cm m h i a p
 tab:X.Tab h
structure ExtK (fs gs ch:List RB) (cm:List RB) (m:Mem) (s:RA) (cm':List RB) (m':Mem) (s':RA):Prop where
 os:s'.os=s.os
 bare:XU s.gens->XU s'.gens
 pre:∀(i:Nat) a,cm[i]?=Zz a->cm'[i]?=Zz a
 len:m.length<=m'.length
 keep:∀b o,s.heap.get? b=Zz o->b∉ch->ai cm m b->ai cm' m' b/\∃o',s'.heap.get? b=Zz o'/\(o'=o∨b∈fs/\(∀x n,o.data≠.seq x n)/\b∈gs/\∃sl,o'={ o with slots:=sl })
def uE(m m':Mem):Prop:=∀(i:Nat) C F,i<m.length->m'[i]?=Zz (Zz (.o C F))->∃F0,m[i]?=Zz (Zz (.o C F0))/\∀y j,F.lookup y=Zz (.c j)->∃z,F0.lookup z=Zz (.c j)
theorem uE.r{m:Mem}:uE m m:=λ_ _ F _ h=>⟨F,h,λy _ h=>⟨y,h⟩⟩
theorem uE.t{m m' m'':Mem}(l:m.length<=m'.length)(a:uE m m')(b:uE m' m''):uE m m'':=λi C F h e=>by
 obtain⟨F1,e1,f1⟩:=b i C F (SO h l) e;obtain⟨F0,e0,f0⟩:=a i C F1 h e1;exact⟨F0,e0,λy j h=>(f1 y j h).elim λz h=>f0 z j h⟩
theorem uE.app{m m':Mem}(r:Mem)(l:m.length<=m'.length)(a:uE m m'):uE m (m'++r):=λi C F h e=>a i C F h (by rw[RQ (by omega)]at e;exact e)
theorem uE.take{m m':Mem}(a:uE m m'):uE m (m'.take m.length):=λi C F h e=>a i C F h (by rw[Tw,Yn h]at e;exact e)
theorem uE.set{m:Mem}{i:Nat}{q:Option Cl}(n:∀C F,q=Zz (.o C F)->∃F0,m[i]?=Zz (Zz (.o C F0))/\∀y j,F.lookup y=Zz (.c j)->∃z,F0.lookup z=Zz (.c j)):uE m (m.set i q):=λj C F h e=>by
 by_cases hj:j=i
 ·subst hj;rw[Ri h]at e;cases e;exact n C F rfl
 ·rw[Rc (Su hj)]at e;exact uE.r j C F h e
def Kd(o o':Obj):Prop:=((∀v,o.data≠.fields v)->∀v,o'.data≠.fields v)/\((∀x n,o.data≠.seq x n)->∀x n,o'.data≠.seq x n)
def Kc(o:Obj):Prop:=∃v x t,o.data=.fields v/\v[1]?=Zz (.str x t)
theorem Kc.f{o:Obj}:Kc o->∃v,o.data=.fields v:=λ⟨v,_,_,d,_⟩=>⟨v,d⟩
theorem Kd.r{o:Obj}:Kd o o:=⟨id,id⟩
structure aH (fs gs ch:List RB) (cm:List RB) (m:Mem) (s:RA) (cm':List RB) (m':Mem) (s':RA):Prop extends ExtK fs gs ch cm m s cm' m' s' where
 lent:∀(i:Nat) l,m[i]?=Zz (Zz (.l true l))->m'[i]?=Zz (Zz (.l true l))
 thr:∀b o,s.heap.get? b=Zz o->∃o',s'.heap.get? b=Zz o'/\Kd o o'
 ob:uE m m'
noncomputable instance {fs gs ch cm cm':List RB}{m m':Mem}{s s':RA}:CoeOut (aH fs gs ch cm m s cm' m' s') (ExtK fs gs ch cm m s cm' m' s'):=⟨aH.toExtK⟩
inductive Ig (fs:List RB) (b:RB) (o:Obj):Prop where
 |seq (x n) (_:o.data=.seq x n) (_:b∉fs)
 |dict (x n) (_:o.data=.dict x n) (_:b∉fs)
 |ref (C v) (_:o.cls=.ref C) (_:o.data=.fields v)
 |trace (v) (_:o.cls=.type "traceback") (_:o.data=.fields v)
 |plain (_:o.data=.plain)
def Nq(fs ch:List RB)(h:Rm):Prop:=∀b∈ch,∀o,h.get? b=Zz o->¬Ig fs b o
def Nr(fs ch:List RB)(h:Rm):Prop:=∀b∈ch,∀o,h.get? b=Zz o->Ig fs b o->∃v,o.data=.fields v
theorem Nq.r{fs ch:List RB}{h:Rm}(N:Nq fs ch h):Nr fs ch h:=λb z o e f=>Ys f (N b z o e)
def Nc(base:Rm)(ch:List RB)(h:Rm):Prop:=∀b∈ch,base.get? b=Zy/\∀o,h.get? b=Zz o->(∃vs,o.data=.fields vs)/\(∀C,o.cls≠.ref C)/\o.cls≠.type "traceback"
section
variable{X:Cx}{D:Dm}{fs gs ch:List RB}{cm cm' cm'':List RB}{m m' m'':Mem}{s s' s'':RA}{h h':Rm}{a b e:RB}{o:Obj}{i:Nat}
theorem Al.cons{α β:Type}{R:α->β->Prop}{t:α}{v:β}{l:List α}{x:List β}(r:R t v)(q:Al R l x):Al R (t::l) (v::x):=⟨congrArg (·+1) q.1,λi u w a b=>by
 cases i with
 |zero=>cases a;cases b;exact r
 |succ i=>exact q.2 i u w a b⟩
theorem Al.nil{α β:Type}{R:α->β->Prop}:Al R [] []:=⟨rfl,λ_ _ _ a=>by simp at a⟩
theorem Al.inv{α β:Type}{R:α->β->Prop}{t:α}{l:List α}{x:List β}(q:Al R (t::l) x):∃v y,x=v::y/\R t v/\Al R l y:=by
 cases x with
 |nil=>cases q.1
 |cons v y=>exact⟨v,y,rfl,q.2 0 _ _ rfl rfl,Xp q.1,λi a b c d=>q.2 (i+1) a b c d⟩
theorem Al.mp{α β:Type}{R S:α->β->Prop}{l:List α}{x:List β}(q:Al R l x)(f:∀a b,R a b->S a b):Al S l x:=⟨q.1,λi a b c d=>f _ _ (q.2 i a b c d)⟩
theorem Al.get{α β:Type}{R:α->β->Prop}{l:List α}{x:List β}{i:Nat}{t:α}(q:Al R l x)(h:l[i]?=Zz t):∃v,x[i]?=Zz v/\R t v:=by
 have k:=(R8.mp h).1;have e:x[i]?=Zz (x[i]'(q.1▸k)):=RC _;exact⟨_,e,q.2 i _ _ h e⟩
theorem av.li{l:List T}{b:Bool}(M:av X cm m h)(e:m[i]?=Zz (Zz (.l b l))):∃a x,cm[i]?=Zz a/\d8 X.fs h a x/\X.base.get? a=Zy/\fG X.D cm m h l x.toList:=by
 obtain⟨a,h1,⟨_,h2⟩,x,h3,h4⟩:=M.at' i _ e;exact⟨a,x,h1,h3,h2,h4⟩
theorem av.live{p:Cl}(M:av X cm m h)(e:m[i]?=Zz (Zz p))(c:cm[i]?=Zz a):a∉X.fs/\X.base.get? a=Zy/\∃o,h.get? a=Zz o/\((o.cls=.type "list"/\∃x n,o.data=.seq x n)∨(∃x n,o.data=.dict x n)∨o.data=.plain):=by
 obtain⟨b,h1,⟨h2,h3⟩,h4⟩:=M.at' i p e;rw[h1]at c;cases c;refine⟨h2,h3,?_⟩;cases p with
 |l _ l=>obtain⟨x,⟨⟨n,e⟩,_⟩,_⟩:=h4;exact⟨_,e,.inl ⟨rfl,_,_,rfl⟩⟩
 |d=>obtain⟨f,o,es,ep,e,d,_⟩:=h4;exact⟨o,e,.inr (.inl ⟨_,_,d⟩)⟩
 |o C F=>obtain⟨j,d,g,_,_,_,I,_⟩:=h4;exact⟨_,I.obj,.inr (.inr rfl)⟩
theorem y8(M:av X cm m h)(e:h.get? a=Zz o)(n:o.cls≠.type "list")(k:∀x n,o.data≠.dict x n)(p:o.data≠.plain):ai cm m a:=λi c q z=>by
 obtain⟨_,_,o',e',h⟩:=M.live q z;rw[e]at e';cases e';rcases h with⟨h,_⟩|⟨_,_,h⟩|h
 ·exact n h
 ·exact k _ _ h
 ·exact p h
theorem Cq(M:av X cm m h)(e:h.get? a=Zz o)(n:∀x n,o.data≠.seq x n)(k:∀x n,o.data≠.dict x n)(p:o.data≠.plain):ai cm m a:=λi c q z=>by
 obtain⟨_,_,o',e',h⟩:=M.live q z;rw[e]at e';cases e';rcases h with⟨_,_,_,h⟩|⟨_,_,h⟩|h
 ·exact n _ _ h
 ·exact k _ _ h
 ·exact p h
theorem uR(M:av X cm m h){v:Array R3}(e:h.get? a=Zz o)(d:o.data=.fields v):ai cm m a:=Cq M e (λ_ _ z=>by rw[d]at z;cases z) (λ_ _ z=>by rw[d]at z;cases z) λz=>by rw[d]at z;cases z
theorem EA(M:av X cm m h)(f:a∈X.fs):ai cm m a:=λi p q z=>(M.live q z).1 f
theorem KL(M:av X cm m h)(f:h.get? a=Zy):ai cm m a:=λi p q z=>by
 obtain⟨_,_,o,e,_⟩:=M.live q z;rw[f]at e;cases e
theorem ExtK.sq(x:ExtK fs gs ch cm m s cm' m' s')(e:s.heap.get? a=Zz o)(hc:a∉ch)(n:ai cm m a):ai cm' m' a/\∃o',s'.heap.get? a=Zz o'/\o'.cls=o.cls/\o'.data=o.data/\o'.dict=o.dict:=by
 obtain⟨n',o',e',q⟩:=x.keep a o e hc n;refine⟨n',o',e',?_⟩;rcases q with rfl|⟨_,_,_,sl,rfl⟩<;>exact⟨rfl,rfl,rfl⟩
theorem Nc.q{base:Rm}(N:Nc base ch h):Nq fs ch h:=λb z o e f=>by
 obtain⟨⟨v,d⟩,c,t⟩:=(N b z).2 o e;cases f with
 |seq x n q _=>rw[d]at q;cases q
 |dict x n q=>rw[d]at q;cases q
 |ref C _ q=>exact c C q
 |trace _ q=>exact t q
 |plain q=>rw[d]at q;cases q
theorem Nq.nil:Nq fs [] h:=λ_ z=>nomatch z
theorem Nq.no(N:Nq fs ch h)(e:h.get? a=Zz o)(d:Ig fs a o):a∉ch:=λz=>N a z o e d
theorem Nr.no(N:Nr fs ch h)(e:h.get? a=Zz o)(d:Ig fs a o)(n:∀v,o.data≠.fields v):a∉ch:=λz=>(N a z o e d).elim n
theorem oy.Bz{k:String}{y:Array R3}(x:ExtK fs gs ch cm m s cm' m' s')(N:Nr fs ch s.heap)(p:oy k s.heap a y)(n:ai cm m a)(f:a∉fs):oy k s'.heap a y/\ai cm' m' a:=by
 obtain⟨o,q,e,c,d,r,z⟩:=p;obtain⟨n',o',e',c',d',r'⟩:=x.sq e (N.no e (.seq _ _ d f) λv z=>(by rw[d]at z;cases z)) n;exact⟨⟨o',q,e',c'.trans c,d'.trans d,r'.trans r,z⟩,n'⟩
theorem oy.go{k:String}{y:Array R3}(x:ExtK fs gs ch cm m s cm' m' s')(N:Nq fs ch s.heap)(p:oy k s.heap a y)(n:ai cm m a)(f:a∉fs):oy k s'.heap a y/\ai cm' m' a:=p.Bz x N.r n f
theorem d8.Bz{y:Array R3}(x:ExtK fs gs ch cm m s cm' m' s')(N:Nr fs ch s.heap)(p:d8 fs s.heap a y)(n:ai cm m a):d8 fs s'.heap a y/\ai cm' m' a:=by
 obtain⟨⟨q,e⟩,f,z⟩:=p;obtain⟨n',o',e',r⟩:=x.keep _ _ e (N.no e (.seq _ _ rfl f) λv z=>(by cases z)) n;rcases r with rfl|⟨g,_⟩
 ·exact⟨⟨⟨q,e'⟩,f,z⟩,n'⟩
 ·exact Ys g f
theorem d8.go{y:Array R3}(x:ExtK fs gs ch cm m s cm' m' s')(N:Nq fs ch s.heap)(p:d8 fs s.heap a y)(n:ai cm m a):d8 fs s'.heap a y/\ai cm' m' a:=p.Bz x N.r n
theorem oy.nl{y:Array R3}(M:av X cm m h)(p:oy "tuple" h a y):ai cm m a:=let⟨_,_,e,c,d,_⟩:=p;y8 M e (by rw[c];decide) (λ_ _ z=>by rw[d]at z;cases z) λz=>by rw[d]at z;cases z
theorem RT.Bz(x:ExtK D.fs X.gs ch cm m s cm' m' s')(M:av X cm m s.heap)(N:Nr D.fs ch s.heap){t:T}{v:R3}(r:RT D cm m s.heap t v):RT D cm' m' s'.heap t v:=by
 induction r with
 |non=>exact .non
 |bl b=>exact .bl b
 |int i t=>exact .int i t
 |str i t=>exact .str i t
 |tup p f l _ ih=>exact .tup (p.Bz x N (p.nl M) f).1 f l ih
 |lst p n l _ ih=>exact .lst (p.Bz x N n).1 (p.Bz x N n).2 l ih
 |fH ns p n f l=>exact .fH ns (p.Bz x N n f).1 (p.Bz x N n f).2 f l
 |dct p n l1 l2 _ ih =>
  obtain⟨z,y,⟨o,es,ep,e,c,d,q⟩,f⟩:=p;obtain⟨n',o',e',r⟩:=x.keep _ o e (N.no e (.dict _ _ d f) λv z=>(by rw[d]at z;cases z)) n;rcases r with rfl|⟨g,_⟩
  ·exact .dct ⟨z,y,⟨_,es,ep,e',c,d,q⟩,f⟩ n' l1 l2 ih
  ·exact Ys g f
theorem RT.go(x:ExtK D.fs X.gs ch cm m s cm' m' s')(M:av X cm m s.heap)(N:Nq D.fs ch s.heap){t:T}{v:R3}(r:RT D cm m s.heap t v):RT D cm' m' s'.heap t v:=r.Bz x M N.r
theorem aH.of(t:∀b o,s.heap.get? b=Zz o->∃o',s'.heap.get? b=Zz o'/\Kd o o')(l:∀(i:Nat) l,m[i]?=Zz (Zz (.l true l))->m'[i]?=Zz (Zz (.l true l)))(ob:uE m m')(k:ExtK fs gs ch cm m s cm' m' s'):aH fs gs ch cm m s cm' m' s':=⟨k,l,t,ob⟩
theorem aH.refl:aH fs gs ch cm m s cm m s:=.of (λ_ o e=>⟨o,e,.r⟩) (λ_ _ h=>h) .r ⟨rfl,id,λ_ _ h=>h,RO _,λ_ o e _ n=>⟨n,o,e,.inl rfl⟩⟩
theorem ExtK.trans(x:ExtK fs gs ch cm m s cm' m' s')(y:ExtK fs gs ch cm' m' s' cm'' m'' s''):ExtK fs gs ch cm m s cm'' m'' s'':=
 ⟨y.os.trans x.os,λh=>y.bare (x.bare h),λi a h=>y.pre i a (x.pre i a h),Rg x.len y.len,λb o e c n=>by
  obtain⟨n1,o1,e1,q1⟩:=x.keep b o e c n;obtain⟨n2,o2,e2,q2⟩:=y.keep b o1 e1 c n1;refine⟨n2,o2,e2,?_⟩;rcases q1 with rfl|⟨hf,hn,hg,sl,rfl⟩
  ·exact q2
  ·rcases q2 with rfl|⟨_,_,_,sl',rfl⟩
   ·exact .inr ⟨hf,hn,hg,sl,rfl⟩
   ·exact .inr ⟨hf,hn,hg,sl',rfl⟩⟩
theorem aH.trans(x:aH fs gs ch cm m s cm' m' s')(y:aH fs gs ch cm' m' s' cm'' m'' s''):aH fs gs ch cm m s cm'' m'' s'':=.of (λb o e=>(x.thr b o e).elim λo' ⟨e,k⟩=>(y.thr b o' e).elim λo2 ⟨e,q⟩=>⟨o2,e,q.1 ∘ k.1,q.2 ∘ k.2⟩) (λi l h=>y.lent i l (x.lent i l h)) (x.ob.t x.len y.ob) (x.toExtK.trans y.toExtK)
theorem aH.weak{ch':List RB}(x:aH fs gs ch cm m s cm' m' s')(w:∀b∈ch,b∉ch'->s.heap.get? b=Zy):aH fs gs ch' cm m s cm' m' s':=
 .of x.thr x.lent x.ob ⟨x.os,x.bare,x.pre,x.len,λb o e c n=>x.keep b o e (λz=>by rw[w b z c]at e;cases e) n⟩
theorem aH.heap{g:Rm}{t:Nat}{d:Ym}(k:∀b o,b∉ch->s.heap.get? b=Zz o->g.get? b=Zz o)(q:∀b∈ch,∀o,s.heap.get? b=Zz o->∃o',g.get? b=Zz o'/\Kd o o'):aH fs gs ch cm m s cm m { s with heap:=g,toks:=t,drawn:=d }:=
 .of (λb o e=>(Classical.em (b∈ch)).elim (λz=>q b z o e) λz=>⟨o,k b o z e,.r⟩) (λ_ _ h=>h) .r ⟨rfl,id,λ_ _ h=>h,RO _,λb o e c n=>⟨n,o,k b o c e,.inl rfl⟩⟩
theorem aH.kept{g:Rm}{t:Nat}{d:Ym}(k:∀b o,s.heap.get? b=Zz o->g.get? b=Zz o):aH fs gs ch cm m s cm m { s with heap:=g,toks:=t,drawn:=d }:=.heap (λb o _=>k b o) λb _ o e=>⟨o,k b o e,.r⟩
theorem XP.go{C:RB}{dx:Option RB}(x:ExtK D.fs X.gs ch cm m s cm' m' s')(M:av X cm m s.heap)(N:Nq D.fs ch s.heap)(p:XP s.heap a C dx):XP s'.heap a C dx:=by
 obtain⟨o,vs,u,e,c,d,f,g,r⟩:=p;obtain⟨_,o',e',c',f',d'⟩:=x.sq e (N.no e (.ref _ _ c f)) (uR M e f);refine⟨o',vs,u,e',c'.trans c,d'.trans d,f'.trans f,g,r.imp id ?_⟩;rintro ⟨T,p,ts,t1,t2,t3,t4,t5,t6⟩;obtain⟨_,p',e',c',f',_⟩:=x.sq t3 (N.no t3 (.trace _ t4 t5)) (uR M t3 t5);exact⟨T,p',ts,t1,t2,e',c'.trans t4,f'.trans t5,t6⟩
theorem XF.go{k:List Str}{l:List T}{dx:Option RB}(x:ExtK D.fs X.gs ch cm m s cm' m' s')(M:av X cm m s.heap)(N:Nq D.fs ch s.heap)(p:XF D cm m s.heap k l dx):XF D cm' m' s'.heap k l dx:=by
 cases dx with
 |none=>exact p
 |some d =>
  obtain⟨vs,f,⟨h1,h2⟩,⟨o,es,ep,e,c,r⟩,h3,h4,h5⟩:=p;obtain⟨nl,o',e',q⟩:=x.keep d o e (N.no e (.dict _ _ c h1)) h2;rcases q with rfl|⟨q,_⟩
  ·exact⟨vs,f,⟨h1,nl⟩,⟨_,es,ep,e',c,r⟩,h3,h4,h5.mp λ_ _ r=>r.go x M N⟩
  ·exact Ys q h1
theorem RW.go{w:W}{v:R3}(x:ExtK D.fs X.gs ch cm m s cm' m' s')(M:av X cm m s.heap)(N:Nq D.fs ch s.heap)(r:RW D cm m s.heap w v):RW D cm' m' s'.heap w v:=by
 cases w with
 |t t=>exact RT.go x M N r
 |c i=>obtain⟨a,h1,h2⟩:=r;exact⟨a,x.pre i a h1,h2⟩
 |e _=>exact r.elim
 |x C k l=>obtain⟨e,dx,h1,h2,h3⟩:=r;exact⟨e,dx,h1,h2.go x M N,h3.go x M N⟩
theorem sX.to{D':Dm}{p:Cl}{k:Nat}(hk:∀o,h.get? a=Zz o->h'.get? a=Zz o)(hd:∀j d,i=j+1->m[j]?=Zz (Zz .d)->cm[j]?=Zz d->∃j',k=j'+1/\m'[j']?=Zz (Zz .d)/\cm'[j']?=Zz d/\∀o,h.get? d=Zz o->h'.get? d=Zz o)(hf:a∉D.fs->a∉D'.fs)(r:∀w u,Lv w p->RW D cm m h w u->RW D' cm' m' h' w u)(P:sX D cm m h i a p):sX D' cm' m' h' k a p:=by
 cases p with
 |l b l =>
  obtain⟨x,⟨⟨n,e⟩,f,z⟩,q⟩:=P;exact⟨x,⟨⟨n,hk _ e⟩,hf f,z⟩,q.mp λt v z=>r (.t t) v ⟨t,rfl⟩ z⟩
 |d=>obtain⟨f,o,es,ep,e,q⟩:=P;exact⟨f,o,es,ep,hk _ e,q⟩
 |o C F =>
  obtain⟨j,d,g,e1,e2,e3,⟨b1,⟨o,es,ep,b2,b3⟩,b4⟩,e4,e5,e6,e7⟩:=P;obtain⟨j',k1,k2,k3,k4⟩:=hd j d e1 e2 e3;exact⟨j',d,g,k1,k2,k3,⟨hk _ b1,⟨o,es,ep,k4 _ b2,b3⟩,b4⟩,e4,e5,λy w z=>(e6 y w z).imp λu q=>⟨q.1,r w u ⟨q.2.2,y,z⟩ q.2.1,q.2.2⟩,e7⟩
theorem av.fix{p:Cl}(M:av X cm m h)(e:m[i]?=Zz (Zz p))(c:cm[i]?=Zz a)(z:h.get? a=Zz o):Ig X.fs a o:=by
 obtain⟨f,_,o',e',q⟩:=M.live e c;rw[z]at e';cases e';rcases q with⟨_,_,_,q⟩|⟨_,_,q⟩|q
 ·exact .seq _ _ q f
 ·exact .dict _ _ q f
 ·exact .plain q
theorem av.go(M:av X cm m s.heap)(N:Nq X.fs ch s.heap)(x:ExtK X.fs X.gs ch cm m s cm m s')(k:∀b o,b∉ch->s.heap.get? b=Zz o->s'.heap.get? b=Zz o)(q:X.Tab s'.heap):av X cm m s'.heap:=⟨M.len,M.inj,λi p e=>by
 have kk:∀{j p a o},m[j]?=Zz (Zz p)->cm[j]?=Zz a->s.heap.get? a=Zz o->s'.heap.get? a=Zz o:=λe c z=>k _ _ (N.no z (M.fix e c z)) z
 obtain⟨a,h1,h2,h3⟩:=M.at' i p e;exact⟨a,h1,h2,h3.to (λo z=>kk e h1 z) (λj d h e c=>⟨j,h,e,c,λo z=>kk e c z⟩) id λ_ _ _ r=>r.go x M N⟩,q⟩
theorem av.Jz{q:Option Cl}{bb:Bool}{l:List T}(M:av X cm m s.heap)(hp:m[i]?=Zz (Zz (.l bb l)))(ha:cm[i]?=Zz a)(ho:∀b o,b≠a->s.heap.get? b=Zz o->s'.heap.get? b=Zz o)(os:s'.os=s.os)(gs:s'.gens=s.gens)(hq:∀z,q=Zz z->∃b l y,z=.l b l/\d8 X.fs s'.heap a y/\fG X.D cm m s.heap l y.toList)(ht:X.Tab s'.heap):ExtK X.fs X.gs ch cm m s cm (m.set i q) s'/\av X cm (m.set i q) s'.heap:=by
 have hi:=(R8.mp hp).1;have live:∀{j:Nat}{r:Cl},(m.set i q)[j]?=Zz (Zz r)->∃r',m[j]?=Zz (Zz r'):=λ{j r} e=>by
  by_cases hj:j=i
  ·exact⟨_,hj▸hp⟩
  ·rw[Rc (Su hj)]at e;exact⟨r,e⟩
 have ex:∀ch,ExtK X.fs X.gs ch cm m s cm (m.set i q) s':=λch=>⟨os,λh=>by rw[gs];exact h,λ_ _ h=>h,by simp,λb o e _ n=>⟨λj r e'=>(live e').elim λr' z=>n j r' z,o,ho b o (λz=>n i _ hp (z▸ha)) e,.inl rfl⟩⟩
 have nc:Nq X.fs [] s.heap:=Nq.nil;refine⟨ex ch,by rw[SI];exact M.len,λj k b r t e1 e2=>?_,λj r e=>?_,ht⟩
 ·obtain⟨r',e1⟩:=live e1
  obtain⟨t',e2⟩:=live e2;exact M.inj j k b r' t' e1 e2
 ·by_cases hj:j=i
  ·subst hj
   rw[Ri hi]at e;cases e;obtain⟨b,l',y,rfl,h1,h2⟩:=hq r rfl;obtain⟨_,h3,_⟩:=M.live hp ha;exact⟨a,ha,⟨h1.2.1,h3⟩,y,h1,h2.mp λ_ _ z=>z.go (ex []) M nc⟩
  ·rw[Rc (Su hj)]at e
   obtain⟨b,h1,h2,h3⟩:=M.at' j r e;refine⟨b,h1,h2,h3.to (ho b · (λz=>hj (M.inj j i a r _ e hp (z▸h1) ha))) (λk d h e c=>⟨k,h,?_,c,(ho d · λz=>?_)⟩) id λ_ _ _ z=>z.go (ex []) M nc⟩
   ·rw[Rc λz=>by rw[z,e]at hp;cases hp];exact e
   ·have:=M.inj k i a _ _ e hp (z▸c) ha
    rw[this,hp]at e;cases e
theorem av.upd{q:Option Cl}{bb:Bool}{l:List T}(M:av X cm m s.heap)(hp:m[i]?=Zz (Zz (.l bb l)))(ha:cm[i]?=Zz a)(ho:∀b o,b≠a->s.heap.get? b=Zz o->s'.heap.get? b=Zz o)(os:s'.os=s.os)(gs:s'.gens=s.gens)(hq:∀z,q=Zz z->∃b l y,z=.l b l/\d8 X.fs s'.heap a y/\fG X.D cm m s.heap l y.toList)(he:q=Zy->s'.heap=s.heap)(ht:X.Tab s'.heap)(hl:bb=true->q=Zz (.l true l)):aH X.fs X.gs ch cm m s cm (m.set i q) s'/\av X cm (m.set i q) s'.heap:=by
 obtain⟨x,M'⟩:=M.Jz (ch:=ch) hp ha ho os gs hq ht;refine⟨.of (λb o e=>?_) (λj l' e=>?_) (.set λC F z=>?_) x,M'⟩
 rotate_right
 ·obtain⟨_,_,_,z,_⟩:=hq _ z;cases z
 ·by_cases hb:b=a
  ·subst hb
   cases q with
   |none=>rw[he rfl];exact⟨o,e,.r⟩
   |some r =>
    obtain⟨_,_,y,_,⟨⟨_,z⟩,_⟩,_⟩:=hq r rfl;obtain⟨c,_,h1,⟨⟨_,h2⟩,_⟩,_⟩:=M.li hp;rw[ha]at h1;cases h1;rw[e]at h2;cases h2;exact⟨_,z,(λ_ v z=>nomatch z),λn=>Ys rfl (n _ _)⟩
  ·exact⟨o,ho b o hb e,.r⟩
 ·by_cases hj:j=i
  ·subst hj;rw[hp]at e;cases e
   rw[hl rfl];exact Ri (R8.mp hp).1
  ·rw[Rc (Su hj)];exact e
theorem aH.fld{C:Nat}{F:List (Str×W)}{y:Str}{j:Nat}(x:aH fs gs ch cm m s cm' m' s')(M:av X cm m s.heap)(h:i<m.length)(e:m'[i]?=Zz (Zz (.o C F)))(z:F.lookup y=Zz (.c j)):j<m.length:=by
 obtain⟨F0,e0,f⟩:=x.ob i C F h e;obtain⟨y0,z0⟩:=f y j z;obtain⟨a,_,_,_,_,_,_,_,_,_,_,_,q,_⟩:=M.at' i _ e0;obtain⟨_,_,⟨a,r,_⟩,_⟩:=q y0 _ z0;rw[<-M.len];exact(R8.mp r).1
theorem av.Jk{ms:Mem}{as:List RB}(M:av X cm m s.heap)(k:∀b o,s.heap.get? b=Zz o->s'.heap.get? b=Zz o)(os:s'.os=s.os)(gs:s'.gens=s.gens)(hl:as.length=ms.length)(n:∀a∈as,s.heap.get? a=Zy)(nd:as.Nodup)(ht:X.Tab s'.heap)(hc:aH X.fs X.gs [] cm m s (cm++as) (m++ms) s'->∀(i:Nat) p a,ms[i]?=Zz (Zz p)->as[i]?=Zz a->(a∉X.fs/\X.base.get? a=Zy)/\sX X.D (cm++as) (m++ms) s'.heap (m.length+i) a p):
  aH X.fs X.gs ch cm m s (cm++as) (m++ms) s'/\av X (cm++as) (m++ms) s'.heap:=by
 have ml:=M.len;have ca:∀{i a},cm[i]?=Zz a->(cm++as)[i]?=Zz a:=λe=>by rw[RQ (R8.mp e).1];exact e
 have ma:∀{i:Nat}{a},m[i]?=Zz a->(m++ms)[i]?=Zz a:=λe=>by rw[RQ (R8.mp e).1];exact e
 have old:∀{j:Nat}{q:Cl},(m++ms)[j]?=Zz (Zz q)->(m[j]?=Zz (Zz q)/\(cm++as)[j]?=cm[j]?)∨∃i,j=m.length+i/\ms[i]?=Zz (Zz q)/\(cm++as)[j]?=as[i]?:=λ{j q} e=>by
  by_cases h:j<m.length
  ·rw[RQ h]at e
   exact .inl ⟨e,RQ (by omega)⟩
  ·rw[RV (by omega)]at e
   exact .inr ⟨j-m.length,by omega,e,by rw[RV (by omega),ml]⟩
 have nl:∀{j:Nat}{q a},m[j]?=Zz (Zz q)->cm[j]?=Zz a->a∉as:=λe c z=>by
  obtain⟨_,_,o,e',_⟩:=M.live e c;rw[n _ z]at e';cases e'
 have ex:∀ch,aH X.fs X.gs ch cm m s (cm++as) (m++ms) s':=λch=>by
  refine .of (λb o e=>⟨o,k b o e,.r⟩) (λi q e=>ma e) (uE.r.app _ (RO _)) ⟨os,λh=>by rw[gs];exact h,λi b e=>ca e,by simp,λb o e _ h=>⟨λj q z=>?_,o,k b o e,.inl rfl⟩⟩;rcases old z with⟨z,c⟩|⟨i,_,z,c⟩
  ·rw[c];exact h j q z
  ·rw[c];intro z;rw[n b (Rj z)]at e;cases e
 have nc:Nq X.fs [] s.heap:=Nq.nil;refine⟨ex ch,by simp[ml,hl],λi j b q t e1 e2 c1 c2=>?_,λi q e=>?_,ht⟩
 ·rcases old e1 with⟨e1,c⟩|⟨i',rfl,e1,c⟩<;>rcases old e2 with⟨e2,d⟩|⟨j',rfl,e2,d⟩
  ·exact M.inj i j b q t e1 e2 (c▸c1) (d▸c2)
  ·exact Ys (Rj (d▸c2)) (nl e1 (c▸c1))
  ·exact Ys (Rj (c▸c1)) (nl e2 (d▸c2))
  ·rw[c]at c1;rw[d]at c2
   obtain⟨h1,g1⟩:=R8.mp c1;obtain⟨h2,g2⟩:=R8.mp c2;rw[(V0 nd).mp (g1.trans g2.symm)]
 ·rcases old e with⟨e,c⟩|⟨i',rfl,e,c⟩
  ·obtain⟨b,h1,h2,h3⟩:=M.at' i q e
   exact⟨b,c.trans h1,h2,h3.to (k b) (λj d h e c=>⟨j,h,ma e,ca c,k d⟩) id λ_ _ _ z=>z.go (ex []).toExtK M nc⟩
  ·have h:=(R8.mp e).1
   have ea:as[i']?=Zz (as[i']'(by omega)):=RC _;obtain⟨h1,h2⟩:=hc (ex []) i' q _ e ea;exact⟨_,c.trans ea,h1,h2⟩
theorem av.new{l:List T}{y:Array R3}(M:av X cm m s.heap)(k:∀b o,s.heap.get? b=Zz o->s'.heap.get? b=Zz o)(os:s'.os=s.os)(gs:s'.gens=s.gens)(n:s.heap.get? a=Zy)(nb:X.base.get? a=Zy)(p:d8 X.fs s'.heap a y)(r:fG X.D cm m s.heap l y.toList)(ht:X.Tab s'.heap):
  aH X.fs X.gs ch cm m s (cm++[a]) (m++[Zz (.l false l)]) s'/\av X (cm++[a]) (m++[Zz (.l false l)]) s'.heap/\(cm++[a])[m.length]?=Zz a:=by
 have ml:=M.len;have z:=M.Jk (ch:=ch) (ms:=[Zz (.l false l)]) (as:=[a]) k os gs rfl (λb h=>by rw[RH.mp h];exact n) (by simp) ht λx i p' b e1 e2=>by
  cases i with
  |succ i=>simp at e1
  |zero =>
   cases e1;cases e2;exact⟨⟨p.2.1,nb⟩,y,p,r.mp λ_ _ z=>z.go x.toExtK M Nq.nil⟩
 exact⟨z.1,z.2,by rw[<-ml];simp⟩
end
def Ks(c:UR)(x:Str):Prop:=c.names.lookup x=Zz .local∨c.names.lookup x=Zz .cell∨c.names.lookup x=Zz .free
def Loc(X:Cx)(x:Str):Prop:=X.env.scope.names.lookup x=Zz .local∨(X.env.scope.names.lookup x=Zz .cell/\X.fn x=true)
def Look(e:SZ)(h:Rm)(f:Str->Option R3)(x:Str)(u:R3):Prop:=
 (e.kindOf x=Zz .local/\f x=Zz u)∨((e.kindOf x=Zz .cell∨e.kindOf x=Zz .free)/\∃c,e.cells.lookup x=Zz c/\h.IsCell c (Zz u))
structure Cx.Ok (X:Cx):Prop where
 mod:Mod X.K X.mg X.base
 kind:X.env.scope.kind=.function
 glob:X.env.globals=RU
 blt:X.env.builtins=VF
 inj:∀x y c,X.env.cells.lookup x=Zz c->X.env.cells.lookup y=Zz c->x=y
 has:∀x,(X.env.kindOf x=Zz .cell∨X.env.kindOf x=Zz .free)->∃c,X.env.cells.lookup x=Zz c
 hd:X.calm=true->X.A.handled=Zy
 frames:X.A.frames=Zz X.stack
 pL:∀e∈X.stack,e.scope.kind≠.module/\∃L∈X.fs,e.frame=Zz L
 fr:X.env.locals∈X.fs
 cb:∀x c,X.env.cells.lookup x=Zz c->X.base.get? c=Zy
 tab:∀h,X.Tab h->Nc X.base X.tb h
 iz:∀h h',X.Tab h->(∀b o,b∈X.tb∨Kc o->h.get? b=Zz o->h'.get? b=Zz o)->X.Tab h'
 rW:∀h,X.Tab h->∀b∈X.tb,∃o,h.get? b=Zz o
def NF(X:Cx)(b:RB)(o:Obj):Prop:=(∀v,o.data≠.fields v)/\(b∈frs X.stack->∀x n,o.data≠.seq x n)
structure Fr (X:Cx) (env:Mi.Env) (cm:List RB) (m:Mem) (s:RA):Prop where
 ok:X.Ok
 mem:av X cm m s.heap
 bare:XU s.gens
 bs:∀b o,X.base.get? b=Zz o->s.heap.get? b=Zz o
 loc:∃f,s.heap.Ns X.env.locals f/\∀(i:Nat) x w,X.N[i]?=Zz x->env[i]?=Zz (Zz w)->Ks X.env.scope x->∃u,RW X.D cm m s.heap w u/\Look X.env s.heap f x u
 cell:∀x c,X.env.cells.lookup x=Zz c->∃v,s.heap.IsCell c v
 bF:∀b∈X.fs,X.base.get? b=Zy/\∃o,s.heap.get? b=Zz o/\NF X b o
 len:env.length=X.N.length
noncomputable def Cx.oc(X:Cx):List RB:=(X.env.cells.map (·.1)).filterMap λx=>if X.fn x then X.env.cells.lookup x else Zy
noncomputable abbrev Cx.own(X:Cx):List RB:=X.env.locals::(X.tb++X.oc)
theorem kW{X:Cx}{b:RB}:b∈X.oc↔∃x,X.fn x=true/\X.env.cells.lookup x=Zz b:=by
 unfold Cx.oc;rw[Ta];refine⟨λ⟨x,_,h⟩=>?_,λ⟨x,h1,h2⟩=>⟨x,RX.mpr ⟨_,Sf h2,rfl⟩,by rw[Yn h1];exact h2⟩⟩;obtain⟨h1,h2⟩:=RI.mp h;exact⟨x,h1,h2⟩
section
variable{X Y:Cx}{P:Ry}{w:SS}{f f' gs:List RB}{cm:List RB}{m:Mem}{h h':Rm}{t:T}{v:R3}{u:W}{l:List T}{y:List R3}{a:RB}
theorem d8.fr{x:Array R3}(n:∀b∈f',b∈f∨h.get? b=Zy)(k:∀b o,h.get? b=Zz o->h'.get? b=Zz o)(p:d8 f h a x):d8 f' h' a x:=by
 obtain⟨⟨c,e⟩,q,z⟩:=p;exact⟨⟨c,k _ _ e⟩,λb=>(n a b).elim q λb=>(by rw[b]at e;cases e),z⟩
theorem oy.fr{x:Array R3}{c:String}(k:∀b o,h.get? b=Zz o->h'.get? b=Zz o)(p:oy c h a x):oy c h' a x:=let⟨o,n,e,r⟩:=p;⟨o,n,k _ _ e,r⟩
theorem RT.gen{cm':List RB}{m':Mem}(nl:∀a,ai cm m a->ai cm' m' a)(n:∀b∈f',b∈f∨h.get? b=Zy)(k:∀b o,h.get? b=Zz o->h'.get? b=Zz o)(r:RT ⟨P,w,f⟩ cm m h t v):RT ⟨P,w,f'⟩ cm' m' h' t v:=by
 induction r with
 |non=>exact .non
 |bl b=>exact .bl b
 |int i t=>exact .int i t
 |str i t=>exact .str i t
 |tup p f l _ ih=>exact .tup (p.fr k) (λb=>(n _ b).elim f λb=>(let⟨_,_,e,_⟩:=p;by rw[b]at e;cases e)) l ih
 |lst p c l _ ih=>exact .lst (p.fr n k) (nl _ c) l ih
 |fH ns p c f l=>exact .fH ns (p.fr k) (nl _ c) (λb=>(n _ b).elim f λb=>(let⟨_,_,e,_⟩:=p;by rw[b]at e;cases e)) l
 |dct p c l1 l2 _ ih =>
  obtain⟨z,y,⟨o,es,ep,e,r⟩,q⟩:=p;exact .dct ⟨z,y,⟨o,es,ep,k _ _ e,r⟩,λb=>(n _ b).elim q λb=>(by rw[b]at e;cases e)⟩ (nl _ c) l1 l2 ih
theorem RT.fr(n:∀b∈f',b∈f∨h.get? b=Zy)(k:∀b o,h.get? b=Zz o->h'.get? b=Zz o)(r:RT ⟨P,w,f⟩ cm m h t v):RT ⟨P,w,f'⟩ cm m h' t v:=r.gen (λ_ h=>h) n k
theorem XP.fr{C:RB}{dx:Option RB}(k:∀b o,h.get? b=Zz o->h'.get? b=Zz o)(p:XP h a C dx):XP h' a C dx:=by
 obtain⟨o,vs,u,e,c,d,q,g,r⟩:=p;exact⟨o,vs,u,k _ _ e,c,d,q,g,r.imp id λ⟨T,p,ts,a,b,c,d⟩=>⟨T,p,ts,a,b,k _ _ c,d⟩⟩
theorem XF.fr{ks:List Str}{dx:Option RB}(n:∀b∈f',b∈f∨h.get? b=Zy)(k:∀b o,h.get? b=Zz o->h'.get? b=Zz o)(p:XF ⟨P,w,f⟩ cm m h ks l dx):XF ⟨P,w,f'⟩ cm m h' ks l dx:=by
 cases dx with
 |none=>exact p
 |some d =>
  obtain⟨vs,g,⟨h1,h2⟩,⟨o,es,ep,e,r⟩,h3,h4,h5⟩:=p;exact⟨vs,g,⟨λb=>(n _ b).elim h1 λb=>(by rw[b]at e;cases e),h2⟩,⟨o,es,ep,k _ _ e,r⟩,h3,h4,h5.mp λ_ _ r=>r.fr n k⟩
theorem RW.fr(n:∀b∈f',b∈f∨h.get? b=Zy)(k:∀b o,h.get? b=Zz o->h'.get? b=Zz o)(r:RW ⟨P,w,f⟩ cm m h u v):RW ⟨P,w,f'⟩ cm m h' u v:=by
 cases u with
 |t t=>exact RT.fr n k r
 |c i=>exact r
 |e _=>exact r.elim
 |x C ks l=>obtain⟨e,dx,h1,h2,h3⟩:=r;exact⟨e,dx,h1,h2.fr k,h3.fr n k⟩
theorem av.fr(T:Y.toBs=X.toBs)(n:∀b∈Y.fs,b∈X.fs∨h.get? b=Zy)(k:∀b o,h.get? b=Zz o->h'.get? b=Zz o)(q:X.Tab h->X.Tab h')(M:av X cm m h):av Y cm m h':=by
 obtain⟨B,A,N,env,stack,fs,fn,calm⟩:=Y;cases T;exact⟨M.len,M.inj,λi p e=>by
  obtain⟨a,h1,h2,h3⟩:=M.at' i p e;obtain⟨_,_,o,e',_⟩:=M.live e h1;have q:a∉X.fs->a∉fs:=λf b=>(n a b).elim f λz=>by rw[z]at e';cases e'
  exact⟨a,h1,⟨q h2.1,h2.2⟩,h3.to (k a) (λj d h e c=>⟨j,h,e,c,k d⟩) q λ_ _ _ r=>r.fr n k⟩,q M.tab⟩
theorem aH.fr{fs fs' gs' ch:List RB}{cm':List RB}{m':Mem}{s s':RA}(n:∀b∈fs',b∈fs∨s.heap.get? b=Zy)(x:aH fs' gs' ch cm m s cm' m' s')(g:∀b∈gs',b∈gs∨s.heap.get? b=Zy:=by exact λ_ h=>.inl h):aH fs gs ch cm m s cm' m' s':=
 .of x.thr x.lent x.ob ⟨x.os,x.bare,x.pre,x.len,λb o e c nl=>by
  obtain⟨n',o',e',r⟩:=x.keep b o e c nl;exact⟨n',o',e',r.imp id λ⟨z,k,q,r⟩=>⟨(n b z).elim id λz=>(by rw[z]at e;cases e),k,(g b q).elim id λz=>(by rw[z]at e;cases e),r⟩⟩⟩
end
section
variable{h':Rm}{X:Cx}{D:Dm}{env:Mi.Env}{cm cm':List RB}{m m':Mem}{s s':RA}{w:W}{v:R3}{l:List T}{x:Array R3}{a:RB}{gs ch:List RB}{o:Obj}
theorem Fr.gO(I:Fr X env cm m s):X.K.In s.heap:=I.ok.mod.gO.keeps I.bs
theorem Fr.nc(I:Fr X env cm m s):Nc X.base X.tb s.heap:=I.ok.tab _ I.mem.tab
theorem sr.go{l:List W}{y:List R3}(x:ExtK D.fs X.gs ch cm m s cm' m' s')(M:av X cm m s.heap)(N:Nq D.fs ch s.heap)(r:sr D cm m s.heap l y):sr D cm' m' s'.heap l y:=r.mp λ_ _ r=>r.go x M N
theorem Fr.Li{f:List RB}{env2:Mi.Env}(I:Fr X env cm m s)(K:Cx.Ok { X with fs:=f })(nn:∀b∈f,b∈X.fs∨s.heap.get? b=Zy)(fu:∀b∈f,b∉X.fs->X.base.get? b=Zy/\∃o,s'.heap.get? b=Zz o/\NF X b o)(x:ExtK f X.gs ch cm m s cm' m' s')(M:av { X with fs:=f } cm' m' s'.heap)(N:∀b∈ch,X.base.get? b=Zy/\∀o,s.heap.get? b=Zz o->∃vs,o.data=.fields vs)(tr:∀(i:Nat) w2,env2[i]?=Zz (Zz w2)->∃w,env[i]?=Zz (Zz w)/\∀u,RW X.D cm m s.heap w u->RW (Cx.D { X with fs:=f }) cm' m' s'.heap w2 u)(hl2:env2.length=env.length):Fr { X with fs:=f } env2 cm' m' s':=by
 have nc:∀{b o},s.heap.get? b=Zz o->(∀v,o.data≠.fields v)->b∉ch:=λe n z=>((N _ z).2 _ e).elim λv d=>n v d
 have sq:∀{b o},s.heap.get? b=Zz o->(∀v,o.data≠.fields v)->ai cm m b->∃o',s'.heap.get? b=Zz o'/\o'.cls=o.cls/\o'.data=o.data/\o'.dict=o.dict:=λe n k=>(x.sq e (nc e n) k).2
 have cell:∀{c v},s.heap.IsCell c v->s'.heap.IsCell c v:=λ⟨o,e,d⟩=>by
  obtain⟨o',e',_,d',_⟩:=sq e (λv z=>by rw[d]at z;cases z) (Cq I.mem e (λx n z=>by rw[d]at z;cases z) (λx n z=>by rw[d]at z;cases z) λz=>by rw[d]at z;cases z);exact⟨o',e',d'.trans d⟩
 obtain⟨f,⟨o,es,ep,e,d,r⟩,hl⟩:=I.loc;obtain⟨o',e',_,d',_⟩:=sq e (λv z=>by rw[d]at z;cases z) (EA I.mem I.ok.fr);refine⟨K,M,x.bare I.bare,λb o q=>?_,⟨f,⟨o',es,ep,e',d'.trans d,r⟩,λi y w h1 h2 h3=>?_⟩,λy c h=>(I.cell y c h).elim λv z=>⟨v,cell z⟩,λb hb=>?_,hl2.trans I.len⟩
 ·have e:=I.bs b o q
  have nl:ai cm m b:=λi p h1 h2=>by
   rw[(I.mem.live h1 h2).2.1]at q;cases q
  obtain⟨_,o',e',z⟩:=x.keep b o e (λz=>by rw[(N b z).1]at q;cases q) nl;rcases z with rfl|⟨z,_⟩
  ·exact e'
  ·rcases nn _ z with z|z
   ·have:=(I.bF _ z).1;rw[q]at this;cases this
   ·rw[e]at z;cases z
 ·obtain⟨w',hw,tr⟩:=tr i w h2
  obtain⟨u,h4,h5⟩:=hl i y w' h1 hw h3;exact⟨u,tr u h4,h5.imp id λ⟨k,c,h6,h7⟩=>⟨k,c,h6,cell h7⟩⟩
 ·by_cases hf:b∈X.fs
  rotate_left
  ·exact fu b hb hf
  obtain⟨hb,o,e,n⟩:=I.bF _ hf;obtain⟨_,o',e',_,d',_⟩:=x.sq e (nc e n.1) (EA I.mem ‹_›);exact⟨hb,o',e',λv z=>n.1 v (d'.symm.trans z),λh x c z=>n.2 h x c (d'.symm.trans z)⟩
theorem Fr.KY{f:List RB}(I:Fr X env cm m s)(K:Cx.Ok { X with fs:=f })(nn:∀b∈f,b∈X.fs∨s.heap.get? b=Zy)(fu:∀b∈f,b∉X.fs->X.base.get? b=Zy/\∃o,s'.heap.get? b=Zz o/\NF X b o)(x:ExtK f X.gs ch cm m s cm' m' s')(M:av { X with fs:=f } cm' m' s'.heap)(N:Nc X.base ch s.heap):Fr { X with fs:=f } env cm' m' s':=
 I.Li K nn fu x M (λb h=>⟨(N b h).1,λo e=>((N b h).2 o e).1⟩) (λi w e=>⟨w,e,λu h=>(h.fr nn λ_ _ e=>e).go x I.mem N.q⟩) rfl
theorem Fr.go(I:Fr X env cm m s)(x:ExtK X.fs X.gs ch cm m s cm' m' s')(M:av X cm' m' s'.heap)(N:Nc X.base ch s.heap):Fr X env cm' m' s':=I.KY (f:=X.fs) I.ok (λ_ h=>.inl h) (λ_ h n=>Ys h n) x M N
theorem qI{N:List Str}(hN:N.Nodup){i j:Nat}{x:Str}(a:N[i]?=Zz x)(b:N[j]?=Zz x):i=j:=by
 obtain⟨h1,e1⟩:=R8.mp a;obtain⟨h2,e2⟩:=R8.mp b;exact(V0 hN).mp (e1.trans e2.symm)
theorem Fr.nq(I:Fr X env cm m s):Nq X.fs X.own s.heap:=λb hb o e f=>by
 have no:∀d,o.data=d->(∀x n,d≠.seq x n)->(b∈X.fs∨∀x n,d≠.dict x n)->(∀v,d≠.fields v)->d≠.plain->False:=λd h h1 h2 h3 h4=>by
  cases f with
  |seq x n q _=>exact h1 x n (h.symm.trans q)
  |dict x n q g=>exact h2.elim g λk=>k x n (h.symm.trans q)
  |ref _ v _ q=>exact h3 v (h.symm.trans q)
  |trace v _ q=>exact h3 v (h.symm.trans q)
  |plain q=>exact h4 (h.symm.trans q)
 rcases R6.mp hb with rfl|hb
 ·obtain⟨g,⟨o',es,ep,e',d,_⟩,_⟩:=I.loc
  rw[e]at e';cases e';exact no _ d (λ_ _ z=>nomatch z) (.inl I.ok.fr) (λ_ z=>nomatch z) λz=>nomatch z
 ·rcases SM.mp hb with hb|hb
  ·exact I.nc.q b hb o e f
  ·obtain⟨y,_,hm⟩:=kW.mp hb
   obtain⟨v,o',e',d⟩:=I.cell y b hm;rw[e]at e';cases e';exact no _ d (λ_ _ z=>nomatch z) (.inr λ_ _ z=>nomatch z) (λ_ z=>nomatch z) λz=>nomatch z
theorem GE{f:Str->Option R3}(h:h'.Ns a f):∃o,h'.get? a=Zz o/\(∀v,o.data≠.fields v)/\∀x n,o.data≠.seq x n:=by obtain⟨o,es,ep,e,d,_⟩:=h;exact⟨o,e,(λv z=>by rw[d]at z;cases z),λx n z=>by rw[d]at z;cases z⟩
theorem Fr.put{env2:Mi.Env}{g:Str->Option R3}{t:Nat}(I:Fr X env cm m s)(ha:a∈X.own)(e0:s.heap.get? a=Zz o)(d0:∀v,o.data≠.fields v)(hd:∃o,h'.get? a=Zz o/\(∀v,o.data≠.fields v)/\∀x n,o.data≠.seq x n)(hs:Tp a s.heap h')(hb:X.base.get? a=Zy)(hg:h'.Ns X.env.locals g)(hloc:∀(j:Nat) y w',X.N[j]?=Zz y->env2[j]?=Zz (Zz w')->Ks X.env.scope y->∃u,RW X.D cm m s.heap w' u/\Look X.env h' g y u)(hcell:∀y c,X.env.cells.lookup y=Zz c->∃v,h'.IsCell c v)(hl:env2.length=env.length):aH X.fs X.gs X.own cm m s cm m { s with heap:=h',toks:=t }/\Fr X env2 cm m { s with heap:=h',toks:=t }:=by
 have kp:∀b o,b≠a->s.heap.get? b=Zz o->h'.get? b=Zz o:=λb o n e=>(hs.2 b n).trans e
 have ex:aH X.fs X.gs X.own cm m s cm m { s with heap:=h',toks:=t }:=.heap (λb o n e=>kp b o (λz=>n (z▸ha)) e) λb n o e=>by
  by_cases z:b=a
  ·subst z;rw[e0]at e;cases e
   obtain⟨o',e',q⟩:=hd;exact⟨o',e',λ_=>q.1,λ_=>q.2⟩
  ·exact⟨o,kp b o z e,.r⟩
 have M:=I.mem.go I.nq ex.toExtK (λb o n e=>kp b o (λz=>n (z▸ha)) e) (I.ok.iz _ _ I.mem.tab λb o hb' e=>kp b o (λz=>by
  obtain⟨v,q⟩:=hb'.elim (λh=>((I.nc b h).2 o e).1) Kc.f;rw[z,e0]at e;cases e;exact d0 v q) e)
 refine⟨ex,I.ok,M,I.bare,λb o e=>kp b o (λz=>by rw[z,hb]at e;cases e) (I.bs b o e),⟨g,hg,λj y w' h1 h2 h3=>?_⟩,hcell,λb hb=>?_,hl.trans I.len⟩
 ·obtain⟨u,h4,h5⟩:=hloc j y w' h1 h2 h3
  exact⟨u,h4.go ex.toExtK I.mem I.nq,h5⟩
 ·obtain⟨hb,o,e,n⟩:=I.bF b hb
  refine⟨hb,?_⟩;by_cases z:b=a
  ·subst z;exact hd.imp λo q=>⟨q.1,q.2.1,λ_=>q.2.2⟩
  ·exact⟨o,kp b o z e,n⟩
theorem store{M:YI}{A:SF}{i:Nat}{x:Str}{Q F}(I:Fr X env cm m s)(hN:X.N.Nodup)(hi:X.N[i]?=Zz x)(hx:Loc X x)(r:RW X.D cm m s.heap w v)(k:∀s',aH X.fs X.gs X.own cm m s cm m s'->Fr X (env.set i (Zz w)) cm m s'->Q () s'):RF M A (YK X.env x v) Q F s:=by
 obtain⟨f,hn,hl⟩:=id I.loc;have li:i<env.length:=by rw[I.len];exact(R8.mp hi).1
 have cne:∀{y c},X.env.cells.lookup y=Zz c->c≠X.env.locals:=λh z=>by
  obtain⟨v,o,e,d⟩:=I.cell _ _ h;obtain⟨o',es,ep,e',d',_⟩:=hn;rw[z,e']at e;cases e;rw[d']at d;cases d
 have hcls:(X.env.scope.kind==.class || (X.env.scope.kind==.module&&X.env.locals != X.env.globals))=false:=by rw[I.ok.kind];rfl
 have nb:∀{a o},s.heap.get? a=Zz o->(∀b,X.base.get? a=Zz b->b=o):=λe b q=>by have:=I.bs _ _ q;rw[e]at this;cases this;rfl
 have nbl:X.base.get? X.env.locals=Zy:=(I.bF _ I.ok.fr).1;obtain⟨oL,es,ep,eL,dL,rL⟩:=id hn;rcases hx with hk|⟨hk,hf⟩
 ·refine wpAny_storeName_local hk hn (λh' hn' hs=>(λp=>k _ p.1 p.2) (I.put R9 eL (λv z=>by rw[dL]at z;cases z) (GE hn') hs nbl hn' (λj y w' h1 h2 h3=>?_) (λy c h=>(I.cell y c h).elim λv z=>⟨v,?_⟩) SI)) hcls
  ·by_cases hj:j=i
   ·subst hj
    rw[hi]at h1;cases h1;rw[Ri li]at h2;cases h2;exact⟨v,r,.inl ⟨hk,by simp⟩⟩
   ·rw[Rc (Su hj)]at h2
    obtain⟨u,r',q⟩:=hl j y w' h1 h2 h3;refine⟨u,r',q.imp (λ⟨k,e⟩=>⟨k,?_⟩) λ⟨k,c,e,z⟩=>⟨k,c,e,z.sameBut hs (cne e)⟩⟩;have:y≠x:=λe=>hj (qI hN h1 (e▸hi))
    simp[this,e]
  ·refine z.sameBut hs λq=>?_
   obtain⟨o,e,d⟩:=z;rw[q,eL]at e;cases e;rw[dL]at d;cases d
 ·obtain⟨c,hc⟩:=I.ok.has x (.inl hk)
  obtain⟨w',z⟩:=I.cell x c hc;obtain⟨oc,ec,dc⟩:=id z;refine wpAny_storeName_cell I.ok.kind hk hc z (λh' hc' hs=>(λp=>k _ p.1 p.2) (I.put (t:=s.toks) (R4 _ (U4 _ (kW.mpr ⟨_,hf,hc⟩))) ec (λv z=>by rw[dc]at z;cases z) (by obtain⟨o,e,d⟩:=hc';exact⟨o,e,(λv z=>by rw[d]at z;cases z),λx n z=>by rw[d]at z;cases z⟩) hs (I.ok.cb _ _ hc) (hn.sameBut hs (Su (cne hc))) (λj y u h1 h2 h3=>?_) (λy c' h=>?_) SI))
  ·by_cases hj:j=i
   ·subst hj
    rw[hi]at h1;cases h1;rw[Ri li]at h2;cases h2;exact⟨v,r,.inr ⟨.inl hk,c,hc,hc'⟩⟩
   ·rw[Rc (Su hj)]at h2
    obtain⟨u',r',q⟩:=hl j y u h1 h2 h3;refine⟨u',r',q.imp id λ⟨k,c',e,z'⟩=>⟨k,c',e,z'.sameBut hs ?_⟩⟩;rintro rfl;exact hj (qI hN h1 (I.ok.inj _ _ _ e hc▸hi))
  ·by_cases hcc:c'=c
   ·subst hcc;exact⟨_,hc'⟩
   ·exact(I.cell y c' h).elim λv z=>⟨v,z.sameBut hs hcc⟩
theorem td{i:Nat}{x:Str}{pos:Pos}{M:YI}{A:SF}{Q:Unit->RA->Prop}{F:R3->RA->Prop}(I:Fr X env cm m s)(hN:X.N.Nodup)(hi:X.N[i]?=Zz x)(hk:X.env.scope.names.lookup x=Zz .local)(k:∀s',aH X.fs X.gs X.own cm m s cm m s'->Fr X (env.set i Zy) cm m s'->Q () s'):RF M A (do bindName X.env x .none;unbindBehindTheSuite X.env x pos) Q F s:=by
 obtain⟨f,hn,hl⟩:=id I.loc;have li:i<env.length:=by rw[I.len];exact(R8.mp hi).1
 obtain⟨oL,es,ep,eL,dL,rL⟩:=id hn;have cl:∀{c v h'},Tp X.env.locals s.heap h'->s.heap.IsCell c v->h'.IsCell c v:=λhs z=>z.sameBut hs λq=>by
  obtain⟨o,e,d⟩:=z;rw[q,eL]at e;cases e;rw[dL]at d;cases d
 refine wpAny_nameGoes_keeps hk hn (by rw[I.ok.kind];rfl) λh' v hn' hs=>(λp=>k _ p.1 p.2) (I.put R9 eL (λv z=>by rw[dL]at z;cases z) (GE hn') hs (I.bF _ I.ok.fr).1 hn' (λj y w' h1 h2 h3=>?_) (λy c h=>(I.cell y c h).elim λv z=>⟨v,cl hs z⟩) SI)
 have hj:j≠i:=λz=>by rw[z,Ri li]at h2;cases h2
 rw[Rc (Su hj)]at h2;obtain⟨u,r',q⟩:=hl j y w' h1 h2 h3;refine⟨u,r',q.imp (λ⟨k,e⟩=>⟨k,?_⟩) λ⟨k,c,e,z⟩=>⟨k,c,e,cl hs z⟩⟩;have:y≠x:=λe=>hj (qI hN h1 (e▸hi))
 simp[this,e]
end
def LF(X:Cx)(s0:RA)(cm:List RB)(m:Mem)(s:RA)(x:Exc)(v:R3):Prop:=(∃env,Fr X env cm m s)/\∃e dx,v=.ref e/\s0.heap.get? e=Zy/\XP s.heap e x.cls dx/\XF X.D cm m s.heap x.nms x.Hw dx
noncomputable abbrev VK:=R3->RA->Prop
def ak{α:Type}(X:Cx)(ch:List RB)(cm:List RB)(m:Mem)(s:RA)(r:Res α)(J:VK)(k:α->List RB->Mem->RA->Prop):Prop:=match r with
 |.ok a m'=>∀cm' s',aH X.fs X.gs ch cm m s cm' m' s'->av X cm' m' s'.heap->k a cm' m' s'
 |.exc x m'=>∀v cm' s',aH X.fs X.gs ch cm m s cm' m' s'->av X cm' m' s'.heap->LF X s cm' m' s' x v->J v s'
 |.stuck=>False
section
variable{X:Cx}{env:Mi.Env}{cm cm':List RB}{m m':Mem}{s s':RA}{w:W}{v:R3}{ch:List RB}{α β:Type}{r:Res α}{J:VK}{k k':α->List RB->Mem->RA->Prop}
theorem ak.shift(h:ak X ch cm m s r J k)(x:aH X.fs X.gs ch cm m s cm' m' s'):ak X ch cm' m' s' r J k:=by
 cases r with
 |ok a m2=>exact λc t y M=>h c t (x.trans y) M
 |exc a m2 =>
  rintro v c t y M ⟨F,e,dx,h1,h2,h3⟩;refine h v c t (x.trans y) M ⟨F,e,dx,h1,?_,h3⟩;cases q:s.heap.get? e with
  |none=>rfl
  |some o=>obtain⟨_,z,_⟩:=x.thr e o q;rw[h2]at z;cases z
 |stuck=>exact h
theorem ak.bind{f:α->Mem->Res β}{k:β->List RB->Mem->RA->Prop}(h:ak X ch cm m s (r.bind f) J k):ak X ch cm m s r J λa cm' m' s'=>ak X ch cm' m' s' (f a m') J k:=by
 cases r with
 |ok a m2=>exact λc t x M=>ak.shift (r:=f a m2) h x
 |exc a m2=>exact h
 |stuck=>exact h
theorem ak.mono(h:ak X ch cm m s r J k)(f:∀a cm' m' s',aH X.fs X.gs ch cm m s cm' m' s'->av X cm' m' s'.heap->k a cm' m' s'->k' a cm' m' s'):ak X ch cm m s r J k':=by
 cases r with
 |ok a m2=>exact λc t x M=>f a c m2 t x M (h c t x M)
 |exc a m2=>exact h
 |stuck=>exact h
theorem ak.to{a:α}(h:ak X ch cm m s (.ok a m') J k)(x:aH X.fs X.gs ch cm m s cm' m' s')(M:av X cm' m' s'.heap):k a cm' m' s':=h _ _ x M
theorem ak.now{a:α}(h:ak X ch cm m s (.ok a m) J k)(M:av X cm m s.heap):k a cm m s:=h cm s .refl M
theorem ap{f:α->Mem->Res β}{b:β}(e:r.bind f=.ok b m'):∃a m1,r=.ok a m1/\f a m1=.ok b m':=by
 cases r with
 |ok a m1=>exact⟨a,m1,rfl,e⟩
 |exc x m1=>cases e
 |stuck=>cases e
theorem Fr.up{g:Rm}{t:Nat}{d:Ym}(I:Fr X env cm m s)(q:∀b o,s.heap.get? b=Zz o->g.get? b=Zz o):aH X.fs X.gs ch cm m s cm m { s with heap:=g,toks:=t,drawn:=d }/\Fr X env cm m { s with heap:=g,toks:=t,drawn:=d }:=by
 have x:aH X.fs X.gs [] cm m s cm m { s with heap:=g,toks:=t,drawn:=d }:=.kept q;have M:=I.mem.go Nq.nil x.toExtK (λb o _=>q b o) (I.ok.iz _ _ I.mem.tab λb o _=>q b o);exact⟨.kept q,I.go x.toExtK M λ_ z=>nomatch z⟩
theorem im{c:Prop}[Decidable c](h:ak X ch cm m s (if c then r else .stuck) J k):c/\ak X ch cm m s r J k:=by
 by_cases hc:c
 ·rw[Yn hc]at h;exact⟨hc,h⟩
 ·rw[Yo hc]at h;exact h.elim
theorem fz{o:Option T}{k:W->List RB->Mem->RA->Prop}(h:ak X ch cm m s (eC o m') J k):∃t,o=Zz t/\ak X ch cm m s (.ok (.t t) m') J k:=by
 cases o with
 |none=>exact h.elim
 |some t=>exact⟨t,rfl,h⟩
variable{call:Nat->List W->Mem->Res W}{gv:List T}
variable(call gv)
abbrev WK(X:Cx)(Q:VK):W->List RB->Mem->RA->Prop:=λw cm m s=>∀v,RW X.D cm m s.heap w v->Q v s
def PE(X:Cx)(e:S4)(a:Mi.E):Prop:=∀env cm m s,Fr X env cm m s->∀Q J:VK,ak X X.tb cm m s (ev call gv a env m) J (WK X Q)->RF X.M X.A (eval e X.env) Q J s
def PA(X:Cx)(l:List S4)(L:Es):Prop:=∀p env cm m s,Fr X env cm m s->∀(Q:List R3->RA->Prop) (J:VK),
 ak X X.tb cm m s (evs call gv L env m) J (λl cm m s=>∀y,sr X.D cm m s.heap l y->Q y s)->RF X.M X.A (YU (backTo p (Tx l X.env))) Q J s
def PT(X:Cx)(e:S4)(a:Mi.E):Prop:=∀env cm m s,Fr X env cm m s->∀(Q:Bool->RA->Prop) (J:VK),ak X X.tb cm m s ((ev call gv a env m).bind bq) J (λb _ _ s=>Q b s)->RF X.M X.A (isTrue e X.env (eval e X.env)) Q J s
def PW(X:Cx)(e:S4)(a:Mi.E):Prop:=∀z env cm m s,Fr X env cm m s->∀(Q:Bool->RA->Prop) (J:VK),ak X X.tb cm m s ((ev call gv a env m).bind bq) J (λb _ _ s=>Q b s)->RF X.M X.A (isTrue e X.env z) Q J s
variable{call gv}
variable{e a b c:S4}{es:List S4}{E A B C:Mi.E}{L:Es}{pos p:Pos}
theorem PW.pt(h:PW call gv X e E):PT call gv X e E:=h _
theorem mK{α:Type}{t:Sem α}{Q Q':α->RA->Prop}{M:YI}{A:SF}{E:R3->RA->Prop}{s:RA}(h:RF M A t Q E s)(hQ:∀a s,Q a s->Q' a s):RF M A t Q' E s:=Sv h hQ λ_ _ x=>x
theorem PE.one{f:W->Mem->Res α}{Q:VK}(h:PE call gv X e E)(I:Fr X env cm m s)(hp:ak X X.tb cm m s ((ev call gv E env m).bind f) J k)(q:∀w v cm1 m1 s1,Fr X env cm1 m1 s1->aH X.fs X.gs X.tb cm m s cm1 m1 s1->RW X.D cm1 m1 s1.heap w v->ak X X.tb cm1 m1 s1 (f w m1) J k->Q v s1):RF X.M X.A (eval e X.env) Q J s:=
 h env cm m s I Q J (hp.bind.mono λw c1 m1 s1 x M o v r=>q w v c1 m1 s1 (I.go x M I.nc) x r o)
theorem PT.one{f:Bool->Mem->Res α}{Q:Bool->RA->Prop}(h:PT call gv X e E)(I:Fr X env cm m s)(hp:ak X X.tb cm m s (((ev call gv E env m).bind bq).bind f) J k)(q:∀b cm1 m1 s1,Fr X env cm1 m1 s1->aH X.fs X.gs X.tb cm m s cm1 m1 s1->ak X X.tb cm1 m1 s1 (f b m1) J k->Q b s1):RF X.M X.A (isTrue e X.env (eval e X.env)) Q J s:=
 h env cm m s I Q J (hp.bind.mono λw c1 m1 s1 x M o=>q w c1 m1 s1 (I.go x M I.nc) x o)
theorem PA.one{f:List W->Mem->Res α}{Q:List R3->RA->Prop}(h:PA call gv X es L)(I:Fr X env cm m s)(hp:ak X X.tb cm m s ((evs call gv L env m).bind f) J k)(q:∀w v cm1 m1 s1,Fr X env cm1 m1 s1->aH X.fs X.gs X.tb cm m s cm1 m1 s1->sr X.D cm1 m1 s1.heap w v->ak X X.tb cm1 m1 s1 (f w m1) J k->Q v s1):RF X.M X.A (YU (backTo p (Tx es X.env))) Q J s:=
 h p env cm m s I Q J (hp.bind.mono λw c1 m1 s1 x M o v r=>q w v c1 m1 s1 (I.go x M I.nc) x r o)
theorem PE.two{f:W->W->Mem->Res α}{Q:R3->R3->RA->Prop}(ha:PE call gv X a A)(hb:PE call gv X b B)(I:Fr X env cm m s)(hp:ak X X.tb cm m s ((ev call gv A env m).bind λx m=>(ev call gv B env m).bind λy m=>f x y m) J k)(q:∀w u v z cm1 m1 s1,Fr X env cm1 m1 s1->aH X.fs X.gs X.tb cm m s cm1 m1 s1->RW X.D cm1 m1 s1.heap w v->RW X.D cm1 m1 s1.heap u z->ak X X.tb cm1 m1 s1 (f w u m1) J k->Q v z s1):RF X.M X.A (eval a X.env) (λv=>RF X.M X.A (eval b X.env) (λz=>Q v z) J) J s:=
 ha.one I hp λw v c1 m1 s1 I1 x1 r1 o=>hb.one I1 o λu z c2 m2 s2 I2 x2 r2 o=>q w u v z c2 m2 s2 I2 (x1.trans x2) (r1.go x2 I1.mem I1.nc.q) r2 o
theorem Fr.val{t:T}{k:Nat}{Q:VK}(I:Fr X env cm m s)(h:ak X X.tb cm m s (.ok (.t t) m) J (WK X Q))(r:RT X.D cm m s.heap t v):Q v { s with toks:=k }:=by
 have x:=(I.up (t:=k) (d:=s.drawn) (ch:=X.tb) (g:=s.heap) λ_ _ e=>e)
 exact h.to x.1 x.2.mem v r
theorem Fr.val'{t:T}{Q:VK}(I:Fr X env cm m s)(h:ak X X.tb cm m s (.ok (.t t) m) J (WK X Q))(r:RT X.D cm m s.heap t v):Q v s:=h.now I.mem v r
theorem EZ{i:Nat}{x:Str}(hN:X.N[i]?=Zz x)(hv:Ks X.env.scope x)(hd:(x==("__debug__" : Str))=false:=by decide)(hcd:(x==("__classdict__" : Str))=false:=by decide):PE call gv X (.Name x pos) (.var i):=λenv cm m s I Q J h=>by
 rw[tX]at h;split at h
 ·obtain⟨f,hn,hl⟩:=I.loc
  obtain⟨u,r,l⟩:=hl i x _ hN ‹_› hv;have q:=h.now I.mem u r;rcases l with⟨hk,hm⟩|⟨hk|hk,c,hc,hcell⟩
  ·exact Y9 (wpAny_loadName_local I.ok.kind hk hn hm q) hd
  ·exact Y9 (wpAny_loadName_cell I.ok.kind hk hc hcell q) hd
  ·exact Y9 (wpAny_loadName_free I.ok.kind hk hc hcell q hcd) hd
 ·exact h.elim
theorem FD{i j}:PE call gv X (.Constant (.int i) j pos) (.con (.int i)):=λ_ _ _ _ I Q J h=>by rw[nH]at h;exact wpAny_Constant_int (I.val h (.int i _))
theorem Hu{i j}:PE call gv X (.Constant (.bool i) j pos) (.con (.bl i)):=λ_ _ _ _ I Q J h=>by rw[nH]at h;exact Constant_bool (I.val' h (.bl i))
theorem E5{j}:PE call gv X (.Constant .none j pos) (.con .non):=λ_ _ _ _ I Q J h=>by rw[nH]at h;exact Constant_none (I.val' h .non)
theorem Fp{x:List Nat}{y:Str}{j}(e:y=⟨x.toArray⟩):PE call gv X (.Constant (.str y) j pos) (.con (.str x)):=λ_ _ _ _ I Q J h=>by rw[nH]at h;subst e;exact Calls.Constant_str (I.val h (.str x _))
theorem zZ:PA call gv X [] .nil:=λp env cm m s I Q J h=>by rw[mI]at h;exact Un (h.now I.mem [] .nil)
theorem wB(ha:PE call gv X e E)(hr:PA call gv X es L)(hs:Tx (e::es) X.env=(false,eval e X.env)::Tx es X.env):PA call gv X (e::es) (.cons E L):=λp env cm m s I Q J h=>by
 rw[jb]at h;rw[hs];exact Tz (ha.one I h λw v c1 m1 s1 I1 x1 r h=>hr.one (p:=p) I1 h λws vs c2 m2 s2 I2 x2 rs h=>h.now I2.mem (v::vs) (.cons (r.go x2 I1.mem I1.nc.q) rs))
end
section
variable{X:Cx}{D:Dm}{env:Mi.Env}{cm cm':List RB}{m m':Mem}{s s':RA}{w u:W}{v z:R3}{ch:List RB}{α β:Type}{r:Res α}{J:VK}{k k':α->List RB->Mem->RA->Prop}{h g:Rm}{t:T}{l:List T}{y:List R3}{a:RB}{Q:VK}{n:Nat}{d:Ym}{i:Nat}
theorem aE(M:av X cm m h)(r:RW X.D cm m h w v)(e:view w m=Zz (.lst l)):∃a x,v=.ref a/\d8 X.fs h a x/\fG X.D cm m h l x.toList:=by
 cases w with
 |t t =>
  cases e;cases r with
  |lst p _ q r=>exact⟨_,_,rfl,p,q,r⟩
 |c i =>
  obtain⟨a,h1,rfl⟩:=r;have e:(match m[i]? with|some (Zz (.l _ l))=>Zz (T.lst l)|_=>Zy)=Zz (.lst l):=e;split at e<;>cases e;obtain⟨b,x,h2,h3,_,h4⟩:=M.li ‹_›;rw[h1]at h2;cases h2;exact⟨a,x,rfl,h3,h4⟩
 |x _ _ _=>cases e
 |e _=>cases e
theorem ae(r:RW D cm m h w v)(e:view w m=Zz t)(n:∀l,t≠.lst l:=by intro l z;cases z):RT D cm m h t v:=by
 cases w with
 |t t=>cases e;exact r
 |c i =>
  have e:(match m[i]? with|some (Zz (.l _ l))=>Zz (T.lst l)|_=>Zy)=Zz t:=e;split at e<;>cases e;exact Ys rfl (n _)
 |x _ _ _=>cases e
 |e _=>cases e
theorem RT.c9{i:Int}(r:RT D cm m h (.int i) v):∃t,v=.int i t:=by cases r;exact⟨_,rfl⟩
theorem RT.kY{x:List Nat}(r:RT D cm m h (.str x) v):∃t,v=.str ⟨x.toArray⟩ t:=by cases r;exact⟨_,rfl⟩
theorem RT.KN{b:Bool}(r:RT D cm m h (.bl b) v):v=.bool b:=by cases r;rfl
theorem RT.ka(r:RT D cm m h (.tup l) v):∃a x,v=.ref a/\oy "tuple" h a x/\fG D cm m h l x.toList:=by cases r with|tup p f q r=>exact⟨_,_,rfl,p,q,r⟩
theorem RT.tf(r:RT D cm m h (.tup l) (.ref a)):a∉D.fs:=by cases r with|tup p f q r=>exact f
theorem oy.tup{x:Array R3}(p:oy "tuple" h a x):Ye h a x:=let⟨o,n,e,c,d,_⟩:=p;⟨o,e,c,n,d⟩
theorem oy.pl{x:Array R3}(p:oy "list" h a x):YV h a x:=let⟨o,n,e,c,d,q,_⟩:=p;⟨o,n,e,c,q,d⟩
theorem d8.pl{x:Array R3}{fs:List RB}(p:d8 fs h a x):YV h a x:=let⟨⟨n,e⟩,_⟩:=p;⟨_,n,e,rfl,rfl,rfl⟩
theorem d8.new{x:Array R3}(I:Fr X env cm m s)(z:x.size<=Rq):d8 X.fs (s.heap.push { cls:=.type "list",data:=.seq x n }) s.heap.objs.size x:=⟨⟨n,RN _ rfl⟩,λhb=>by obtain⟨_,o,ho,_⟩:=I.bF _ hb;exact S7 _ (Re ho),z⟩
theorem line:lim<Rq/\Rq<2^62:=by rw[TS];decide
theorem oy.new{k:String}{x:Array R3}{o:Obj}(e:o.cls=.type k)(e2:o.data=.seq x n)(e3:o.dict=Zy)(e4:o.slots=#[])(z:x.size<=Rq):oy k (h.push o) h.objs.size x:=⟨o,n,RN _ (by obtain⟨c,d,dt,sl⟩:=o;cases e2;rfl),e,e2,e3,z⟩
theorem qV{t:T}(I:Fr X env cm m s)(r:RW X.D cm m s.heap w v)(e:w4 w m=.ok t m'):aH X.fs X.gs X.tb cm m s cm m' s/\Fr X env cm m' s/\RT X.D cm m' s.heap t v:=by
 cases w with
 |t t=>cases e;exact⟨.refl,I,r⟩
 |c i =>
  obtain⟨a,h1,rfl⟩:=r;have e:(match m[i]? with|some (Zz (.l false l))=>Res.ok (T.lst l) (m.set i Zy)|_=>.stuck)=.ok t m':=e;split at e<;>cases e;obtain⟨b,x,h2,h3,h4,h5⟩:=I.mem.li ‹_›;rw[h1]at h2;cases h2;obtain⟨x1,M⟩:=I.mem.upd (s':=s) (ch:=[]) (q:=Zy) ‹_› h1 (λ_ _ _ e=>e) rfl rfl (λ_ z=>nomatch z) (λ_=>rfl) I.mem.tab λz=>by cases z
  have I':=I.go x1.toExtK M λ_ z=>nomatch z
  refine⟨x1.weak λ_ z=>(nomatch z),I',.lst h3 (λj p e e2=>?_) h5.1 λj t v a b=>(h5.2 j t v a b).go x1 I.mem Nq.nil⟩;by_cases hj:j=i
  ·subst hj;rw[Ri (R8.mp ‹m[j]?=_›).1]at e;cases e
  ·rw[Rc (Su hj)]at e;exact hj (I.mem.inj _ _ _ _ _ e ‹_› e2 h1)
 |x _ _ _=>cases e
 |e _=>cases e
theorem tw{x:Exc}:w4 w m≠.exc x m':=by
 intro h;unfold w4 at h;split at h<;>first|cases h|(split at h<;>cases h)
theorem kU:∀{l:List W}{m m':Mem}{x:Exc},db l m≠.exc x m'
 |[],_,_,_=>λh=>by cases h
 |w::l,m,m',x=>λh=>by
  rw[db]at h;cases q:w4 w m with
  |stuck=>rw[q]at h;cases h
  |exc y m1=>exact tw q
  |ok t m1 =>
   rw[q]at h;have h':((db l m1).bind λts m=>Res.ok (t::ts) m)=.exc x m':=h;cases q2:db l m1 with
   |stuck=>rw[q2]at h';cases h'
   |exc y m2=>exact kU q2
   |ok ts m2=>rw[q2]at h';cases h'
theorem ur:∀{l:List W}{y:List R3}{t:List T}{m m':Mem},Fr X env cm m s->sr X.D cm m s.heap l y->db l m=.ok t m'->aH X.fs X.gs X.tb cm m s cm m' s/\Fr X env cm m' s/\fG X.D cm m' s.heap t y
 |[],y,_,_,_,I,r,e=>by cases e;exact⟨.refl,I,by obtain rfl:y=[]:=RY.mp r.1.symm;exact .nil⟩
 |w::l,_,t,m,m',I,r,e=>by
  obtain⟨v,y,rfl,r,rs⟩:=r.inv;rw[db]at e;obtain⟨t,m1,e1,e⟩:=ap e;obtain⟨ts,m2,e2,e⟩:=ap e;cases e;obtain⟨x1,I1,r1⟩:=qV I r e1;obtain⟨x2,I2,r2⟩:=ur I1 (sr.go x1 I.mem I.nc.q rs) e2;exact⟨x1.trans x2,I2,.cons (r1.go x2 I1.mem I1.nc.q) r2⟩
theorem mu{f:List T->Mem->Res α}{l:List W}(I:Fr X env cm m s)(r:sr X.D cm m s.heap l y)(h:ak X X.tb cm m s ((db l m).bind f) J k):∃t m',Fr X env cm m' s/\fG X.D cm m' s.heap t y/\ak X X.tb cm m' s (f t m') J k:=by
 cases q:db l m with
 |stuck=>rw[q]at h;exact h.elim
 |exc x m'=>exact Ys q kU
 |ok t m' =>
  rw[q]at h;obtain⟨x,I',r'⟩:=ur I r q;exact⟨t,m',I',r',h.shift x⟩
theorem iX(h:Rm):h.get? h.objs.size=Zy:=Rk (RO _)
theorem GI(k:∀b o,h.get? b=Zz o->g.get? b=Zz o):h.get? g.objs.size=Zy:=by
 cases q:h.get? g.objs.size with
 |none=>rfl
 |some o=>exact Ys (Re (k _ _ q)) (S7 _)
theorem Fr.tup(I:Fr X env cm m s)(h:ak X X.tb cm m s (.ok (.t (.tup l)) m) J (WK X Q))(r:fG X.D cm m s.heap l y)(q:∀b o,s.heap.get? b=Zz o->g.get? b=Zz o)(p:oy "tuple" g a y.toArray)(e:s.heap.get? a=Zy:=by exact iX _):Q (.ref a) { s with heap:=g,toks:=n,drawn:=d }:=by
 obtain⟨x,J⟩:=I.up (t:=n) (d:=d) (ch:=X.tb) q;exact h.to x J.mem _ (.tup p (λhb=>by obtain⟨_,o,g,_⟩:=I.bF _ hb;rw[e]at g;cases g) r.1 λi t v a b=>(r.2 i t v a b).go x I.mem I.nc.q)
theorem Fr.fresh(I:Fr X env cm m s)(e:s.heap.get? a=Zy):ai cm m a:=λi p h1 h2=>by
 obtain⟨_,_,o,h4,_⟩:=I.mem.live h1 h2;rw[e]at h4;cases h4
theorem Fr.lst(I:Fr X env cm m s)(h:ak X X.tb cm m s (.ok (.t (.lst l)) m) J (WK X Q))(r:fG X.D cm m s.heap l y)(q:∀b o,s.heap.get? b=Zz o->g.get? b=Zz o)(e:s.heap.get? a=Zy)(p:d8 X.fs g a y.toArray):Q (.ref a) { s with heap:=g,toks:=n,drawn:=d }:=by
 obtain⟨x,J⟩:=I.up (t:=n) (d:=d) (ch:=X.tb) q;exact h.to x J.mem _ (.lst p (I.fresh e) r.1 λi t v a b=>(r.2 i t v a b).go x I.mem I.nc.q)
theorem Fr.rI(I:Fr X env cm m s)(h:ak X X.tb cm m s (.ok (.c m.length) (m++[Zz (.l false l)])) J (WK X Q))(r:fG X.D cm m s.heap l y)(q:∀b o,s.heap.get? b=Zz o->g.get? b=Zz o)(e:s.heap.get? a=Zy)(p:d8 X.fs g a y.toArray):Q (.ref a) { s with heap:=g,toks:=n,drawn:=d }:=by
 have nb:X.base.get? a=Zy:=by
  cases z:X.base.get? a with
  |none=>rfl
  |some o=>rw[I.bs _ _ z]at e;cases e
 obtain⟨x,M,top⟩:=I.mem.new (s':={ s with heap:=g,toks:=n,drawn:=d }) (ch:=X.tb) (y:=y.toArray) q rfl rfl e nb p (by simpa using r) (I.ok.iz _ _ I.mem.tab λb o _=>q b o);exact h.to x M _ ⟨a,top,rfl⟩
variable{call:Nat->List W->Mem->Res W}{gv:List T}
variable{e f c:S4}{es:List S4}{E A B C:Mi.E}{L:Es}{pos p:Pos}
theorem E7{x1}(h:PA call gv X es L):PE call gv X (.Tuple es x1 pos) (.tup L):=λ_ _ _ _ I Q J hp=>by
 rw[CL]at hp;refine wpAny_Tuple_spliced (h.one I hp λws vs c1 m1 s1 I x1 rs h=>?_);obtain⟨ts,m2,I,r,h⟩:=mu I rs h;obtain⟨hl,h⟩:=im h;have z:vs.length<=Rq:=by have:=r.1;have:=line.1;omega
 exact⟨z,I.tup h r (λb o e=>R7 _ e) (.new rfl rfl rfl rfl (by simpa using z))⟩
theorem FA(h:PA call gv X es L):PE call gv X (.List es pos) (.lst L):=λ_ _ _ _ I Q J hp=>by
 rw[BV]at hp;refine wpAny_List_spliced (h.one I hp λws vs c1 m1 s1 I x1 rs h=>?_);obtain⟨ts,m2,I,r,h⟩:=mu I rs h;obtain⟨hl,h⟩:=im h;have z:vs.length<=Rq:=by have:=r.1;have:=line.1;omega
 exact⟨z,I.lst h r (λb o e=>R7 _ e) (iX _) (.new I (by simpa using z))⟩
theorem Fq(h:PA call gv X es L):PE call gv X (.List es pos) (.rI L):=λ_ _ _ _ I Q J hp=>by
 rw[xJ]at hp;refine wpAny_List_spliced (h.one I hp λws vs c1 m1 s1 I x1 rs h=>?_);obtain⟨ts,m2,I,r,h⟩:=mu I rs h;obtain⟨hl,h⟩:=im h;have z:vs.length<=Rq:=by have:=r.1;have:=line.1;omega
 exact⟨z,I.rI h r (λb o e=>R7 _ e) (iX _) (.new I (by simpa using z))⟩
end
end Mi
namespace Mi
open PySem PySem.Spec PyProof.Rows PySem.Builtin
theorem mi:lim<=Rq:=Sb line.1
section
variable{prog:Ry}{w:SS}{A:SF}{E:R3->RA->Prop}{s:RA}{i j k:Int}{t x y:T}{cs:List Nat}{n:Nat}{f:Int->Int->Option T}
theorem nN:fillsNumberSlot (.type "tuple") "mul" = pure false:=
 PySem.fillsNumberSlot_seq F.slot_tuple_mul.lookup (by decide +kernel) F.slot_tuple_rmul.lookup (by decide +kernel)
theorem uc:seqRepeat? (.type "tuple")=pure (Zz (.builtin "tuple.__mul__")):=by
 unfold seqRepeat?;rw[PySem.seqSlot_of (name:="__mul__") F.slot_tuple_mul.lookup (by decide +kernel),PySem.seqSlot_of (name:="__rmul__") F.slot_tuple_rmul.lookup (by decide +kernel)];rfl
theorem wS(a:Int)(t:Tok)(l:RB)(items:Array R3)(n:Nat)(dd:Option RB)(sl:Array (Option R3)):
  Yf (Builtin.«int.__rmul__» ⟨[.int a t,.ref l],[]⟩) (λ_ R s=>s.heap.get? l=Zz { cls:=.type "tuple",dict:=dd,data:=.seq items n,slots:=sl }/\R (.ok (.ret Value.notImplemented)) s):=
 .of_wp λprog w A R s h=>by obtain⟨hp,g,d,tk,os⟩:=s;obtain⟨hl,h⟩:=h;wp_walk;exact⟨_,rfl,h⟩
theorem Jb(l:RB)(items:Array R3)(n:Nat)(dd:Option RB)(sl:Array (Option R3))(k:Int)(u:Tok)(h1:(decide (k < -(2^63)) || decide (k ≥ 2^63))=false)(hc:(items.isEmpty || k==1)=true):
  Yf (Builtin.«tuple.__mul__» ⟨[.ref l,.int k u],[]⟩) (λ_ R s=>s.heap.get? l=Zz { cls:=.type "tuple",dict:=dd,data:=.seq items n,slots:=sl }/\R (.ok (.ret (TR l))) s):=
 .of_wp λprog w A R s h=>by obtain⟨hp,g,d,tk,os⟩:=s;obtain⟨hl,h⟩:=h;have f1:=Wq;have f2:=V7;wp_walk;refine W4 (Yp (VW.mp h1)) ?_;wp_walk using SJ hl;exact⟨_,rfl,h⟩
theorem Jq(l:RB)(items:Array R3)(n:Nat)(dd:Option RB)(sl:Array (Option R3))(k:Int)(u:Tok)(h1:(decide (k < -(2^63)) || decide (k ≥ 2^63))=false)(hc:¬(items.isEmpty || k==1)=true)(hc1:(decide (k<=0) || items.isEmpty)=true):
  Yf (Builtin.«tuple.__mul__» ⟨[.ref l,.int k u],[]⟩) (λ_ R s=>s.heap.get? l=Zz { cls:=.type "tuple",dict:=dd,data:=.seq items n,slots:=sl }/\R (.ok (.ret (TR s.heap.objs.size))) { s with heap:=s.heap.push { cls:=UV "tuple",data:=Data.seq #[] },toks:=s.toks }):=
 .of_wp λprog w A R s h=>by obtain⟨hp,g,d,tk,os⟩:=s;obtain⟨hl,h⟩:=h;have f1:=Wq;have f2:=V7;wp_walk;refine W4 (Yp (VW.mp h1)) ?_;wp_walk using SJ hl;exact⟨_,rfl,h⟩
theorem J9(l:RB)(items:Array R3)(n:Nat)(dd:Option RB)(sl:Array (Option R3))(k:Int)(u:Tok)(h1:(decide (k < -(2^63)) || decide (k ≥ 2^63))=false)(hc:¬(items.isEmpty || k==1)=true)(hc1:¬(decide (k<=0) || items.isEmpty)=true)(hc2:¬(items.size:Int)*k>(2^63-1) / 8)(hc3:¬Tuple.tupleTooMany ((items.size:Int)*k)=true)(hz:(WO (λx1 x2=>x1++x2) #[] (RE k.toNat items)).size<=Rq):
  Yf (Builtin.«tuple.__mul__» ⟨[.ref l,.int k u],[]⟩) (λ_ R s=>s.heap.get? l=Zz { cls:=.type "tuple",dict:=dd,data:=.seq items n,slots:=sl }/\R (.ok (.ret (TR s.heap.objs.size))) { s with heap:=s.heap.push { cls:=UV "tuple",data:=Data.seq (WO (λx1 x2=>x1++x2) #[] (RE k.toNat items)) },toks:=s.toks }):=
 .of_wp λprog w A R s h=>by obtain⟨hp,g,d,tk,os⟩:=s;obtain⟨hl,h⟩:=h;have f1:=Wq;have f2:=V7;wp_walk;refine W4 (Yp (VW.mp h1)) ?_;wp_walk using SJ hl;refine W4 (Yp hc2) ?_;wp_walk using SJ hl;exact⟨_,rfl,h⟩
theorem xo(h:n<=Rq):¬Tuple.tupleTooMany (n:Int)=true:=by
 unfold Tuple.tupleTooMany;intro hc;have:=Yt hc;have e:=TS;omega
theorem v5(cs:List Nat):∀(n:Nat) (acc:Array Nat),(RE n cs.toArray).foldl (·++·) acc=acc++(RE n cs).flatten.toArray
 |0,acc=>by simp
 |n+1,acc=>by
  rw[Sp,Ue,v5 cs n,Sp,VX];apply Array.toList_inj.mp;simp
theorem Cz(h:0<=k):Txt.mul ⟨cs.toArray⟩ k=⟨(gH cs k.toNat).toArray⟩:=by
 unfold Txt.mul gH;by_cases h1:k<1
 ·have:k=0:=by omega
  subst this;rw[Yn h1];rfl
 ·rw[Yo h1]
  by_cases h2:(k==1 || (⟨cs.toArray⟩:Str).length==0)=true
  ·rw[Yn h2]
   rcases Tl _ _▸h2 with h3|h3
   ·have:k=1:=eq_of_beq h3
    subst this;simp
   ·have hl:cs.toArray.size=0:=eq_of_beq h3
    have:cs=[]:=by simpa using hl
    subst this;simp
  ·rw[Yo h2,v5]
   simp
theorem mul_fits{cs:List Nat}(h:0<=k/\k<=64)(hl:cs.length<=1000):MulOk ⟨cs.toArray⟩ k:=by
 have e:(⟨cs.toArray⟩:Str).length=cs.length:=by show cs.toArray.size=_;simp
 have hk:k.toNat<=64:=by omega
 have hm:=Nat.mul_le_mul hl hk;refine⟨?_,λh1 _=>?_,λh1 _=>?_⟩
 ·have a:¬k < -(2^63:Int):=by omega
  have b:¬k ≥ (2^63:Int):=by omega
  simp only[a,b,decide_false,Bool.or_self]
 ·rw[e]
  have:(1000:Int)<=(2^63-1) / k:=(Int.le_ediv_iff_mul_le (by omega)).mpr (by omega);omega
 ·rw[e]
  unfold Builtin.Str.tooLong;have:=mi;unfold lim at this;exact Yp (by omega)
theorem vN{n:Nat}(h:n<=Rq):UJ n=false:=by
 unfold UJ;exact Yp (by omega)
theorem foldl_rep(its:List R3):∀(k:Nat) (acc:List R3),
  WO (λx1 x2=>x1++x2) acc.toArray (RE k its.toArray)=(acc++(RE k its).flatten).toArray
 |0,acc=>by simp
 |k+1,acc=>by
  have e:acc.toArray++its.toArray=(acc++its).toArray:=by simp
  have e2:(acc++its)++(RE k its).flatten=acc++(RE (k+1) its).flatten:=by
   rw[Sp,VX,S9]
  rw[<-e2,<-foldl_rep its k (acc++its),<-e,Sp,Ue]
theorem Fc{t b:RB}{vs ws:List R3}{Q:R3->RA->Prop}(ht:Ye s.heap t vs.toArray)(hb:Ye s.heap b ws.toArray)(hv:vs≠[])(h1:ws=[]->Q (.ref t) s)(h2:ws≠[]->Q (.ref s.heap.objs.size) { s with heap:=s.heap.push { cls:=.type "tuple",data:=.seq (vs++ws).toArray } })(hsz:vs.length+ws.length<=Rq):RF (Rp prog w) A (Wr .Add (.ref t) (.ref b)) Q E s:=by
 obtain⟨⟨cls,dd,data,sl⟩,ho,hc,n,hd⟩:=id ht;obtain⟨⟨cls2,dd2,data2,sl2⟩,ho2,hc2,n2,hd2⟩:=id hb;simp only at hc hd hc2 hd2;subst hc hd hc2 hd2;have e:vs.toArray++ws.toArray=(vs++ws).toArray:=by simp
 by_cases hw:ws=[]
 ·exact Xq ⟨_,ho,rfl⟩ ⟨_,ho2,rfl⟩ Ws XZ VY VN (V8 _ _)
   (tuple_addW1 t b vs.toArray ws.toArray n n2 dd dd2 sl sl2 (by simpa using hv) (by simp[hw])) ⟨ho,ho2,h1 hw⟩
 ·refine Xq ⟨_,ho,rfl⟩ ⟨_,ho2,rfl⟩ Ws XZ VY VN (V8 _ _)
   (tuple_addW2 t b vs.toArray ws.toArray n n2 dd dd2 sl sl2 (by simpa using hv) (by simpa using hw) (by rw[Rz,Rz];exact hsz)) ⟨ho,ho2,?_⟩
  rw[e];exact h2 hw
def EF(i j:Int):Prop:=(-(2^64)<i/\i<2^64)∨(-(2^64)<j/\j<2^64)
theorem EF.ok{i j:Int}(h:EF i j):Yg i j:=by
 rcases h with⟨h1,h2⟩|⟨h1,h2⟩
 ·exact .of_left (intBits_le_64 h1 h2)
 ·exact .of_right (intBits_le_64 h1 h2)
theorem Hv(a b:List Nat):(⟨a.toArray⟩:Str)++⟨b.toArray⟩=⟨(a++b).toArray⟩:=by
 show(⟨a.toArray++b.toArray⟩:Str)=_;simp
theorem gL(a:List Nat):(⟨a.toArray⟩:Str).length=a.length:=by simp[Str.length]
theorem FW(c:i.natAbs<yh)(a:j.natAbs<yh):Yg i j:=by
 have b:∀{k:Int},k.natAbs<yh->Builtin.Int.intBits k<=2000:=λ{k} h=>intBits_le (by
  have e:yh=2^(250*8):=by unfold yh;rw[<-Nat.pow_mul]
  rw[e]at h;exact h)
 exact mulOk_of_bits (b c) (b a) (by decide)
theorem sN(h:small i=true):-(2^64)<i/\i<2^64:=by
 have a:=Yt h;omega
theorem CP(h:lg i j=true):Yg i j:=by
 unfold lg at h;simp only[Tl,RJ,decide_eq_true_eq]at h;rcases h with(h|h)|⟨b,a⟩
 ·exact EF.ok (.inl (sN h))
 ·exact EF.ok (.inr (sN h))
 ·exact FW b a
theorem Bm{x y t:T}(e:As f x y=Zz t):∃i j,x=.int i/\y=.int j/\f i j=Zz t:=by
 cases x with
 |int i=>cases y with
  |int j=>exact⟨i,j,rfl,rfl,e⟩
  |_=>cases e
 |_=>cases e
end
section
variable{prog:Ry}{w:SS}{A:SF}{E:R3->RA->Prop}{s:RA}{t a b:RB}
theorem FS{E:R3->RA->Prop}{ws:List R3}(q:Ye s.heap t ([]:List R3).toArray)(r:Ye s.heap b ws.toArray)(h:Q (.ref b) s):RF (Rp prog w) A (Wr .Add (.ref t) (.ref b)) Q E s:=by
 obtain⟨⟨v,u,l,o⟩,i,k,n,j⟩:=id q;obtain⟨⟨m,f,g,e⟩,a,d,p,c⟩:=id r;simp only at k j d c;subst k j d c;exact Xq ⟨_,i,rfl⟩ ⟨_,a,rfl⟩ Ws XZ VY VN (V8 _ _)
  (tuple_addW0 t b ([]:List R3).toArray ws.toArray n p u f o e (by simp)) ⟨i,a,h⟩
end
section
variable{X:Cx}{D:Dm}{env:Mi.Env}{cm cm':List RB}{m m':Mem}{s s':RA}{w u:W}{v z:R3}{ch:List RB}{α β:Type}{r:Res α}{J:VK}{k k':α->List RB->Mem->RA->Prop}{h g:Rm}{t:T}{l:List T}{y:List R3}{a:RB}{Q:VK}{n:Nat}{d:Ym}{i:Nat}
variable{call:Nat->List W->Mem->Res W}{gv:List T}{e f c:S4}{es:List S4}{E A B C:Mi.E}{L:Es}{pos p:Pos}
theorem lE{f:T->T->Option T}{k:W->List RB->Mem->RA->Prop}(h:ak X ch cm m s (eC ((view w m).bind λx=>(view u m).bind λy=>f x y) m') J k):∃x y t,view w m=Zz x/\view u m=Zz y/\f x y=Zz t/\ak X ch cm m s (.ok (.t t) m') J k:=by
 obtain⟨t,e,h⟩:=fz h;obtain⟨x,e1,e⟩:=RP.mp e;obtain⟨y,e2,e⟩:=RP.mp e;exact⟨x,y,t,e1,e2,e,h⟩
theorem Al.app{α β:Type}{R:α->β->Prop}{l l':List α}{x x':List β}(q:Al R l x)(q':Al R l' x'):Al R (l++l') (x++x'):=by
 refine⟨by rw[RD,RD,q.1,q'.1],λi t v a b=>?_⟩;by_cases h:i<l.length
 ·rw[RQ h]at a
  rw[RQ (q.1▸h)]at b;exact q.2 i t v a b
 ·rw[RV (by omega)]at a
  rw[RV (by have:=q.1;omega),<-q.1]at b;exact q'.2 _ t v a b
theorem Al.rep{α β:Type}{R:α->β->Prop}{l:List α}{x:List β}(q:Al R l x):∀n,Al R (gH l n) (gH x n)
 |0=>.nil
 |n+1=>by
  unfold gH;rw[Sp,Sp,VX,VX];exact q.app (q.rep n)
theorem uT{α:Type}(x:List α)(n:Nat):(gH x n).length=x.length*n:=by
 unfold gH;rw[List.length_flatten,List.map_replicate,List.sum_replicate_nat,Nat.mul_comm]
theorem push{h:Rm}{o:Obj}:∀b p,h.get? b=Zz p->(h.push o).get? b=Zz p:=λ_ _ e=>R7 _ e
theorem HZ(x y:Array R3):(x.toList++y.toList).toArray=x++y:=by rw[<-Array.toList_append,Array.toArray_toList]
theorem G7(I:Fr X env cm m s)(r1:RW X.D cm m s.heap w v)(r2:RW X.D cm m s.heap u z)(h:ak X X.tb cm m s (eC ((view w m).bind λx=>(view u m).bind λy=>Hf x y) m) J (WK X Q)):RF X.M X.A (Wr .Add v z) Q J s:=by
 obtain⟨x,y,t,e1,e2,e,h⟩:=lE h;have hz:=line;unfold Hf at e;split at e
 ·cases e
  obtain⟨_,rfl⟩:=(ae r1 e1).c9;obtain⟨_,rfl⟩:=(ae r2 e2).c9;exact add_int (I.val h (.int _ _))
 ·split at e<;>cases e
  rename_i a b hl;obtain⟨_,rfl⟩:=(ae r1 e1).kY;obtain⟨_,rfl⟩:=(ae r2 e2).kY;exact add_str (λt' tk=>I.val h (by rw[Hv];exact .str _ _)) (by rw[gL,gL];omega)
 ·split at e<;>cases e
  obtain⟨a,⟨x⟩,rfl,p1,q1⟩:=(ae r1 e1).ka;obtain⟨b,⟨y⟩,rfl,p2,q2⟩:=(ae r2 e2).ka;have l1:=q1.1;have l2:=q2.1;by_cases hx:x=[]
  ·subst hx
   obtain rfl:=RY.mp l1;exact FS p1.tup p2.tup (I.val' h (.tup p2 (ae r2 e2).tf q2.1 q2.2))
  ·refine Fc p1.tup p2.tup hx (λz=>?_) (λ_=>I.tup h (q1.app q2) push (.new rfl rfl rfl rfl (by simp at l1 l2 ⊢;omega))) (by simp at l1 l2;omega)
   subst z;obtain rfl:=RY.mp l2;rw[Rh]at h;exact I.val' h (.tup p1 (ae r1 e1).tf q1.1 q1.2)
 ·split at e<;>cases e
  obtain⟨a,x,rfl,p1,q1⟩:=aE I.mem r1 e1;obtain⟨b,y,rfl,p2,q2⟩:=aE I.mem r2 e2;have l1:=q1.1;have l2:=q2.1;obtain⟨⟨_,e1⟩,_⟩:=id p1;obtain⟨⟨_,e2⟩,_⟩:=id p2;have z:x.size+y.size<=Rq:=by simp at l1 l2;omega
  exact PySem.P.add_list e1 e2 (I.lst (y:=x.toList++y.toList) h (q1.app q2) push (iX _) (by rw[HZ];exact .new I (by simpa using z))) z
 all_goals cases e
theorem FV{f:Int->Int->Option T}{k:W->List RB->Mem->RA->Prop}(r1:RW X.D cm m s.heap w v)(r2:RW X.D cm m s.heap u z)(h:ak X X.tb cm m s (eC ((view w m).bind λx=>(view u m).bind λy=>As f x y) m) J k):∃i j t a b,v=.int i a/\z=.int j b/\f i j=Zz t/\ak X X.tb cm m s (.ok (.t t) m) J k:=by
 obtain⟨x,y,t,e1,e2,e,h⟩:=lE h;obtain⟨i,j,rfl,rfl,e⟩:=Bm e;obtain⟨a,rfl⟩:=(ae r1 e1).c9;obtain⟨b,rfl⟩:=(ae r2 e2).c9;exact⟨i,j,t,a,b,rfl,rfl,e,h⟩
theorem BP{l:RB}{x:Array R3}{n:Nat}{k:Int}{t:Tok}(e:s.heap.get? l=Zz { cls:=.type "list",data:=.seq x n })(h1:-(2^63)<=k)(h2:k<2^63)(z:x.size*k.toNat<=Rq)(q:Q (.ref s.heap.objs.size) { s with heap:=s.heap.push { cls:=.type "list",data:=.seq (gH x.toList k.toNat).toArray } }):RF X.M X.A (Wr .Mult (.ref l) (.int k t)) Q J s:=by
 have hcap:¬x.size*k.toNat>(2^63-1) / 8:=by
  have:(Rq:Nat)<=(2^63-1) / 8:=by decide
  omega
 have hfit:¬(!Builtin.List.listFitsIndex k)=true:=by
  rw[fitsIndex_both h1 h2];exact RK
 have hlong:¬UJ (x.size*k.toNat)=true:=by
  rw[vN z];exact RK
 have hnew:WO (λx1 x2=>x1++x2) #[] (RE (if x.isEmpty=true then 0 else k.toNat) x)=(gH x.toList k.toNat).toArray:=by
  have f0:∀m:Nat,WO (λx1 x2=>x1++x2) #[] (RE m x)=(gH x.toList m).toArray:=λm=>by
   have:=foldl_rep x.toList m [];rw[Uf]at this;simpa[gH]using this
  rw[f0];by_cases hx:x.isEmpty=true
  ·rw[Yn hx]
   have:x=#[]:=by simpa using hx
   subst this;simp[gH]
  ·rw[Yo hx]
 refine wpAny_binaryOp_repeat_ref (T:="list") (U:="int") (by decide) ⟨_,e,rfl⟩ (λs'=>Xf s' k t) noFill_list_mul F.fills_int_mul W5 repeat_list F.slot_int_index.lookup
  (UK W5 (Xf s k t) F.entry_int_rmul (F.args_int_rmul_2 _ _) (int___rmul___int_list k t l x n)
   ⟨e,rfl,⟨_,e,rfl⟩,UK F.slot_list_mul ⟨_,e,rfl⟩ F.entry_list_mul (F.args_list_mul_2 _ _) (AutoListH.list___mul___list_int_3 l x n k t hfit hcap hlong) ⟨e,?_⟩⟩)
 rw[hnew];exact q
theorem Fu{l:RB}{x:Array R3}{k:Int}{t:Tok}(p:oy "tuple" s.heap l x)(h1:-(2^63)<=k)(h2:k<2^63)(z:x.size*k.toNat<=Rq)(q1:x.size=0∨k=1->Q (.ref l) s)(q:Q (.ref s.heap.objs.size) { s with heap:=s.heap.push { cls:=.type "tuple",data:=.seq (gH x.toList k.toNat).toArray } }):RF X.M X.A (Wr .Mult (.ref l) (.int k t)) Q J s:=by
 obtain⟨⟨cls,dd,data,sl⟩,n,ho,hc,hd,hn,_⟩:=p;simp only at hc hd;subst hc hd;have g1:(decide (k < -(2^63)) || decide (k ≥ 2^63))=false:=by
  rw[Yp (by omega),Yp (by omega)];rfl
 refine wpAny_binaryOp_repeat_ref (by decide) ⟨_,ho,rfl⟩ (λs'=>Xf s' k t) nN F.fills_int_mul W5 uc F.slot_int_index.lookup
   (UK W5 (Xf s k t) F.entry_int_rmul (F.args_int_rmul_2 _ _) (wS k t l x n dd sl) ⟨ho,rfl,⟨_,ho,rfl⟩,?_⟩)
 have hf:∀m:Nat,WO (λx1 x2=>x1++x2) #[] (RE m x)=(gH x.toList m).toArray:=λm=>by
  have:=foldl_rep x.toList m [];rw[Uf]at this;simpa[gH]using this
 by_cases hc:x.isEmpty=true∨k=1
 ·exact UK Wt ⟨_,ho,rfl⟩ Wb (WP _ _) (Jb l x n dd sl k t g1 (by simpa using hc)) ⟨ho,q1 (hc.imp (λh=>by simpa using h) id)⟩
 ·have g2:¬(x.isEmpty || k==1)=true:=by simpa using hc
  by_cases h0:k<=0
  ·refine UK Wt ⟨_,ho,rfl⟩ Wb (WP _ _) (Jq l x n dd sl k t g1 g2 (by simp[h0])) ⟨ho,?_⟩
   rw[show k.toNat=0 by omega]at q;exact q
  ·have hk:(k.toNat:Int)=k:=by omega
   have hs:(x.size:Int)*k=((x.size*k.toNat:Nat):Int):=by rw[Int.natCast_mul,hk]
   have hsl:=TS;refine UK Wt ⟨_,ho,rfl⟩ Wb (WP _ _) (J9 l x n dd sl k t g1 g2 (by simp only[not_or]at hc;simp[h0];simpa using hc.1) (by rw[hs];omega) (by rw[hs];exact xo z) ?_) ⟨ho,by rw[hf];exact q⟩;rw[hf,Rz,uT];simpa using z
theorem HK(I:Fr X env cm m s)(r1:RW X.D cm m s.heap w v)(r2:RW X.D cm m s.heap u z)(h:ak X X.tb cm m s (eC ((view w m).bind λx=>(view u m).bind λy=>H5 x y) m) J (WK X Q)):RF X.M X.A (Wr .Mult v z) Q J s:=by
 obtain⟨x,y,t,e1,e2,e,h⟩:=lE h;have hz:=line;have hl:(lim:Int)<2^63:=by unfold lim;decide
 unfold H5 at e;split at e
 rotate_left
 ·cases e
 rename_i k;obtain⟨_,rfl⟩:=(ae r2 e2).c9;split at e
 ·split at e<;>cases e
  obtain⟨_,rfl⟩:=(ae r1 e1).c9;exact mul_int (I.val h (.int _ _)) (CP ‹_›)
 ·split at e<;>cases e
  rename_i l hc;obtain⟨a,x,rfl,p,q⟩:=(ae r1 e1).ka;have l1:=q.1;refine Fu p (by omega) (by omega) (by simp at l1;rw[<-l1];omega) (λhq=>?_) (I.tup h (q.rep _) push (.new rfl rfl rfl rfl (by rw[Rz,uT,<-l1];omega)));have e:gH l k.toNat=l:=by
   rcases hq with hq|rfl
   ·obtain rfl:l=[]:=RY.mp (by simp at l1;omega)
    simp[gH]
   ·simp[gH]
  rw[e]at h;exact I.val' h (.tup p (ae r1 e1).tf q.1 q.2)
 ·split at e<;>cases e
  rename_i hc;obtain⟨a,x,rfl,p,q⟩:=aE I.mem r1 e1;obtain⟨⟨_,e1⟩,_⟩:=id p;have l1:=q.1;exact BP e1 (by omega) (by omega) (by simp at l1;rw[<-l1];omega) (I.lst h (q.rep _) push (iX _) (.new I (by rw[Rz,uT,<-l1];omega)))
 ·split at e<;>cases e
  rename_i hc;obtain⟨_,rfl⟩:=(ae r1 e1).kY;refine SB.mul (mul_fits hc.1 hc.2) λt' k'=>I.val h ?_
  rw[Cz hc.1.1];exact .str _ _
 all_goals cases e
theorem Hk(op:Wp)(I:Fr X env cm m s)(r1:RW X.D cm m s.heap w v)(r2:RW X.D cm m s.heap u z)(h:ak X X.tb cm m s (eC ((view w m).bind λx=>(view u m).bind λy=>uD op x y) m) J (WK X Q)):RF X.M X.A (Wr op v z) Q J s:=by
 cases op
 case Add=>exact G7 I r1 r2 h
 case Mult=>exact HK I r1 r2 h
 case Sub =>
  obtain⟨i,j,t,a,b,rfl,rfl,e,h⟩:=FV r1 r2 h;cases e;exact sub_int (I.val h (.int _ _))
 case FloorDiv =>
  obtain⟨i,j,t,a,b,rfl,rfl,e,h⟩:=FV r1 r2 h;split at e<;>cases e;exact floordiv_int (by omega) (by rw[Int.fdiv_eq_ediv_of_nonneg i (by omega)];exact I.val h (.int _ _)) (.inl (PyProof.noPylong_small (by omega)))
 case Mod =>
  obtain⟨i,j,t,a,b,rfl,rfl,e,h⟩:=FV r1 r2 h;split at e<;>cases e;exact mod_int' (by omega) (by rw[Int.fmod_eq_emod_of_nonneg i (by omega)];exact I.val h (.int _ _))
 case Pow =>
  obtain⟨i,j,t,a,b,rfl,rfl,e,h⟩:=FV r1 r2 h;by_cases c:0<=j/\j<=1000/\i.natAbs<2^64
  ·rw[Yn c]at e
   cases e;exact pow_int_small c.1 (by omega) c.2.2 (I.val h (.int _ _))
  ·rw[Yo c]at e;cases e
 all_goals (obtain⟨x,y,t,_,_,e,_⟩:=lE h;cases(show Zy=Zz t from e))
theorem ET{op:Wp}(ha:PE call gv X e A)(hb:PE call gv X f B):PE call gv X (.BinOp e op f pos) (.bin op A B):=λ_ _ _ _ I Q J h=>by
 rw[Cs]at h;exact wpAny_BinOp (ha.two hb I h λw u v z c1 m1 s1 I x r1 r2 h=>Hk op I r1 r2 h)
end
end Mi
namespace Mi
open PySem PySem.Spec
open PyProof.Rows
mutual
noncomputable def pyT:T->PyData
 |.bl b=>.bool b
 |.int i=>.int i
 |.str cs=>.str ⟨cs.toArray⟩
 |.tup ts=>.tuple (rD ts)
 |.lst ts=>.list (rD ts)
 |_=>.none
noncomputable def rD:List T->List PyData
 |[]=>[]
 |t::ts=>pyT t::rD ts
end
mutual
theorem q8:∀(n:Nat) (t:T),aW n t=true->PyData.canLay0 (pyT t)=true/\PyData.depth (pyT t)<=n
 |n,.non,h=>⟨rfl,S8 n⟩
 |n,.bl b,h=>⟨rfl,S8 n⟩
 |n,.int i,h=>⟨rfl,S8 n⟩
 |n,.str c,h=>⟨by cases n<;>exact h,S8 n⟩
 |0,.tup a,h=>(RK h).elim
 |0,.lst a,h=>(RK h).elim
 |n+1,.tup a,h=>have h:bE n a=true:=h;⟨(ll n a h).1,Wu (ll n a h).2⟩
 |n+1,.lst a,h=>have h:bE n a=true:=h;⟨(ll n a h).1,Wu (ll n a h).2⟩
 |n,.dct _ _,h=>by cases n<;>exact(RK h).elim
 |n,.fH _,h=>by cases n<;>exact(RK h).elim
theorem ll:∀(n:Nat) (ts:List T),bE n ts=true->PyData.canLayAll0 (rD ts)=true/\PyData.depthAll (rD ts)<=n
 |n,[],h=>⟨rfl,S8 n⟩
 |n,t::ts,h=>by
  have h:=(RJ _ _).mp h;have b:=q8 n t h.1;have a:=ll n ts h.2;refine⟨?_,?_⟩
  ·show(PyData.canLay0 (pyT t)&&PyData.canLayAll0 (rD ts))=true
   rw[b.1,a.1];rfl
  ·exact Nat.max_le.mpr ⟨b.2,a.2⟩
end
theorem Fh{a b:List Nat}:(⟨a.toArray⟩:Str)=⟨b.toArray⟩↔a=b:=by
 constructor
 ·intro h
  injection h with h;simpa using h
 ·intro h;rw[h]
theorem str_beq{a b:List Nat}:((⟨a.toArray⟩:Str)==⟨b.toArray⟩)=(a==b):=by
 by_cases h:a=b
 ·subst h;simp
 ·rw[Yr.mpr h,Yr.mpr λz=>h (Fh.mp z)]
theorem CU{a b:List Nat}:eqT (.str a) (.str b)=((⟨a.toArray⟩:Str)==⟨b.toArray⟩):=str_beq.symm
mutual
theorem yT:∀(n k:Nat) (x y:T),aW n x=true->aW k y=true->PyData.eqv (pyT x) (pyT y)=eqT x y
 |0,_,.tup _,.tup _,h,_=>(RK h).elim
 |_+1,0,.tup _,.tup _,_,h=>(RK h).elim
 |n+1,k+1,.tup a,.tup ys,h1,c=>uK n k a ys h1 c
 |0,_,.lst _,.lst _,h,_=>(RK h).elim
 |_+1,0,.lst _,.lst _,_,h=>(RK h).elim
 |n+1,k+1,.lst a,.lst ys,h1,c=>uK n k a ys h1 c
 |n,k,.str a,.str ys,_,_=>str_beq
 |n,k,.non,y,_,c=>by cases y<;>first|rfl|(cases k<;>exact(RK c).elim)
 |n,k,.bl b,y,_,c=>by cases y<;>first|rfl|(cases k<;>exact(RK c).elim)
 |n,k,.int b,y,_,c=>by cases y<;>first|rfl|(cases k<;>exact(RK c).elim)
 |n,k,.str a,.non,_,_=>rfl
 |n,k,.str a,.bl _,_,_=>rfl
 |n,k,.str a,.int _,_,_=>rfl
 |n,k,.str a,.tup _,_,_=>rfl
 |n,k,.str a,.lst _,_,_=>rfl
 |n,k,.tup a,.non,_,_=>rfl
 |n,k,.tup a,.bl _,_,_=>rfl
 |n,k,.tup a,.int _,_,_=>rfl
 |n,k,.tup a,.str _,_,_=>rfl
 |n,k,.tup a,.lst _,_,_=>rfl
 |n,k,.lst a,.non,_,_=>rfl
 |n,k,.lst a,.bl _,_,_=>rfl
 |n,k,.lst a,.int _,_,_=>rfl
 |n,k,.lst a,.str _,_,_=>rfl
 |n,k,.lst a,.tup _,_,_=>rfl
 |n,k,x,.dct _ _,_,c=>by cases k<;>exact(RK c).elim
 |n,k,x,.fH _,_,c=>by cases k<;>exact(RK c).elim
 |n,k,.dct _ _,y,h1,_=>by cases n<;>exact(RK h1).elim
 |n,k,.fH _,y,h1,_=>by cases n<;>exact(RK h1).elim
theorem uK:∀(n k:Nat) (xs ys:List T),bE n xs=true->bE k ys=true->PyData.eqvAll (rD xs) (rD ys)=wY xs ys
 |n,k,[],[],_,_=>rfl
 |n,k,[],_::_,_,_=>rfl
 |n,k,_::_,[],_,_=>rfl
 |n,k,x::xs,y::ys,b,a=>by
  have b:=(RJ _ _).mp b;have a:=(RJ _ _).mp a;show(PyData.eqv (pyT x) (pyT y)&&PyData.eqvAll (rD xs) (rD ys))=(eqT x y&&wY xs ys)
  rw[yT n k x y b.1 a.1,uK n k xs ys b.2 a.2]
end
theorem tU:∀a b:List Nat,gN a b=decide (a<b)
 |[],[]=>by simp[gN]
 |[],_::_=>by simp[gN]
 |_::_,[]=>by simp[gN]
 |a::x,b::y=>by
  unfold gN;rw[tU x y];by_cases h:a<b
  ·rw[Yn h]
   exact(Yq (List.cons_lt_cons_iff.mpr (.inl h))).symm
  ·rw[Yo h]
   by_cases h2:b<a
   ·rw[Yn h2]
    refine(Yp λz=>?_).symm;rcases List.cons_lt_cons_iff.mp z with z|⟨z,_⟩<;>omega
   ·rw[Yo h2]
    have e:a=b:=by omega
    subst e;simp
theorem Io(b:List Nat)(a:Nat):(!(VM ⟨b.toArray⟩ ⟨#[a]⟩ 0 (⟨b.toArray⟩:Str).length 1).isEmpty)=decide (a∈b):=by
 have:=PySem.StrLaws.found_one (⟨b.toArray⟩:Str) a;simpa using this
theorem lM(h:bE n ts=true):∀x∈ts,aW n x=true:=by
 induction ts with
 |nil=>intro x hx;cases hx
 |cons y l ih =>
  intro x hx;have h:=(RJ _ _).mp h;rcases R6.mp hx with rfl|hx
  ·exact h.1
  ·exact ih h.2 x hx
section
variable{X:Cx}{D:Dm}{env:Mi.Env}{cm cm':List RB}{m m':Mem}{s s':RA}{w u:W}{v z:R3}{ch:List RB}{J:VK}{h:Rm}{t x y:T}{l:List T}{a:RB}{Q:VK}{n:Nat}{i:Nat}{c:Bool}
theorem jw:∀{l:List T}{y:List R3},l.length=y.length->(∀(i:Nat) t v,l[i]?=Zz t->y[i]?=Zz v->∃as,Reads h v (pyT t) as)->∃as,ReadsAll h y (rD l) as
 |[],[],_,_=>⟨_,.nil⟩
 |t::l,v::y,q,f=>by
  obtain⟨as,h1⟩:=f 0 t v rfl rfl;obtain⟨bs,h2⟩:=jw (Xp q) λi t v a b=>f (i+1) t v a b
  exact⟨_,.cons h1 h2⟩
theorem RT.reads(r:RT D cm m h t v):∀{n:Nat},aW n t=true->∃as,Reads h v (pyT t) as:=by
 induction r with
 |non=>intro _ _;exact⟨_,.none⟩
 |bl b=>intro _ _;exact⟨_,.bool b⟩
 |int i t=>intro _ _;exact⟨_,.int i t⟩
 |str x t=>intro _ _;exact⟨_,.str _ t⟩
 |tup p _ q _ ih =>
  intro n d;cases n with
  |zero=>exact(RK d).elim
  |succ n =>
   have d:bE n _=true:=d;obtain⟨o,k,e,c,e2,_⟩:=p;obtain⟨as,hr⟩:=jw q λi t v a b=>ih i t v a b (lM d t (Rj a))
   exact⟨_,.tuple e c e2 hr⟩
 |lst p _ q _ ih =>
  intro n d;cases n with
  |zero=>exact(RK d).elim
  |succ n =>
   have d:bE n _=true:=d;obtain⟨⟨k,e⟩,_⟩:=p;obtain⟨as,hr⟩:=jw q λi t v a b=>ih i t v a b (lM d t (Rj a))
   exact⟨_,.list e rfl rfl hr⟩
 |dct _ _ _ _ _ _=>intro n d;cases n<;>exact(RK d).elim
 |fH _ _ _ _=>intro n d;cases n<;>exact(RK d).elim
theorem kP(M:av X cm m h)(r:RW X.D cm m h w v)(e:view w m=Zz t)(d:aW n t=true):∃as,Reads h v (pyT t) as:=by
 cases t with
 |lst l =>
  cases n with
  |zero=>exact(RK d).elim
  |succ n =>
   have d:bE n _=true:=d;obtain⟨a,x,rfl,⟨⟨k,e⟩,_⟩,q⟩:=aE M r e;obtain⟨as,hr⟩:=jw q.1 λi t v a b=>(q.2 i t v a b).reads (lM d t (Rj a))
   exact⟨_,.list e rfl rfl hr⟩
 |_=>exact(ae r e).reads d
theorem EM{f:T->T->Option Bool}(I:Fr X env cm m s)(h:ak X X.tb cm m s (eC (((view w m).bind λx=>(view u m).bind λy=>f x y).map .bl) m) J (WK X Q)):∃x y c,view w m=Zz x/\view u m=Zz y/\f x y=Zz c/\Q (.bool c) s:=by
 obtain⟨t,e,h⟩:=fz h;obtain⟨c,q,rfl⟩:=RL.mp e;obtain⟨x,e1,q⟩:=RP.mp q;obtain⟨y,e2,q⟩:=RP.mp q;exact⟨x,y,c,e1,e2,q,h.now I.mem _ (.bl c)⟩
theorem Gs(hu:X.A.units+64<cLine)(M:av X cm m s.heap)(r1:RW X.D cm m s.heap w v)(r2:RW X.D cm m s.heap u z)(e1:view w m=Zz x)(e2:view u m=Zz y)(hc:(tG x y || (aW 60 x&&aW 60 y))=true):
  (Q (.bool (eqT x y)) s->RF X.M X.A (Vn .Eq v z) Q J s)/\(Q (.bool (!eqT x y)) s->RF X.M X.A (Vn .NotEq v z) Q J s):=by
 rcases Tl _ _▸hc with d|d
 ·have r1:=ae r1 e1 λl z=>by subst z;cases y<;>cases d
  have r2:=ae r2 e2 λl z=>by subst z;cases x<;>cases d
  cases r1<;>cases r2<;>first
   |(cases d;done)
   |(constructor<;>intro h<;>(try rw[CU]at h)<;>(first|with_reducible apply eq_int|with_reducible apply ne_int|with_reducible apply eq_str|with_reducible apply ne_str|with_reducible apply eq_bool|with_reducible apply ne_bool|with_reducible apply PySem.EqNone.eq_none_none|with_reducible apply PySem.EqNone.eq_none_bool|with_reducible apply PySem.EqNone.eq_none_int|with_reducible apply PySem.EqNone.eq_none_str|with_reducible apply PySem.EqNone.eq_bool_none|with_reducible apply PySem.EqNone.eq_int_none|with_reducible apply PySem.EqNone.eq_str_none|with_reducible apply PySem.EqNone.ne_none_none|with_reducible apply PySem.EqNone.ne_none_bool|with_reducible apply PySem.EqNone.ne_none_int|with_reducible apply PySem.EqNone.ne_none_str|with_reducible apply PySem.EqNone.ne_bool_none|with_reducible apply PySem.EqNone.ne_int_none|with_reducible apply PySem.EqNone.ne_str_none|with_reducible apply PySem.EqMixed.eq_bool_str|with_reducible apply PySem.EqMixed.eq_str_bool|with_reducible apply PySem.EqMixed.eq_int_str|with_reducible apply PySem.EqMixed.eq_str_int|with_reducible apply PySem.EqMixed.ne_bool_str|with_reducible apply PySem.EqMixed.ne_str_bool|with_reducible apply PySem.EqMixed.ne_int_str|with_reducible apply PySem.EqMixed.ne_str_int)<;>exact h)
 ·rw[RJ]at d
  obtain⟨as,h1⟩:=kP M r1 e1 d.1;obtain⟨bs,h2⟩:=kP M r2 e2 d.2;have l1:=q8 60 x d.1;have l2:=q8 60 y d.2;rw[<-yT 60 60 x y d.1 d.2];exact⟨SeqAt.compareEq_reads h1 h2 l1.1 l2.1 (by omega),SeqAt.compareNe_reads h1 h2 l1.1 l2.1 (by omega)⟩
theorem HY:eqT .non .non=true:=rfl
theorem IM{c:Bool}:eqT .non (.bl c)=false:=rfl
theorem Iq{j:Int}:eqT .non (.int j)=false:=rfl
theorem Iv{y:List Nat}:eqT .non (.str y)=false:=rfl
theorem G3{a:Bool}:eqT (.bl a) .non=false:=rfl
theorem HS{a:Bool}{c:Bool}:eqT (.bl a) (.bl c)=(a==c):=rfl
theorem Hr{a:Bool}{j:Int}:eqT (.bl a) (.int j)=(b2i a==j):=rfl
theorem HC{a:Bool}{y:List Nat}:eqT (.bl a) (.str y)=false:=rfl
theorem Hj{i:Int}:eqT (.int i) .non=false:=rfl
theorem HP{c:Bool}{i:Int}:eqT (.int i) (.bl c)=(i==b2i c):=rfl
theorem HT{i:Int}{j:Int}:eqT (.int i) (.int j)=(i==j):=rfl
theorem Il{i:Int}{y:List Nat}:eqT (.int i) (.str y)=false:=rfl
theorem Ip{x:List Nat}:eqT (.str x) .non=false:=rfl
theorem Hc{c:Bool}{x:List Nat}:eqT (.str x) (.bl c)=false:=rfl
theorem H2{j:Int}{x:List Nat}:eqT (.str x) (.int j)=false:=rfl
theorem JF{A:SF}(hu:A.units+63<cLine)(r1:RT D cm m s.heap t z)(M:av X cm m s.heap)(r2:RW X.D cm m s.heap w v)(e:view w m=Zz x)(hc:flat t=true/\flat x=true∨aW 59 t=true/\aW 59 x=true):Xg A s z v (eqT t x):=by
 rcases hc with⟨f,g⟩|⟨d,e2⟩
 ·have r2:=ae r2 e λl z=>by subst z;cases g
  cases r1<;>cases r2<;>first
   |(cases f;done)
   |(cases g;done)
   |((try simp only[HY,IM,Iq,Iv,G3,HS,Hr,HC,Hj,HP,HT,Il,Ip,Hc,H2,b2i]);first
    |with_reducible exact SeqAt.EqAt.none_bool _|with_reducible exact SeqAt.EqAt.none_int _ _|with_reducible exact SeqAt.EqAt.none_str _ _|with_reducible exact SeqAt.EqAt.bool_none _|with_reducible exact SeqAt.EqAt.bool_bool _ _|with_reducible exact SeqAt.EqAt.bool_int _ _ _|with_reducible exact SeqAt.EqAt.bool_str _ _ _|with_reducible exact SeqAt.EqAt.int_none _ _|with_reducible exact SeqAt.EqAt.int_bool _ _ _|with_reducible exact SeqAt.EqAt.int_int _ _ _ _|with_reducible exact SeqAt.EqAt.int_str _ _ _ _|with_reducible exact SeqAt.EqAt.str_none _ _|with_reducible exact SeqAt.EqAt.str_bool _ _ _|with_reducible exact SeqAt.EqAt.str_int _ _ _ _|(rw[CU];with_reducible exact SeqAt.EqAt.str_str _ _ _ _)|exact SeqAt.EqAt.same _)
 ·obtain⟨bs,h2⟩:=kP M r2 e e2
  obtain⟨as,h1⟩:=r1.reads d;have l1:=q8 59 t d;have l2:=q8 59 x e2;rw[<-yT 59 59 t x d e2];exact SeqAt.eqAt_reads _ _ A s z v as bs h1 h2 l1.1 l2.1 (by omega)
theorem CI(e:vY x y=Zz c):∃l,(y=.tup l∨y=.lst l)/\(∀t∈l,flat t=true/\flat x=true∨aW 59 t=true/\aW 59 x=true)/\c=l.any λt=>eqT t x:=by
 have k:∀{l:List T},(if flat x&&l.all flat then Zz (l.any λt=>eqT t x)else if aW 59 x&&bE 59 l then Zz (l.any λt=>eqT t x)else Zy)=Zz c->(∀t∈l,flat t=true/\flat x=true∨aW 59 t=true/\aW 59 x=true)/\c=l.any λt=>eqT t x:=λ{l} e=>by
  split at e
  ·cases e
   rename_i h;rw[RJ,SC]at h;exact⟨λt z=>.inl ⟨h.2 t z,h.1⟩,rfl⟩
  ·split at e<;>cases e
   rename_i h;rw[RJ]at h;exact⟨λt z=>.inr ⟨lM h.2 t z,h.1⟩,rfl⟩
 unfold vY at e;split at e
 ·exact⟨_,.inl rfl,k e⟩
 ·exact⟨_,.inr rfl,k e⟩
 ·cases e
theorem Gk(e:JM x y=Zz c):(∃a b,x=.str a/\y=.str b/\c=!(VM ⟨b.toArray⟩ ⟨a.toArray⟩ 0 (⟨b.toArray⟩:Str).length 1).isEmpty)∨vY x y=Zz c:=by
 unfold JM at e;split at e
 ·split at e
  ·cases e;exact .inl ⟨_,_,rfl,rfl,(Io _ _).symm⟩
  ·exact .inr e
 ·split at e
  ·cases e;exact .inl ⟨_,_,rfl,rfl,rfl⟩
  ·exact .inr e
 ·exact .inr e
theorem Hh{A:SF}{f:T->Bool}{y:Array R3}(q:l.length=y.toList.length)(k:∀(i:Nat) t z,l[i]?=Zz t->y.toList[i]?=Zz z->Xg A s z v (f t)):∃e:R3->Bool,(∀z,z∈y->Xg A s z v (e z))/\y.any e=l.any f:=by
 classical
 obtain⟨y⟩:=y;refine⟨λz=>decide (∃(i:Nat) (t:T),l[i]?=Zz t/\y[i]?=Zz z/\f t=true),λz hz=>?_,?_⟩
 ·by_cases q':∃(i:Nat) (t:T),l[i]?=Zz t/\y[i]?=Zz z/\f t=true
  ·obtain⟨i,t,e1,e2,e3⟩:=id q'
   dsimp only;rw[Yq q',<-e3];exact k i t z e1 e2
  ·obtain⟨i,hi,e2⟩:=T5 (show z∈y by simpa using hz)
   have hi':i<l.length:=by simp at q;omega
   have e2:y[i]?=Zz z:=by rw[<-e2];exact RC hi
   have e3:f l[i]=false:=by
    cases q2:f l[i]with
    |false=>rfl
    |true=>exact Ys ⟨i,l[i],RC hi',e2,q2⟩ q'
   dsimp only;rw[Yp q',<-e3];exact k i _ z (RC hi') e2
 ·rw[W6,List.any_toArray,V1,V1]
  constructor
  ·rintro ⟨_,_,q⟩
   obtain⟨i,t,e1,_,e3⟩:=Yt q;exact⟨t,Rj e1,e3⟩
  ·rintro ⟨t,ht,e3⟩
   obtain⟨i,hi,e1⟩:=T5 ht;have hi':i<y.length:=by simp at q;omega
   exact⟨y[i],UP hi',Yq ⟨i,t,by rw[<-e1];exact RC hi,RC hi',e3⟩⟩
theorem Gu(hu:X.A.units+64<cLine)(M:av X cm m s.heap)(r1:RW X.D cm m s.heap w v)(r2:RW X.D cm m s.heap u z)(e1:view w m=Zz x)(e2:view u m=Zz y)(e:JM x y=Zz c):
  (Q (.bool c) s->RF X.M X.A (Vn .In v z) Q J s)/\(Q (.bool (!c)) s->RF X.M X.A (Vn .NotIn v z) Q J s):=by
 rcases Gk e with⟨a,b,rfl,rfl,rfl⟩|e
 ·obtain⟨_,rfl⟩:=(ae r1 e1).kY
  obtain⟨_,rfl⟩:=(ae r2 e2).kY;exact⟨in_str,notIn_str⟩
 ·obtain⟨l,hy,hd,rfl⟩:=CI e
  have hu1:X.A.in1.units<=X.A.units+1:=by simp[Around.in1]
  have k:∀{y:Array R3},fG X.D cm m s.heap l y.toList->∃e:R3->Bool,(∀z,z∈y->Xg X.A.in1 s z v (e z))/\y.any e=l.any λt=>eqT t x:=λq=>Hh q.1 λi t z a b=>JF (by omega) (q.2 i t z a b) M r1 e1 (hd t (Rj a))
  rcases hy with rfl|rfl
  ·obtain⟨a,y,rfl,p,q⟩:=(ae r2 e2).ka
   obtain⟨f,h1,h2⟩:=k q;rw[<-h2];exact⟨SeqAt.in_tupleAt f p.tup h1,SeqAt.notIn_tupleAt f p.tup h1⟩
  ·obtain⟨a,y,rfl,p,q⟩:=aE M r2 e2
   obtain⟨f,h1,h2⟩:=k q;rw[<-h2];exact⟨SeqAt.in_listAt f p.pl.isList h1,SeqAt.notIn_listAt f p.pl.isList h1⟩
theorem GX(M:av X cm m s.heap)(r1:RW X.D cm m s.heap w v)(r2:RW X.D cm m s.heap u z)(e1:view w m=Zz x)(e2:view u m=Zz y)(e:Af x y=Zz c):
  (Q (.bool c) s->RF X.M X.A (Vn .Is v z) Q J s)/\(Q (.bool (!c)) s->RF X.M X.A (Vn .IsNot v z) Q J s):=by
 have hp:plainIs v z=true/\(v==z)=c:=by
  unfold Af at e;split at e
  ·cases ae r2 e2
   cases e;cases x with
   |lst l=>obtain⟨a,x,rfl,_⟩:=aE M r1 e1;exact⟨rfl,rfl⟩
   |_=>cases ae r1 e1<;>exact⟨rfl,rfl⟩
  ·cases ae r2 e2
   cases e;cases x with
   |lst l=>obtain⟨a,x,rfl,_⟩:=aE M r1 e1;exact⟨rfl,rfl⟩
   |bl b=>cases ae r1 e1;rename_i b' ;cases b<;>cases b'<;>exact⟨rfl,rfl⟩
   |_=>cases ae r1 e1<;>exact⟨rfl,rfl⟩
  ·cases e
 rw[<-hp.2];exact⟨wpAny_is_plain hp.1,wpAny_isNot_plain hp.1⟩
theorem yD(op:Yl)(hu:X.A.units+64<cLine)(I:Fr X env cm m s)(r1:RW X.D cm m s.heap w v)(r2:RW X.D cm m s.heap u z)(h:ak X X.tb cm m s (eC (((view w m).bind λx=>(view u m).bind λy=>j9 op x y).map .bl) m) J (WK X Q)):RF X.M X.A (Vn op v z) Q J s:=by
 obtain⟨x,y,c,e1,e2,e,g⟩:=EM I h;clear h;cases op
 case Eq=>obtain⟨hc,e⟩:=RI.mp e;cases e;exact(Gs hu I.mem r1 r2 e1 e2 hc).1 g
 case NotEq=>obtain⟨hc,e⟩:=RI.mp e;cases e;exact(Gs hu I.mem r1 r2 e1 e2 hc).2 g
 case In=>exact(Gu hu I.mem r1 r2 e1 e2 e).1 g
 case NotIn=>obtain⟨c,q,rfl⟩:=RL.mp e;exact(Gu hu I.mem r1 r2 e1 e2 q).2 g
 case Is=>exact(GX I.mem r1 r2 e1 e2 e).1 g
 case IsNot=>obtain⟨c,q,rfl⟩:=RL.mp e;exact(GX I.mem r1 r2 e1 e2 q).2 g
 all_goals
  cases x<;>first
   |(cases e;done)
   |(cases y<;>first
    |(cases e;done)
    |(
     cases e;cases ae r1 e1;cases ae r2 e2;try rw[tU]at g
     first|with_reducible apply lt_int|with_reducible apply le_int|with_reducible apply gt_int|with_reducible apply ge_int|with_reducible apply lt_str|with_reducible apply PySem.P.le_str
     exact g))
end
end Mi
namespace Mi
open PySem PySem.Spec PyProof.Rows
section
variable{X:Cx}{D:Dm}{env:Mi.Env}{cm cm':List RB}{m m':Mem}{s s':RA}{w u:W}{v z:R3}{ch:List RB}{J Q:VK}{h:Rm}{t x y:T}{l:List T}{a:RB}{n:Nat}{i:Nat}{c:Bool}{B:Bool->RA->Prop}{α β γ:Type}
variable{call:Nat->List W->Mem->Res W}{gv:List T}{e f g:S4}{es:List S4}{E F G:Mi.E}{L:Es}{pos p:Pos}{op op':Yl}
abbrev BK(B:Bool->RA->Prop):Bool->List RB->Mem->RA->Prop:=λb _ _ s=>B b s
theorem Al.KA{α β:Type}{R:α->β->Prop}{l:List α}{x:List β}(q:Al R l x):x.isEmpty=l.isEmpty:=by
 have:=q.1;cases l<;>cases x<;>first|rfl|cases this
theorem Bv(I:Fr X env cm m s)(r:RW X.D cm m s.heap w v)(h:ak X X.tb cm m s (bq w m) J (BK B)):RF X.M X.A (truthy v) B J s:=by
 have hl:=line;have hs:Rq=16777216:=TS;unfold bq at h;split at h
 rotate_left
 ·exact h.elim
 rename_i t e;obtain⟨ft,h⟩:=im h;have up:∀{k:Nat},B (xP t) { s with toks:=k }:=λ{k}=>h.to (I.up λ_ _ e=>e).1 (I.up (ch:=[]) λ_ _ e=>e).2.mem
 have h:=h.now I.mem;cases t with
 |lst l =>
  obtain⟨a,x,rfl,p,q⟩:=aE I.mem r e;refine wpAny_truthy_list p.pl.isList (by have:=p.2.2;omega) ?_;rw[<-Vx,q.KA];exact up
 |tup l =>
  obtain⟨a,x,rfl,p,q⟩:=(ae r e).ka;refine truthy_tuple p.tup (by obtain⟨_,_,_,_,_,_,z⟩:=p;omega) ?_;rw[<-Vx,q.KA];exact up
 |str x =>
  obtain⟨_,rfl⟩:=(ae r e).kY;have hf:=Yt ft;refine PySem.P.truthy_str (by rw[gL];omega) ?_;have q:xP (.str x)=(((⟨x.toArray⟩:Str).length:Int) != 0):=by
   rw[gL];cases x with
   |nil=>rfl
   |cons c x=>show true=_;symm;simp;omega
  rw[<-q];exact up
 |dct k l =>
  cases ae r e with
  |@dct a k x l p n l1 l2 _ =>
   refine wpAny_truthy_dict p.2.1 p.2.2.1 (by have:=p.1;omega) ?_;have q:(k.zip x).isEmpty=k.isEmpty:=by cases k<;>cases x<;>first|rfl|cases l1
   rw[q];exact up
 |fH l =>
  cases ae r e with
  |fH l p n _ q =>
   refine wpAny_truthy_list p.pl.isList (by obtain⟨_,_,_,_,_,_,z⟩:=p;omega) ?_;rw[<-Vx,q.KA];exact up
 |non=>cases ae r e;exact truthy_none h
 |bl b=>cases ae r e;exact Sh h
 |int i=>obtain⟨_,rfl⟩:=(ae r e).c9;exact PySem.P.truthy_int h
theorem a9{r:Res α}{f:α->Mem->Res β}{g:β->Mem->Res γ}:(r.bind f).bind g=r.bind λa m=>(f a m).bind g:=by cases r<;>rfl
theorem ak.Lu{r:Res W}(h:ak X ch cm m s (r.bind bq) J (BK B))(k:∀w m',r=.ok w m'->∃c,w=.t (.bl c)):ak X ch cm m s r J (WK X λv s=>RF X.M X.A (truthy v) B J s):=by
 cases r with
 |stuck=>exact h.elim
 |exc x m'=>exact h
 |ok w m' =>
  obtain⟨c,rfl⟩:=k w m' rfl;exact λcm1 s1 x M v r=>by cases r;exact Sh (h cm1 s1 x M)
theorem ak.bt{r:Res W}{f:Bool->Mem->Res W}{k:Bool->List RB->Mem->RA->Prop}(h:ak X ch cm m s ((r.bind λx m=>(lr x m).bind f).bind bq) J k):ak X ch cm m s ((r.bind bq).bind λb m=>(f b m).bind bq) J k:=by
 cases r with
 |stuck=>exact h
 |exc x m'=>exact h
 |ok w m' =>
  cases w with
  |t t=>cases t<;>first|exact h|exact h.elim
  |_=>exact h.elim
theorem qQ{f:Bool->Mem->Res α}{k:α->List RB->Mem->RA->Prop}(h:ak X ch cm m s ((lr w m).bind f) J k):∃b,w=.t (.bl b)/\ak X ch cm m s (f b m) J k:=by
 unfold lr at h;split at h
 ·exact⟨_,rfl,h⟩
 ·exact h.elim
theorem J2(ha:PE call gv X e E)(he:∀b,isTrue e X.env b=(do let v <-b;Uo e.pos;WE [v] (truthy v))):PT call gv X e E:=λenv cm m s I B J h =>
 isTrue_plain (ha.one I h λw v c1 m1 s1 I x r h=>Bv I r h) (he _)
theorem Fg{d:List S4}(ha:PE call gv X e E)(hb:PE call gv X (.BoolOp .And (f::d) pos) F):PE call gv X (.BoolOp .And (e::f::d) pos) (.and E F):=λenv cm m s I Q J h=>by
 rw[xO]at h;refine BoolOp_and (ha.one I h λw v c1 m1 s1 I x r h=>?_);obtain⟨b,rfl,h⟩:=qQ h;cases r;refine Sh ?_;cases b with
 |true=>exact hb _ _ _ _ I Q J h
 |false=>exact I.val' h (.bl _)
theorem Iy{d:List S4}(ha:PE call gv X e E)(hb:PE call gv X (.BoolOp .Or (f::d) pos) F):PE call gv X (.BoolOp .Or (e::f::d) pos) (.or E F):=λenv cm m s I Q J h=>by
 rw[Ex]at h;refine BoolOp_or (ha.one I h λw v c1 m1 s1 I x r h=>?_);obtain⟨b,rfl,h⟩:=qQ h;cases r;refine Sh ?_;cases b with
 |true=>exact I.val' h (.bl _)
 |false=>exact hb _ _ _ _ I Q J h
theorem H0{op}(h:PE call gv X e E):PE call gv X (.BoolOp op [e] pos) E:=λ_ _ _ _ I Q J hp=>BoolOp_one (h _ _ _ _ I Q J hp)
theorem EG(ha:PE call gv X e E):PE call gv X (.UnaryOp .Not e pos) (.not E):=λenv cm m s I Q J h=>by
 rw[xR]at h;refine UnaryOp_ (ha.one I h λw v c1 m1 s1 I x r h=>?_);obtain⟨b,rfl,h⟩:=qQ h;cases r;exact not_of (Sh (I.val' h (.bl _)))
theorem E1(ha:PT call gv X e E):PT call gv X (.UnaryOp .Not e pos) (.not E):=λenv cm m s I B J h=>by
 rw[xR]at h;exact isTrue_not (ha.one I h.bt λb c1 m1 s1 I x h=>h.now I.mem)
theorem E2(ha:PT call gv X e E):PW call gv X (.BoolOp .And [e] pos) E:=λz env cm m s I B J h=>isTrue_and (mK (ha _ _ _ _ I B J h) λb s1 q=>by
 cases b with
 |true=>exact isTrue_and_nil q
 |false=>exact q)
theorem ID(ha:PT call gv X e E):PW call gv X (.BoolOp .Or [e] pos) E:=λz env cm m s I B J h=>isTrue_or (mK (ha _ _ _ _ I B J h) λb s1 q=>by
 cases b with
 |true=>exact q
 |false=>exact isTrue_or_nil q)
theorem EO{d:List S4}(ha:PT call gv X e E)(hb:PW call gv X (.BoolOp .And (f::d) pos) F):PW call gv X (.BoolOp .And (e::f::d) pos) (.and E F):=λz env cm m s I B J h=>by
 rw[xO]at h;refine isTrue_and (ha.one I h.bt λb c1 m1 s1 I x h=>?_);cases b with
 |true=>exact hb z _ _ _ _ I B J h
 |false=>exact h.now I.mem
theorem HD{d:List S4}(ha:PT call gv X e E)(hb:PW call gv X (.BoolOp .Or (f::d) pos) F):PW call gv X (.BoolOp .Or (e::f::d) pos) (.or E F):=λz env cm m s I B J h=>by
 rw[Ex]at h;refine isTrue_or (ha.one I h.bt λb c1 m1 s1 I x h=>?_);cases b with
 |true=>exact h.now I.mem
 |false=>exact hb z _ _ _ _ I B J h
theorem Fy(ha:PE call gv X e E):PE call gv X (.UnaryOp .USub e pos) (.neg E):=λenv cm m s I Q J h=>by
 rw[Cb]at h;refine UnaryOp_ (ha.one I h λw v c1 m1 s1 I x r h=>?_);obtain⟨t,e1,h⟩:=fz h;obtain⟨x,e2,e1⟩:=RP.mp e1;cases x<;>cases e1;obtain⟨_,rfl⟩:=(ae r e2).c9;exact neg_int (I.val h (.int _ _))
theorem JX(ha:PE call gv X e E)(hb:PE call gv X f F)(hu:X.A.units+64<cLine)(I:Fr X env cm m s)(h:ak X X.tb cm m s (ev call gv (.cmp op E F) env m) J (WK X Q)):RF X.M X.A (eval e X.env) (λv=>RF X.M X.A (eval f X.env) (λz=>RF X.M X.A (Vn op v z) Q J) J) J s:=by
 rw[xG]at h;exact ha.two hb I h λw u v z c1 m1 s1 I x r1 r2 h=>yD op hu I r1 r2 h
theorem He{o:Option Bool}(h:eC (o.map .bl) m=.ok w m'):∃c,w=.t (.bl c):=by cases o<;>cases h;exact⟨_,rfl⟩
theorem Fe(ha:PE call gv X e E)(hb:PE call gv X f F)(hm:behindInMarks op f=false)(hu:X.A.units+64<cLine):PE call gv X (.Compare e [op] [f] pos) (.cmp op E F):=λenv cm m s I Q J h=>wpAny_Compare1 (JX ha hb hu I h) hm
theorem Ga(ha:PE call gv X e E)(hb:PE call gv X f F)(hm:behindInMarks op f=false)(hu:X.A.units+64<cLine):PT call gv X (.Compare e [op] [f] pos) (.cmp op E F):=λenv cm m s I B J h=>wpAny_isTrue_Compare1 (JX ha hb hu I (h.Lu λw m' e=>by
 rw[xG]at e;obtain⟨_,_,_,e⟩:=ap e;obtain⟨_,_,_,e⟩:=ap e;exact He e)) hm
theorem Gj(ha:PE call gv X e E)(hb:PE call gv X f F)(hc:PE call gv X g G)(hm:lastMarks [op,op'] [f,g]=false)(hu:X.A.units+64<cLine):PE call gv X (.Compare e [op,op'] [f,g] pos) (.GQ op op' E F G):=λenv cm m s I Q J h=>by
 rw[DQ]at h;refine Compare_chain (ha.one I h λw v c1 m1 s1 I1 x1 r1 h=>chain_link (hb.one I1 h λu z c2 m2 s2 I2 x2 r2 h=>yD op hu I2 (r1.go x2 I1.mem I1.nc.q) r2 ?_)) hm;split at h
 ·rename_i e1
  rw[e1];intro c3 s3 x3 M3 v r;cases r;have I3:=I2.go x3 M3 I2.nc;refine Sh (ite_tt (chain_last (hc.one I3 (h.shift x3) λw' z' c4 m4 s4 I4 x4 r4 h=>yD op' hu I4 ((r2.go x3 I2.mem I2.nc.q).go x4 I3.mem I3.nc.q) r4 h)))
 ·rename_i e1
  rw[e1];intro c3 s3 x3 M3 v r;cases r;exact Sh (ite_ff (h c3 s3 x3 M3 _ (.bl _)))
 ·exact h.elim
end
noncomputable def notStar:S4->Bool
 |.Starred _ _=>false
 |_=>true
theorem bu{env:SZ}(h:notStar e=true):Tx (e::es) env=(false,eval e env)::Tx es env:=by
 cases e<;>first|rfl|cases h
theorem yx:∀{a:List S4},a.all notStar=true->(backTo pos (Tx a env)).all (λx=>!x.1)=true
 |[],_=>rfl
 |e::a,h=>by
  rw[Wh,RJ]at h;rw[bu h.1];show(!false&&(backTo pos (Tx a env)).all (λx=>!x.1))=true;rw[yx h.2];rfl
theorem ia{env:SZ}{a:List S4}(h:a.all notStar=true):(backTo pos (Tx a env)).any (·.1)=false:=by
 have c:=yx (pos:=pos) (env:=env) h;rw[List.any_eq_false];intro x b;have:=SC.mp c x b;simpa using this
theorem bJ{t:T}{ts:List T}(q:views ws m=Zz (t::ts)):∃w us,ws=w::us/\view w m=Zz t/\views us m=Zz ts:=by
 cases ws with
 |nil=>cases q
 |cons w us =>
  unfold views at q;cases q1:view w m with
  |none=>rw[q1]at q;cases q
  |some u =>
   rw[q1]at q;cases q2:views us m with
   |none=>rw[q2]at q;cases q
   |some v=>rw[q2]at q;cases q;exact⟨w,us,rfl,q1,q2⟩
theorem jN(q:views ws m=Zz []):ws=[]:=by
 cases ws with
 |nil=>rfl
 |cons w us =>
  unfold views at q;cases q1:view w m with
  |none=>rw[q1]at q;cases q
  |some u =>
   rw[q1]at q;cases q2:views us m with
   |none=>rw[q2]at q;cases q
   |some v=>rw[q2]at q;cases q
theorem mR{f:T->Option T}:∀{ts:List T}{t:T},i4 f ts=Zz t->∃x,ts=[x]/\f x=Zz t
 |[],_,h=>by cases h
 |[x],_,h=>⟨x,rfl,h⟩
 |_::_::_,_,h=>by cases h
theorem nv(h:Cy f ts=Zz t):∃i j,ts=[.int i,.int j]/\f i j=Zz t:=by
 unfold Cy at h;split at h
 ·exact⟨_,_,rfl,h⟩
 ·cases h
theorem cY{b:B}(hb:b∉[B.min2,.nU,.max2,.wD]):∀ts t,iR b ts=Zz t->ts.length=1:=by
 intro ts t h;have h1:∀f:T->Option T,i4 f ts=Zz t->ts.length=1:=λf h=>by
  obtain⟨x,rfl,_⟩:=mR h;rfl
 cases b<;>first|exact h1 _ h|exact Ys hb (by decide)|cases h
theorem pT{s:RA}{h':Rm}(c:∀b x,b∉[s.heap.objs.size]->(s.heap.push o).get? b=Zz x->h'.get? b=Zz x):∀b x,s.heap.get? b=Zz x->h'.get? b=Zz x:=
 λb x e=>c b x (λa=>by rw[RH.mp a]at e;exact S7 _ (Re e)) (R7 _ e)
theorem BW{α:Type}(f:List α->Bool)(bs:List Bool)(d:Bool):(SX bs.length).map (λi=>(bs[i]?).getD d)=bs:=by
 apply VV;intro i;rw[RR];by_cases h:i<bs.length
 ·rw[List.getElem?_range h];simp[h]
 ·simp[h]
section
variable{X:Cx}{D:Dm}{env:Mi.Env}{cm cm':List RB}{m m':Mem}{s s':RA}{w u:W}{v z:R3}{ch:List RB}{J Q:VK}{h g:Rm}{t x y:T}{l:List T}{ws:List W}{us:List R3}{a:RB}{n:Nat}{i:Nat}{c:Bool}{α β γ:Type}{b:Mi.B}
variable{call:Nat->List W->Mem->Res W}{gv:List T}{e f c:S4}{es:List S4}{E F G:Mi.E}{L:Es}{pos p:Pos}{N:Str}
def Gl(X:Cx)(x:Str):Prop:=X.env.kindOf x=Zz .globalImplicit
theorem ln{s:RA}{x:Str}{u:R3}{E:VK}(I:Fr X env cm m s)(hg:Gl X x)(hm:X.mg x=Zz u)(h:Q u s)(hd:(x==("__debug__" : Str))=false):RF X.M X.A (eval (.Name x pos) X.env) Q E s:=
 Calls.Name_function_global I.ok.kind hg (Calls.loadGlobal_global (by rw[I.ok.glob];exact I.ok.mod.glob.keeps I.bs) hm h) hd
theorem dy{s:RA}{x:Str}{u:R3}{E:VK}(I:Fr X env cm m s)(hg:Gl X x)(hm:X.mg x=Zy)(hv:UE x=Zz u)(h:Q u s)(hn:x≠"__name__":=by decide)(hd:(x==("__debug__" : Str))=false:=by decide):RF X.M X.A (eval (.Name x pos) X.env) Q E s:=by
 obtain⟨k,h1,h2⟩:=I.ok.mod.blt;exact Calls.Name_function_global I.ok.kind hg (Calls.loadGlobal_builtin (by rw[I.ok.glob];exact I.ok.mod.glob.keeps I.bs) hm (by rw[I.ok.blt];exact h1.keeps I.bs) ((h2 x hn).trans hv) h) hd
def VT(K:To)(u:R3)(t:T):Prop:=∀X:Cx,X.K=K->∀cm m h,av X cm m h->K.In h->(∀b∈X.fs,K.lookup b=Zy)->RT X.D cm m h t u
inductive a8 (B:Bs) (x:Str) (t:T):Prop where
 |mk (k:R3) (_:B.mg x=Zz k) (_:VT B.K k t)
theorem Fr.Ls(I:Fr X env cm m s):∀b∈X.fs,X.K.lookup b=Zy:=λb hb=>by
 cases e:X.K.lookup b with
 |none=>rfl
 |some o=>have:=I.ok.mod.gO _ _ e;rw[(I.bF b hb).1]at this;cases this
theorem bG{x:Str}{k:Nat}(hg:Gl X x)(hk:gv[k]?=Zz t)(ok:a8 X.toBs x t)(hd:(x==("__debug__" : Str))=false):PE call gv X (.Name x pos) (.gl k):=λenv cm m s I Q J h=>by
 obtain⟨u,h1,h2⟩:=ok;rw[GV,hk]at h;exact ln I hg h1 (I.val' h (h2 X rfl _ _ _ I.mem I.gO I.Ls)) hd
def CB(X:Cx)(f:R3)(b:Mi.B):Prop:=∀env cm m s,Fr X env cm m s->∀ws us,sr X.D cm m s.heap ws us->∀Q J:VK,ak X X.tb cm m s (eC ((views ws m).bind λl=>iR b l) m) J (WK X Q)->RF X.M X.A (Sq f us) Q J s
theorem fY{id:String}(j:CB X (.builtin id) b)(d:UE N=Zz (.builtin id))(h:Gl X N)(g:X.mg N=Zy)(k:PA call gv X (e::es) L)(f:N≠"__name__")(c:(N==("__debug__" : Str))=false)(i:notStar e=true)(a:es.all notStar=true):PE call gv X (.Call (.Name N p) (e::es) [] pos) (.blt b L):=λenv cm m s I Q J q=>by
 rw[fA]at q;exact Se (dy I h g d (Tb (k.one I q λws us c1 m1 s1 I x r q=>j _ _ _ _ I _ _ r _ _ q) (bu i) (ia a)) f c)
theorem ud{id:String}(j:CB X (.type id) b)(d:UE N=Zz (.type id))(h:Gl X N)(g:X.mg N=Zy)(k:PA call gv X (e::es) L)(f:N≠"__name__")(c:(N==("__debug__" : Str))=false)(i:notStar e=true)(a:es.all notStar=true):PE call gv X (.Call (.Name N p) (e::es) [] pos) (.blt b L):=λenv cm m s I Q J q=>by
 rw[fA]at q;exact Se (dy I h g d (Ss (k.one I q λws us c1 m1 s1 I x r q=>j _ _ _ _ I _ _ r _ _ q) (bu i) (ia a)) f c)
theorem qi(r:sr X.D cm m h ws us)(h1:∀l t,iR b l=Zz t->l.length=1)(q:ak X X.tb cm m s (eC ((views ws m).bind λl=>iR b l) m) J (WK X Q)):
  ∃w v t r,ws=[w]/\us=[v]/\RW X.D cm m h w v/\view w m=Zz t/\iR b [t]=Zz r/\ak X X.tb cm m s (.ok (.t r) m) J (WK X Q):=by
 obtain⟨t,e0,ho⟩:=fz q;clear q;obtain⟨l,q,e⟩:=RP.mp e0;clear e0;obtain⟨t1,rfl⟩:=List.length_eq_one_iff.mp (h1 l t e);obtain⟨w,us,rfl,q1,q2⟩:=bJ q;obtain rfl:=jN q2;obtain⟨v,y,rfl,r1,r2⟩:=r.inv;obtain rfl:=RY.mp r2.1.symm;exact⟨w,v,t1,t,rfl,rfl,r1,q1,e,ho⟩
theorem AS:CB X (.builtin "len") .len:=λenv cm m s I ws us r Q J q=>by
 obtain⟨w,v,t,rr,rfl,rfl,r,e,c,q⟩:=qi r (cY (by decide)) q;have hl:=line;have hs:Rq=16777216:=TS;cases t with
 |str l =>
  obtain⟨hc,c⟩:=RI.mp c;cases c;obtain⟨_,rfl⟩:=(ae r e).kY;exact len_str (by rw[gL];omega) (by rw[gL];exact I.val q (.int _ _))
 |tup l =>
  cases c;obtain⟨a,x,rfl,p,k⟩:=(ae r e).ka;have h1:=k.1;rw[k.1]at q;exact len_tuple p.tup (by obtain⟨_,_,_,_,_,_,z⟩:=p;omega) (I.val q (.int _ _))
 |lst l =>
  cases c;obtain⟨a,x,rfl,p,k⟩:=aE I.mem r e;rw[k.1]at q;exact Calls.call_len_list p.pl.isList (by have:=p.2.2;omega) (I.val q (.int _ _))
 |fH l =>
  cases c;cases ae r e with
  |fH l p n _ k =>
   rw[k.1]at q;exact Calls.call_len_list p.pl.isList (by obtain⟨_,_,_,_,_,_,z⟩:=p;omega) (I.val q (.int _ _))
 |_=>cases c
theorem Be:CB X (.type "int") .int:=λenv cm m s I ws us r Q J q=>by
 obtain⟨w,v,t,rr,rfl,rfl,r,e,f,q⟩:=qi r (cY (by decide)) q;cases t with
 |int i =>
  cases f;obtain⟨_,rfl⟩:=(ae r e).c9;exact call_int_int (I.val' q (.int _ _))
 |bl b =>
  cases f;obtain rfl:=(ae r e).KN;exact call_int_bool (I.val q (.int _ _))
 |str a =>
  obtain⟨hc,f⟩:=RI.mp (show(if a≠[]/\a.length<=600/\a.all (λc=>decide (48<=c)&&decide (c<=57))=true then Zz (T.int (JZ a))else Zy)=Zz rr from f);cases f;obtain⟨_,rfl⟩:=(ae r e).kY;have hd:NumText.AllDigits (⟨a.toArray⟩:Str).cps.toList:=λc hcm=>by
   have:=SC.mp hc.2.2 c (by simpa using hcm);rw[RJ]at this;exact⟨Yt this.1,Yt this.2⟩
  have hz:(⟨a.toArray⟩:Str).length<=600:=by rw[gL];exact hc.2.1
  refine W.KIN.call_text (PySem.intText_digits hd (by simpa using hc.1) (by omega)) (by omega) ?_;rw[show(⟨a.toArray⟩:Str).cps.toList=a from by simp];exact I.val q (.int _ _)
 |_=>cases f
theorem vJ(f:X.calm=true):CB X (.type "tuple") .tuple:=λenv cm m s I ws us r Q J q=>by
 obtain⟨w,v,t,rr,rfl,rfl,r,e,k,q⟩:=qi r (cY (by decide)) q;have hl:=line;cases t with
 |tup l =>
  cases k;obtain⟨a,x,rfl,p,k⟩:=(ae r e).ka;exact call_tuple_same p.tup (I.val' q (.tup p (ae r e).tf k.1 k.2))
 |lst l =>
  cases k;obtain⟨a,x,rfl,p,k⟩:=aE I.mem r e;exact call_tuple_list p.pl.isList (λh' kp=>I.tup (y:=x.toList) (n:=s.toks) (d:=s.drawn) q k (λb o e=>R7 _ (kp b o e)) (.new rfl rfl rfl rfl p.2.2) (GI kp)) p.2.2
 |str g =>
  obtain⟨hc,k⟩:=RI.mp (show(if g.length<=lim then Zz (T.tup (g.map λc=>T.str [c]))else Zy)=Zz rr from k);cases k;obtain⟨_,rfl⟩:=(ae r e).kY;have hz:(⟨g.toArray⟩:Str).cps.size=g.length:=by simp
  refine call_tuple_str (I.ok.hd f) ⟨g.toArray⟩ _ (λh' n y kp it=>?_) (by omega);obtain⟨i1,i2⟩:=it;refine I.tup (y:=y.toList) (d:=s.drawn) q ⟨by simp at i1 ⊢;omega,λi t v a b=>?_⟩ (λb o e=>R7 _ (kp b o e)) (.new rfl rfl rfl rfl (by simp;omega)) (GI kp);obtain⟨c,u,e1,e2⟩:=i2 i v (by simpa using b);rw[RR,show g[i]?=Zz c from by simpa using e1]at a;cases a;rw[e2];exact .str _ _
 |_=>cases k
theorem yB:CB X (.type "list") .list:=λenv cm m s I ws us r Q J q=>by
 obtain⟨w,v,t,rr,rfl,rfl,r,e,k,q⟩:=qi r (cY (by decide)) q;have fin:∀{l:List T}{x:Array R3}{h':Rm}{c':Nat},ak X X.tb cm m s (.ok (.t (.lst l)) m) J (WK X Q)->fG X.D cm m s.heap l x.toList->x.size<=Rq->(∀b o',s.heap.get? b=Zz o'->h'.get? b=Zz o')->h'.get? s.heap.objs.size=Zz { cls:=.type "list",data:=.seq x c' }->Q (.ref s.heap.objs.size) { s with heap:=h' }:=λq k z kp e =>
  I.lst (n:=s.toks) (d:=s.drawn) q k kp (iX _) ⟨⟨_,by simpa using e⟩,λhb=>by obtain⟨_,o,ho,_⟩:=I.bF _ hb;exact S7 _ (Re ho),by simpa using z⟩
 cases t with
 |tup l =>
  cases k;obtain⟨a,x,rfl,p,k⟩:=(ae r e).ka;obtain⟨o,n,e1,c,d,_,z⟩:=p;exact call_list_seq a (.inr rfl) e1 c d (λh' c' kp e=>fin q k z kp e) z
 |lst l =>
  cases k;obtain⟨a,x,rfl,p,k⟩:=aE I.mem r e;obtain⟨⟨n,e1⟩,_,z⟩:=p;exact call_list_seq a (.inl rfl) e1 rfl rfl (λh' c' kp e=>fin q k z kp e) z
 |_=>cases k
theorem qN:∀{l:List T}{y:List R3}{b:List Bool},fG D cm m h l y->cE l=Zz b->y=b.map Vo
 |[],y,_,r,e=>by cases e;exact RY.mp r.1.symm
 |t::l,_,b,r,e=>by
  obtain⟨v,y,rfl,r1,r2⟩:=r.inv;cases t with
  |bl c =>
   obtain⟨f,q,rfl⟩:=RL.mp (show(cE l).map (c::·)=Zz b from e);rw[qN r2 q,r1.KN];rfl
  |_=>cases e
theorem Ba(hc:X.calm=true):CB X (.builtin "all") .all:=λenv cm m s I ws us r Q J q=>by
 obtain⟨w,v,t,rr,rfl,rfl,r,e,k,q⟩:=qi r (cY (by decide)) q;have fin:∀{l:List T}{y:Array R3}{a:RB},(cE l).map (λd=>T.bl (d.all id))=Zz rr->fG X.D cm m s.heap l y.toList->(∃o,s.heap.get? a=Zz o)->∃b:List Bool,y=(b.map Vo).toArray/\a≠s.heap.objs.size /\
   TruthOf X.prog X.w X.A.in1 (λi v=>y[i]?=Zz v) (λi=>(b[i]?).getD true)/\∀(h':Rm) (tk:Nat),(∀b o,s.heap.get? b=Zz o->h'.get? b=Zz o)->Q (.bool ((SX y.size).all λi=>(b[i]?).getD true)) { s with heap:=h',toks:=tk }:=λ{l y a} k r ⟨o,ho⟩=>by
  obtain⟨b,q2,rfl⟩:=RL.mp k;obtain⟨y⟩:=y;obtain rfl:=qN r q2;refine⟨b,rfl,Rd (Re ho),λi v s' Q' E' hP k=>?_,λh' tk kp=>?_⟩
  ·have hP:(b.map Vo)[i]?=Zz v:=by simpa using hP
   rw[RR]at hP;obtain⟨c,qq,rfl⟩:=RL.mp hP;dsimp only at k;rw[qq]at k;exact Sh k
  ·have e:((SX (b.map Vo).toArray.size).all λi=>(b[i]?).getD true)=b.all id:=by
    rw[Rz,R2];have:=congrArg (λl=>l.all id) (BW (α:=Nat) (λ_=>true) b true);rw[<-this,List.all_map];rfl
   rw[e];exact q.to (I.up (d:=s.drawn) kp).1 (I.up (ch:=[]) kp).2.mem _ (.bl _)
 cases t with
 |lst l =>
  obtain⟨a,y,rfl,p,r⟩:=aE I.mem r e;obtain⟨⟨n,ho⟩,_⟩:=id p;obtain⟨b,_,hn,tr,fin⟩:=fin (a:=a) k r ⟨_,ho⟩;have j:=p.pl.isList;exact call_all_walk (VS j ⟨s.heap.objs.size,[s.heap.objs.size,a],[s.heap.objs.size],y.size,_,_,_,rfl,Vm (A:=X.A.in1) (I.ok.hd hc) _ a hn y,⟨⟨_,RN _ rfl,rfl,rfl⟩,j.push _⟩,tr,λh' tk hk=>fin h' tk (pT hk)⟩)
 |tup l =>
  obtain⟨a,y,rfl,p,r⟩:=(ae r e).ka;have j:=p.tup;obtain⟨o,n,ho,_⟩:=id p;obtain⟨b,_,hn,tr,fin⟩:=fin (a:=a) k r ⟨_,ho⟩;exact call_all_walk (VG j ⟨s.heap.objs.size,[s.heap.objs.size,a],[s.heap.objs.size],y.size,_,_,_,rfl,Vy (A:=X.A.in1) (I.ok.hd hc) _ a hn y,⟨⟨_,RN _ rfl,rfl,rfl⟩,(let⟨o,n,r⟩:=j;⟨o,R7 _ n,r⟩)⟩,tr,λh' tk hk=>fin h' tk (pT hk)⟩)
 |_=>cases k
theorem Ar(hc:X.calm=true):CB X (.builtin "min") .min2:=λenv cm m s I ws us r Q J q=>by
 obtain⟨t,e0,ho⟩:=fz q;clear q;obtain⟨l,e1,e⟩:=RP.mp e0;clear e0;obtain⟨i,j,rfl,e⟩:=nv e;cases e;obtain⟨w1,ws,rfl,v1,e1⟩:=bJ e1;obtain⟨w2,ws,rfl,v2,e1⟩:=bJ e1;obtain rfl:=jN e1;obtain⟨v,y,rfl,r1,r⟩:=r.inv;obtain⟨z,y,rfl,r2,r⟩:=r.inv;obtain rfl:=RY.mp r.1.symm;obtain⟨_,rfl⟩:=(ae r1 v1).c9;obtain⟨_,rfl⟩:=(ae r2 v2).c9;refine min_two_ints (I.ok.hd hc) λh' tk k=>ho.to (I.up (d:=s.drawn) k).1 (I.up (ch:=[]) k).2.mem _ ?_
 by_cases hj:j<i
 ·rw[Yn hj,Yn hj];exact .int _ _
 ·rw[Yo hj,Yo hj];exact .int _ _
theorem Ft(c:Gl X "len")(b:X.mg "len" = Zy)(f:PA call gv X (e::es) L)(d:notStar e=true)(a:es.all notStar=true):PE call gv X (.Call (.Name "len" p) (e::es) [] pos) (.blt .len L):=fY AS (by decide +kernel) c b f (by decide) (by decide) d a
theorem Cj(c:Gl X "int")(b:X.mg "int" = Zy)(f:PA call gv X (e::es) L)(d:notStar e=true)(a:es.all notStar=true):PE call gv X (.Call (.Name "int" p) (e::es) [] pos) (.blt .int L):=ud Be (by decide +kernel) c b f (by decide) (by decide) d a
theorem xX(c:Gl X "tuple")(b:X.mg "tuple" = Zy)(g:PA call gv X (e::es) L)(d:notStar e=true)(a:es.all notStar=true)(f:X.calm=true:=by rfl):PE call gv X (.Call (.Name "tuple" p) (e::es) [] pos) (.blt .tuple L):=ud (vJ f) (by decide +kernel) c b g (by decide) (by decide) d a
theorem Br(c:Gl X "list")(b:X.mg "list" = Zy)(f:PA call gv X (e::es) L)(d:notStar e=true)(a:es.all notStar=true):PE call gv X (.Call (.Name "list" p) (e::es) [] pos) (.blt .list L):=ud yB (by decide +kernel) c b f (by decide) (by decide) d a
theorem C0(c:Gl X "all")(b:X.mg "all" = Zy)(g:PA call gv X (e::es) L)(d:notStar e=true)(a:es.all notStar=true)(f:X.calm=true:=by rfl):PE call gv X (.Call (.Name "all" p) (e::es) [] pos) (.blt .all L):=fY (Ba f) (by decide +kernel) c b g (by decide) (by decide) d a
theorem El(c:Gl X "min")(b:X.mg "min" = Zy)(g:PA call gv X (e::es) L)(d:notStar e=true)(a:es.all notStar=true)(f:X.calm=true:=by rfl):PE call gv X (.Call (.Name "min" p) (e::es) [] pos) (.blt .min2 L):=fY (Ar f) (by decide +kernel) c b g (by decide) (by decide) d a
end
section
variable{prog:Ry}{w:SS}{A:SF}{E:R3->RA->Prop}{s:RA}
theorem vR(n d:Nat)(hd:d<=n)(o:Option Int):ax n d o<=n:=by
 cases o with
 |none=>exact hd
 |some v =>
  show(if v<0 then(v+(n:Int)).toNat else min v.toNat n)<=n;split<;>omega
theorem zO(v:Int)(n d:Nat):(if v<0 then max (v+(n:Int)) 0 else min v (n:Int))=((ax n d (Zz v):Nat):Int):=by
 show _=(((if v<0 then(v+(n:Int)).toNat else min v.toNat n):Nat):Int)
 split<;>omega
theorem yN(lo hi:Option Int)(n:Nat):V4 lo hi 1 (n:Int)=(((ax n 0 lo:Nat):Int),((ax n n hi:Nat):Int)):=by
 have h1:¬((1:Int)<0):=by omega
 unfold V4;simp only[h1,if_false];refine Yh ?_ ?_
 ·cases lo with
  |none=>rfl
  |some v=>exact zO v n 0
 ·cases hi with
  |none=>rfl
  |some v=>exact zO v n n
theorem xC(i j:Nat):U6 (i:Int) (j:Int) 1=j-i:=by
 unfold U6;have h1:(1:Int)>0:=by omega
 simp only[h1,if_true,Int.ediv_one];split<;>omega
theorem qe{v:R3}{o:Option Int}{Q:Option Int->RA->Prop}(p:Wi v o)(h:Q o s):RF (Rp prog w) A (Builtin.Slice.slicePartIndex v) Q E s:=by
 cases p with
 |none=>exact slicePart_none h
 |int i t=>exact slicePart_int h
theorem mS{sl:RB}{vl vu:R3}{lo hi:Option Int}{n:Nat}{Q:Int×Int×Nat->RA->Prop}(hs:s.heap.IsSliceOf sl vl vu .none)(pl:Wi vl lo)(pu:Wi vu hi)(h:Q (((ax n 0 lo:Nat):Int),1,ax n n hi-ax n 0 lo) s):RF (Rp prog w) A (Builtin.Slice.sliceApplied (.ref sl) (pure (n:Int))) Q E s:=by
 obtain⟨os,hos,hcs,hds⟩:=id hs;unfold Builtin.Slice.sliceApplied Builtin.Slice.sliceFields;refine R0 (R0 (SV hos hds (x:=vl) rfl (R0 (SV hos hds (x:=vu) rfl (R0 (SV hos hds (x:=.none) rfl (R5 ?_)))))));refine R0 (slicePart_none ?_);show RF _ _ (if((1:Int)==0)=true then _ else _) _ _ s;rw[Yo (by decide)];refine R0 (qe pl (R0 (qe pu (R0 (R5 ?_)))));show RF _ _ (match V4 lo hi 1 (n:Int)with|(lo,hi)=>pure (lo,(1:Int),U6 lo hi 1)) _ _ s;rw[yN lo hi n];show RF _ _ (pure (((ax n 0 lo:Nat):Int),(1:Int),U6 ((ax n 0 lo:Nat):Int) ((ax n n hi:Nat):Int) 1)) _ _ s;rw[xC];exact R5 h
theorem Ec(xs:Array R3)(i k:Nat):((SX k).filterMap λ(m:Nat)=>xs[((i:Int)+(m:Int)*1).toNat]?).toArray=((xs.toList.drop i).take k).toArray:=by
 have e:(λ(m:Nat)=>xs[((i:Int)+(m:Int)*1).toNat]?)=λm=>xs[i+m]?:=by
  funext m
  have:((i:Int)+(m:Int)*1).toNat=i+m:=by omega
  rw[this]
 rw[e];have:=pick_run xs i k;rw[List.filterMap_map]at this;have e2:((λx=>xs[x]?) ∘ λx=>i+x)=λm=>xs[i+m]?:=rfl
 rw[e2]at this;rw[this]
theorem AA{t sl:RB}{x:Array R3}{vl vu:R3}{lo hi:Option Int}{Q:R3->RA->Prop}(ht:Ye s.heap t x)(hs:s.heap.IsSliceOf sl vl vu .none)(pl:Wi vl lo)(pu:Wi vu hi)(hsz:x.size<=Rq)(h1:cut x.toList lo hi=x.toList->Q (.ref t) s)(h2:Q (.ref s.heap.objs.size) { s with heap:=s.heap.push { cls:=.type "tuple",data:=.seq (cut x.toList lo hi).toArray } }):RF (Rp prog w) A (WF (.ref t) (.ref sl)) Q E s:=by
 obtain⟨os,hos,hcs,hds⟩:=id hs;have hTs:s.TypeIs (.ref sl) "slice":=⟨os,hos,hcs⟩
 have e:cut x.toList lo hi=(x.toList.drop (ax x.size 0 lo)).take (ax x.size x.size hi-ax x.size 0 lo):=rfl;have hz:(cut x.toList lo hi).toArray.size<=Rq:=by rw[e,Rz,Sm,Tc,RM];omega
 have hj:ax x.size x.size hi<=x.size:=vR _ _ (RO _) hi;unfold WF
 try with_reducible refine SE ?_
 first|refine R0 (R5 ?_)|skip
 refine R0 (wpAny_sequenceKey ht.typeIs (by decide) ?_);refine R0 (SU (name:=UU "__getitem__") ht.typeIs Vi
  (SK Vi ht.typeIs entry_tuple_getitem ?_ (args_tuple_getitem _ _)))
 show RF _ _ (Builtin.Tuple.tupleItemsOf (.ref t) >>= _) _ _ s;refine R0 (tupleItemsOf_ ht ?_);refine R0 (X7 hTs ?_);rw[Yn (by decide)];refine R0 (mS hs pl pu ?_);show RF _ _ (if(((ax x.size 0 lo:Nat):Int)==0&&(1:Int)==1&&(ax x.size x.size hi-ax x.size 0 lo)==x.size)=true then _ else _) _ _ s;split
 ·rename_i q
  rw[RJ,RJ]at q;have q1:((ax x.size 0 lo:Nat):Int)=0:=eq_of_beq q.1.1;have q2:ax x.size x.size hi-ax x.size 0 lo=x.size:=eq_of_beq q.2;refine R0 ?_;unfold Builtin.Tuple.tupleIsExact;refine R0 (X7 ht.typeIs (R5 ?_));rw[Yn (by decide)];refine R0 (UH (R5 ⟨_,rfl,R5 (h1 ?_)⟩));rw[e,q2,show ax x.size 0 lo=0 by omega,XM,<-RM,Vp]
 ·rw[Ec]
  rw[e]at h2 hz
  first
   |exact R0 (m:=UL _) (SG (R5 ⟨_,rfl,R5 h2⟩) hz)
   |exact R0 (m:=UL _) (SG (R0 (R5 (R5 ⟨_,rfl,R5 h2⟩))) hz)
   |exact R0 (R0 (m:=UL _) (SG (R5 (R5 ⟨_,rfl,R5 h2⟩)) hz))
   |exact R0 (R0 (m:=UL _) (SG (R5 ⟨_,rfl,R5 h2⟩) hz))
theorem ie{α:Type}(xs:List α)(lo hi:Option Int):cut xs lo hi=(xs.drop (ax xs.length 0 lo)).take (ax xs.length xs.length hi-ax xs.length 0 lo):=rfl
theorem DG(x y:Nat):sliceRange (x:Int) (y:Int) 1=(SX (y-x)).map λk=>x+k:=by
 unfold sliceRange;simp only[show((1:Int)>0)=True from by simp,if_true];by_cases h:(x:Int)<y
 ·have a:(((y:Int)-x+1-1) / 1).toNat=y-x:=by first|omega|(simp;done)|(simp;omega)
  rw[Yn h,a];refine UO λk _=>?_
  omega
 ·have a:y-x=0:=by omega
  rw[Yo h,a];rfl
theorem lC(n d:Nat)(v:Int):max 0 (min (if v<0 then v+n else v) (n:Int))=((ax n d (Zz v):Nat):Int):=by
 show max 0 (min (if v<0 then v+n else v) (n:Int))=(((if v<0 then(v+(n:Int)).toNat else min v.toNat n):Nat):Int)
 split<;>omega
theorem yl(lo hi:Option Int)(n:Nat):(Builtin.Str.strSliceIndices lo hi 1 n)=(SX (ax n n hi-ax n 0 lo)).map λk=>ax n 0 lo+k:=by
 rw[<-DG];unfold Builtin.Str.strSliceIndices;cases lo with
 |none =>
  cases hi with
  |none=>rfl
  |some j =>
   rw[<-lC];rfl
 |some i =>
  cases hi with
  |none =>
   rw[<-lC];rfl
  |some j =>
   rw[<-lC,<-lC];rfl
theorem Bn{prog:Ry}{w:SS}{E:R3->RA->Prop}{s:RA}{lo hi:Option Int}(hs:s.heap.IsSliceOf sl vl vu .none)(pl:Wi vl lo)(pu:Wi vu hi)(hz:cs.length<=lim)(h:∀t' k,Q (.str ⟨(cut cs lo hi).toArray⟩ t') { s with toks:=k }):RF (Rp prog w) A (WF (.str ⟨cs.toArray⟩ t) (.ref sl)) Q E s:=by
 have hl:=mi;obtain⟨l,e1,e2⟩:∃l:Option (Int×Tok),vl=partValue l/\l.map (·.1)=lo:=by
  cases pl with
  |none=>exact⟨Zy,rfl,rfl⟩
  |int i t=>exact⟨Zz (i,t),rfl,rfl⟩
 obtain⟨u,f1,f2⟩:∃l:Option (Int×Tok),vu=partValue l/\l.map (·.1)=hi:=by
  cases pu with
  |none=>exact⟨Zy,rfl,rfl⟩
  |int i t=>exact⟨Zz (i,t),rfl,rfl⟩
 subst e1 f1;refine wpAny_getItem_str_slice (st:=Zy) hs (by rfl) ?_;have pk:XN ⟨cs.toArray⟩ l u Zy=(SX (ax cs.length cs.length hi-ax cs.length 0 lo)).map λk=>ax cs.length 0 lo+k:=by
  unfold XN;rw[e2,f2,gL];exact yl lo hi cs.length
 have hn:ax cs.length cs.length hi<=cs.length:=vR _ _ (RO _) hi;have fm:((XN ⟨cs.toArray⟩ l u Zy).filterMap ((⟨cs.toArray⟩:Str).cps[·]?))=cut cs lo hi:=by
  rw[pk,ie];by_cases hle:ax cs.length 0 lo<=ax cs.length cs.length hi
  ·have:=StrLaws.picks cs (ax cs.length cs.length hi-ax cs.length 0 lo) (ax cs.length 0 lo) (by omega)
   rw[<-this];simp
  ·have:ax cs.length cs.length hi-ax cs.length 0 lo=0:=by omega
   rw[this];simp
 unfold sliceMade;split
 ·rename_i hw
  rw[RJ]at hw;have q:(XN ⟨cs.toArray⟩ l u Zy).length=cs.length:=by rw[eq_of_beq hw.2,gL]
  rw[pk,R2,T7]at q;have e:cut cs lo hi=cs:=by
   rw[ie];have:ax cs.length 0 lo=0∨cs.length=0:=by omega
   rcases this with c|c
   ·rw[c]at q ⊢
    rw[XM,q];exact Vp
   ·rw[RY]at c
    subst c;simp
  have:=h t s.toks;rw[e]at this;exact this
 ·rw[fm]
  have hc:(cut cs lo hi).length<=cs.length:=by
   rw[ie,Sm,Tc];omega
  exact⟨by show(cut cs lo hi).toArray.size<=_;rw[Rz];omega,h _ _⟩
theorem ut(lo hi:Option Int)(n:Nat):(VO lo hi Zy n).1=((ax n 0 lo:Nat):Int)/\(VO lo hi Zy n).2.1=((ax n n hi:Nat):Int)/\(VO lo hi Zy n).2.2=1:=by
 refine⟨?_,?_,rfl⟩
 ·cases lo with
  |none=>simp[VO,ax]
  |some i =>
   simp only[VO,ax,Option.getD_none,show(1:Int)>0 by decide,if_true];by_cases h:i<0
   ·simp only[h,if_true]<;>omega
   ·simp only[h,if_false]<;>omega
 ·cases hi with
  |none=>simp[VO,ax]
  |some i =>
   simp only[VO,ax,Option.getD_none,show(1:Int)>0 by decide,if_true];by_cases h:i<0
   ·simp only[h,if_true]<;>omega
   ·simp only[h,if_false]<;>omega
theorem rN(its:List R3)(lo hi:Option Int):slicePick its.toArray lo hi Zy=((its.drop (ax its.length 0 lo)).take (ax its.length its.length hi-ax its.length 0 lo)).toArray:=by
 obtain⟨h1,h2,h3⟩:=ut lo hi its.toArray.size;unfold slicePick;rw[h1,h2,h3];simp only[sliceRange_one,pick_run,Rz]<;>rfl
theorem lX{α:Type}{l:List α}{i:Int}{v:α}(h:atT l i=Zz v):∃j,seqIndex? i l.length=Zz j/\l[j]?=Zz v/\-(l.length:Int)<=i/\i<l.length/\(0<=i/\i.toNat=j∨i<0/\(i+(l.length:Int)).toNat=j):=by
 obtain⟨j,e,h⟩:=RP.mp h;unfold gM at e;by_cases h0:0<=i
 ·rw[Yn h0]at e
  obtain⟨h1,e⟩:=RI.mp e;have e:=SY e;exact⟨j,by rw[seqIndex_of h0 h1,e],h,by omega,h1,.inl ⟨h0,e⟩⟩
 ·rw[Yo h0]at e
  obtain⟨h1,e⟩:=RI.mp e;have e:=SY e;exact⟨j,by rw[seqIndex_neg (by omega) h1,e],h,h1,by omega,.inr ⟨by omega,e⟩⟩
theorem vw{a:RB}{x:Array R3}{i:Int}{t:Tok}{j:Nat}{z:R3}{value slice:S4}{Q:R3->RA->Prop}(p:YV s.heap a x)(hz:x.size<=Rq)(h1:-(x.size:Int)<=i)(h2:i<x.size)(h3:0<=i/\i.toNat=j∨i<0/\(i+(x.size:Int)).toNat=j)(e:x[j]?=Zz z)(q:Q z s)(hs:Wc slice false (.ref a) (.int i t)=YW [.ref a,.int i t] (WF (.ref a) (.int i t))):RF (Rp prog w) A (Wj value slice (.ref a) (.int i t)) Q E s:=by
 have hl:=line;rcases h3 with⟨h0,hj⟩|⟨h0,hj⟩
 ·exact item_listR p.isList h0 (by omega) (by rw[hj];exact e) q hs
 ·exact subscriptTail_builtinR (x:=z) p.isList.typeIs slot_list_getitem.lookup (wpAny_getItem_list_neg (Q:=λr s'=>r=z/\Q r s') p.isList (by omega) (by omega) (by omega) (by rw[hj];exact e) ⟨rfl,q⟩) hs
theorem Al.take{α β:Type}{R:α->β->Prop}{l:List α}{x:List β}(q:Al R l x)(n:Nat):Al R (l.take n) (x.take n):=⟨by rw[Sm,Sm,q.1],λi t v a b=>by
 rw[Tw]at a b;split at a
 ·rw[Yn ‹_›]at b;exact q.2 _ t v a b
 ·cases a⟩
theorem Al.drop{α β:Type}{R:α->β->Prop}{l:List α}{x:List β}(q:Al R l x)(n:Nat):Al R (l.drop n) (x.drop n):=⟨by rw[Tc,Tc,q.1],λi t v a b=>by
 rw[List.getElem?_drop]at a b;exact q.2 _ t v a b⟩
theorem Al.cut{α β:Type}{R:α->β->Prop}{l:List α}{x:List β}(q:Al R l x)(lo hi:Option Int):Al R (Mi.cut l lo hi) (Mi.cut x lo hi):=by
 rw[ie,ie,<-q.1];exact(q.drop _).take _
end
section
variable{X:Cx}{env:Mi.Env}{cm:List RB}{m:Mem}{s:RA}{w u:W}{v z:R3}{J Q:VK}{lo hi:Option Int}{α:Type}{k:α->List RB->Mem->RA->Prop}
variable{call:Nat->List W->Mem->Res W}{gv:List T}{e f:S4}{E F G:Mi.E}{pos p2:Pos}
def E0(b:S4):Prop:=∀o i,Wc b false o i=YW [o,i] (WF o i)
theorem JK{value slice:S4}(I:Fr X env cm m s)(r1:RW X.D cm m s.heap w v)(r2:RW X.D cm m s.heap u z)(h:ak X X.tb cm m s (eC ((view w m).bind λx=>(view u m).bind λy=>G2 x y) m) J (WK X Q))(hs:Wc slice false v z=YW [v,z] (WF v z)):RF X.M X.A (Wj value slice v z) Q J s:=by
 obtain⟨x,y,t,e1,e2,e,h⟩:=lE h;have hl:=line;unfold G2 at e;split at e
 ·obtain⟨_,rfl⟩:=(ae r2 e2).c9
  obtain⟨a,x,rfl,p,q⟩:=(ae r1 e1).ka;obtain⟨j,h1,h2,h3,h4,_⟩:=lX e;obtain⟨v,e3,r⟩:=q.get h2;have hz:x.size<=Rq:=by obtain⟨_,_,_,_,_,_,z⟩:=p;exact z
  have hq:=q.1;simp only[RM]at hq;exact subscriptTail_builtinR (x:=v) p.tup.typeIs slot_tuple_getitem.lookup (getItem_tuple (j:=j) (Q:=λr s'=>r=v/\Q r s') p.tup (by omega) (by omega) (by rw[<-hq];exact h1) (by simpa using e3) ⟨rfl,I.val' h r⟩) hs
 ·obtain⟨_,rfl⟩:=(ae r2 e2).c9
  obtain⟨a,x,rfl,p,q⟩:=aE I.mem r1 e1;obtain⟨j,h1,h2,h3,h4,h5⟩:=lX e;obtain⟨v,e3,r⟩:=q.get h2;have hq:=q.1;simp only[RM]at hq;rw[hq]at h3 h4 h5;exact vw p.pl p.2.2 h3 h4 h5 (by simpa using e3) (I.val' h r) hs
 ·obtain⟨_,rfl⟩:=(ae r2 e2).c9
  cases ae r1 e1 with
  |fH l p n _ q =>
   obtain⟨c,e',rfl⟩:=RL.mp e;obtain⟨j,h1,h2,h3,h4,h5⟩:=lX e';obtain⟨v,e3,_,rfl⟩:=q.get h2;have hz:=p;obtain⟨_,_,_,_,_,_,hz⟩:=hz;have hq:=q.1;simp only[RM]at hq;rw[hq]at h3 h4 h5;exact vw p.pl hz h3 h4 h5 (by simpa using e3) (I.val' h (.int _ _)) hs
 ·obtain⟨hc,e⟩:=RI.mp e
  obtain⟨c,e',rfl⟩:=RL.mp e;obtain⟨_,rfl⟩:=(ae r1 e1).kY;obtain⟨_,rfl⟩:=(ae r2 e2).c9;obtain⟨j,h1,h2,h3,h4,_⟩:=lX e';exact tail_any (typeIs_str s _ _) slot_str_getitem.lookup (getItem_str (c:=c) (by rw[Yp (by omega),Yp (by omega),Bool.or_false]) (by rw[gL,h1];simpa using h2) (I.val h (.str _ _))) hs
 ·cases e
theorem HB(ha:PE call gv X e E)(hb:PE call gv X f F)(hs:E0 f):PE call gv X (.Subscript e f pos) (.ix E F):=λenv cm m s I Q J h=>by
 rw[GJ]at h;exact YA (ha.two hb I h λw u v z c1 m1 s1 I x r1 r2 h=>JK I r1 r2 h (hs _ _))
theorem Kl{sl:RB}{vl vu:R3}(I:Fr X env cm m s)(r:RW X.D cm m s.heap w v)(h:ak X X.tb cm m s (eC ((view w m).bind λx=>IQ x lo hi) m) J (WK X Q))(hs:s.heap.IsSliceOf sl vl vu .none)(pl:Wi vl lo)(pu:Wi vu hi):
  ∃T id,Xe (.type T) "__getitem__" = pure (Zz (.builtin id))/\s.TypeIs v T/\RF X.M X.A (WF v (.ref sl)) Q J s:=by
 obtain⟨t,e,h⟩:=fz h;obtain⟨x,e1,e⟩:=RP.mp e;have hl:=line;have cl:∀{α:Type}(l:List α),(cut l lo hi).length<=l.length:=λl=>by rw[ie,Sm,Tc];omega
 have lst:∀{l:List T}{a:RB}{x:Array R3},YV s.heap a x->x.size<=Rq->Al (RT X.D cm m s.heap) (cut l lo hi) (cut x.toList lo hi)->ak X X.tb cm m s (.ok (.t (.lst (cut l lo hi))) m) J (WK X Q)->∃T id,Xe (.type T) "__getitem__" = pure (Zz (.builtin id))/\s.TypeIs (.ref a) T/\RF X.M X.A (WF (.ref a) (.ref sl)) Q J s:=λ{l a x} p hz q h=>by
  obtain⟨x⟩:=x;refine⟨"list",_,slot_list_getitem.lookup,p.isList.typeIs,wpAny_getItem_list_slice p.isList hs pl pu .none (by simp) ?_ (by omega)⟩;rw[rN,<-ie];exact I.lst (n:=s.toks) (d:=s.drawn) h q push (iX _) (.new I (by have:=cl x;simp at hz ⊢;omega))
 cases x with
 |tup l =>
  cases e;obtain⟨a,x,rfl,p,q⟩:=(ae r e1).ka;have hz:x.size<=Rq:=by obtain⟨_,_,_,_,_,_,z⟩:=p;exact z
  refine⟨"tuple",_,PyProof.Rows.slot_tuple_getitem.lookup,p.tup.typeIs,AA p.tup hs pl pu hz (λec=>?_) (I.tup (n:=s.toks) (d:=s.drawn) h (q.cut lo hi) push (.new rfl rfl rfl rfl (by have:=cl x.toList;simp at this ⊢;omega)))⟩;have:=(q.cut lo hi)
  rw[ec]at this;exact I.val' h (.tup p (ae r e1).tf this.1 this.2)
 |lst l =>
  cases e;obtain⟨a,x,rfl,p,q⟩:=aE I.mem r e1;exact lst p.pl p.2.2 (q.cut lo hi) h
 |fH l =>
  cases e;cases ae r e1 with
  |fH l p n _ q =>
   have hz:=p;obtain⟨_,_,_,_,_,_,hz⟩:=hz;have ec:cut (l.map T.int) lo hi=(cut l lo hi).map T.int:=by rw[ie,ie,R2,List.map_take,List.map_drop]
   rw[<-ec]at h;refine lst p.pl hz (Al.cut ⟨by rw[R2];exact q.1,λi t v a b=>?_⟩ lo hi) h;rw[RR]at a;obtain⟨c,a',rfl⟩:=RL.mp a;obtain⟨_,rfl⟩:=q.2 i c v a' b;exact .int _ _
 |str cs =>
  obtain⟨hc,e⟩:=RI.mp (show(if cs.length<=lim then Zz (T.str (cut cs lo hi))else Zy)=Zz t from e);cases e;obtain⟨_,rfl⟩:=(ae r e1).kY;exact⟨"str",_,slot_str_getitem.lookup,typeIs_str s _ _,Bn hs pl pu hc λt' k=>I.val h (.str _ _)⟩
 |_=>cases e
noncomputable def Ja(call:Nat->List W->Mem->Res W)(gv:List T)(lo:Mi.E)(env:Env)(m:Mem):Res (Option Int):=if jc lo then Res.ok Zy m else(ev call gv lo env m).bind rM
variable(call gv) in
def PO(X:Cx)(e:Option S4)(E:Mi.E):Prop:=∀env cm m s,Fr X env cm m s->∀Q J:VK,ak X X.tb cm m s (Ja call gv E env m) J (λo _ _ s=>∀u,Wi u o->Q u s)->RF X.M X.A (evalPart e X.env) Q J s
theorem CC:PO call gv X Zy .hole:=λenv cm m s I Q J h=>by
 rw[evalPart_none];exact R5 (h.now I.mem _ .none)
theorem Dt(h:PE call gv X e E)(hn:Ja call gv E=λenv m=>(ev call gv E env m).bind rM):PO call gv X (Zz e) E:=λenv cm m s I Q J q=>by
 rw[hn]at q;rw[evalPart_some];refine h.one I q λw v c1 m1 s1 I x r q=>?_
 unfold rM at q;split at q
 ·obtain⟨_,rfl⟩:=RT.c9 r
  exact q.now I.mem _ (.int _ _)
 ·exact q.elim
theorem Ep{e:Option S4}{f:Option Int->Mem->Res α}{Q:VK}(h:PO call gv X e E)(I:Fr X env cm m s)(hp:ak X X.tb cm m s ((Ja call gv E env m).bind f) J k)(q:∀o u cm1 m1 s1,Fr X env cm1 m1 s1->aH X.fs X.gs X.tb cm m s cm1 m1 s1->Wi u o->ak X X.tb cm1 m1 s1 (f o m1) J k->Q u s1):RF X.M X.A (evalPart e X.env) Q J s:=
 h env cm m s I Q J (hp.bind.mono λo c1 m1 s1 x M h u pu=>q o u c1 m1 s1 (I.go x M I.nc) x pu h)
theorem FG{lo hi:Option S4}(C:PE call gv X e E)(B:PO call gv X lo F)(A:PO call gv X hi G):PE call gv X (.Subscript e (.Slice lo hi Zy p2) pos) (.GZ E F G):=λenv cm m s I Q J h=>by
 rw[show ev call gv (.GZ E F G) env m=(ev call gv E env m).bind λx m=>(Ja call gv F env m).bind λl m=>(Ja call gv G env m).bind λh m=>eC ((view x m).bind λx=>IQ x l h) m by rw[w3];rfl]at h;refine YA (C.one I h λw v c1 m1 s1 I1 x1 r1 h=>wpAny_Slice (Ep B I1 h λl vl c2 m2 s2 I2 x2 pl h=>Ep A I2 h λu vu c3 m3 s3 I3 x3 pu h=>?_));rw[evalPart_none];refine R5 ?_;obtain⟨x4,I4⟩:=I3.up (t:=s3.toks) (d:=s3.drawn) (ch:=X.tb) (g:=s3.heap.push { cls:=.type "slice",data:=.fields #[vl,vu,.none] }) push;obtain⟨T,id,hT,ht,hg⟩:=Kl I4 (((r1.go x2 I1.mem I1.nc.q).go x3 I2.mem I2.nc.q).go x4 I3.mem I3.nc.q) (h.shift x4) (Heap.IsSliceOf.new ..) pl pu;show RF X.M X.A (Wj e (.Slice lo hi Zy p2) v (.ref s3.heap.objs.size)) Q J { s3 with heap:=s3.heap.push { cls:=.type "slice",data:=.fields #[vl,vu,.none] } };exact tail_any (ops:=[.ref s3.heap.objs.size,v]) ht hT hg (by with_unfolding_all rfl)
end
end Mi
namespace Mi
open PySem PySem.Spec PyProof.Rows PySem.Builtin.Str PySem.StrLaws
section
variable{prog:Ry}{w:SS}{A:SF}{E:R3->RA->Prop}{s:RA}{ws:List W}{m:Mem}{t:T}{f:List T->Option T}{ts:List T}{x y:Str}{Q:R3->RA->Prop}
theorem mL(h:views ws m=Zz [t]):∃w,ws=[w]/\view w m=Zz t:=by
 cases ws with
 |nil=>cases h
 |cons w ws =>
  unfold views at h;cases q1:view w m with
  |none=>rw[q1]at h;cases h
  |some t1 =>
   rw[q1]at h;have h:=h;cases q2:views ws m with
   |none=>rw[q2]at h;cases h
   |some ts =>
    rw[q2]at h;cases h;cases ws with
    |nil=>exact⟨w,rfl,by rw[q1]⟩
    |cons d ws =>
     unfold views at q2;cases q3:view d m with
     |none=>rw[q3]at q2;cases q2
     |some t3 =>
      rw[q3]at q2;cases q4:views ws m with
      |none=>rw[q4]at q2;cases q2
      |some t4=>rw[q4]at q2;cases q2
end
section
variable{xs l h ts ys:List T}{r:T×List T}
theorem Ge{l h:List T}{r:T×List T}(d:AZ .append l h=Zz r):∃P,h=[P]:=by
 cases h with
 |nil=>cases d
 |cons P h =>
  cases h with
  |nil=>exact⟨P,rfl⟩
  |cons _ _=>cases d
end
section
variable{X:Cx}{D:Dm}{env:Mi.Env}{cm cm':List RB}{m m':Mem}{s s':RA}{w u:W}{v z:R3}{ch:List RB}{J Q:VK}{h g:Rm}{t x:T}{l l':List T}{ws:List W}{us y:List R3}{a:RB}{n:Nat}{i:Nat}{α:Type}{b:Mi.Mt}{k:α->List RB->Mem->RA->Prop}
variable{call:Nat->List W->Mem->Res W}{gv:List T}{e e2 o:S4}{es:List S4}{E:Mi.E}{L:Es}{cpos apos:Pos}
theorem Hl(a:notStar e=true):((backTo cpos (Tx [e] X.env)).all (λx=>!x.1)&&(YB cpos (XO [] X.env)).all (λx=>x.1.isSome)
  && decide ([e].length+([]:List YX).length+(if([]:List YX).isEmpty then 0 else 1)<30))=true:=by
 rw[yx (by rw[Wh,a];rfl)];rfl
def CM(X:Cx)(id:String)(G:W->List W->Mem->Res W):Prop:=∀env cm m s,Fr X env cm m s->∀w ws v us,RW X.D cm m s.heap w v->sr X.D cm m s.heap ws us->∀Q J:VK,ak X X.tb cm m s (G w ws m) J (WK X Q)->RF X.M X.A (Sq (.builtin id) (v::us)) Q J s
def Kj(X:Cx)(b:Mt)(T:String):Prop:=∀env cm m s,Fr X env cm m s->∀w v,RW X.D cm m s.heap w v->GU b w m=true->s.TypeIs v T/\∀a,v=.ref a->∃o,s.heap.get? a=Zz o/\o.dict=Zy
theorem xm(hb:∀w m,GU b w m=GU .append w m):Kj X b "list":=λenv cm m s I w v r h=>by
 rw[hb]at h;cases w with
 |c i =>
  obtain⟨a,h1,rfl⟩:=r;have h:(match m[i]? with|some (Zz (.l _ _))=>true|_=>false)=true:=h;split at h
  ·obtain⟨b,x,h2,⟨⟨n,e⟩,_⟩,_⟩:=I.mem.li ‹_›
   rw[h1]at h2;cases h2;exact⟨⟨_,e,rfl⟩,λb z=>by cases z;exact⟨_,e,rfl⟩⟩
  ·cases h
 |_=>cases h
theorem yk{T id:String}{name:Str}{G:W->List W->Mem->Res W}{E':Mi.E}(pa:PlainAttrs T)(slot:Slot T name id)(hty:typeOf (.builtin id)=pure (.type "method_descriptor"))(hm:CM X id G)(he:∀env m,ev call gv E' env m=(ev call gv E env m).bind λw m=>if GU b w m then(evs call gv L env m).bind λws m=>G w ws m else .stuck)(ty:Kj X b T)(ho:PE call gv X o E)(ha:PA call gv X (e::es) L)(hbase:V9 o name X.env (eval o X.env)=eval o X.env)(hfew:((backTo cpos (Tx (e::es) X.env)).all (λx=>!x.1)&&(YB cpos (XO [] X.env)).all (λx=>x.1.isSome)
  && decide ((e::es).length+([]:List YX).length+(if([]:List YX).isEmpty then 0 else 1)<30))=true)(hline:(apos.endLine==cpos.line)=true)(hs:notStar e=true)(hp:es.all notStar=true):PE call gv X (.Call (.Attribute o name apos) (e::es) [] cpos) E':=λenv cm m s I Q J h=>by
 rw[he]at h;refine wpAny_Call_method_late hbase hfew hline rfl (ho.one I h λw v c1 m1 s1 I1 x1 r1 h=>?_);obtain⟨ht,h⟩:=im h;obtain⟨h1,h2⟩:=ty _ _ _ _ I1 w v r1 ht;refine⟨T,id,pa,slot,hty,h1,h2,?_⟩;have hA:=ha.one (p:=cpos) I1 h λws us c2 m2 s2 I2 x2 r2 h=>hm _ _ _ _ I2 w ws v us (r1.go x2 I1.mem I1.nc.q) r2 Q J h
 rw[bu hs]at hA ⊢;exact Calls.callWith_builtin (by show(false || (backTo cpos (Tx es X.env)).any (·.1))=false;rw[ia hp];rfl) (Calls.evalArgs_plain hA)
theorem tK:∀{l:List T}{y:List R3}{a:List (List Nat)},fG D cm m h l y->strs? l=Zz a->XV y (a.map λc=>(⟨c.toArray⟩:Str))
 |[],y,_,r,e=>by cases e;obtain rfl:=RY.mp r.1.symm;exact .nil
 |t::l,_,a,r,e=>by
  obtain⟨v,y,rfl,r1,r2⟩:=r.inv;cases t with
  |str c =>
   obtain⟨f,q,rfl⟩:=RL.mp (show(strs? l).map (c::·)=Zz a from e);obtain⟨t,rfl⟩:=r1.kY;exact .cons _ t (tK r2 q)
  |_=>cases e
theorem uh(r:sr D cm m h [w] us):∃v,us=[v]/\RW D cm m h w v:=by
 obtain⟨v,y,rfl,r1,r2⟩:=r.inv;obtain rfl:=RY.mp r2.1.symm;exact⟨v,rfl,r1⟩
theorem lR{y y':Array R3}{f:Array R3->Array R3}(I:Fr X env cm m s)(e1:m[i]?=Zz (Zz (.l false l)))(e2:cm[i]?=Zz a)(p:d8 X.fs s.heap a y)(hf:f y=y')(hz:y'.size<=Rq)(r:fG X.D cm m s.heap l' y'.toList):
  aH X.fs X.gs X.tb cm m s cm (m.set i (Zz (.l false l'))) { s with heap:=s.heap.update a (RZ f),toks:=n }/\Fr X env cm (m.set i (Zz (.l false l'))) { s with heap:=s.heap.update a (RZ f),toks:=n }:=by
 obtain⟨⟨c,e⟩,nf,_⟩:=p;have q:=PySem.IsL.update e f;rw[hf]at q;have ho:∀b o,b≠a->s.heap.get? b=Zz o->(s.heap.update a (RZ f)).get? b=Zz o:=λb o hb hu=>(Rs s.heap (RZ f) (Su hb)).trans hu
 obtain⟨x,M⟩:=I.mem.upd (s':={ s with heap:=s.heap.update a (RZ f),toks:=n }) (ch:=X.tb) (q:=Zz (.l false l')) e1 e2 ho rfl rfl (λ_ z=>by cases z;exact⟨_,_,y',rfl,⟨⟨_,q⟩,nf,hz⟩,r⟩) (λz=>nomatch z) (I.ok.iz _ _ I.mem.tab λb o hb hu=>ho b o (λz=>by
  obtain⟨v,d⟩:=hb.elim (λh=>((I.nc b h).2 o hu).1) Kc.f;rw[z,e]at hu;cases hu;cases d) hu) λz=>by cases z
 exact⟨x,I.go x M I.nc⟩
theorem uZ(hb:∀i ws m,xy b (.c i) ws m=(db ws m).bind λts m=>match m[i]? with
   |some (Zz (.l false xs))=>match AZ b xs ts with
    |some (t,ys)=>.ok (.t t) (m.set i (Zz (.l false ys)))
    |none=>.stuck
   |_=>.stuck)(h2:∀t ws m,xy b (.t t) ws m=.stuck)(h3:∀c k l ws m,xy b (.x c k l) ws m=.stuck)(I:Fr X env cm m s)(r:RW X.D cm m s.heap w v)(rs:sr X.D cm m s.heap ws us)(h:ak X X.tb cm m s (xy b w ws m) J (WK X Q)):
  ∃i a m1 xs ts t ys y,v=.ref a/\Fr X env cm m1 s/\m1[i]?=Zz (Zz (.l false xs))/\cm[i]?=Zz a/\d8 X.fs s.heap a y/\fG X.D cm m1 s.heap xs y.toList/\fG X.D cm m1 s.heap ts us/\AZ b xs ts=Zz (t,ys)/\ak X X.tb cm m1 s (.ok (.t t) (m1.set i (Zz (.l false ys)))) J (WK X Q):=by
 cases w with
 |t t=>rw[h2]at h;exact h.elim
 |x _ _ _=>rw[h3]at h;exact h.elim
 |e _=>exact r.elim
 |c i =>
  rw[hb]at h;obtain⟨a,e2,rfl⟩:=r;obtain⟨ts,m1,I1,rs,h⟩:=mu I rs h;split at h
  ·rename_i xs e1
   split at h
   ·obtain⟨b,y,q1,p,_,q⟩:=I1.mem.li e1
    rw[e2]at q1;cases q1;exact⟨i,a,m1,xs,ts,_,_,y,rfl,I1,e1,e2,p,q,rs,‹_›,h⟩
   ·exact h.elim
  ·exact h.elim
theorem wW:CM X "list.append" (xy .append):=λenv cm m s I w ws v us r rs Q J h=>by
 obtain⟨i,a,m1,xs,ts,t,ys,y,rfl,I,e1,e2,p,q,rs,e,h⟩:=uZ (λ_ _ _=>rfl) (λ_ _ _=>rfl) (λ_ _ _ _ _=>rfl) I r rs h;obtain⟨P,rfl⟩:=Ge e;obtain⟨hl,e⟩:=RI.mp (show(if xs.length<lim then Zz (T.non,xs++[P])else Zy)=Zz (t,ys)from e);cases e;obtain⟨u,us,rfl,r1,r0⟩:=rs.inv;obtain rfl:=RY.mp r0.1.symm;obtain⟨⟨n,e3⟩,_,hz⟩:=id p;have hq:=q.1;simp only[RM]at hq;have hn:=line.1;obtain⟨x,I2⟩:=lR (f:=λx=>x.push u) (y':=y.push u) (n:=s.toks) I e1 e2 p rfl (by rw[Array.size_push];omega) (by rw[WW];exact q.app (.cons r1 .nil));exact UK F.slot_list_append ⟨_,e3,rfl⟩ F.entry_list_append (F.args_list_append_2 _ _) (PySem.list_append a y n u hz) ⟨e3,h.to x I2.mem _ .non⟩
theorem Al.erase{α β:Type}{R:α->β->Prop}:∀{l:List α}{x:List β}(k:Nat),Al R l x->Al R (l.eraseIdx k) (x.eraseIdx k)
 |[],x,k,q=>by obtain rfl:=RY.mp q.1.symm;exact q
 |t::l,_,k,q=>by
  obtain⟨v,y,rfl,r,q⟩:=q.inv;cases k with
  |zero=>exact q
  |succ k=>exact .cons r (q.erase k)
theorem An:CM X "list.pop" (xy .mn):=λenv cm m s I w ws v us r rs Q J h=>by
 obtain⟨i,a,m1,xs,ts,t,ys,y,rfl,I,e1,e2,p,q,rs,e,h⟩:=uZ (λ_ _ _=>rfl) (λ_ _ _=>rfl) (λ_ _ _ _ _=>rfl) I r rs h;have one:∃j,ts=[.int j]:=by
  rcases ts with _|⟨t,_|⟨t',ts⟩⟩
  ·cases e
  ·cases t<;>first|exact⟨_,rfl⟩|cases e
  ·cases t<;>cases e
 obtain⟨j,rfl⟩:=one;have e:(match gM xs.length j with|some k=>(xs[k]?).map λt=>(t,xs.eraseIdx k)|none=>Zy)=Zz (t,ys):=e;split at e
 rotate_left
 ·cases e
 rename_i k hk;obtain⟨t',e4,e⟩:=RL.mp e;cases e;obtain⟨u,us,rfl,r1,r0⟩:=rs.inv;obtain rfl:=RY.mp r0.1.symm;obtain⟨_,rfl⟩:=r1.c9;obtain⟨⟨n,e3⟩,_,hz⟩:=id p;have hq:=q.1;simp only[RM]at hq;have hn:=line;obtain⟨k',h1,_,h3,h4,h5⟩:=lX (show atT xs j=Zz t by unfold atT;rw[hk];exact e4);obtain rfl:k'=k:=by
  unfold gM at hk;by_cases h0:0<=j
  ·rw[Yn h0,Yn h4]at hk;have:=SY hk;omega
  ·rw[Yo h0,Yn h3]at hk;have:=SY hk;omega
 obtain⟨z,e5,rz⟩:=q.get e4;have hk':k'<y.size:=by have:=(R8.mp e4).1;omega
 have he:(y.eraseIdxIfInBounds k').toList=y.toList.eraseIdx k':=by obtain⟨y⟩:=y;simp
 obtain⟨x,I2⟩:=lR (f:=λx=>x.eraseIdxIfInBounds k') (y':=y.eraseIdxIfInBounds k') (n:=s.toks) I e1 e2 p rfl (by rw[<-RM,he];exact Rg (List.length_eraseIdx_le _ _) hz) (by rw[he];exact q.erase k');exact UK F.slot_list_pop ⟨_,e3,rfl⟩ F.entry_list_pop (F.args_list_pop_2 _ _)
  (MeetsSeq.list_pop_at a y n j _ k' z (fitsIndex_both (by omega) (by omega)) (by rw[<-hq];exact h1) (by rw[<-Rw];exact e5) hz) ⟨e3,h.to x I2.mem _ (rz.go x I.mem I.nc.q)⟩
theorem yq(z:PE call gv X o E)(A:PA call gv X [e] L)(b:V9 o "append" X.env (eval o X.env)=eval o X.env:=by rfl)(a:(apos.endLine==cpos.line)=true:=by rfl)(k:notStar e=true:=by rfl):PE call gv X (.Call (.Attribute o "append" apos) [e] [] cpos) (.vo .append E L):=yk (b:=.append) VP PySem.F.slot_list_append PySem.F.type_list_append wW (λ_ _=>by rw[uI]) (xm λ_ _=>rfl) z A b (Hl k) a k rfl
theorem F3(z:PE call gv X o E)(A:PA call gv X [e] L)(b:V9 o "pop" X.env (eval o X.env)=eval o X.env:=by rfl)(a:(apos.endLine==cpos.line)=true:=by rfl)(k:notStar e=true:=by rfl):PE call gv X (.Call (.Attribute o "pop" apos) [e] [] cpos) (.vo .mn E L):=yk (b:=.mn) VP PySem.F.slot_list_pop PySem.F.type_list_pop An (λ_ _=>by rw[uI]) (xm λ_ _=>rfl) z A b (Hl k) a k rfl
end
end Mi
namespace Mi
open PySem PySem.Spec PyProof.Rows
section
variable{X:Cx}{D:Dm}{env env':Mi.Env}{cm cm':List RB}{m m':Mem}{s s':RA}{w u:W}{v z:R3}{ch ch':List RB}{J Q:VK}{h g:Rm}{t x:T}{l l':List T}{ws:List W}{us y:List R3}{a:RB}{n:Nat}{i:Nat}{α:Type}{k:α->List RB->Mem->RA->Prop}
variable{call:Nat->List W->Mem->Res W}{gv:List T}{e e2 c tg o ix:S4}{es:List S4}{E F G C:Mi.E}{L:Es}{pos p:Pos}{N:Str}{rest A B body:List S5}{K S S2:Mi.S}{is:List Nat}{R:WQ->RA->Prop}{U:Unit->RA->Prop}
theorem aH.sub(x:aH X.fs X.gs ch' cm m s cm' m' s')(w:∀b∈ch',b∈ch):aH X.fs X.gs ch cm m s cm' m' s':=x.weak λb h n=>Ys (w b h) n
theorem ak.sub{r:Res α}(h:ak X ch cm m s r J k)(w:∀b∈ch',b∈ch):ak X ch' cm m s r J k:=by
 cases r with
 |ok a m2=>exact λc t x M=>h c t (x.sub w) M
 |exc a m2=>exact λv c t x M=>h v c t (x.sub w) M
 |stuck=>exact h
theorem aX:∀b∈X.tb,b∈X.own:=λb h=>R4 _ (TG _ h)
theorem PE.gI{f:W->Mem->Res α}{Q:VK}(h:PE call gv X e E)(I:Fr X env cm m s)(hp:ak X X.own cm m s ((ev call gv E env m).bind f) J k)(q:∀w v cm1 m1 s1,Fr X env cm1 m1 s1->aH X.fs X.gs X.tb cm m s cm1 m1 s1->RW X.D cm1 m1 s1.heap w v->ak X X.own cm1 m1 s1 (f w m1) J k->Q v s1):RF X.M X.A (eval e X.env) Q J s:=
 h env cm m s I Q J ((hp.bind.mono λw c1 m1 s1 x M o=>o).sub aX |>.mono λw c1 m1 s1 x M o v r=>q w v c1 m1 s1 (I.go x M I.nc) x r o)
theorem PT.gI{f:Bool->Mem->Res α}{Q:Bool->RA->Prop}(h:PT call gv X e E)(I:Fr X env cm m s)(hp:ak X X.own cm m s (((ev call gv E env m).bind bq).bind f) J k)(q:∀b cm1 m1 s1,Fr X env cm1 m1 s1->aH X.fs X.gs X.tb cm m s cm1 m1 s1->ak X X.own cm1 m1 s1 (f b m1) J k->Q b s1):RF X.M X.A (isTrue e X.env (eval e X.env)) Q J s:=
 h env cm m s I Q J ((hp.bind.mono λw c1 m1 s1 x M o=>o).sub aX |>.mono λw c1 m1 s1 x M o=>q w c1 m1 s1 (I.go x M I.nc) x o)
def FQ(X:Cx)(R:WQ->RA->Prop):Mi.Flow->List RB->Mem->RA->Prop
 |.next env,cm,m,s=>Fr X env cm m s->R .next s
 |.ret w,cm,m,s=>∀env,Fr X env cm m s->∀v,RW X.D cm m s.heap w v->R (.ret v) s
 |.brk env,cm,m,s=>Fr X env cm m s->R .brk s
 |.cont env,cm,m,s=>Fr X env cm m s->R .cont s
variable(call gv) in
def fW(X:Cx)(sts:List S5)(S:Mi.S):Prop:=∀env cm m s,Fr X env cm m s->∀(R:WQ->RA->Prop) (J:VK),PassesOwn X.M X.A X.env J->ak X X.own cm m s (ex call gv S env m) J (FQ X R)->RF X.M X.A (execs sts X.env) R J s
theorem Fr.quiet(I:Fr X env cm m s):interactive X.env=false:=by simp[interactive,I.ok.kind]
theorem wz:fW call gv X [] .done:=λenv cm m s I R J _ h=>by
 rw[mr]at h;exact VD (h.now I.mem I)
theorem DW(h:PE call gv X e E):fW call gv X (.Return (Zz e) pos::rest) (.ret E K):=λenv cm m s I R J _ hp=>by
 rw[B6]at hp;exact S6 (wpAny_Return_some (h.gI I hp λw v c1 m1 s1 I1 x1 r o=>o.now I1.mem _ I1 v r))
theorem Aw(h:PE call gv X e E)(hk:fW call gv X rest K)(l:Wv e Zy pos.line X.env=pure false:=by rfl):fW call gv X (.Expr e pos::rest) (.expr E K):=λenv cm m s I R J j hp=>by
 rw[pO]at hp;exact S6 (wpAny_Expr_any (h.gI I hp λw v c1 m1 s1 I1 x1 r o=>hk _ _ _ _ I1 R J j o) I.quiet l)
theorem CQ(hN:X.N.Nodup)(hi:X.N[i]?=Zz N)(hx:Loc X N)(h:PE call gv X e E)(hk:fW call gv X rest K)(hs:Wv e (Zz (.Name N p)) pos.line X.env=pure false:=by rfl):fW call gv X (.Assign [.Name N p] e pos::rest) (.asg i E K):=λenv cm m s I R J j hp=>by
 rw[uj]at hp;exact S6 (wpAny_Assign_Name (h.gI I hp λw v c1 m1 s1 I1 x1 r o=>store I1 hN hi hx r λs2 x2 I2=>hk _ _ _ _ I2 R J j (o.shift x2)) hs)
theorem Fz(hc:PT call gv X c C)(ha:fW call gv X A S)(hb:fW call gv X B S2)(hk:fW call gv X rest K):fW call gv X (.If c A B pos::rest) (.dv C S S2 K):=λenv cm m s I R J j hp=>by
 rw[qW,<-a9]at hp;refine S6 (wpAny_If (hc.gI I hp λb c1 m1 s1 I1 x1 o=>?_));have go:∀{T:Mi.S}{B:List S5},fW call gv X B T->ak X X.own c1 m1 s1 (ex call gv T env m1) J (λfl c2 m2 s2=>ak X X.own c2 m2 s2 (match fl with|.next env=>ex call gv K env m2|fl=>.ok fl m2) J (FQ X R))->RF X.M X.A (execs B X.env) (λf s'=>match f with|.next=>RF X.M X.A (execs rest X.env) R J s'|f=>R f s') J s1:=λhB o=>hB _ _ _ _ I1 _ J j (o.mono λfl c2 m2 s2 x2 M2 o=>by
  cases fl with
  |next env'=>exact λI2=>hk _ _ _ _ I2 R J j o
  |ret w=>exact λe2 I2 v r=>o.now M2 e2 I2 v r
  |brk e2=>exact λI2=>o.now M2 I2
  |cont e2=>exact λI2=>o.now M2 I2)
 cases b with
 |true=>exact go ha o.bind
 |false=>exact go hb o.bind
theorem pF{o:Option T}{f:W->Mem->Res α}(h:ak X ch cm m s ((eC o m').bind f) J k):∃t,o=Zz t/\ak X ch cm m s (f (.t t) m') J k:=by
 cases o with
 |none=>exact h.elim
 |some t=>exact⟨t,rfl,h⟩
def PG(X:Cx)(tg:S4)(G:Tg):Prop:=∀env cm m s,Fr X env cm m s->∀t u env',RT X.D cm m s.heap t u->bz G t env=Zz env'->∀(U:Unit->RA->Prop) (J:VK),(∀s',aH X.fs X.gs X.own cm m s cm m s'->Fr X env' cm m s'->U () s')->RF X.M X.A (assign tg X.env u) U J s
def PL(X:Cx)(tg:S4)(is:List Nat):Prop:=∀env cm m s,Fr X env cm m s->∀l u env',RT X.D cm m s.heap (.lst l) u->bz (.tp is) (.tup l) env=Zz env'->∀(U:Unit->RA->Prop) (J:VK),(∀s',aH X.fs X.gs X.own cm m s cm m s'->Fr X env' cm m s'->U () s')->RF X.M X.A (assign tg X.env u) U J s
theorem au(i:Nat)(hN:X.N.Nodup)(hi:X.N[i]?=Zz N:=by rfl)(hx:Loc X N:=by first|exact YY rfl|exact YC ⟨rfl,rfl⟩):PG X (.Name N p) (.nm i):=λenv cm m s I t u env' r e U J q=>by
 cases e;exact Wd (store I hN hi hx (w:=.t t) r q)
noncomputable def GG(X:Cx):List Nat->List S4->Bool
 |[],[]=>true
 |i::is,.Name x _::es=>X.N[i]?==Zz x&&(X.env.scope.names.lookup x==Zz .local || X.env.scope.names.lookup x==Zz .cell&&X.fn x)&&GG X is es
 |_,_=>false
theorem zm(h:GG X (i::is) es=true):∃x p r,es=.Name x p::r/\X.N[i]?=Zz x/\Loc X x/\GG X is r=true:=by
 cases es with
 |nil=>cases h
 |cons e r =>
  cases e with
  |Name x p =>
   have h:(X.N[i]?==Zz x&&(X.env.scope.names.lookup x==Zz .local || X.env.scope.names.lookup x==Zz .cell&&X.fn x)&&GG X is r)=true:=h;rw[RJ,RJ,Tl]at h;exact⟨_,_,_,rfl,eq_of_beq h.1.1,h.1.2.imp (λh=>eq_of_beq h) (λh=>by rw[RJ]at h;exact⟨eq_of_beq h.1,h.2⟩),h.2⟩
  |_=>cases h
theorem inOrder(hN:X.N.Nodup):∀{is:List Nat}{es:List S4}{l:List T}{us:List R3}{env:Mi.Env}{s:RA},GG X is es=true->l.length=is.length->fG X.D cm m s.heap l us->Fr X env cm m s->(∀s',aH X.fs X.gs X.own cm m s cm m s'->Fr X ((is.zip l).foldl (λenv p=>env.set p.1 (Zz (.t p.2))) env) cm m s'->U () s')->RF X.M X.A (assignInOrder ((UX es X.env).map (·.2)) us) U J s
 |[],es,l,us,env,s,h,e,r,I,q=>by
  cases es with
  |nil =>
   obtain rfl:=RY.mp e;obtain rfl:=RY.mp r.1.symm;exact assignInOrder_nil (q s .refl I)
  |cons _ _=>cases h
 |i::is,es,[],us,env,s,h,e,r,I,q=>by cases e
 |i::is,es,t::l,us,env,s,h,e,r,I,q=>by
  obtain⟨x,p,es,rfl,hi,hx,h⟩:=zm h;obtain⟨v,us,rfl,r1,r⟩:=r.inv;have ha:(UX (.Name x p::es) X.env).map (·.2)=assign (.Name x p) X.env::(UX es X.env).map (·.2):=rfl;rw[ha];exact assignInOrder_cons (Wd (store I hN hi hx (w:=.t t) r1 λs2 x2 I2=>inOrder hN h (Xp e) (r.mp λ_ _ r=>r.go x2 I.mem I.nq) I2 λs3 x3 I3=>q s3 (x2.trans x3) I3))
theorem jk:∀{is:List Nat}{es:List S4},GG X is es=true->(UX es X.env).length=is.length/\(UX es X.env).findIdx? (·.1)=Zy
 |[],[],_=>⟨rfl,rfl⟩
 |[],_::_,h=>by cases h
 |i::is,es,h=>by
  obtain⟨x,p,es,rfl,_,_,h⟩:=zm h;obtain⟨h1,h2⟩:=jk h;exact⟨congrArg (·+1) h1,by rw[show UX (.Name x p::es) X.env=(false,assign (.Name x p) X.env)::UX es X.env from rfl,List.findIdx?_cons,h2];rfl⟩
theorem qw(e:bz (.tp is) (.tup l) env=Zz env'):l.length=is.length/\env'=(is.zip l).foldl (λenv p=>env.set p.1 (Zz (.t p.2))) env:=by
 obtain⟨h,e⟩:=RI.mp (show(if l.length=is.length then Zz ((is.zip l).foldl (λenv p=>env.set p.1 (Zz (.t p.2))) env)else Zy)=Zz env' from e);cases e;exact⟨h,rfl⟩
theorem bx{kk:Nat}(is:List Nat)(hc:X.calm=true)(hN:X.N.Nodup)(ok:GG X is es=true:=by with_unfolding_all rfl):PG X (.Tuple es kk pos) (.tp is):=λenv cm m s I t u env' r e U J q=>by
 cases t with
 |tup l =>
  obtain⟨h1,rfl⟩:=qw e;obtain⟨a,x,rfl,p,k⟩:=r.ka;have hk:=k.1;simp only[RM]at hk;refine assign_Tuple_tuple (I.ok.hd hc) p.tup (by rw[(jk ok).1];omega) (jk ok).2 λh' hx=>?_
  obtain⟨x1,I1⟩:=I.up (t:=s.toks) (d:=s.drawn) (ch:=X.own) λb o e=>hx b o (Rd (Re e)) e
  exact inOrder hN ok h1 (k.mp λ_ _ r=>r.go x1 I.mem I.nq) I1 λs2 x2 I2=>q s2 (x1.trans x2) I2
 |_=>cases e
theorem FP{kk:Nat}(is:List Nat)(hc:X.calm=true)(hN:X.N.Nodup)(ok:GG X is es=true:=by with_unfolding_all rfl):PL X (.Tuple es kk pos) is:=λenv cm m s I l u env' r e U J q=>by
 obtain⟨h1,rfl⟩:=qw e;obtain⟨a,x,rfl,p,k⟩:=aE I.mem (w:=.t (.lst l)) r rfl;have hk:=k.1;simp only[RM]at hk;rw[assign_Tuple];refine R0 (TA ?_);unfold unpack;rw[(jk ok).1,(jk ok).2,show is.length=x.size by omega];refine R0 (SE (PySem.W.kun_itemsOf (I.ok.hd hc) p.pl.isList λh' hx=>?_));obtain⟨x1,I1⟩:=I.up (t:=s.toks) (d:=s.drawn) (ch:=X.own) λb o e=>hx b o (Rd (Re e)) e
 exact inOrder hN ok h1 (k.mp λ_ _ r=>r.go x1 I.mem I.nq) I1 λs2 x2 I2=>q s2 (x1.trans x2) I2
theorem C4(h:PE call gv X e E)(O:PG X tg (.tp is))(L:fW call gv X rest K)(J':Xa [tg] e pos.line X.env=pure false:=by rfl)(I':Xb [tg] e X.env=pure Zy:=by rfl)(R':(UX [tg] X.env).map (·.2)=[assign tg X.env]:=by rfl):fW call gv X (.Assign [tg] e pos::rest) (.Bj is E K):=λenv cm m s I R J j hp=>by
 rw[zf]at hp;refine S6 (WB (h.gI I hp λw v c1 m1 s1 I1 x1 r o=>?_) J' I');rw[R'];cases w with
 |t t =>
  have o:ak X X.own c1 m1 s1 (match bz (.tp is) t env with|some env=>ex call gv K env m1|none=>.stuck) J (FQ X R):=o;split at o
  ·exact O _ _ _ _ I1 t v _ r ‹_› _ J λs2 x2 I2=>L _ _ _ _ I2 R J j (o.shift x2)
  ·exact o.elim
 |_=>exact o.elim
theorem AQ(h:PE call gv X e E)(O:PL X tg is)(L:fW call gv X rest K)(J':Xa [tg] e pos.line X.env=pure false:=by rfl)(I':Xb [tg] e X.env=pure Zy:=by rfl)(R':(UX [tg] X.env).map (·.2)=[assign tg X.env]:=by rfl):fW call gv X (.Assign [tg] e pos::rest) (.BL is E K):=λenv cm m s I R J j hp=>by
 rw[zG]at hp;refine S6 (WB (h.gI I hp λw v c1 m1 s1 I1 x1 r o=>?_) J' I');rw[R'];cases w with
 |t t =>
  cases t with
  |lst l =>
   have o:ak X X.own c1 m1 s1 (match bz (.tp is) (.tup l) env with|some env=>ex call gv K env m1|none=>.stuck) J (FQ X R):=o;split at o
   ·exact O _ _ _ _ I1 l v _ r ‹_› _ J λs2 x2 I2=>L _ _ _ _ I2 R J j (o.shift x2)
   ·exact o.elim
  |_=>exact o.elim
 |_=>exact o.elim
theorem D9{V:Mi.E}(hv:PE call gv X e V)(ho:PE call gv X o E)(hi:PE call gv X ix F)(hk:fW call gv X rest K)(ha:∀v,assign (.Subscript o ix p) X.env v=(do
   let ov <-WE [v] (eval o X.env)
   let iv <-WE [v,ov] (eval ix X.env)
   Uo p
   WE [v,ov,iv] (setItem ov iv v)
   release [v,ov,iv] []):=by intro _;rfl)(hs:Xa [.Subscript o ix p] e pos.line X.env=pure false:=by rfl)(hw:Xb [.Subscript o ix p] e X.env=pure Zy:=by rfl)(h1:(UX [.Subscript o ix p] X.env).map (·.2)=[assign (.Subscript o ix p) X.env]:=by rfl):fW call gv X (.Assign [.Subscript o ix p] e pos::rest) (.set E F V K):=λenv cm m s I R J j hp=>by
 rw[yn]at hp;refine S6 (WB (hv.gI I hp λw v c1 m1 s1 I1 x1 r1 d=>?_) hs hw);rw[h1];show RF X.M X.A (assign (.Subscript o ix p) X.env v) _ J s1;rw[ha];refine R0 (SE (ho.gI I1 d λu ov c2 m2 s2 I2 x2 r2 d=>?_));refine R0 (SE (hi.gI I2 d λw' iv c3 m3 s3 I3 x3 r3 d=>?_));have r4:=(r1.go x2.toExtK I1.mem I1.nc.q).go x3.toExtK I2.mem I2.nc.q;have r5:=r2.go x3.toExtK I2.mem I2.nc.q;refine R0 (TA (R0 (SE ?_)));unfold setM at d;split at d
 ·rename_i cc kk _
  rw[a9]at d;cases q:w4 w m3 with
  |stuck=>rw[q]at d;exact d.elim
  |exc e' m'=>exact Ys q tw
  |ok t m4 =>
   rw[q]at d;obtain⟨x4,I4,r6⟩:=qV I3 r4 q;obtain⟨a,e2,rfl⟩:=r5;obtain⟨tk,rfl⟩:=RT.c9 r3;have d:ak X X.own c3 m3 s3 ((match m4[cc]? with
     |some (Zz (.l false xs))=>match gM xs.length kk with
      |some j=>Res.ok () (m4.set cc (Zz (.l false (xs.set j t))))
      |none=>.stuck
     |_=>.stuck).bind λ_ m=>ex call gv K env m) J (FQ X R):=d
   split at d
   ·rename_i xs e1
    split at d
    ·rename_i jj hj
     obtain⟨b,y,q1,pl,_,q4⟩:=I4.mem.li e1;rw[e2]at q1;cases q1;have hq:=q4.1;simp only[RM]at hq;have hl:=line;obtain⟨⟨n,e3⟩,_,hz⟩:=id pl;have q5:fG X.D c3 m4 s3.heap (xs.set jj t) (y.setIfInBounds jj v).toList:=⟨by simp[hq],λi t' v' a b=>by
      rw[Array.toList_setIfInBounds]at b;rw[List.getElem?_set]at a b;by_cases hi:jj=i
      ·subst hi
       rw[Yn rfl]at a b;split at a<;>cases a;rw[Yn (by simp;omega)]at b;cases b;exact r6
      ·rw[Yo hi]at a b
       exact q4.2 i t' v' a b⟩
     obtain⟨x5,I5⟩:=lR (f:=λx=>x.setIfInBounds jj v) (n:=s3.toks) I4 e1 e2 pl rfl (by simpa using hz) q5;have fin:=wpAny_release (M:=X.M) (A:=X.A) (E:=J) (vs:=[v,.ref a,.int kk tk]) (keep:=[]) (Q:=λ_ s'=>RF X.M X.A (execs rest X.env) R J s') (hk _ _ _ _ I5 R J j ((d.shift (x4.sub aX)).shift (x5.sub aX)));unfold gM at hj;by_cases h0:0<=kk
     ·rw[Yn h0]at hj
      obtain⟨h4,hj⟩:=RI.mp hj;cases hj;exact PySem.W.ki_setAt e3 h0 (by omega) (by rw[<-hq];exact h4) fin
     ·rw[Yo h0]at hj
      obtain⟨h4,hj⟩:=RI.mp hj;cases hj;rw[hq]at fin;exact PySem.W.ki_setBack e3 (by omega) (by rw[<-hq];exact h4) (by omega) fin
    ·exact d.elim
   ·exact d.elim
 ·exact d.elim
theorem Du{op:Wp}(i:Nat)(hN:X.N.Nodup)(h:PE call gv X e E)(hk:fW call gv X rest K)(hi:X.N[i]?=Zz N:=by rfl)(hx:Loc X N:=by first|exact YY rfl|exact YC ⟨rfl,rfl⟩):fW call gv X (.AugAssign (.Name N p) op e pos::rest) (.aug i op E K):=λenv cm m s I R J j hp=>by
 rw[Cg]at hp;split at hp
 rotate_left
 ·exact hp.elim
 rename_i w ew;obtain⟨f,hn,hl⟩:=I.loc;obtain⟨u,r,l⟩:=hl i N w hi ew (hx.imp id λz=>.inl z.1);refine S6 (wpAny_AugAssign_Name ?_);have go:RF X.M X.A (eval e X.env) (λz s₂=>RF X.M X.A (inplaceOp op u z) (λr s₃=>RF X.M X.A (YK X.env N r) (λ_ s'=>RF X.M X.A (execs rest X.env) R J s') J s₃) J s₂) J s:=h.gI I hp λw2 z c1 m1 s1 I1 x1 r2 d=>by
  obtain⟨t,e0,d⟩:=pF d;obtain⟨x,e1,e0⟩:=RP.mp e0;obtain⟨y,e2,e0⟩:=RP.mp e0;have r1:=r.go x1.toExtK I.mem I.nc.q;have fin:∀i,t=.int i->RF X.M X.A (YK X.env N (.int i s1.toks)) (λ_ s'=>RF X.M X.A (execs rest X.env) R J s') J { s1 with toks:=s1.toks+1 }:=λi e=>by
   subst e;obtain⟨x2,I2⟩:=I1.up (g:=s1.heap) (t:=s1.toks+1) (d:=s1.drawn) (ch:=X.own) λ_ _ e=>e
   exact store I2 hN hi hx (w:=.t (.int i)) (.int _ _) λs3 x3 I3=>hk _ _ _ _ I3 R J j ((d.shift x2).shift x3)
  unfold Fk at e0;split at e0<;>cases e0
  ·obtain⟨_,rfl⟩:=(ae r1 e1).c9
   obtain⟨_,rfl⟩:=(ae r2 e2).c9;exact iadd_int (fin _ rfl)
  ·obtain⟨_,rfl⟩:=(ae r1 e1).c9
   obtain⟨_,rfl⟩:=(ae r2 e2).c9;exact isub_int (fin _ rfl)
 rcases l with⟨hk,hm⟩|⟨hk|hk,c,hc,hcell⟩
 ·exact wpAny_loadName_local I.ok.kind hk hn hm go
 ·exact wpAny_loadName_cell I.ok.kind hk hc hcell go
 ·rcases hx with k|⟨k,_⟩<;>(rw[show X.env.scope.names.lookup N=_ from hk]at k;cases k)
theorem vr(i:Nat)(d:X.N[i]?=Zz N:=by rfl)(b:Ks X.env.scope N:=by first|exact YY rfl|exact YC (YY rfl)|exact YC (YC rfl))(c:(N==("__debug__" : Str))=false:=by decide)(a:(N==("__classdict__" : Str))=false:=by decide):PE call gv X (.Name N pos) (.var i):=EZ d b c a
theorem sg(i:Nat)(g:X.N.Nodup)(h:PE call gv X e E)(d:fW call gv X rest K)(hi:X.N[i]?=Zz N:=by rfl)(a:Loc X N:=by first|exact YY rfl|exact YC ⟨rfl,rfl⟩)(b:Wv e (Zz (.Name N p)) pos.line X.env=pure false:=by rfl):fW call gv X (.Assign [.Name N p] e pos::rest) (.asg i E K):=CQ g hi a h d b
end
inductive SrcL (X:Cx) (cm:List RB) (m:Mem) (h:Rm) (a:RB) (l:List T):Prop
 |own {x:Array R3}(_:ai cm m a) (_:d8 X.fs h a x) (_:fG X.D cm m h l x.toList)
 |rI {j:Nat}(_:m[j]?=Zz (Zz (.l true l))) (_:cm[j]?=Zz a)
 |fH {x:Array R3}(_:ai cm m a) (_:oy "list" h a x) (_:a∉X.fs) (_:fG X.D cm m h l x.toList)
section
variable{P:Ry}{w:SS}{A:SF}{E:R3->RA->Prop}{s:RA}
theorem B7(hj:s.heap.IsTupleIter j a k)(ha:s.heap.IsTuple a vs)(hv:vs[k]?=Zz v)(q:∀g,g.IsTupleIter j a (k+1)->Tp j s.heap g->Q v { s with heap:=g }):RF (Rp P w) A (U7 (.ref j)) Q E s:=by
 obtain⟨oj,ej,cj,dj⟩:=id hj;obtain⟨oa,ea,_,na,da⟩:=ha;unfold U7;refine R0 (SU hj.typeIs U0 (SK U0 hj.typeIs F.entry_tuple_iterator_next ?_ (F.args_tuple_iterator_next_1 _)));show RF _ _ (field (.ref j) 0 >>= _) _ _ s;refine R0 (SV ej dj rfl ?_);show RF _ _ (if(TR a==Us)=true then _ else _) _ _ s;rw[Yo (show ¬(TR a==Us)=true from RK)];refine R0 (SV ej dj rfl ?_);refine R0 (Sw ea da ?_);simp only[TM,hv];refine R0 (Sk ej dj (by simp) (R5 ⟨v,rfl,R5 (q _ ⟨_,SH _ ej (T9 (SP dj _)),(VU ..).trans cj,?_⟩ (SW ..))⟩));rw[SP dj];simp[rawInt]
theorem DB(hA:A.handled=Zy)(hj:s.heap.IsTupleIter j a k)(ha:s.heap.IsTuple a vs)(hv:vs[k]?=Zy)(q:∀g e,VL j s.heap g->(∃o,g.get? e=Zz o/\o.cls=.type "StopIteration")->E (.ref e) { s with heap:=g }):RF (Rp P w) A (U7 (.ref j)) Q E s:=by
 obtain⟨oj,ej,cj,dj⟩:=id hj;obtain⟨oa,ea,_,na,da⟩:=ha;unfold U7;refine R0 (SU hj.typeIs U0 (SK U0 hj.typeIs F.entry_tuple_iterator_next ?_ (F.args_tuple_iterator_next_1 _)));show RF _ _ (field (.ref j) 0 >>= _) _ _ s;refine R0 (SV ej dj rfl ?_);show RF _ _ (if(TR a==Us)=true then _ else _) _ _ s;rw[Yo (show ¬(TR a==Us)=true from RK)];refine R0 (SV ej dj rfl ?_);refine R0 (Sw ea da ?_);simp only[TM,hv];refine R0 (UH (R0 (Sk ej dj (by simp) ?_)));refine R0 ?_;simp only[newExc,newTuple];refine R0 (SG ?_ (by size_fits));refine R0 (WZ (by first|rfl|(simp only[firstArgMember];rfl)) (SG ?_ (by size_fits)));simp only[Yd];refine R0 (wpAny_handled ?_)
 first|rw[show A.in1.handled=Zy from hA]|rw[hA]
 exact R0 (R5 (wpAny_throw (q _ _ (((SW ..).extBut.push _).push _) ⟨_,RN _ rfl,rfl⟩)))
structure Bu (z TI TO i j a b:RB) (k:Nat) (h:Rm):Prop where
 zip:YL h z TI TO .none
 its:YZ h TI (.ref i) (.ref j)
 out:∃p q,YZ h TO p q
 one:h.IsTupleIter i a k
 two:h.IsListIter j b k
theorem Bl{z TI TO i j a b:RB}{xs ys:Array R3}{Q:R3->RA->Prop}(D:Yi z TI TO i j a b)(S:Bu z TI TO i j a b k s.heap)(ha:s.heap.IsTuple a xs)(hb:s.heap.IsList b ys)(hx:xs[k]?=Zz x)(hy:ys[k]?=Zz y)(q:∀(g g':Rm),g.objs.size=s.heap.objs.size->(∀c o,c≠z->c≠TO->c≠i->c≠j->s.heap.get? c=Zz o->g.get? c=Zz o) ->
   (∀c o,c≠z->(g.push { cls:=.type "tuple",data:=.seq #[x,y] }).get? c=Zz o->g'.get? c=Zz o)->YL g' z TI TO (rawInt s.heap.objs.size)->YZ g' TO x y->g'.IsTupleIter i a (k+1)->g'.IsListIter j b (k+1) ->
   Q (.ref s.heap.objs.size) { s with heap:=g' }):RF (Rp P w) A (Builtin.«zip.__next__» ⟨[.ref z],[]⟩) (λfin s'=>∃v,fin=.done (.ret v)/\Q v s') E s:=by
 obtain⟨hz,hI,⟨p,r,hO⟩,h1,h2⟩:=S;show RF _ _ (field (.ref z) 2 >>= _) _ _ _;refine R0 (SV hz rfl rfl ?_);refine R0 (SV hz rfl rfl (R0 (Sw hI rfl ?_)));refine R0 ?_;unfold Builtin.SmallTypes.ownedTupleIsFree;refine R0 (SV hz rfl rfl (R5 ?_));simp only[if_true];refine R0 (UH (R0 (SV hz rfl rfl (R0 (UY hz (by simp) λg1 z1 e1=>?_)))));replace z1:YL g1 z TI TO .ellipsis:=z1;refine R0 ?_;simp only[List.zipIdx_cons,List.zipIdx_nil,U8,WL];refine R0 (R0 (Xc ?_));refine R0 (B7 (h1.extBut e1.extBut D.i1z) (ha.extBut e1.extBut D.l1z) hx λg2 k2 e2=>R5 ?_);have o2:=e2.extBut _ _ D.TOi1 (e1.extBut _ _ D.TOz hO);refine R0 (Sw o2 rfl (R0 (wpAny_updateSeq_pair o2 λg3 o3 e3=>?_)));replace o3:YZ g3 TO x r:=o3;refine R0 (VI (R5 (R0 (R0 (Xc ?_)))));refine R0 (wpAny_nextOf_list_item (((h2.extBut e1.extBut D.i2z).extBut e2.extBut D.i12.symm).extBut e3.extBut D.TOi2.symm) (((hb.extBut e1.extBut D.l2z).extBut e2.extBut D.l2i1).extBut e3.extBut D.l2TO) hy λg4 k4 e4=>R5 ?_);have o4:=e4.extBut _ _ D.TOi2 o3;refine R0 (Sw o4 rfl (R0 (wpAny_updateSeq_pair o4 λg5 o5 e5=>?_)));replace o5:YZ g5 TO x y:=o5;refine R0 (VI (R5 (R5 (R0 (Sw o5 rfl (R0 (WJ ?_)))))));have sz:g5.objs.size=s.heap.objs.size:=by rw[e5.1,e4.1,e3.1,e2.1,e1.1]
 have z5:=e5.extBut _ _ D.TOz.symm (e4.extBut _ _ D.i2z.symm (e3.extBut _ _ D.TOz.symm (e2.extBut _ _ D.i1z.symm z1)));have kp:∀c o,c≠z->c≠TO->c≠i->c≠j->s.heap.get? c=Zz o->g5.get? c=Zz o:=λc o n1 n2 n3 n4 e =>
  e5.extBut _ _ n2 (e4.extBut _ _ n4 (e3.extBut _ _ n2 (e2.extBut _ _ n3 (e1.extBut _ _ n1 e))))
 have k5:=((k2.extBut e3.extBut D.TOi1.symm).extBut e4.extBut D.i12).extBut e5.extBut D.TOi1.symm;have l5:=k4.extBut e5.extBut D.TOi2.symm;refine R0 ?_;unfold Builtin.SmallTypes.ownedTupleHandOut;have z6:YL (g5.push { cls:=.type "tuple",data:=.seq #[x,y] }) z TI TO .ellipsis:=R7 _ z5;refine R0 (UY z6 (by simp) λg7 z7 e7=>?_);replace z7:YL g7 z TI TO (rawInt g5.objs.size):=z7;refine UY z7 (by simp) λg8 z8 e8=>?_
 replace z8:YL g8 z TI TO (rawInt g5.objs.size):=z8;have up:∀c o,c≠z->(g5.push { cls:=.type "tuple",data:=.seq #[x,y] }).get? c=Zz o->g8.get? c=Zz o:=λc o n e=>e8.extBut _ _ n (e7.extBut _ _ n e)
 have up':=λc o n e=>up c o n (R7 _ e)
 refine R5 ⟨_,rfl,?_⟩;rw[sz]at z8 ⊢;exact q g5 g8 sz kp up z8 (up' _ _ D.TOz o5) (k5.at λo e=>up' _ o D.i1z e) (l5.at λo e=>up' _ o D.i2z e)
theorem DS{z TI TO i j a b:RB}(hA:A.handled=Zy)(D:Yi z TI TO i j a b)(S:Bu z TI TO i j a b k s.heap)(ha:s.heap.IsTuple a xs)(hx:xs[k]?=Zy)(q:∀(g:Rm) (e:RB),(∀c o,c≠z->c≠i->s.heap.get? c=Zz o->g.get? c=Zz o)->(∃o,g.get? e=Zz o/\o.cls=.type "StopIteration")->E (.ref e) { s with heap:=g }):
  RF (Rp P w) A (Builtin.«zip.__next__» ⟨[.ref z],[]⟩) Q E s:=by
 obtain⟨hz,hI,_,h1,h2⟩:=S;show RF _ _ (field (.ref z) 2 >>= _) _ _ _;refine R0 (SV hz rfl rfl ?_);refine R0 (SV hz rfl rfl (R0 (Sw hI rfl ?_)));refine R0 ?_;unfold Builtin.SmallTypes.ownedTupleIsFree;refine R0 (SV hz rfl rfl (R5 ?_));simp only[if_true];refine R0 (UH (R0 (SV hz rfl rfl (R0 (UY hz (by simp) λg1 z1 e1=>?_)))));replace z1:YL g1 z TI TO .ellipsis:=z1;refine R0 ?_;simp only[List.zipIdx_cons,List.zipIdx_nil,U8,WL];refine R0 (R0 (Xc ?_));refine R0 (DB hA (h1.extBut e1.extBut D.i1z) (ha.extBut e1.extBut D.l1z) hx λg2 e k2 he=>?_);obtain⟨oe,hoe,hce⟩:=he;have z2:=k2 _ _ D.i1z.symm z1;have ne:e≠z:=λx=>by subst x;rw[z2]at hoe;cases hoe;simp at hce
 exact UY z2 (by simp) λg3 _ e3=>q g3 e (λc o n1 n2 x=>e3.extBut _ _ n1 (k2 _ _ n2 (e1.extBut _ _ n1 x))) ⟨oe,e3.extBut _ _ ne hoe,hce⟩
end
inductive Src (X:Cx) (cm:List RB) (m:Mem) (h:Rm) (it:RB) (i:Nat) (l:List T):List RB->Prop
 |lst {a:RB}(_:h.IsListIter it a i) (_:SrcL X cm m h a l):Src X cm m h it i l [it]
 |tup {a:RB}{x:Array R3}(_:h.IsTupleIter it a i) (_:oy "tuple" h a x) (_:a∉X.fs) (_:fG X.D cm m h l x.toList):Src X cm m h it i l [it]
 |str {c:List Nat}{t:Tok}(k:Bool) (_:h.IsStrIter it (if k then "str_ascii_iterator" else "str_iterator") ⟨c.toArray⟩ t i) (_:l=c.map λc=>.str [c]):Src X cm m h it i l [it]
 |EC {lo:Int}{n:Nat}(_:IsRangeIter h it (lo+(i:Nat)*1) ((n:Int)-(i:Nat)) 1) (_:l=rangeT lo n):Src X cm m h it i l [it]
 |BA {j a:RB}{old:R3}{ts:List T}(_:it≠j) (_:IsEnum h it j (i:Int) old) (_:h.IsListIter j a i) (_:SrcL X cm m h a ts) (_:l=kK ts):Src X cm m h it i l [it,j]
 |zip {TI TO j j' a b:RB}{x:Array R3}{ts us:List T}(_:Yi it TI TO j j' a b) (_:Bu it TI TO j j' a b i h) (_:oy "tuple" h a x) (_:a∉X.fs) (_:fG X.D cm m h ts x.toList) (_:SrcL X cm m h b us) (_:ts.length=us.length) (_:l=F6 ts us):Src X cm m h it i l [it,TI,TO,j,j']
noncomputable def isTup:List RB->RB->Bool
 |[_,TI,TO,_,_],b=>b==TI || b==TO
 |_,_=>false
theorem nL{a b c d e x:RB}:isTup [a,b,c,d,e] x=(x==b || x==c):=rfl
structure On (X:Cx) (cm:List RB) (m:Mem) (h:Rm) (it:RB) (fp:List RB) (i:Nat) (l:List T):Prop where
 src:Src X cm m h it i l fp
 nb:∀b∈fp,X.base.get? b=Zy
 no:∀b∈fp,b∉X.own
 nf:∀b∈fp,if isTup fp b then b∈X.fs/\b∉frs X.stack else b∉X.fs
section
variable{X:Cx}{D:Dm}{env:Mi.Env}{cm cm' cm0:List RB}{m m' m0 m1 m2:Mem}{s s' s0 s1:RA}{w u:W}{v z:R3}{ch fp:List RB}{J Q:VK}{h g:Rm}{t:T}{l ts:List T}{a it:RB}{n:Nat}{i:Nat}{tk:Nat}{tg:S4}{α:Type}
theorem SrcL.now(M:av X cm m h)(q:SrcL X cm m h a l):∃x,h.IsList a x/\x.size<=Rq/\fG X.D cm m h l x.toList:=by
 cases q with
 |own n p r=>exact⟨_,p.pl.isList,p.2.2,r⟩
 |fH n p _ r=>obtain⟨_,_,_,_,_,_,z⟩:=id p;exact⟨_,p.pl.isList,z,r⟩
 |rI e1 e2 =>
  obtain⟨b,x,h1,p,_,r⟩:=M.li e1;rw[e2]at h1;cases h1;exact⟨x,p.pl.isList,p.2.2,r⟩
theorem SrcL.go(x:ExtK X.fs X.gs ch cm m s cm' m' s')(lt:∀(i:Nat) l,m[i]?=Zz (Zz (.l true l))->m'[i]?=Zz (Zz (.l true l)))(M:av X cm m s.heap)(N:Nq X.fs ch s.heap)(q:SrcL X cm m s.heap a l):SrcL X cm' m' s'.heap a l:=by
 cases q with
 |own n p r=>exact .own (p.go x N n).2 (p.go x N n).1 (r.mp λ_ _ r=>r.go x M N)
 |fH n p f r=>exact .fH (p.go x N n f).2 (p.go x N n f).1 f (r.mp λ_ _ r=>r.go x M N)
 |rI e1 e2=>exact .rI (lt _ _ e1) (x.pre _ _ e2)
theorem Bu.keep{TI TO j j' a b:RB}(S:Bu it TI TO j j' a b i h)(k:∀c∈[it,TI,TO,j,j'],∀o,h.get? c=Zz o->g.get? c=Zz o):Bu it TI TO j j' a b i g:=by
 obtain⟨hz,hI,⟨p,q,hO⟩,⟨o1,e1,c1⟩,⟨o2,e2,c2⟩⟩:=S;exact⟨k _ (by simp) _ hz,k _ (by simp) _ hI,⟨p,q,k _ (by simp) _ hO⟩,⟨o1,k _ (by simp) _ e1,c1⟩,⟨o2,k _ (by simp) _ e2,c2⟩⟩
theorem Src.go(x:ExtK X.fs X.gs ch cm m s cm' m' s')(lt:∀(i:Nat) l,m[i]?=Zz (Zz (.l true l))->m'[i]?=Zz (Zz (.l true l)))(M:av X cm m s.heap)(N:Nq X.fs ch s.heap)(k:∀b∈fp,∀o,s.heap.get? b=Zz o->s'.heap.get? b=Zz o)(q:Src X cm m s.heap it i l fp):Src X cm' m' s'.heap it i l fp:=by
 cases q with
 |lst q r=>obtain⟨o,e,c⟩:=q;exact .lst ⟨o,k _ R9 o e,c⟩ (r.go x lt M N)
 |tup q p f r=>obtain⟨o,e,c⟩:=q;exact .tup ⟨o,k _ R9 o e,c⟩ (p.go x N (p.nl M) f).1 f (r.mp λ_ _ r=>r.go x M N)
 |str b q e1=>obtain⟨o,e,c⟩:=q;exact .str b ⟨o,k _ R9 o e,c⟩ e1
 |EC q e1=>exact .EC (k _ R9 _ q) e1
 |BA n q r c e1=>obtain⟨o,e,d⟩:=r;exact .BA n (k _ R9 _ q) ⟨o,k _ (by simp) o e,d⟩ (c.go x lt M N) e1
 |zip A S p f r c e1 e2=>exact .zip A (S.keep k) (p.go x N (p.nl M) f).1 f (r.mp λ_ _ r=>r.go x M N) (c.go x lt M N) e1 e2
theorem Src.obj(q:Src X cm m h it i l fp):∀b∈fp,∃o,h.get? b=Zz o/\((∃vs c,o.data=.fields vs/\o.cls=.type c/\c≠"traceback"/\∀x t,vs[1]?≠Zz (.str x t))/\isTup fp b=false∨(∃x n,o.data=.seq x n)/\isTup fp b=true):=by
 have one:∀{j:RB}{o:Obj}{c vs},h.get? j=Zz o->o.cls=.type c->o.data=.fields vs->(c≠"traceback"/\∀x t,vs[1]?≠Zz (.str x t))->∀b∈[j],∃o,h.get? b=Zz o/\((∃vs c,o.data=.fields vs/\o.cls=.type c/\c≠"traceback"/\∀x t,vs[1]?≠Zz (.str x t))/\isTup [j] b=false∨(∃x n,o.data=.seq x n)/\isTup [j] b=true):=λe c d n b hb=>by
  rw[RH.mp hb];exact⟨_,e,.inl ⟨⟨_,_,d,c,n⟩,rfl⟩⟩
 cases q with
 |lst q _=>obtain⟨o,e,c,d⟩:=q;exact one e c d ⟨by decide,λ_ _ z=>by simp at z⟩
 |tup q _ _ _=>obtain⟨o,e,c,d⟩:=q;exact one e c d ⟨by decide,λ_ _ z=>by simp at z⟩
 |str k q _=>obtain⟨o,e,c,d⟩:=q;exact one e c d (⟨by cases k<;>decide,λ_ _ z=>by simp at z⟩)
 |EC q _=>exact one q rfl rfl ⟨by decide,λ_ _ z=>by simp[rawInt]at z⟩
 |BA _ q r _ _ =>
  obtain⟨o,e,c,d⟩:=r;intro b hb;rcases R6.mp hb with rfl|hb
  ·exact⟨_,q,.inl ⟨⟨_,_,rfl,rfl,by decide,λ_ _ z=>by simp at z⟩,rfl⟩⟩
  ·rw[RH.mp hb];exact⟨_,e,.inl ⟨⟨_,_,d,c,by decide,λ_ _ z=>by simp at z⟩,rfl⟩⟩
 |zip A S _ _ _ _ _ _ =>
  obtain⟨hz,hI,⟨p,q,hO⟩,⟨o1,e1,c1,d1⟩,⟨o2,e2,c2,d2⟩⟩:=S;intro b hb;simp only[R6,RG,or_false]at hb;rcases hb with rfl|rfl|rfl|rfl|rfl
  ·exact⟨_,hz,.inl ⟨⟨_,_,rfl,rfl,by decide,λ_ _ z=>by simp at z⟩,by simp[nL,A.TIz.symm,A.TOz.symm]⟩⟩
  ·exact⟨_,hI,.inr ⟨⟨_,_,rfl⟩,by simp[nL]⟩⟩
  ·exact⟨_,hO,.inr ⟨⟨_,_,rfl⟩,by simp[nL]⟩⟩
  ·exact⟨_,e1,.inl ⟨⟨_,_,d1,c1,by decide,λ_ _ z=>by simp at z⟩,by simp[nL,A.TIi1.symm,A.TOi1.symm]⟩⟩
  ·exact⟨_,e2,.inl ⟨⟨_,_,d2,c2,by decide,λ_ _ z=>by simp at z⟩,by simp[nL,A.TIi2.symm,A.TOi2.symm]⟩⟩
theorem On.pt(q:On X cm m h it fp i l):∀b∈fp,∃o,h.get? b=Zz o/\((∃vs c,o.data=.fields vs/\o.cls=.type c/\c≠"traceback"/\∀x t,vs[1]?≠Zz (.str x t))/\b∉X.fs∨(∃x n,o.data=.seq x n)/\b∈X.fs/\b∉frs X.stack):=λb hb=>by
 obtain⟨o,e,p⟩:=q.src.obj b hb;have f:=q.nf b hb;rcases p with⟨p,k⟩|⟨p,k⟩
 ·rw[Yo (by rw[k];decide)]at f;exact⟨o,e,.inl ⟨p,f⟩⟩
 ·rw[Yn k]at f;exact⟨o,e,.inr ⟨p,f⟩⟩
theorem On.gp(x:ExtK X.fs X.gs ch cm m s cm' m' s')(M:av X cm m s.heap)(c:∀b∈fp,b∉ch)(q:On X cm m s.heap it fp i l):∀b∈fp,∀o,s.heap.get? b=Zz o->s'.heap.get? b=Zz o:=λb hb o e=>by
 obtain⟨o',e',p⟩:=q.pt b hb;rw[e]at e';cases e';rcases p with⟨⟨vs,cc,d,_,_⟩,f⟩|⟨⟨y,n,d⟩,f,_⟩
 ·obtain⟨_,o',e',r⟩:=x.keep b o e (c b hb) (uR M e d)
  rcases r with rfl|⟨r,_⟩
  ·exact e'
  ·exact Ys r f
 ·obtain⟨_,o',e',r⟩:=x.keep b o e (c b hb) (EA M f)
  rcases r with rfl|⟨_,r,_⟩
  ·exact e'
  ·exact Ys d (r _ _)
theorem On.go(x:ExtK X.fs X.gs ch cm m s cm' m' s')(lt:∀(i:Nat) l,m[i]?=Zz (Zz (.l true l))->m'[i]?=Zz (Zz (.l true l)))(M:av X cm m s.heap)(N:Nq X.fs ch s.heap)(c:∀b∈fp,b∉ch)(q:On X cm m s.heap it fp i l):On X cm' m' s'.heap it fp i l:=
 ⟨q.src.go x lt M N (q.gp x M c),q.nb,q.no,q.nf⟩
theorem On.nq(q:On X cm m h it fp i l):Nq X.fs fp h:=λb hb o e f=>by
 obtain⟨o',e',p⟩:=q.pt b hb;rw[e]at e';cases e';rcases p with⟨⟨vs,c,d,e1,e2⟩,_⟩|⟨⟨y,n,d⟩,g,_⟩
 ·cases f with
  |seq x n z=>rw[d]at z;cases z
  |dict x n z=>rw[d]at z;cases z
  |ref C v z=>rw[e1]at z;cases z
  |trace v z=>rw[e1]at z;exact e2.1 (Value.type.inj z)
  |plain z=>rw[d]at z;cases z
 ·cases f with
  |seq x n z f=>exact f g
  |dict x n z=>rw[d]at z;cases z
  |ref C v _ z=>rw[d]at z;cases z
  |trace v _ z=>rw[d]at z;cases z
  |plain z=>rw[d]at z;cases z
theorem On.stp(I:Fr X env cm m s)(q:On X cm m s.heap it fp i l)(kk:∀b o,b∉fp->s.heap.get? b=Zz o->h.get? b=Zz o)(pp:∀b∈fp,b∈X.fs->∃o x n,h.get? b=Zz o/\o.data=.seq x n):ExtK X.fs X.gs fp cm m s cm m { s with heap:=h,toks:=tk }/\Fr X env cm m { s with heap:=h,toks:=tk }:=by
 have x:ExtK X.fs X.gs fp cm m s cm m { s with heap:=h,toks:=tk }:=⟨rfl,id,λ_ _ h=>h,RO _,λb o e c n=>⟨n,o,kk b o c e,.inl rfl⟩⟩
 have M:=I.mem.go q.nq x kk (I.ok.iz _ _ I.mem.tab λb o hb e=>kk b o (λz=>by
  rcases hb with hb|⟨v,x,u,d,k⟩
  ·exact q.no b z (aX b hb)
  obtain⟨o',e',p⟩:=q.pt b z;rw[e]at e';cases e';rcases p with⟨⟨w,c,g,_,n⟩,_⟩|⟨⟨y,n,g⟩,_⟩
  ·rw[d]at g;cases g;exact n.2 _ _ k
  ·rw[d]at g;cases g) e)
 have no:∀{b o},s.heap.get? b=Zz o->(∀v,o.data≠.fields v)->(∀x n,o.data≠.seq x n)->b∉fp:=λe n k z=>by
  obtain⟨o',e',p⟩:=q.pt _ z;rw[e]at e';cases e';rcases p with⟨⟨_,_,d,_⟩,_⟩|⟨⟨_,_,d⟩,_⟩
  ·exact n _ d
  ·exact k _ _ d
 have cell:∀{c v},s.heap.IsCell c v->h.IsCell c v:=λ⟨o,e,d⟩=>⟨o,kk _ _ (no e (λv z=>by rw[d]at z;cases z) λx n z=>by rw[d]at z;cases z) e,d⟩
 obtain⟨f,⟨oL,es,ep,eL,dL,r⟩,hl⟩:=I.loc;refine⟨x,⟨I.ok,M,I.bare,λb o e=>kk b o (λz=>by rw[q.nb b z]at e;cases e) (I.bs b o e),⟨f,⟨oL,es,ep,kk _ _ (no eL (λv z=>by rw[dL]at z;cases z) λx n z=>by rw[dL]at z;cases z) eL,dL,r⟩,λi y w h1 h2 h3=>?_⟩,λy c h=>(I.cell y c h).elim λv z=>⟨v,cell z⟩,λb hb=>?_,I.len⟩⟩
 ·obtain⟨u,h4,h5⟩:=hl i y w h1 h2 h3
  exact⟨u,h4.go x I.mem q.nq,h5.imp id λ⟨k,c,h6,h7⟩=>⟨k,c,h6,cell h7⟩⟩
 ·obtain⟨g1,o,e,n⟩:=I.bF b hb
  refine⟨g1,?_⟩;by_cases z:b∈fp
  ·obtain⟨o',y,c,e',d⟩:=pp b z hb
   refine⟨o',e',(λv z=>by rw[d]at z;cases z),λw=>?_⟩;obtain⟨_,_,⟨_,f⟩|⟨_,_,f⟩⟩:=q.pt b z
   ·exact Ys hb f
   ·exact Ys w f
  ·exact⟨o,kk b o z e,n⟩
theorem On.fin{j:Nat}(I:Fr X env cm m s)(q:On X cm m s.heap it fp i l)(kk:∀b o,b∉fp->s.heap.get? b=Zz o->h.get? b=Zz o)(S:ExtK X.fs X.gs fp cm m s cm m { s with heap:=h,toks:=tk }->Src X cm m h it j l fp):ExtK X.fs X.gs fp cm m s cm m { s with heap:=h,toks:=tk }/\Fr X env cm m { s with heap:=h,toks:=tk }/\On X cm m h it fp j l:=by
 have S:=S ⟨rfl,id,λ_ _ h=>h,RO _,λb o e c n=>⟨n,o,kk b o c e,.inl rfl⟩⟩;have on:On X cm m h it fp j l:=⟨S,q.nb,q.no,q.nf⟩
 obtain⟨x,I'⟩:=q.stp (tk:=tk) I kk λb hb f=>by
  obtain⟨o,e,⟨_,g⟩|⟨⟨x,n,d⟩,_⟩⟩:=on.pt b hb
  ·exact Ys f g
  ·exact⟨o,x,n,e,d⟩
 exact⟨x,I',on⟩
theorem aH.mK{fs e:List RB}(x0:aH fs gs ch cm0 m0 s0 cm m s)(x:ExtK fs gs e cm m s cm m s1)(n:∀b∈e,s0.heap.get? b=Zy)(t:∀b o,b∉e->s.heap.get? b=Zz o->∃o',s1.heap.get? b=Zz o'/\Kd o o'):aH fs gs ch cm0 m0 s0 cm m s1:=by
 have ne:∀{b o},s0.heap.get? b=Zz o->b∉e:=λq z=>by rw[n _ z]at q;cases q
 refine .of (λb o e=>?_) x0.lent x0.ob ⟨x.os.trans x0.os,λh=>x.bare (x0.bare h),x0.pre,x0.len,λb o e c nl=>?_⟩
 ·obtain⟨o1,e1,q⟩:=x0.thr b o e
  obtain⟨o2,e2,q2⟩:=t b o1 (ne e) e1;exact⟨o2,e2,q2.1 ∘ q.1,q2.2 ∘ q.2⟩
 ·obtain⟨n1,o1,e1,r⟩:=x0.keep b o e c nl
  obtain⟨n2,o2,e2,q⟩:=x.keep b o1 e1 (ne e) n1;refine⟨n2,o2,e2,?_⟩;rcases r with rfl|⟨hf,hn,hg,sl,rfl⟩
  ·exact q
  ·rcases q with rfl|⟨_,_,_,sl',rfl⟩
   ·exact .inr ⟨hf,hn,hg,sl,rfl⟩
   ·exact .inr ⟨hf,hn,hg,sl',rfl⟩
theorem aH.past(x0:aH X.fs X.gs ch cm0 m0 s0 cm m s)(x:ExtK X.fs X.gs fp cm m s cm m s1)(n:∀b∈fp,s0.heap.get? b=Zy)(kk:∀b o,b∉fp->s.heap.get? b=Zz o->s1.heap.get? b=Zz o):aH X.fs X.gs ch cm0 m0 s0 cm m s1:=x0.mK x n λb o n e=>⟨o,kk b o n e,.r⟩
theorem JD{M:YI}{A:SF}{E:R3->RA->Prop}{s:RA}{u:R3}{o:Obj}{n:String}{vs:Array R3}{Q:Unit->RA->Prop}(ho:s.heap.get? it=Zz o)(hc:o.cls=.type n)(hd:o.data=.fields vs)(hn:["enumerate","zip","dict_itemiterator","dict_reverseitemiterator","odict_iterator","itertools.zip_longest","itertools.pairwise"].contains n=false)(hQ:Q () s):RF M A (TU tg (.ref it) u) Q E s:=by
 unfold TU;cases tg<;>first
  |exact R5 hQ
  |(cases u<;>first
   |exact R5 hQ
   |(
    refine R0 (wpAny_load ho ?_);rw[hc,hd];show RF M A (if(["enumerate","zip","dict_itemiterator","dict_reverseitemiterator","odict_iterator","itertools.zip_longest","itertools.pairwise"].contains n&&vs[0]?==Zz (rawInt _))=true then _ else _) Q E s;rw[Yo (by intro h;rw[hn,Bool.false_and]at h;cases h)];exact R5 hQ))
theorem Fv{lo:Int}{k:Nat}(e:(rangeT lo n)[k]?=Zz t):k<n/\t=.int (lo+(k:Int)):=by
 unfold rangeT at e;rw[RR]at e;obtain⟨j,e1,rfl⟩:=RL.mp e;obtain⟨h,e2⟩:=R8.mp e1;rw[T7]at h;rw[List.getElem_range]at e2;subst e2;exact⟨h,rfl⟩
theorem sR{l':RB}{o:Obj}{x:Array R3}{c:Nat}(q:h.IsListIter it l' i∨h.IsTupleIter it l' i)(e:h.get? a=Zz o)(d:o.data=.seq x c):a≠it:=λz=>by
 rcases q with⟨o',e',_,d'⟩|⟨o',e',_,d'⟩<;>(rw[z,e']at e;cases e;rw[d']at d;cases d)
def uS(fp:List RB)(tg:S4):Prop:=fp.length=1∨∃es kk pos,tg=.Tuple es kk pos
theorem Fo{i:Nat}(e:(kK l)[i]?=Zz t):∃t',l[i]?=Zz t'/\t=.tup [.int (i:Int),t']:=by
 unfold kK at e;rw[Vj]at e;split at e
 ·rename_i a b h1 h2
  cases e;obtain⟨_,h3⟩:=R8.mp h1;rw[List.getElem_range]at h3;subst h3;exact⟨b,h2,rfl⟩
 ·cases e
theorem G6{us:List T}{i:Nat}(e:(F6 l us)[i]?=Zz t):∃t' u',l[i]?=Zz t'/\us[i]?=Zz u'/\t=.tup [t',u']:=by
 unfold F6 at e;rw[Vj]at e;split at e
 ·cases e;exact⟨_,_,‹_›,‹_›,rfl⟩
 ·cases e
theorem On.next(hc:X.A.handled=Zy)(I:Fr X env cm m s)(q:On X cm m s.heap it fp i l)(tk0:uS fp tg)(e:l[i]?=Zz t)(k:∀u h tk,(∀b o,b∉fp->s.heap.get? b=Zz o->h.get? b=Zz o)->ExtK X.fs X.gs fp cm m s cm m { s with heap:=h,toks:=tk }->Fr X env cm m { s with heap:=h,toks:=tk }->On X cm m h it fp (i+1) l->RT X.D cm m h t u->Q u { s with heap:=h,toks:=tk }):
  RF X.M X.A (pyNext (.ref it)) (λr s1=>∃u,r=Zz u/\RF X.M X.A (TU tg (.ref it) u) (λ_ s2=>Q u s2) J s1) J s:=by
 have fin:∀v h' tk,RT X.D cm m s.heap t v->(∃o c vs,h'.get? it=Zz o/\o.cls=.type c/\o.data=.fields vs/\["enumerate","zip","dict_itemiterator","dict_reverseitemiterator","odict_iterator","itertools.zip_longest","itertools.pairwise"].contains c=false)->(∀b o,b∉fp->s.heap.get? b=Zz o->h'.get? b=Zz o)->(ExtK X.fs X.gs fp cm m s cm m { s with heap:=h',toks:=tk }->Src X cm m h' it (i+1) l fp)->∃u,Zz v=Zz u/\RF X.M X.A (TU tg (.ref it) u) (λ_ s2=>Q u s2) J { s with heap:=h',toks:=tk }:=λv h' tk r ⟨o,c,vs,e1,e2,e3,e4⟩ kk S=>by
  obtain⟨x,I',on⟩:=q.fin (tk:=tk) I kk S;exact⟨v,rfl,JD (s:={ s with heap:=h',toks:=tk }) e1 e2 e3 e4 (k v h' tk kk x I' on (r.go x I.mem q.nq))⟩
 have hl:=(R8.mp e).1;have S:=q.src;have S0:=q.src;cases S with
 |lst hi hs =>
  obtain⟨y,hy,_,r⟩:=hs.now I.mem;obtain⟨v,e1,rv⟩:=r.get e;have hr:=r.1;simp only[RM]at hr;obtain⟨o,ho,_,c,d⟩:=id hy;refine(Vm (prog:=X.prog) (w:=X.w) hc it _ (sR (.inl hi) ho d) y).item i s _ _ (by omega) ⟨hi,hy⟩ λv' h' tk hv st kk=>?_
  have hv:y[i]?=Zz v':=hv;rw[<-Rw,e1]at hv;cases hv;exact fin v h' tk rv (let⟨o,e,c,d⟩:=st.1;⟨o,_,_,e,c,d,by decide⟩) kk λx=>.lst st.1 (hs.go x (λ_ _ h=>h) I.mem q.nq)
 |tup hi hp hf r =>
  obtain⟨v,e1,rv⟩:=r.get e;have hr:=r.1;simp only[RM]at hr;obtain⟨o,c,ho,_,d,_⟩:=id hp;refine(Vy (prog:=X.prog) (w:=X.w) hc it _ (sR (.inr hi) ho d) _).item i s _ _ (by omega) ⟨hi,hp.tup⟩ λv' h' tk hv st kk=>?_
  have hv:(_:Array R3)[i]?=Zz v':=hv;rw[<-Rw,e1]at hv;cases hv;exact fin v h' tk rv (let⟨o,e,c,d⟩:=st.1;⟨o,_,_,e,c,d,by decide⟩) kk λx=>.tup st.1 (hp.go x q.nq (hp.nl I.mem) hf).1 hf (r.mp λ_ _ r=>r.go x I.mem q.nq)
 |@str c t' b hi el =>
  subst el;rw[RR]at e;obtain⟨d,e1,rfl⟩:=RL.mp e;rw[R2]at hl;have rv:∀v,SignAt ⟨c.toArray⟩ i v->RT X.D cm m s.heap (.str [d]) v:=λv ⟨d',u,e2,ev⟩=>by
   have e2:c[i]?=Zz d':=by simpa using e2
   rw[e1]at e2;cases e2;rw[ev];exact .str _ _
  cases b with
  |true=>exact(XQ (prog:=X.prog) (w:=X.w) hc it ⟨c.toArray⟩ t').item i s _ _ (by simpa using hl) hi λv h' tk hv st kk=>fin v h' tk (rv v hv) (let⟨o,e,c,d⟩:=st;⟨o,_,_,e,c,d,by decide⟩) kk λx=>.str true st rfl
  |false=>exact(Xd (prog:=X.prog) (w:=X.w) hc it ⟨c.toArray⟩ t').item i s _ _ (by simpa using hl) hi λv h' tk hv st kk=>fin v h' tk (rv v hv) (let⟨o,e,c,d⟩:=st;⟨o,_,_,e,c,d,by decide⟩) kk λx=>.str false st rfl
 |@EC lo n hi el =>
  subst el;obtain⟨h1,rfl⟩:=Fv e;refine(Y2 (prog:=X.prog) (w:=X.w) hc it lo 1 n).item i s _ _ h1 hi λv h' tk hv st kk=>?_
  obtain⟨t,rfl⟩:=hv;exact fin _ h' tk (by rw[Int.mul_one];exact .int _ _) ⟨_,_,_,st,rfl,rfl,by decide⟩ kk λx=>.EC st rfl
 |@BA j a old ts n0 q1 hi hs el =>
  subst el;obtain⟨t',e1,rfl⟩:=Fo e;obtain⟨y,hy,_,r⟩:=hs.now I.mem;obtain⟨u,hu,ru⟩:=r.get e1;rcases tk0 with z|⟨es,kk0,pos,rfl⟩
  ·cases z
  refine wpAny_pyNext_enum_item q1 hi hy (by rw[<-Rw];exact hu) n0 λh' heo hit' ht hz kp=>⟨_,rfl,wpAny_letOwnedTupleGo_enum heo λh2 he2 sb=>?_⟩
  have fresh:s.heap.get? s.heap.objs.size=Zy:=iX _;have ne:∀b∈[it,j],b≠s.heap.objs.size:=λb hb z=>by
   obtain⟨o,e,_⟩:=q.pt b hb;rw[z,fresh]at e;cases e
  have kk:∀b o,b∉[it,j]->s.heap.get? b=Zz o->h2.get? b=Zz o:=λb o n e=>sb.extBut b o (λz=>n (by simp[z])) (kp b o (λz=>n (by simp[z])) (λz=>n (by simp[z])) e)
  have hT:=sb.extBut _ _ (ne it (by simp)).symm ht;obtain⟨x,I',on⟩:=q.fin (tk:=s.toks+1) I kk λx=>.BA n0 he2 (hit'.extBut sb.extBut n0.symm) (hs.go x (λ_ _ h=>h) I.mem q.nq) rfl
  refine k _ h2 _ kk x I' on (.tup ⟨_,_,hT,rfl,rfl,rfl,by unfold Rq;simp⟩ (λhb=>?_) rfl (Al.cons (.int _ _) (.cons (ru.go x I.mem q.nq) .nil)).2);obtain⟨_,o,e,_⟩:=I.bF _ hb;rw[fresh]at e;cases e
 |@zip TI TO j j' a b y ts us A Sd p f r c el1 el =>
  subst el;obtain⟨t1,t2,e1,e2,rfl⟩:=G6 e;obtain⟨y2,hy2,_,r2⟩:=c.now I.mem;obtain⟨u,hu,ru⟩:=r.get e1;obtain⟨v,hv,rv⟩:=r2.get e2;rcases tk0 with z|⟨es,kk0,pos,rfl⟩
  ·cases z
  have hT:s.TypeIs (.ref it) "zip":=⟨_,Sd.zip,rfl⟩
  unfold pyNext;refine R0 (Ui (SU hT W7 (SK W7 hT F.entry_zip_next
   (Bl A Sd p.tup hy2 (by rw[<-Rw];exact hu) (by rw[<-Rw];exact hv) λg g' sz kp up z8 o8 k8 l8=>R5 ?_) (F.args_zip_next_1 _))))
  refine⟨_,rfl,wpAny_letOwnedTupleGo_zip z8 λh2 z9 e9=>?_⟩;have fresh:s.heap.get? s.heap.objs.size=Zy:=iX _;have ne:∀b∈[it,TI,TO,j,j'],b≠s.heap.objs.size:=λb hb z=>by
   obtain⟨o,e,_⟩:=q.pt b hb;rw[z,fresh]at e;cases e
  have kk:∀b o,b∉[it,TI,TO,j,j']->s.heap.get? b=Zz o->h2.get? b=Zz o:=λb o n e=>e9.extBut _ _ (λz=>n (by simp[z])) (up b o (λz=>n (by simp[z])) (R7 _ (kp b o (λz=>n (by simp[z])) (λz=>n (by simp[z])) (λz=>n (by simp[z])) (λz=>n (by simp[z])) e)))
  have hI:=e9.extBut _ _ A.TIz (up _ _ A.TIz (R7 _ (kp _ _ A.TIz A.TITO A.TIi1 A.TIi2 Sd.its)));have hT2:h2.get? s.heap.objs.size=Zz _:=e9.extBut _ _ (ne it (by simp)).symm (up _ _ (ne it (by simp)).symm (by rw[<-sz];exact RN _ rfl));obtain⟨x,I',on⟩:=q.fin (tk:=s.toks) I kk λx=>.zip A ⟨z9,hI,⟨_,_,e9.extBut _ _ A.TOz o8⟩,k8.extBut e9.extBut A.i1z,l8.extBut e9.extBut A.i2z⟩ (p.go x q.nq (p.nl I.mem) f).1 f (r.mp λ_ _ r=>r.go x I.mem q.nq) (c.go x (λ_ _ h=>h) I.mem q.nq) el1 rfl
  refine k _ h2 _ kk x I' on (.tup ⟨_,_,hT2,rfl,rfl,rfl,by unfold Rq;simp⟩ (λhb=>?_) rfl (Al.cons (ru.go x I.mem q.nq) (.cons (rv.go x I.mem q.nq) .nil)).2);obtain⟨_,o,e,_⟩:=I.bF _ hb;rw[fresh]at e;cases e
theorem On.done(hc:X.A.handled=Zy){R:RA->Prop}(I:Fr X env cm m s)(q:On X cm m s.heap it fp i l)(e:i=l.length)(k:∀h tk,(∀b o,b∉fp->s.heap.get? b=Zz o->h.get? b=Zz o)->ExtK X.fs X.gs fp cm m s cm m { s with heap:=h,toks:=tk }->Fr X env cm m { s with heap:=h,toks:=tk }->R { s with heap:=h,toks:=tk }):
  RF X.M X.A (pyNext (.ref it)) (λr s1=>r=Zy/\R s1) J s:=by
 have S:=q.src;have fin:∀{j} h' tk,fp=[j]->(∀b o,b∉[j]->s.heap.get? b=Zz o->h'.get? b=Zz o)->(Zy:Option R3)=Zy/\R { s with heap:=h',toks:=tk }:=λ{j} h' tk ef kk=>by
  subst ef;have p:=q.stp (tk:=tk) I kk λb hb f=>Ys f (by have:=q.nf b hb;rw[Yo (by exact RK)]at this;exact this)
  exact⟨rfl,k h' tk kk p.1 p.2⟩
 cases S with
 |lst hi hs =>
  obtain⟨y,hy,_,r⟩:=hs.now I.mem;have hr:=r.1;simp only[RM]at hr;obtain⟨o,ho,_,c,d⟩:=id hy;exact(Vm (prog:=X.prog) (w:=X.w) hc it _ (sR (.inl hi) ho d) y).done s _ _ ⟨by rw[<-hr,<-e];exact hi,hy⟩ λh tk=>fin h tk rfl
 |tup hi hp hf r =>
  have hr:=r.1;simp only[RM]at hr;obtain⟨o,c,ho,_,d,_⟩:=id hp;exact(Vy (prog:=X.prog) (w:=X.w) hc it _ (sR (.inr hi) ho d) _).done s _ _ ⟨by rw[<-hr,<-e];exact hi,hp.tup⟩ λh tk=>fin h tk rfl
 |@str c t' b hi el =>
  subst el;rw[R2]at e;have e:i=(⟨c.toArray⟩:Str).cps.size:=by simpa using e
  rw[e]at hi;cases b with
  |true=>exact(XQ (prog:=X.prog) (w:=X.w) hc it ⟨c.toArray⟩ t').done s _ _ hi λh tk=>fin h tk rfl
  |false=>exact(Xd (prog:=X.prog) (w:=X.w) hc it ⟨c.toArray⟩ t').done s _ _ hi λh tk=>fin h tk rfl
 |@EC lo n hi el =>
  subst el;have e:i=n:=by rw[e];simp[rangeT]
  subst e;exact(Y2 (prog:=X.prog) (w:=X.w) hc it lo 1 i).done s _ _ hi λh tk=>fin h tk rfl
 |@BA j a old ts n0 q1 hi hs el =>
  subst el;obtain⟨y,hy,_,r⟩:=hs.now I.mem;have hr:=r.1;simp only[RM]at hr;have e:i=ts.length:=by rw[e];simp[kK]
  refine wpAny_pyNext_enum_end hc q1 hi hy (by rw[Ut];omega) λh' kp=>?_
  have kk:∀b o,b∉[it,j]->s.heap.get? b=Zz o->h'.get? b=Zz o:=λb o n=>kp b o λz=>n (by simp[z])
  have p:=q.stp (tk:=s.toks) I kk λb hb f=>Ys f (by have:=q.nf b hb;rw[Yo (by exact RK)]at this;exact this)
  exact⟨rfl,k h' _ kk p.1 p.2⟩
 |@zip TI TO j j' a b y ts us A Sd p f r c el1 el =>
  subst el;have hr:=r.1;simp only[RM]at hr;have e:i=ts.length:=by rw[e];simp[F6,el1]
  have hT:s.TypeIs (.ref it) "zip":=⟨_,Sd.zip,rfl⟩
  unfold pyNext;refine R0 (Ui (SU hT W7 (SK W7 hT F.entry_zip_next
   (DS hc A Sd p.tup (by rw[Ut];omega) λg e kp he=>?_) (F.args_zip_next_1 _))))
  obtain⟨o,ho,hce⟩:=he;refine R0 (Wo ⟨o,ho,hce⟩ isSubtype_stop (R5 ⟨rfl,?_⟩));have kk:∀b o,b∉[it,TI,TO,j,j']->s.heap.get? b=Zz o->g.get? b=Zz o:=λb o n=>kp b o (λz=>n (by simp[z])) λz=>n (by simp[z])
  obtain⟨_,hI,⟨p1,p2,hO⟩,_⟩:=Sd;have p:=q.stp (tk:=s.toks) I kk λb hb f=>by
   have nf:=q.nf b hb;by_cases ht:isTup [it,TI,TO,j,j'] b=true
   ·simp only[nL,Tl,beq_iff_eq]at ht
    rcases ht with rfl|rfl
    ·exact⟨_,_,_,kp _ _ A.TIz A.TIi1 hI,rfl⟩
    ·exact⟨_,_,_,kp _ _ A.TOz A.TOi1 hO,rfl⟩
   ·rw[Yo ht]at nf;exact Ys f nf
  exact k g _ kk p.1 p.2
end
section
variable{X:Cx}{D:Dm}{env:Mi.Env}{cm cm' cm1:List RB}{m m' m0 m1 m2:Mem}{s s' s0 s1 s2:RA}{w u:W}{v z:R3}{ch:List RB}{J Q:VK}{h g:Rm}{t:T}{l ts:List T}{a it:RB}{n:Nat}{i:Nat}{tk:Nat}{tg:S4}{α:Type}{r:Res α}{β:Type}{k:β->List RB->Mem->RA->Prop}
variable{call:Nat->List W->Mem->Res W}{gv:List T}{e c iter tgt:S4}{es:List S4}{E C:Mi.E}{L:Es}{pos p:Pos}{rest body:List S5}{K S:Mi.S}{G:Tg}
theorem ak.GO{f:α->Mem->Res β}(h:ak X ch cm m s (r.bind f) J k):ak X ch cm m s r J λa _ m' _=>ak X ch cm m s (f a m') J k:=by
 cases r with
 |ok a m2=>exact λ_ _ _ _=>h
 |exc a m2=>exact h
 |stuck=>exact h
theorem EY{b:Bool}{us:List T}(I:Fr X env cm m s)(h:m[i]?=Zz (Zz (.l b us))):aH X.fs X.gs ch cm m s cm (m.set i (Zz (.l true us))) s/\Fr X env cm (m.set i (Zz (.l true us))) s:=by
 obtain⟨a,y,h1,p,_,r⟩:=I.mem.li h;have u:=λch=>I.mem.upd (s':=s) (ch:=ch) (q:=Zz (.l true us)) h h1 (λ_ _ _ e=>e) rfl rfl (λ_ z=>by cases z;exact⟨_,_,y,rfl,p,r⟩) (λz=>nomatch z) I.mem.tab λ_=>rfl
 exact⟨(u _).1,I.go (u []).1.toExtK (u []).2 λ_ z=>nomatch z⟩
theorem cL(I:Fr X env cm m s)(e:aL w m=.ok ts m'):aH X.fs X.gs ch cm m s cm m' s/\Fr X env cm m' s:=by
 cases w with
 |t t =>
  unfold aL at e;dsimp only at e;split at e<;>cases e;exact⟨.refl,I⟩
 |x _ _ _=>cases e
 |c i|e i =>
  unfold aL at e;dsimp only at e;split at e<;>cases e;exact EY I ‹_›
theorem unlock{b:Bool}{us:List T}(M:av X cm' m' s'.heap)(x:aH X.fs X.gs ch cm m s cm' m' s')(h:m[i]?=Zz (Zz (.l b us)))(h':m'[i]?=Zz (Zz (.l true us))):
  aH X.fs X.gs ch cm m s cm' (m'.set i (Zz (.l b us))) s'/\av X cm' (m'.set i (Zz (.l b us))) s'.heap/\∀ch,ExtK X.fs X.gs ch cm' m' s' cm' (m'.set i (Zz (.l b us))) s':=by
 obtain⟨a,y,h1,p,_,r⟩:=M.li h';have u:=λch=>M.Jz (s':=s') (ch:=ch) (q:=Zz (.l b us)) h' h1 (λ_ _ _ e=>e) rfl rfl (λ_ z=>by cases z;exact⟨_,_,y,rfl,p,r⟩) M.tab
 refine⟨.of x.thr (λj l e=>?_) (x.ob.t x.len (.set λ_ _ z=>nomatch z)) (x.toExtK.trans (u _).1),(u []).2,λch=>(u ch).1⟩;by_cases hj:j=i
 ·subst hj
  rw[h]at e;cases e;exact Ri (R8.mp h').1
 ·rw[Rc (Su hj)];exact x.lent j l e
theorem hH(M:av X cm' m' s'.heap)(x:aH X.fs X.gs ch cm m s cm' m' s')(lt:∀(i:Nat) l,m1[i]?=Zz (Zz (.l true l))->m'[i]?=Zz (Zz (.l true l)))(e:aL w m=.ok ts m1):
  aH X.fs X.gs ch cm m s cm' (giveBack w m m') s'/\av X cm' (giveBack w m m') s'.heap/\∀ch,ExtK X.fs X.gs ch cm' m' s' cm' (giveBack w m m') s':=by
 cases w with
 |t t=>exact⟨x,M,λ_=>aH.refl.toExtK⟩
 |x _ _ _=>cases e
 |c i|e i =>
  unfold aL at e;unfold giveBack;dsimp only at e ⊢;split at e
  ·rename_i h
   have k:=λh'=>unlock M x h h'
   rw[h];cases e;exact k (lt i _ (Ri (R8.mp h).1))
  ·cases e
theorem Fr.nR(I:Fr X env cm m s)(z:a∈frs X.stack):s.heap.get? a≠Zy:=λhb=>by
 obtain⟨e,h1,h2⟩:=Ta.mp z;obtain⟨_,L,h3,h4⟩:=I.ok.pL e h1;rw[h2]at h4;cases h4;obtain⟨_,o,g,_⟩:=I.bF a h3;rw[hb]at g;cases g
theorem Fr.IX{F fp:List RB}(I:Fr X env cm m s)(n:∀b∈fp,s.heap.get? b=Zy)(S:Src { X with fs:=F } cm m h it 0 l fp)(nf:∀b∈fp,if isTup fp b then b∈F else b∉F):On { X with fs:=F } cm m h it fp 0 l:=by
 have no:∀{b o},b∈fp->s.heap.get? b≠Zz o:=λhb z=>by rw[n _ hb]at z;cases z
 refine⟨S,λb hf=>?_,λb hf hb=>?_,λb hf=>?_⟩
 ·cases q:X.base.get? b with
  |none=>rfl
  |some o=>exact Ys (I.bs _ _ q) (no hf)
 ·rcases R6.mp hb with rfl|hb
  ·obtain⟨f,⟨o,_,_,e,_⟩,_⟩:=I.loc
   exact no hf e
  ·rcases SM.mp hb with hb|hb
   ·obtain⟨o,e⟩:=I.ok.rW _ I.mem.tab _ hb
    exact no hf e
   ·obtain⟨y,_,hm⟩:=kW.mp hb
    obtain⟨v,o,e,_⟩:=I.cell y b hm;exact no hf e
 ·have q:=nf b hf
  by_cases ht:isTup fp b=true
  ·rw[Yn ht]at q ⊢;exact⟨q,λz=>I.nR z (n b hf)⟩
  ·rw[Yo ht]at q ⊢;exact q
variable(call gv) in
def PI(z:Bool)(X:Cx)(tgt iter:S4)(E:Mi.E):Prop:=∀env cm m s,Fr X env cm m s->∀(α:Type) (f:W->List T->Mem->Mem->Res α) (k:α->List RB->Mem->RA->Prop) (Q:VK) (J:VK),ak X X.own cm m s ((ev call gv E env m).bind λw m1=>(aL w m1).bind λts m2=>f w ts m1 m2) J k ->
 (∀F fp w ts cm1 m1 m2 s1 it s2,(z=false->F=X.fs)->(∀b∈X.fs,b∈F)->(∀b∈F,b∈X.fs∨s1.heap.get? b=Zy)->aH X.fs X.gs X.tb cm m s cm1 m1 s1->Fr X env cm1 m1 s1->aL w m1=.ok ts m2->ak X X.own cm1 m1 s1 (f w ts m1 m2) J k->(∀ch,aH F X.gs ch cm1 m2 s1 cm1 m2 s2)->Fr { X with fs:=F } env cm1 m2 s2->On { X with fs:=F } cm1 m2 s2.heap it fp 0 ts->uS fp tgt->(∀b∈fp,s1.heap.get? b=Zy)->Q (.ref it) s2) ->
 RF X.M X.A (eval iter X.env) (λv s1=>RF X.M X.A (pyIter v) Q J s1) J s
variable(call gv) in
def Lz(X:Cx)(fp1:RB->List RB)(iter:S4)(E:Mi.E):Prop:=∀env cm m s,Fr X env cm m s->∀(α:Type) (f:W->List T->Mem->Mem->Res α) (k:α->List RB->Mem->RA->Prop) (Q:VK) (J:VK),ak X X.own cm m s ((ev call gv E env m).bind λw m1=>(aL w m1).bind λts m2=>f w ts m1 m2) J k ->
 (∀w ts cm1 m1 m2 s1 it s2,aH X.fs X.gs X.tb cm m s cm1 m1 s1->Fr X env cm1 m1 s1->aL w m1=.ok ts m2->ak X X.own cm1 m1 s1 (f w ts m1 m2) J k->(∀ch,aH X.fs X.gs ch cm1 m2 s1 cm1 m2 s2)->Fr X env cm1 m2 s2->Src X cm1 m2 s2.heap it 0 ts (fp1 it)->(∀b∈fp1 it,s1.heap.get? b=Zy)->Q (.ref it) s2) ->
 RF X.M X.A (eval iter X.env) (λv s1=>RF X.M X.A (pyIter v) Q J s1) J s
theorem Do{z:Bool}{fp1:RB->List RB}(ok:∀it,uS (fp1 it) tgt)(nt:∀it b,isTup (fp1 it) b=false)(h:Lz call gv X fp1 iter E):PI call gv z X tgt iter E:=λenv cm m s I α f k Q J hp q=>h env cm m s I α f k Q J hp λw ts c1 m1 m2 s1 it s2 x1 I1 eb o xb I2 S n =>
 q X.fs (fp1 it) w ts c1 m1 m2 s1 it s2 (λ_=>rfl) (λ_ h=>h) (λ_ h=>.inl h) x1 I1 eb o xb I2 ((cL (ch:=[]) I1 eb).2.IX n S λb hb=>by
  rw[Yo (by rw[nt];decide)];intro hf;obtain⟨_,o,e,_⟩:=I1.bF b hf;rw[n b hb]at e;cases e) (ok it) n
theorem Kh{z:Bool}(h:PE call gv X iter E):PI call gv z X tgt iter E:=Do (fp1:=λit=>[it]) (λ_=>.inl rfl) (λ_ _=>rfl) λenv cm m s I α f k Q J hp q=>h.gI I hp λw v c1 m1 s1 I1 x1 r o=>by
 cases eb:aL w m1 with
 |stuck=>rw[eb]at o;exact o.elim
 |exc x m' =>
  exfalso;unfold aL at eb;split at eb<;>first|(cases eb;done)|(split at eb<;>cases eb)
 |ok ts m2 =>
  rw[eb]at o;obtain⟨_,Ib⟩:=cL (ch:=[]) I1 eb;have fin:∀ob:Obj,Src X c1 m2 (s1.heap.push ob) s1.heap.objs.size 0 ts [s1.heap.objs.size]->Q (.ref s1.heap.objs.size) { s1 with heap:=s1.heap.push ob }:=λob S=>by
   have u:=λch=>Ib.up (g:=s1.heap.push ob) (t:=s1.toks) (d:=s1.drawn) (ch:=ch) push
   exact q w ts c1 m1 m2 s1 _ _ x1 I1 eb o (λch=>(u ch).1) (u []).2 S λb hb=>by rw[RH.mp hb];exact iX _
  have lst:∀a,SrcL X c1 m2 s1.heap a ts->v=.ref a->RF X.M X.A (pyIter v) Q J s1:=λa S e=>by
   subst e;obtain⟨x,hx,_,_⟩:=S.now Ib.mem;exact VS hx (fin _ (.lst ⟨_,RN _ rfl,rfl,rfl⟩ (S.go (s':={ s1 with heap:=s1.heap.push _ }) (aH.kept (ch:=[]) (t:=s1.toks) (d:=s1.drawn) push).toExtK (λ_ _ h=>h) Ib.mem Nq.nil)))
  cases w with
  |x _ _ _=>cases eb
  |e _=>exact r.elim
  |c i =>
   obtain⟨a,h1,rfl⟩:=r;unfold aL at eb;dsimp only at eb;split at eb<;>cases eb;exact lst a (.rI (Ri (R8.mp ‹_›).1) h1) rfl
  |t t =>
   unfold aL at eb;cases t with
   |tup l =>
    cases eb;have tf:=r;obtain⟨a,x,rfl,p,r⟩:=RT.ka r;have g:=λob=>(aH.kept (s:=s1) (cm:=c1) (m:=m1) (fs:=X.fs) (gs:=X.gs) (ch:=[]) (t:=s1.toks) (d:=s1.drawn) (push (o:=ob))).toExtK
    exact VG p.tup (fin _ (.tup ⟨_,RN _ rfl,rfl,rfl⟩ (p.go (g _) Nq.nil (p.nl Ib.mem) (RT.tf tf)).1 (RT.tf tf) (r.mp λ_ _ r=>r.go (g _) Ib.mem Nq.nil)))
   |lst l =>
    cases eb;cases r with
    |lst p n q1 q2=>exact lst _ (.own n p ⟨q1,q2⟩) rfl
   |fH l =>
    cases eb;cases r with
    |fH _ p n f r=>exact lst _ (.fH n p f ⟨by rw[R2];exact r.1,λi t v a b=>by
      rw[RR]at a;obtain⟨c,a',rfl⟩:=RL.mp a;obtain⟨_,rfl⟩:=r.2 i c v a' b;exact .int _ _⟩) rfl
   |str cs =>
    unfold vk at eb;dsimp only at eb;split at eb
    ·rename_i ts e
     split at e<;>cases e;cases eb;obtain⟨t,rfl⟩:=RT.kY r;cases ha:(⟨cs.toArray⟩:Str).cps.all (·<128)
     ·exact wpAny_pyIter_wide ha (fin _ (.str false ⟨_,RN _ rfl,rfl,rfl⟩ rfl))
     ·exact wpAny_pyIter_ascii ha (fin _ (.str true ⟨_,RN _ rfl,rfl,rfl⟩ rfl))
    ·cases eb
   |_=>cases eb
theorem BG(hc:X.calm=true)(hi:PI call gv false X tgt iter E)(hg:PG X tgt G)(hb:fW call gv X body S)(hk:fW call gv X rest K)(hs:∀x,UF iter X.env x=pure x:=by intro _;rfl):fW call gv X (.For tgt iter body [] pos::rest) (.lP G E S K):=λenv cm m s I R J j hp=>by
 rw[y9]at hp;have hd:=I.ok.hd hc;refine S6 (wpAny_For (hi env cm m s I _ (λw ts m1 m2=>(iW (λenv m=>ex call gv S env m) G ts env m2).bind λfl m=>match fl with|.next env=>ex call gv K env (giveBack w m1 m)|.ret w'=>.ok (.ret w') (giveBack w m1 m)|_=>.stuck) _ _ J hp λF fp w ts c1 m1 m2 s1 it s2 hz _ _ x1 I1 eb o xb I2 on tk fr=>?_) hs);obtain rfl:=hz rfl;have I2:Fr X env c1 m2 s2:=I2;have on:On X c1 m2 s2.heap it fp 0 ts:=on;have o:=o.GO;have xb:=(cL (ch:=X.own) I1 eb).1.trans (xb _);refine codeAny_forLoop_any (λn s'=>∃i env' cm m,n=ts.length-i/\i<=ts.length/\aH X.fs X.gs X.own c1 m1 s1 cm m s'/\(∀(j:Nat) l,m2[j]?=Zz (Zz (.l true l))->m[j]?=Zz (Zz (.l true l)))/\Fr X env' cm m s'/\On X cm m s'.heap it fp i ts /\
  ak X X.own c1 m1 s1 (iW (λenv m=>ex call gv S env m) G (ts.drop i) env' m) J λfl _ m _=>ak X X.own c1 m1 s1 (match fl with|.next env=>ex call gv K env (giveBack w m1 m)|.ret w'=>.ok (.ret w') (giveBack w m1 m)|_=>.stuck) J (FQ X R)) ?_ ts.length ⟨0,env,c1,m2,rfl,S8 _,xb,λ_ _ h=>h,I2,on,o⟩
 rintro n s3 ⟨i,e3,c3,m3,rfl,hi,x3,l3,I3,on3,o3⟩;cases e:ts[i]? with
 |none =>
  have hi:i=ts.length:=by have:=V5.mp e;omega
  rw[List.drop_eq_nil_iff.mpr (by omega),iW]at o3;refine UA j (mK (on3.done hd I3 hi (R:=λs4=>RF X.M X.A (execs rest X.env) R J s4) λh tk kk x I4=>?_) λr s4 ⟨hr,q⟩=>?_)
  ·have x4:=x3.past x fr kk
   obtain⟨xg,Mg,xk⟩:=hH I4.mem x4 l3 eb;exact hk _ _ _ _ (I4.go (xk []) Mg λ_ z=>nomatch z) R J j ((o3 c3 s3 x3 I3.mem).shift xg)
  ·subst hr
   exact VD q
 |some t =>
  have hlt:=(R8.mp e).1;have ed:ts.drop i=t::ts.drop (i+1):=by rw[T3 hlt,(R8.mp e).2]
  rw[ed,iW]at o3;split at o3
  ·exact o3.elim
  rename_i env' eb';refine UA j (mK (on3.next (tg:=tgt) (Q:=λu s5=>Fr X e3 c3 m3 s5/\On X c3 m3 s5.heap it fp (i+1) ts/\RT X.D c3 m3 s5.heap t u/\aH X.fs X.gs X.own c1 m1 s1 c3 m3 s5) hd I3 tk e λu h tk kk x I4 on4 r4=>⟨I4,on4,r4,x3.past x fr kk⟩) λr s4 ⟨u,hr,h4⟩=>?_);subst hr;refine UA j (mK h4 λ_ s5 ⟨I5,on5,r5,x5⟩=>?_);refine UA j (hg _ _ _ _ I5 t u env' r5 eb' _ J λs6 x6 I6=>?_);have on6:=on5.go x6.toExtK x6.lent I5.mem I5.nq on5.no;refine UA j (hb _ _ _ _ I6 _ J j ((o3.GO.shift (x5.trans x6)).mono λfl c7 m7 s7 x7 M7 q7=>?_));cases fl with
  |next e7=>exact λI7=>⟨ts.length-(i+1),by omega,i+1,e7,c7,m7,rfl,by omega,(x5.trans x6).trans x7,λj l h=>x7.lent j l (l3 j l h),I7,on6.go x7.toExtK x7.lent I6.mem I6.nq on5.no,q7⟩
  |cont e7=>exact λI7=>⟨ts.length-(i+1),by omega,i+1,e7,c7,m7,rfl,by omega,(x5.trans x6).trans x7,λj l h=>x7.lent j l (l3 j l h),I7,on6.go x7.toExtK x7.lent I6.mem I6.nq on5.no,q7⟩
  |brk e7 =>
   have x57:=(x5.trans x6).trans x7;obtain⟨xg,Mg,xk⟩:=hH M7 x57 (λj l h=>x7.lent j l (l3 j l h)) eb;exact λI8=>hk _ _ _ _ (I8.go (xk []) Mg λ_ z=>nomatch z) R J j ((q7 c7 s7 x57 M7).shift xg)
  |ret w7 =>
   have x57:=(x5.trans x6).trans x7;obtain⟨xg,Mg,xk⟩:=hH M7 x57 (λj l h=>x7.lent j l (l3 j l h)) eb;exact λe8 I8 v rv=>(q7 c7 s7 x57 M7).to xg Mg e8 (I8.go (xk []) Mg λ_ z=>nomatch z) v (rv.go (xk []) M7 Nq.nil)
theorem yz(hc:PT call gv X c C)(hb:fW call gv X body S)(hk:fW call gv X rest K):fW call gv X (.While c body [] pos::rest) (.ye C S K):=λenv cm m s I R J j hp=>by
 rw[yZ]at hp;refine S6 (wpAny_While (codeAny_whileLoop (λn s'=>∃env cm m,Fr X env cm m s'/\ak X X.own cm m s' (jm (λenv m=>(ev call gv C env m).bind bq) (λenv m=>ex call gv S env m) n env m) J λfl cm m s=>ak X X.own cm m s (match fl with|.next env=>ex call gv K env m|fl=>.ok fl m) J (FQ X R)) ?_ turns ⟨env,cm,m,I,hp.bind⟩));rintro n s3 ⟨e3,c3,m3,I3,o3⟩;cases n with
 |zero=>exact o3.elim
 |succ n =>
  rw[jm]at o3;refine UA j (hc.gI I3 o3 λb c4 m4 s4 I4 x4 o4=>?_);cases b with
  |false =>
   rw[Yo RK];exact VD (hk _ _ _ _ I4 R J j (o4.now I4.mem))
  |true =>
   rw[Yn rfl];refine UA j (hb _ _ _ _ I4 _ J j (o4.bind.mono λfl c5 m5 s5 x5 M5 o5=>?_));cases fl with
   |next e5=>exact λI5=>⟨n,by omega,e5,c5,m5,I5,o5⟩
   |cont e5=>exact λI5=>⟨n,by omega,e5,c5,m5,I5,o5⟩
   |brk e5=>exact λI6=>hk _ _ _ _ I6 R J j (o5.now M5)
   |ret w=>exact λe6 I6 v rv=>(o5.now M5).now M5 e6 I6 v rv
end
noncomputable def Kv:Ty->String
 |.int=>"int"
 |.bool=>"bool"
 |.str=>"str"
 |.tuple=>"tuple"
 |.list=>"list"
 |.dict=>"dict"
noncomputable def Lh:T->String
 |.non=>"NoneType"
 |.bl _=>"bool"
 |.int _=>"int"
 |.str _=>"str"
 |.tup _=>"tuple"
 |.lst _=>"list"
 |.dct _ _=>"dict"
 |.fH _=>"list"
section
variable{K:To}
theorem EI(t:T)(ty:Ty):PySem.W.kitOne K (.type (Lh t)) (.type (Kv ty))=Zz (JR t ty):=by cases t<;>cases ty<;>rfl
end
section
variable{X:Cx}{D:Dm}{env:Mi.Env}{cm:List RB}{m:Mem}{s:RA}{w u:W}{v z:R3}{J Q:VK}{t:T}{α:Type}{k:α->List RB->Mem->RA->Prop}
variable{call:Nat->List W->Mem->Res W}{gv:List T}{a e:S4}{es:List S4}{E:Mi.E}{L:Es}{pos p p2:Pos}{N:Str}{ty:Mi.Ty}
theorem PA.gI{f:List W->Mem->Res α}{Q:List R3->RA->Prop}(h:PA call gv X es L)(I:Fr X env cm m s)(hp:ak X X.own cm m s ((evs call gv L env m).bind f) J k)(q:∀w v cm1 m1 s1,Fr X env cm1 m1 s1->aH X.fs X.gs X.tb cm m s cm1 m1 s1->sr X.D cm1 m1 s1.heap w v->ak X X.own cm1 m1 s1 (f w m1) J k->Q v s1):RF X.M X.A (YU (backTo p (Tx es X.env))) Q J s:=
 h p env cm m s I Q J ((hp.bind.mono λw c1 m1 s1 x M o=>o).sub aX |>.mono λw c1 m1 s1 x M o v r=>q w v c1 m1 s1 (I.go x M I.nc) x r o)
theorem Cv{lo hi:Int}{t u x:Tok}{n:Nat}(I:Fr X env cm m s)(h1:-(2^62)<=lo)(h2:lo<2^62)(h3:-(2^62)<=hi)(h4:hi<2^62)(q:∀it s2,(∀ch,aH X.fs X.gs ch cm m s cm m s2)->Fr X env cm m s2->Src X cm m s2.heap it 0 (rangeT lo (hi-lo).toNat) [it]->(∀b∈[it],s.heap.get? b=Zy)->Q (.ref it) s2):RF X.M X.A (pyIter (.ref s.heap.objs.size)) Q J { s with heap:=s.heap.push { cls:=.type "range",data:=.fields #[.int lo t,.int hi u,.int 1 x] },toks:=n }:=by
 refine wpAny_pyIter_range (IsRange.new ..) (small_one h1 h2 h3 h4) ?_;have u:=λch=>I.up (g:=(s.heap.push { cls:=.type "range",data:=.fields #[.int lo t,.int hi u,.int 1 x] }).push { cls:=.type "range_iterator",data:=.fields #[rawInt lo,rawInt (Builtin.Range.rangeSize lo hi 1),rawInt 1] }) (t:=n) (d:=s.drawn) (ch:=ch) λb o e=>push _ _ (push _ _ e)
 refine q _ _ (λch=>(u ch).1) (u []).2 (.EC (lo:=lo) (n:=(hi-lo).toNat) ?_ rfl) λb hb=>by rw[RH.mp hb];exact Rk (by simp[Heap.push])
 ·have e1:lo+((0:Nat):Int)*1=lo:=by simp
  have e2:(((hi-lo).toNat:Nat):Int)-((0:Nat):Int)=Builtin.Range.rangeSize lo hi 1:=by rw[rangeSize_one];split<;>omega
  rw[e1,e2];exact RN _ rfl
theorem yM{zz:Bool}{tg:S4}(hg:Gl X "range")(hm:X.mg "range" = Zy)(ha:PA call gv X [a] L)(hs:notStar a=true:=by rfl):PI call gv zz X tg (.Call (.Name "range" p) [a] [] pos) (.blt .iV L):=Do (fp1:=λit=>[it]) (λ_=>.inl rfl) (λ_ _=>rfl) λenv cm m s I α f k Q J hp q=>by
 rw[fA,a9]at hp;refine Call_ (dy I hg hm boot_range (Ss (ha.gI I hp λws us c1 m1 s1 I1 x1 r o=>?_) (bu hs) rfl));obtain⟨t,e0,o2⟩:=pF o;obtain⟨l,e1,e2⟩:=RP.mp e0;obtain⟨b,rfl,e3⟩:=mR e2;obtain⟨w,rfl,e4⟩:=mL e1;obtain⟨v,rfl,r1⟩:=uh r;cases b with
 |int i =>
  obtain⟨hc,e5⟩:=RI.mp (show(if i<2^62/\-(2^62)<=i then Zz (T.lst (rangeT 0 i.toNat))else Zy)=Zz t from e3);cases e5;obtain⟨_,rfl⟩:=(ae r1 e4).c9;exact call_range_1 (Cv I1 (by omega) (by omega) hc.2 hc.1 λit s2 x2 I2 on n=>q _ _ c1 m1 m1 s1 it s2 x1 I1 rfl o2 x2 I2 (by rw[Int.sub_zero]at on;exact on) n)
 |_=>cases e3
theorem F2{E:VK}(I:Fr X env cm m s)(r:RW X.D cm m s.heap w v)(ew:view w m=Zz t)(h:∀tk,Q (.bool (JR t ty)) { s with toks:=tk }):RF X.M X.A (Sq (.builtin "isinstance") [v,.type (Kv ty)]) Q E s:=by
 have k:=EI (K:=X.K) t ty;have lst:∀{a:RB}{x:Array R3},YV s.heap a x->Lh t = "list"->RF X.M X.A (Sq (.builtin "isinstance") [.ref a,.type (Kv ty)]) Q E s:=λp et=>by
  obtain⟨o,n,e,c,_⟩:=p;rw[et]at k;exact XW PySem.W.kitx_list I.gO ⟨o,e,c⟩ k (λz=>nomatch z) h
 cases t with
 |non=>cases ae r ew;exact XW PySem.W.kitx_none I.gO X8 k (λz=>nomatch z) h
 |bl b=>cases ae r ew;exact XW PySem.W.kitx_bool I.gO X8 k (λz=>nomatch z) h
 |int i=>cases ae r ew;exact XW PySem.W.kitx_int I.gO X8 k (λz=>nomatch z) h
 |str c=>cases ae r ew;exact XW PySem.W.kitx_str I.gO X8 k (λz=>nomatch z) h
 |tup l =>
  obtain⟨a,x,rfl,⟨o,n,e,c,_⟩,_⟩:=(ae r ew).ka;exact XW PySem.W.kitx_tuple I.gO ⟨o,e,c⟩ k (λz=>nomatch z) h
 |lst l =>
  obtain⟨a,x,rfl,p,_⟩:=aE I.mem r ew;exact lst p.pl rfl
 |fH l=>cases ae r ew with|fH l p n _ q=>exact lst p.pl rfl
 |dct ks l =>
  cases ae r ew with
  |dct p _ _ _ _ =>
   obtain⟨_,_,⟨o,es,ep,h1,h2,_⟩,_⟩:=p;exact XW PySem.W.kitx_dict I.gO ⟨o,h1,h2.1⟩ k (λz=>nomatch z) h
theorem Gq(r:PE call gv X a E)(o:Gl X "isinstance")(n:X.mg "isinstance" = Zy)(c:Gl X N)(b:X.mg N=Zy)(k:UE N=Zz (.type (Kv ty)))(l:N≠"__name__":=by decide)(q:(N==("__debug__" : Str))=false:=by decide)(f:notStar a=true:=by rfl):
  PE call gv X (.Call (.Name "isinstance" p) [a,.Name N p2] [] pos) (.rO E ty):=λenv cm m s I Q J h=>by
 rw[Eh]at h;refine Se (dy (u:=.builtin "isinstance") I o n (by decide +kernel) (Tb ?_ (bu f) (ia rfl)));rw[bu f,bu (e:=.Name N p2) rfl];refine Tz (r.one I h λw v c1 m1 s1 I1 x1 r1 h=>Tz (dy I1 c b k (Un ?_) l q));obtain⟨t,e,h⟩:=fz h;obtain⟨x,e1,rfl⟩:=RL.mp e;exact F2 I1 r1 e1 λtk=>I1.val h (.bl _)
end
def Ji(i:S4):Prop:=∀ov iv,Wc i false ov iv=YW [ov,iv] (WF ov iv)
section
variable{f:List L2.Key->List T->Option T}{t:T}{o:Option T}
theorem EJ{prog:Ry}{w:SS}{A:SF}{E:R3->RA->Prop}{s:RA}{env:SZ}{value slice:S4}{pos:Pos}{T id:String}{Q:R3->RA->Prop}(hl:Xe (.type T) "__getitem__" = pure (Zz (.builtin id)))(hs:Ji slice)(h:RF (Rp prog w) A (eval value env) (λo s₁=>RF (Rp prog w) A (eval slice env) (λi s₂=>s₂.TypeIs o T/\RF (Rp prog w) A (WF o i) Q E s₂) E s₁) E s):
  RF (Rp prog w) A (eval (.Subscript value slice pos) env) Q E s:=by
 refine YA (Sv h (λo s₁ h₁=>Sv h₁ (λi s₂ h₂=>?_) λ_ _ x=>x) λ_ _ x=>x);obtain⟨hT,h₂⟩:=h₂;unfold Wj;refine R0 ?_;rw[getitemInPython_of_ne hT.not_modules];refine R0 (wpAny_specialOf hT hl ?_);have fin:RF (Rp prog w) A (Wc slice false o i) (λr s₃=>RF (Rp prog w) A (letTemporaryGo value o r >>= λ_=>pure r) Q E s₃) E s₂:=by
  rw[hs o i];exact wpAny_operating (Sv h₂ (λr s₃ h₃=>R0 (wpAny_letTemporaryGo (R5 h₃))) λ_ _ x=>x)
 first
  |exact R5 (R0 fin)
  |exact R0 (R5 (R0 fin))
  |exact R0 fin
end
def GF(K:To)(us:List R3)(ts:List T):Prop:=∀X:Cx,X.K=K->∀cm m h,av X cm m h->K.In h->(∀b∈X.fs,K.lookup b=Zy)->fG X.D cm m h ts us
inductive Lo (B:Bs) (x:Str) (ks:List L2.Key) (ts:List T):Prop where
 |mk (a:RB) (us:List R3) (_:B.mg x=Zz (.ref a)) (_:∀h:Rm,B.K.In h->h.DictOf (L2.fc B.prog B.w) a (ks.zip us)) (_:(a==sysModules)=false) (_:ks.length=us.length) (_:GF B.K us ts)
section
variable{X:Cx}{D:Dm}{env:Mi.Env}{cm:List RB}{m m':Mem}{s:RA}{h:Rm}{w:W}{v u:R3}{J Q:VK}{t:T}{α:Type}{ks:List L2.Key}{ts:List T}{kk:L2.Key}{f:List L2.Key->List T->L2.Key->Option T}
variable{call:Nat->List W->Mem->Res W}{gv:List T}{a b e:S4}{es:List S4}{E:Mi.E}{L:Es}{pos p p2 cpos apos:Pos}{N:Str}{k:Nat}{neg:Bool}
theorem za{R:T->R3->Prop}:∀{ks:List L2.Key}{ts:List T}{us:List R3}(_:Al R ts us) (k:L2.Key),(∃t u,md ks ts k=Zz t/\X9 (ks.zip us) k=Zz u/\R t u)∨(md ks ts k=Zy/\X9 (ks.zip us) k=Zy)
 |[],_,_,_,k=>.inr ⟨by simp[md],by simp[X9]⟩
 |_::_,[],us,q,k=>by obtain rfl:=RY.mp q.1.symm;exact .inr ⟨by simp[md],by simp[X9]⟩
 |b::ks,t::ts,_,q,k=>by
  obtain⟨v,us,rfl,r,q⟩:=q.inv;by_cases h:b=k
  ·subst h
   exact .inl ⟨t,v,by simp[md],by simp[X9],r⟩
  ·rw[show md (b::ks) (t::ts) k=md ks ts k by simp[md,List.find?_cons,h],show X9 ((b::ks).zip (v::us)) k=X9 (ks.zip us) k by simp[X9,List.find?_cons,h]]
   exact za q k
theorem key_is{P:Ry}{W:SS}(r:RW D cm m h w v)(e:view w m=Zz t)(a:uH t=Zz kk):(L2.fc P W).is kk v=true:=by
 unfold uH at a;split at a<;>cases a
 ·obtain⟨_,rfl⟩:=(ae r e).c9;exact L2.wJ P W _ _
 ·obtain⟨_,rfl⟩:=(ae r e).kY;exact L2.vO P W _ _
end
section
variable{X:Cx}{D:Dm}{env:Mi.Env}{cm:List RB}{m:Mem}{s:RA}{w u:W}{v z:R3}{J Q:VK}{t:T}{l:List T}{α:Type}{k:α->List RB->Mem->RA->Prop}
variable{call:Nat->List W->Mem->Res W}{gv:List T}{a b e:S4}{es:List S4}{E F:Mi.E}{L:Es}{pos p p2:Pos}{N:Str}
theorem uC(env:Mi.Env)(m:Mem):evs call gv (.cons E .nil) env m=(ev call gv E env m).bind λw m=>.ok [w] m:=by
 rw[jb];cases ev call gv E env m with
 |ok w f=>simp only[Res.bind,mI]
 |_=>rfl
theorem xU{zz:Bool}{tg:S4}(hg:Gl X "range")(hm:X.mg "range" = Zy)(ha:PA call gv X [a,b] L)(hs:notStar a=true:=by rfl)(hs2:notStar b=true:=by rfl):PI call gv zz X tg (.Call (.Name "range" p) [a,b] [] pos) (.blt .nU L):=Do (fp1:=λit=>[it]) (λ_=>.inl rfl) (λ_ _=>rfl) λenv cm m s I α f k Q J hp q=>by
 rw[fA,a9]at hp;refine Call_ (dy I hg hm boot_range (Ss (ha.gI I hp λws us c1 m1 s1 I1 x1 r o=>?_) (bu hs) (ia (by rw[Wh,hs2];rfl))));obtain⟨t,e0,o2⟩:=pF o;obtain⟨l,e1,e2⟩:=RP.mp e0;obtain⟨i,j,rfl,e3⟩:=nv e2;obtain⟨hc,e5⟩:=RI.mp e3;cases e5;obtain⟨w1,ws,rfl,v1,e1⟩:=bJ e1;obtain⟨w2,ws,rfl,v2,e1⟩:=bJ e1;obtain rfl:=jN e1;obtain⟨v,y,rfl,r1,r⟩:=r.inv;obtain⟨z,y,rfl,r2,r⟩:=r.inv;obtain rfl:=RY.mp r.1.symm;obtain⟨_,rfl⟩:=(ae r1 v1).c9;obtain⟨_,rfl⟩:=(ae r2 v2).c9;exact call_range_2 (Cv I1 hc.1.2 hc.1.1 hc.2.2 hc.2.1 λit s2 x2 I2 on n=>q _ _ c1 m1 m1 s1 it s2 x1 I1 rfl o2 x2 I2 on n)
end
theorem ry:∀{a b:List Nat},gN a b=false->gN b a=false->a=b
 |[],[],_,_=>rfl
 |[],_::_,h,_=>by simp[gN]at h
 |_::_,[],_,h=>by simp[gN]at h
 |a::x,b::y,d,c=>by
  unfold gN at d c;by_cases h:a<b
  ·simp[h]at d
  ·by_cases h':b<a
   ·simp[h']at c
   ·have e:a=b:=by omega
    subst e;simp at d c;rw[ry d c]
theorem DF:∀{a b c:List Nat},gN b a=false->gN c b=false->gN c a=false
 |a,b,[],d,f=>by
  cases b with
  |nil=>cases a with
   |nil=>rfl
   |cons _ _=>simp[gN]at d
  |cons _ _=>simp[gN]at f
 |[],_,_::_,_,_=>rfl
 |a::x,[],c::z,d,f=>by simp[gN]at d
 |a::x,b::y,c::z,d,f=>by
  unfold gN at d f ⊢;by_cases p1:b<a
  ·simp[p1]at d
  ·by_cases p2:c<b
   ·simp[p2]at f
   ·by_cases p3:a<b
    ·have:¬c<a:=by omega
     have q:a<c:=by omega
     simp[this,q]
    ·have e:a=b:=by omega
     subst e;by_cases p4:a<c
     ·simp[p4,p2]
     ·have e:c=a:=by omega
      subst e;simp at d f ⊢;exact DF d f
theorem CE:∀a b:List Nat,ltCps a b=gN a b
 |[],[]=>by simp[ltCps,gN]
 |[],_::_=>by simp[ltCps,gN]
 |_::_,[]=>by simp[ltCps,gN]
 |a::x,b::y=>by
  unfold ltCps gN;rw[CE x y];by_cases h:a<b
  ·simp[h]
  ·by_cases h2:b<a
   ·have:¬a=b:=by omega
    simp[h,h2,this]
   ·have:a=b:=by omega
    subst this;simp
theorem zt:∀(l:List (List Nat)) (x:List Nat),risingS ⟨x.toArray⟩ (l.map λc=>(⟨c.toArray⟩:Str))=true->(x::l).Pairwise (λa b=>gN b a=false)
 |[],x,_=>TE _ _
 |y::l,x,h=>by
  rw[Rf,risingS.eq_2,RJ]at h;have g:gN y x=false:=by
   have:=h.1;rw[CE]at this;simpa using this
  have f:=zt l y h.2;refine SQ.mpr ⟨λz e=>?_,f⟩;rcases R6.mp e with rfl|e
  ·exact g
  ·exact DF g ((SQ.mp f).1 z e)
theorem Ag(a:List Nat):gN a a=false:=by rw[tU];simp
theorem Df(e:gN a b=true)(d:gN b c=true):gN a c=true:=by
 rw[tU]at *;have e:=Yt e;have d:=Yt d;exact Yq (List.lt_trans e d)
theorem ES(h:gN a b=true):gN b a=false:=by
 cases q:gN b a with
 |false=>rfl
 |true =>
  have:=Df h q;rw[Ag]at this;cases this
theorem qG(x y:List Nat):∀l,y∈sC x l↔y=x∨y∈l
 |[]=>by simp[sC]
 |z::l=>by
  unfold sC;split
  ·simp
  ·split
   ·rw[R6,qG x y l,R6]
    constructor
    ·rintro (h|h|h)
     ·exact .inr (.inl h)
     ·exact .inl h
     ·exact .inr (.inr h)
    ·rintro (h|h|h)
     ·exact .inr (.inl h)
     ·exact .inl h
     ·exact .inr (.inr h)
   ·rename_i h1 h2
    have e:=ry (by simpa using h1) (by simpa using h2);subst e;simp
theorem zN(x:List Nat):∀l,l.Pairwise (λa b=>gN a b=true)->(sC x l).Pairwise (λa b=>gN a b=true)
 |[],_=>TE _ _
 |z::l,h=>by
  unfold sC;obtain⟨f,g⟩:=SQ.mp h;split
  ·rename_i hx
   refine SQ.mpr ⟨λy d=>?_,h⟩;rcases R6.mp d with rfl|d
   ·exact hx
   ·exact Df hx (f y d)
  ·split
   ·rename_i hz
    refine SQ.mpr ⟨λy d=>?_,zN x l g⟩;rcases(qG x y l).mp d with rfl|d
    ·exact hz
    ·exact f y d
   ·exact h
theorem iY(y:List Nat):∀xs,y∈aK xs↔y∈xs
 |[]=>by simp[aK]
 |x::xs=>by
  show y∈sC x (aK xs)↔_;rw[qG,iY y xs,R6]
theorem kO:∀xs,(aK xs).Pairwise (λa b=>gN a b=true)
 |[]=>.nil
 |x::xs=>zN x _ (kO xs)
theorem qD(xs:List (List Nat)):(aK xs).Nodup:=(kO xs).imp λ{a b} h e=>by
 subst e;rw[Ag]at h;cases h
theorem DY(a:Nat->Str)(x:Str):∀n,x∈dd a n↔∃i,i<n/\a i=x
 |0=>by simp[dd]
 |n+1=>by
  have b:=DY a x n;unfold dd;split
  ·rename_i h
   rw[b];constructor
   ·rintro ⟨i,c,e⟩
    exact⟨i,by omega,e⟩
   ·rintro ⟨i,c,e⟩
    by_cases hn:i=n
    ·subst hn
     rw[e]at h;exact b.mp h
    ·exact⟨i,by omega,e⟩
  ·rw[SM,b,RH]
   constructor
   ·rintro (⟨i,c,e⟩|e)
    ·exact⟨i,by omega,e⟩
    ·exact⟨n,by omega,e.symm⟩
   ·rintro ⟨i,c,e⟩
    by_cases hn:i=n
    ·subst hn;exact .inr e.symm
    ·exact .inl ⟨i,by omega,e⟩
theorem zy{a b:List Nat}(h:(⟨a.toArray⟩:Str)=⟨b.toArray⟩):a=b:=by
 injection h with h;simpa using h
theorem Ha{xs:List (List Nat)}(h:XV its (xs.map λc=>(⟨c.toArray⟩:Str))):∀(i:Nat) v,its[i]?=Zz v->∃t,v=.str ((xs.map λc=>(⟨c.toArray⟩:Str)).getD i ⟨#[]⟩) t:=by
 generalize xs.map (λc=>(⟨c.toArray⟩:Str))=ss at h
 induction h with
 |nil=>intro i v e;simp at e
 |cons y t _ ih =>
  intro i v e;cases i with
  |zero=>simp at e;exact⟨t,by rw[<-e];rfl⟩
  |succ i =>
   obtain⟨t',h'⟩:=ih i v (by simpa using e);exact⟨t',by rw[h'];rfl⟩
section
variable{X:Cx}{D:Dm}{env:Mi.Env}{cm:List RB}{m:Mem}{s:RA}{h:Rm}
variable{call:Nat->List W->Mem->Res W}{gv:List T}{e:S4}{es:List S4}{E:Mi.E}{L:Es}{pos p p2 pos2:Pos}
theorem Ak{us:List R3}{ss:List Str}(q:XV us ss):∃ys:List (List Nat),ss=ys.map (λc=>(⟨c.toArray⟩:Str))/\fG D cm m h (ys.map T.str) us:=by
 induction q with
 |nil=>exact⟨[],rfl,.nil⟩
 |cons y t _ ih =>
  obtain⟨ys,rfl,h2⟩:=ih;obtain⟨⟨y⟩⟩:=y;exact⟨y::ys,rfl,.cons (.str _ _) h2⟩
end
end Mi
namespace Mi
open PySem PySem.Spec PyProof.Rows PySem.W
structure LC (K:To) (C:RB):Prop where
 ga:findIn K (.ref C) "__getattribute__" = Zz (Zz (.builtin "BaseException.__getattribute__"))
 gn:findIn K (.ref C) "__getattr__" = Zz Zy
 mb:mroIn K C (.type "BaseException")=Zz true
 hd:Ww K C=true
 ca:findIn K (.ref C) "__class__" = Zz (Zz (.builtin "object.__class__"))
 mo:mroIn K C (.type "object")=Zz true
structure Lr (K:To):Prop where
 hn:specialIn K (.builtin "object.__class__") "__get__" = Zz (Zz (.builtin "getset_descriptor.__get__"))
 htk:takesIn K (.builtin "object.__class__")=Zz true
section
variable{prog:Ry}{w:SS}{A:SF}{E:R3->RA->Prop}{s:RA}{K:To}{x C:RB}{ox:Obj}{od:Option Obj}{name:Str}
theorem FK{prog:Ry}{w:SS}{env:SZ}{e:S4}{f:Str}{pos:Pos}{s:RA}{Q:R3->RA->Prop}(hb:V9 e f env (eval e env)=eval e env)(h:RF (Rp prog w) A (eval e env) (λo s₁=>RF (Rp prog w) A (getAttr o f true) Q E s₁) E s):RF (Rp prog w) A (eval (.Attribute e f pos) env) Q E s:=
 Attribute_any_ h (by rw[arm_eval_Attribute,hb])
end
end Mi
namespace Mi
open PySem PySem.Spec PyProof.Rows
theorem rU(hg:gens[d]?=Zz ⟨target,iter,ifs,0⟩)(hn:gens[d+1]?=Zy):
  VZ (.ListComp elt gens scope pos) d it acc env=(do
   Uo iter.pos
   match <-pyNext it with
   |none=>pure (.done .next)
   |some v =>
    TU target it v
    assign target env v
    let mut ok:=true
    for c in ifs do
     if ok then ok <-isTrue c env (eval c env)
    if ok then
     (do let _ <-call (.builtin "list.append") [acc,<-eval elt env])
    again (.compLoop (.ListComp elt gens scope pos) d it acc env)):=by
 unfold VZ;simp only[hg,hn];rfl
theorem rV(hg:gens[d]?=Zz ⟨target,iter,ifs,0⟩)(hn:gens[d+1]?=Zz ⟨target',iter',ifs',0⟩):
  VZ (.ListComp elt gens scope pos) d it acc env=(do
   Uo iter.pos
   match <-pyNext it with
   |none=>pure (.done .next)
   |some v =>
    TU target it v
    assign target env v
    let mut ok:=true
    for c in ifs do
     if ok then ok <-isTrue c env (eval c env)
    if ok then
     let x <-eval iter' env
     Uo iter'.pos
     let x <-UF iter' env x
     let _ <-runOwn (.compStart (.ListComp elt gens scope pos) (d+1) (<-WE [x] (pyIter x)) acc env) env
    again (.compLoop (.ListComp elt gens scope pos) d it acc env)):=by
 unfold VZ;simp only[hg,hn];rfl
theorem ou{E:R3->RA->Prop}(h:Q false s):∀ifs:List S4,
  RF M A (forIn ifs false λc r=>if r=true then do let ok <-isTrue c env (eval c env);pure (TD ok)else pure (TD r)) Q E s
 |[]=>R5 h
 |_::r=>by
  simp only[U8,RS,if_false];exact R0 (R5 (ou h r))
noncomputable def rJ:Tg->List Nat
 |.nm i=>[i]
 |.tp is=>is
noncomputable def fB:E->List Nat
 |.more _ tg _ inner=>rJ tg++fB inner
 |_=>[]
theorem jO(h:ja w m=.ok ts m'):w=.t (.lst ts)/\m'=m:=by
 unfold ja at h;split at h<;>cases h;exact⟨rfl,rfl⟩
noncomputable abbrev turnF(call:Nat->List W->Mem->Res W)(gv:List T)(cs:Es)(inner:E):Env->Mem->Res (List T):=λenv m=>(tests call gv cs env m).bind λk m=>if k then(ev call gv inner env m).bind ja else .ok [] m
noncomputable abbrev BR(target iter:S4)(ifs:List S4)(env:SZ)(it:R3)(c:Code)(br:Sem YM):Sem YM:=
 Uo iter.pos >>= λ_=>pyNext it >>= λr=>match r with
  |none=>pure (.done .next)
  |some v=>TU target it v >>= λ_=>assign target env v >>= λ_ =>
   (forIn ifs true λc r=>if r=true then do let ok <-isTrue c env (eval c env);pure (TD ok)else pure (TD r)) >>= λok=>if ok=true then br else again c
theorem qA(h:∀x,(x,Rt)∈scope.names->∃c,env.cells.lookup x=Zz c):
  ∃cl,YD scope env=pure cl/\(∀x c,cl.lookup x=Zz c->env.cells.lookup x=Zz c)/\∀x,(x,Rt)∈scope.names->∃c,cl.lookup x=Zz c:=by
 have go:∀(ns:List (Str×Uu)) (acc:List (Str×RB)),(∀x,(x,Rt)∈ns->∃c,env.cells.lookup x=Zz c)->(∀x c,acc.lookup x=Zz c->env.cells.lookup x=Zz c) ->
   ∃cl,(forIn ns acc λ(x:Str×Uu) cs=>(match x with|(name,kind)=>if(kind==Rt)=true then do let a <-cellOf env name;pure (TD ((name,a)::cs))else pure (TD cs):Sem (ForInStep (List (Str×RB)))))=pure cl /\
    (∀x c,cl.lookup x=Zz c->env.cells.lookup x=Zz c)/\(∀x,(x,Rt)∈ns->∃c,cl.lookup x=Zz c)/\∀x c,acc.lookup x=Zz c->∃c,cl.lookup x=Zz c:=by
  intro ns
  induction ns with
  |nil=>intro acc _ h2;exact⟨acc,rfl,h2,λx hx=>Ys hx (by simp),λx c e=>⟨c,e⟩⟩
  |cons p ns ih =>
   intro acc h1 h2;obtain⟨n,k⟩:=p;have h1':=λx hx=>h1 x (R4 _ hx)
   by_cases hk:k=.free
   ·subst hk
    obtain⟨c,hc⟩:=h1 n R9;have h2':∀x d,((n,c)::acc).lookup x=Zz d->env.cells.lookup x=Zz d:=λx d e=>by
     rw[Sa]at e;cases hx:x==n with
     |true=>rw[hx]at e;cases e;rw[eq_of_beq hx];exact hc
     |false=>rw[hx]at e;exact h2 x d e
    obtain⟨cl,e1,e2,e3,e4⟩:=ih ((n,c)::acc) h1' h2';refine⟨cl,?_,e2,λx hx=>?_,λx d e=>?_⟩
    ·rw[U8]
     simp only[beq_self_eq_true,if_true,cellOf,hc,pure_bind];exact e1
    ·rcases R6.mp hx with z|z
     ·cases z
      exact e4 n c (by rw[Sa,beq_self_eq_true])
     ·exact e3 x z
    ·by_cases hx:x=n
     ·subst hx;exact e4 x c (by rw[Sa,beq_self_eq_true])
     ·exact e4 x d (by rw[Sa,Yr.mpr hx];exact e)
   ·obtain⟨cl,e1,e2,e3,e4⟩:=ih acc h1' h2
    have hb:=Yr.mpr hk;refine⟨cl,?_,e2,λx hx=>?_,e4⟩
    ·rw[U8]
     simp only[hb,RS,if_false,pure_bind];exact e1
    ·rcases R6.mp hx with z|z
     ·cases z;exact Ys rfl hk
     ·exact e3 x z
 obtain⟨cl,e1,e2,e3,_⟩:=go scope.names [] h (λx c e=>by simp at e);refine⟨cl,?_,e2,e3⟩;unfold YD;have:(forIn scope.names ([]:List (Str×RB)) λ(x:Str×Uu) cs=>(match x with|(name,kind)=>if(kind==Rt)=true then do let a <-cellOf env name;pure (TD ((name,a)::cs))else pure (TD cs):Sem (ForInStep (List (Str×RB))))) >>= (λcs=>pure cs)=(pure cl:Sem (List (Str×RB))):=by rw[e1];rfl
 exact this
theorem vZ{α:Type}{r:Res α}{x:α}(h:r.only=.ok x m):r=.ok x m:=by
 cases r with
 |ok _ _=>exact h
 |exc _ _=>cases h
 |stuck=>cases h
theorem i5(hg:(clausesOf node)[d]?=Zz ⟨target,iter,ifs,0⟩)(hd:(Rp prog w).den (.compStart node d it acc env)=(YN node d it acc env).onRaise (λx=>do Wx x env;Uo theWindowsPlace))(hA:A.under (.compStart node d it acc env)=A)(h0:UB (Rp prog w) A (.compLoop node d it acc env) R s)(h:RF (Rp prog w) A (pyIter it) (λit' s'=>UB (Rp prog w) A (.compLoop node d it' acc env) R s') (notedBy (Rp prog w) A env λx s'=>R (.error x) s') s):
  UB (Rp prog w) A (.compStart node d it acc env) R s:=by
 refine W3 ?_;rw[hd,hA];refine wpAny_notedAt ?_;unfold YN;rw[hg];refine R0 (UQ (wpAny_ite ?_));split
 ·first
   |exact R0 (R5 (R5 (WG rfl h0)))
   |exact R5 (WG rfl h0)
 ·first
   |exact R0 (UH (R0 (TA (R0 (Sv h (λit' s' h'=>R5 (WG rfl h')) λ_ _ x=>x)))))
   |(refine R0 (UH ?_);show RF _ _ (Uo iter.pos >>= _) _ _ s;exact R0 (TA (R0 (Sv h (λit' s' h'=>R5 (WG rfl h')) λ_ _ x=>x))))
noncomputable def DZ(own:Nat)(keep:List Nat)(env:Env):Env:=RE own Zy++keep.map λi=>(env[i]?).join
section
variable{X Y:Cx}{env env':Mi.Env}{cm cm' cm0:List RB}{m m' m0 m1 m2:Mem}{s s' s0:RA}{w:W}{v u:R3}{ch:List RB}{J Q:VK}{h h':Rm}{t:T}{l ts out:List T}{vs:List R3}{a it D C:RB}{n d L:Nat}{i:Nat}{tk:Nat}{o o':Obj}{f:List RB}
variable{call:Nat->List W->Mem->Res W}{gv:List T}{e elt target iter:S4}{ifs:List S4}{gens gs:List UM}{E inner:Mi.E}{cs:Es}{tg:Tg}{pos p:Pos}{Acc:Rm->List R3->Prop}
variable{own:Nat}{keep:List Nat}{it:Mi.E} in
theorem qS{α β:Type}{r:Res α}{f:α->Mem->Res β}(b:∀x m e m',f x m≠.exc e m')(e:Exc)(m':Mem):r.only.bind f≠.exc e m':=by
 cases r with
 |ok x m=>exact b x m e m'
 |exc _ _=>intro h;cases h
 |stuck=>intro h;cases h
variable{own:Nat}{keep:List Nat}{it:Mi.E} in
theorem io(e:Exc)(m':Mem):ev call gv (.comp own keep it tg cs inner) env m≠.exc e m':=by
 rw[pU];refine qS (λx c e m'=>?_) e m';cases h:aL x c with
 |ok ts m1 =>
  refine qS (λb m2 e m'=>?_) e m';split<;>(intro h;cases h)
 |exc _ _ =>
  unfold aL at h;split at h<;>first
   |(cases h;done)
   |(split at h<;>cases h)
 |stuck=>intro h;cases h
variable{own:Nat}{keep:List Nat}{it:Mi.E} in
theorem jT(h:ev call gv (.comp own keep it tg cs inner) env m=.ok w m'):∃a,w=.t (.lst a):=by
 rw[pU]at h;obtain⟨_,_,_,h⟩:=ap h;obtain⟨_,_,_,h⟩:=ap h;obtain⟨a,_,_,h⟩:=ap h;split at h<;>cases h;exact⟨_,rfl⟩
theorem PE.run(h:PE call gv X e E)(I:Fr X env cm m s)(ok:ev call gv E env m=.ok w m'):RF X.M X.A (eval e X.env) (λv s'=>∃cm',aH X.fs X.gs X.tb cm m s cm' m' s'/\Fr X env cm' m' s'/\RW X.D cm' m' s'.heap w v) J s:=
 h env cm m s I _ J (by rw[ok];exact λc t x M v r=>⟨c,x,I.go x M I.nc,r⟩)
theorem PI.run{z:Bool}{ts:List T}(h:PI call gv z X target e E)(I:Fr X env cm m s)(ok:ev call gv E env m=.ok w m1)(eb:aL w m1=.ok ts m2):RF X.M X.A (eval e X.env) (λv s'=>RF X.M X.A (pyIter v) (λv s2=>∃F fp it cm1 s1,v=.ref it/\(z=false->F=X.fs)/\(∀b∈X.fs,b∈F)/\(∀b∈F,b∈X.fs∨s1.heap.get? b=Zy)/\aH X.fs X.gs X.tb cm m s cm1 m1 s1/\Fr X env cm1 m1 s1/\(∀ch,aH F X.gs ch cm1 m2 s1 cm1 m2 s2)/\Fr { X with fs:=F } env cm1 m2 s2/\On { X with fs:=F } cm1 m2 s2.heap it fp 0 ts/\uS fp target/\∀b∈fp,s1.heap.get? b=Zy) J s') J s:=
 h env cm m s I (W×List T×Mem×Mem) (λw ts m1 m2=>.ok (w,ts,m1,m2) m2) (λp _ _ _=>p=(w,ts,m1,m2)) _ J (by rw[ok];show ak _ _ _ _ _ ((aL w m1).bind _) _ _;rw[eb];exact λ_ _ _ _=>rfl) λF fp w' ts' c1 n1 n2 s1 it s2 z1 z2 z3 x1 I1 e1 o x2 I2 on tk fr=>by
  have o:=o.to (cL I1 e1).1 (cL (ch:=[]) I1 e1).2.mem;cases o;exact⟨F,fp,it,c1,s1,rfl,z1,z2,z3,x1,I1,x2,I2,on,tk,fr⟩
theorem PT.run{b:Bool}(h:PT call gv X e E)(I:Fr X env cm m s)(ok:(ev call gv E env m).bind bq=.ok b m'):RF X.M X.A (isTrue e X.env (eval e X.env)) (λc s'=>c=b/\∃cm',aH X.fs X.gs X.tb cm m s cm' m' s'/\Fr X env cm' m' s') J s:=
 h env cm m s I _ J (by rw[ok];exact λc t x M=>⟨rfl,c,x,I.go x M I.nc⟩)
variable(call gv) in
def Gf(X:Cx):Es->List S4->Prop
 |.nil,[]=>True
 |.cons a es,e::r=>PT call gv X e a/\Gf X es r
 |_,_=>False
theorem sM:∀{cs:Es}{ifs:List S4}{cm:List RB}{m m':Mem}{s:RA}{k:Bool},Gf call gv X cs ifs->Fr X env cm m s->tests call gv cs env m=.ok k m' ->
  RF X.M X.A (forIn ifs true λc r=>if r=true then do let ok <-isTrue c X.env (eval c X.env);pure (TD ok)else pure (TD r))
   (λb s'=>b=k/\∃cm',aH X.fs X.gs X.tb cm m s cm' m' s'/\Fr X env cm' m' s') J s
 |.nil,[],cm,m,m',s,k,_,I,ok=>by
  rw[nI]at ok;cases ok;exact R5 ⟨rfl,cm,.refl,I⟩
 |.cons a es,e::r,cm,m,m',s,k,hp,I,ok=>by
  rw[qm]at ok;obtain⟨h1,h2⟩:=hp;simp only[U8,if_true];rw[<-a9]at ok;obtain⟨b,m2,e2,ok⟩:=ap ok;refine R0 (R0 (mK (h1.run I e2) λc s1 ⟨hb,cm1,x1,I1⟩=>R5 ?_));subst hb;cases c with
  |true =>
   rw[Yn rfl]at ok;exact mK (sM h2 I1 ok) λb' s2 ⟨hb',cm2,x2,I2⟩=>⟨hb',cm2,x1.trans x2,I2⟩
  |false =>
   rw[Yo RK]at ok;cases ok;exact ou ⟨rfl,cm1,x1,I1⟩ r
 |.nil,_::_,_,_,_,_,_,hp,_,_=>hp.elim
 |.cons _ _,[],_,_,_,_,_,hp,_,_=>hp.elim
variable(call gv) in
inductive IR (X:Cx) (elt:S4) (gens:List UM):Nat->Mi.E->Prop
 |emit {d:Nat}{a:Mi.E}:gens[d+1]?=Zy->PE call gv X elt a->IR X elt gens d (.emit a)
 |more {d:Nat}{it inner:Mi.E}{tg:Tg}{cs:Es}{target iter:S4}{ifs:List S4}:gens[d+1]?=Zz ⟨target,iter,ifs,0⟩->PI call gv false X target iter it->(∀x,UF iter X.env x=pure x)->PG X target tg->Gf call gv X cs ifs ->
  (∀i∈rJ tg,i∉fB inner)->(∀i∈rJ tg++fB inner,i<X.N.length)->IR X elt gens (d+1) inner->IR X elt gens d (.more it tg cs inner)
theorem vL(e:bz tg t env=Zz env'):env'.length=env.length/\∀i,i∉rJ tg->env'[i]?=env[i]?:=by
 cases tg with
 |nm j =>
  cases e;refine⟨SI,λi hi=>?_⟩;rw[Rc];intro z;exact hi (by simp[rJ,z])
 |tp is =>
  cases t with
  |tup ts =>
   obtain⟨_,rfl⟩:=qw e;clear e
   suffices ∀(is:List Nat) (ts:List T) (env:Mi.Env),((is.zip ts).foldl (λenv p=>env.set p.1 (Zz (.t p.2))) env).length=env.length/\∀i,i∉is->((is.zip ts).foldl (λenv p=>env.set p.1 (Zz (.t p.2))) env)[i]?=env[i]? from this is ts env
   intro is
   induction is with
   |nil=>exact λts env=>⟨rfl,λ_ _=>rfl⟩
   |cons j is ih =>
    intro ts env;cases ts with
    |nil=>exact⟨rfl,λ_ _=>rfl⟩
    |cons t ts =>
     rw[UZ,Ue];obtain⟨h1,h2⟩:=ih ts (env.set j (Zz (.t t)));refine⟨h1.trans SI,λi h=>?_⟩;rw[R6]at h;rw[h2 i λz=>h (.inr z),Rc λz=>h (.inl z.symm)]
  |_=>cases e
theorem Fr.less(I:Fr X env' cm m s)(e:env'.length=env.length)(k:∀(i:Nat) w,env[i]?=Zz (Zz w)->env'[i]?=Zz (Zz w)):Fr X env cm m s:=by
 obtain⟨f,hn,hl⟩:=I.loc;exact⟨I.ok,I.mem,I.bare,I.bs,⟨f,hn,λi x w h1 h2=>hl i x w h1 (k i w h2)⟩,I.cell,I.bF,e.symm.trans I.len⟩
theorem SrcL.fr{Y:Cx}(T:Y.toBs=X.toBs)(n:∀b∈Y.fs,b∈X.fs∨h.get? b=Zy)(k:∀b o,h.get? b=Zz o->h'.get? b=Zz o)(q:SrcL X cm m h a l):SrcL Y cm m h' a l:=by
 obtain⟨B,A,N,env,stack,fs,fn,calm⟩:=Y;cases T;cases q with
 |own c p r=>exact .own c (p.fr n k) (r.mp λ_ _ r=>r.fr n k)
 |rI e1 e2=>exact .rI e1 e2
 |fH c p f r=>exact .fH c (p.fr k) (λb=>(n _ b).elim f λb=>(let⟨_,_,e,_⟩:=p;by rw[b]at e;cases e)) (r.mp λ_ _ r=>r.fr n k)
theorem Src.fr{Y:Cx}{fp:List RB}(T:Y.toBs=X.toBs)(n:∀b∈Y.fs,b∈X.fs∨h.get? b=Zy)(k:∀b o,h.get? b=Zz o->h'.get? b=Zz o)(q:Src X cm m h it i l fp):Src Y cm m h' it i l fp:=by
 obtain⟨B,A,N,env,stack,fs,fn,calm⟩:=Y;cases T;have nf:∀{a:RB}{x:Array R3},oy "tuple" h a x->a∉X.fs->a∉fs:=λp f b=>(n _ b).elim f λb=>(let⟨_,_,e,_⟩:=p;by rw[b]at e;cases e)
 cases q with
 |lst q r=>obtain⟨o,e,c⟩:=q;exact .lst ⟨o,k _ o e,c⟩ (SrcL.fr (X:=X) rfl n k r)
 |tup q p f r=>obtain⟨o,e,c⟩:=q;exact .tup ⟨o,k _ o e,c⟩ (p.fr k) (nf p f) (r.mp λ_ _ r=>r.fr n k)
 |str b q e1=>obtain⟨o,e,c⟩:=q;exact .str b ⟨o,k _ o e,c⟩ e1
 |EC q e1=>exact .EC (k _ _ q) e1
 |BA n0 q r c e1=>obtain⟨o,e,d⟩:=r;exact .BA n0 (k _ _ q) ⟨o,k _ o e,d⟩ (SrcL.fr (X:=X) rfl n k c) e1
 |zip A S p f r c e1 e2=>exact .zip A (S.keep λc _ o=>k c o) (p.fr k) (nf p f) (r.mp λ_ _ r=>r.fr n k) (SrcL.fr (X:=X) rfl n k c) e1 e2
theorem On.self{fp:List RB}(hc:X.A.handled=Zy)(I:Fr X env cm m s)(q:On X cm m s.heap it fp i l)(h:Q (.ref it) s):RF X.M X.A (pyIter (.ref it)) Q J s:=by
 have S:=q.src;cases S with
 |lst hi hs =>
  obtain⟨y,hy,_,r⟩:=hs.now I.mem;obtain⟨o,ho,_,c,d⟩:=id hy;exact(Vm (prog:=X.prog) (w:=X.w) hc it _ (sR (.inl hi) ho d) y).self i s _ _ ⟨hi,hy⟩ h
 |tup hi hp _ r =>
  obtain⟨o,c,ho,_,d,_⟩:=id hp;exact(Vy (prog:=X.prog) (w:=X.w) hc it _ (sR (.inr hi) ho d) _).self i s _ _ ⟨hi,hp.tup⟩ h
 |@str c t' b hi el =>
  cases b with
  |true=>exact(XQ (prog:=X.prog) (w:=X.w) hc it ⟨c.toArray⟩ t').self i s _ _ hi h
  |false=>exact(Xd (prog:=X.prog) (w:=X.w) hc it ⟨c.toArray⟩ t').self i s _ _ hi h
 |@EC lo n hi el=>exact(Y2 (prog:=X.prog) (w:=X.w) hc it lo 1 n).self i s _ _ hi h
 |BA _ q1 _ _ _=>exact We q1 h
 |zip _ S1 _ _ _ _ _ _=>exact wpAny_pyIter_zip S1.zip h
def J3(fs:List RB)(D:RB)(h:Rm):Prop:=∃o,h.get? D=Zz o/\¬Ig fs D o/\(∀v,o.data≠.fields v)/\∀v,o.data≠.cell v
theorem Cx.Ok.fs(K:X.Ok)(g:∀b∈X.fs,b∈f):Cx.Ok { X with fs:=f }:={ K with pL:=λe h=>(K.pL e h).imp id λ⟨L,h1,h2⟩=>⟨L,g L h1,h2⟩,fr:=g _ K.fr }
theorem Fr.Jm(I:Fr X env cm m s)(K:Cx.Ok { X with fs:=f })(sub:∀b∈f,b∈X.fs)(hD:D∈X.fs)(ne:D≠X.env.locals)(e:J3 X.fs D s.heap)(kk:∀b o,b≠D->s.heap.get? b=Zz o->h.get? b=Zz o)(e':D∈f->∃o',h.get? D=Zz o'/\NF X D o'):
  ExtK X.fs X.gs [D] cm m s cm m { s with heap:=h,toks:=tk }/\Nq X.fs [D] s.heap/\Fr { X with fs:=f } env cm m { s with heap:=h,toks:=tk }:=by
 obtain⟨o,e,nx,nf,nc⟩:=e;have kk':∀b o,b∉[D]->s.heap.get? b=Zz o->h.get? b=Zz o:=λb o n=>kk b o λz=>n (RH.mpr z)
 have x:ExtK X.fs X.gs [D] cm m s cm m { s with heap:=h,toks:=tk }:=⟨rfl,id,λ_ _ h=>h,RO _,λb o e c n=>⟨n,o,kk' b o c e,.inl rfl⟩⟩
 have nq:Nq X.fs [D] s.heap:=λb z q g k=>by
  obtain rfl:=RH.mp z;rw[e]at g;cases g;exact nx k
 have M:=I.mem.go nq x kk' (I.ok.iz _ _ I.mem.tab λb o hb g=>kk b o (λz=>by
  obtain⟨v,q⟩:=hb.elim (λh=>((I.nc b h).2 o g).1) Kc.f;rw[z,e]at g;cases g;exact nf v q) g)
 have sub':∀b∈f,b∈X.fs∨h.get? b=Zy:=λb h=>.inl (sub b h)
 obtain⟨g,⟨oL,es,ep,eL,r⟩,hl⟩:=I.loc;have cell:∀{c v},s.heap.IsCell c v->h.IsCell c v:=λ⟨q,g,k⟩=>⟨q,kk _ _ (λz=>by rw[z,e]at g;cases g;exact nc _ k) g,k⟩
 refine⟨x,nq,K,M.fr (X:=X) rfl sub' (λ_ _ e=>e) id,I.bare,λb o g=>kk b o (λz=>by rw[z,(I.bF D hD).1]at g;cases g) (I.bs b o g),⟨g,⟨oL,es,ep,kk _ _ (Su ne) eL,r⟩,λi y w h1 h2 h3=>?_⟩,λy c h=>(I.cell y c h).elim λv z=>⟨v,cell z⟩,λb hb=>?_,I.len⟩
 ·obtain⟨u,h4,h5⟩:=hl i y w h1 h2 h3
  exact⟨u,(h4.go x I.mem nq).fr sub' λ_ _ e=>e,h5.imp id λ⟨k,c,h6,h7⟩=>⟨k,c,h6,cell h7⟩⟩
 ·obtain⟨hq,q,g,n⟩:=I.bF b (sub b hb)
  refine⟨hq,?_⟩;by_cases z:b=D
  ·subst z;exact e' hb
  ·exact⟨q,kk b q z g,n⟩
theorem Fr.acc(I:Fr X env cm m s)(hD:D∈X.fs)(ne:D≠X.env.locals)(e:J3 X.fs D s.heap)(kk:∀b o,b≠D->s.heap.get? b=Zz o->h.get? b=Zz o)(e':∃o',h.get? D=Zz o'/\NF X D o'/\∀o,s.heap.get? D=Zz o->(∀x n,o.data≠.seq x n)->∀x n,o'.data≠.seq x n):
  aH X.fs X.gs (D::ch) cm m s cm m { s with heap:=h,toks:=tk }/\Fr X env cm m { s with heap:=h,toks:=tk }:=
 ⟨.heap (λb o n e=>kk b o (λz=>n (z▸R9)) e) λb _ q g=>by
  by_cases z:b=D
  ·subst z;exact e'.imp λ_ h=>⟨h.1,λ_=>h.2.1.1,h.2.2 _ g⟩
  ·exact⟨q,kk b q z g,.r⟩,(I.Jm (f:=X.fs) I.ok (λ_ h=>h) hD ne e kk λ_=>e'.imp λ_ h=>⟨h.1,h.2.1⟩).2.2⟩
structure xi (fs:List RB) (D:RB) (Acc:Rm->List R3->Prop):Prop where
 obj:∀{h vs},Acc h vs->J3 fs D h
 keep:∀{h h' vs},Acc h vs->(∀o,h.get? D=Zz o->h'.get? D=Zz o)->Acc h' vs
def AccAt(D:RB)(h:Rm)(vs:List R3):Prop:=vs.length<=Rq/\∃n,h.get? D=Zz { cls:=.type "list",data:=.seq vs.toArray n }
theorem eA(hD:D∈f):xi f D (AccAt D):=⟨λ⟨_,n,e⟩=>⟨_,e,λk=>(by
 cases k with
 |seq _ _ _ z=>exact z hD
 |dict _ _ z=>cases z
 |ref _ _ z=>cases z
 |trace _ z=>exact Ys (Value.type.inj z) (by decide)
 |plain z=>cases z),(λv z=>by cases z),λv z=>by cases z⟩,λ⟨z,n,e⟩ k=>⟨z,n,k _ e⟩⟩
theorem xi.go(A:xi X.fs D Acc)(I:Fr X env cm m s)(hD:D∈X.fs)(x:ExtK X.fs X.gs ch cm m s cm' m' s')(n:D∉ch)(hs:D∉X.gs)(a:Acc s.heap vs):Acc s'.heap vs:=A.keep a λo e=>by
 obtain⟨_,o',e',q⟩:=x.keep D o e n (EA I.mem hD);rcases q with rfl|⟨_,_,q,_⟩
 ·exact e'
 ·exact Ys q hs
theorem qO(A:xi X.fs D Acc)(I:Fr X env cm m s)(a:Acc s.heap vs):Nq X.fs (D::X.own) s.heap:=λb hb o e k=>by
 rcases R6.mp hb with rfl|hb
 ·obtain⟨o',e',n,_⟩:=A.obj a
  rw[e]at e';cases e';exact n k
 ·exact I.nq b hb o e k
inductive wX (Y:Cx) (Acc:Rm->List R3->Prop) (D:RB) (env:Mi.Env) (vs:List R3) (cm:List RB) (m:Mem) (s:RA) (out:List T) (m':Mem) (s':RA):Prop
 |mk (cm' vs') (_:aH Y.fs Y.gs (D::Y.own) cm m s cm' m' s') (_:Fr Y env cm' m' s') (_:fG Y.D cm' m' s'.heap out vs') (_:Acc s'.heap (vs++vs'))
variable(call gv) in
inductive LA (Y:Cx) (Acc:Rm->List R3->Prop) (D it:RB) (fp:List RB) (tg:Tg) (cs:Es) (inner:Mi.E) (ts:List T) (env:Mi.Env) (vs:List R3) (cm0:List RB) (m0:Mem) (s0:RA) (out:List T) (m':Mem) (n:Nat) (s:RA):Prop
 |mk (i cm m vs1 done rest) (_:aH Y.fs Y.gs (D::Y.own) cm0 m0 s0 cm m s) (_:Fr Y env cm m s) (_:On Y cm m s.heap it fp i ts) (_:fG Y.D cm m s.heap done vs1) (_:Acc s.heap (vs++vs1)) (_:bC (turnF call gv cs inner) tg (ts.drop i) env m=.ok rest m') (_:out=done++rest) (_:n=ts.length+1-i) (_:i<=ts.length)
theorem lO(hc:Y.calm=true){ce:S4}(hA:xi Y.fs D Acc)(hD:D∈Y.fs)(hDo:D∉Y.own)(hs:D∉Y.gs){Pt:T->Prop}{br:Sem YM}(hu:Y.A.under (.compLoop ce d (.ref it) (.ref D) Y.env)=Y.A)(hd:(Rp Y.prog Y.w).den (.compLoop ce d (.ref it) (.ref D) Y.env)=(VZ ce d (.ref it) (.ref D) Y.env).onRaise (λx=>do Wx x Y.env;theTreesLotGoes x))(code:VZ ce d (.ref it) (.ref D) Y.env=BR target iter ifs Y.env (.ref it) (.compLoop ce d (.ref it) (.ref D) Y.env) br)(hg:PG Y target tg)(ht:Gf call gv Y cs ifs)(hdis:∀i∈rJ tg,i∉fB inner)(hbr:∀{s:RA}{cm:List RB}{m m':Mem}{env:Mi.Env}{out:List T}{vs:List R3}{J:VK},Fr Y env cm m s->Acc s.heap vs->(∀i∈fB inner,∀w,env[i]?≠Zz (Zz w)) ->
   (ev call gv inner env m).bind ja=.ok out m'->vs.length+out.length<=L->(∀t∈out,Pt t) ->
   RF Y.M Y.A br (λfin s'=>fin=.again (.compLoop ce d (.ref it) (.ref D) Y.env)/\wX Y Acc D env vs cm m s out m' s') J s)(x0:aH Y.fs Y.gs (D::Y.own) cm0 m0 s0 cm m s){fp:List RB}(tk:uS fp target)(hDf:D∉fp)(fr:∀b∈fp,s0.heap.get? b=Zy)(I:Fr Y env cm m s)(on:On Y cm m s.heap it fp 0 ts)(ha:Acc s.heap vs)(hn:∀i∈rJ tg++fB inner,∀w,env[i]?≠Zz (Zz w))(ok:bC (turnF call gv cs inner) tg ts env m=.ok out m')(hl:vs.length+out.length<=L)(hpt:∀t∈out,Pt t):
  UB Y.M Y.A (.compLoop ce d (.ref it) (.ref D) Y.env) (λr s'=>r=.ok .next/\wX Y Acc D env vs cm0 m0 s0 out m' s') s:=by
 refine codeAny_loop rfl (LA call gv Y Acc D it fp tg cs inner ts env vs cm0 m0 s0 out m') ?_ (ts.length+1) ⟨0,cm,m,[],[],out,x0,I,on,.nil,by rw[Rh];exact ha,by rw[XM];exact ok,rfl,rfl,S8 _⟩;rintro n s1 ⟨i,cm1,m1,vs1,done,rest,x1,I1,on1,r1,a1,ok1,eo,rfl,hi⟩;have hh:=I1.ok.hd hc;rw[hu,hd];refine wpAny_noted ?_;rw[code];refine R0 (TA (R0 ?_));have toD:∀{h1:Rm}{tk:Nat},(∀b o,b∉fp->s1.heap.get? b=Zz o->h1.get? b=Zz o)->Acc h1 (vs++vs1):=λkk=>hA.keep a1 λo e=>kk D o hDf e
 cases et:ts[i]? with
 |none =>
  have hi:i=ts.length:=by have:=V5.mp et;omega
  refine mK (on1.done hh I1 hi (R:=wX Y Acc D env vs cm0 m0 s0 out m') λh tk kk x I2=>?_) λr s2 ⟨hr,q⟩=>?_
  ·rw[hi,List.drop_length,bC]at ok1
   cases ok1;rw[Rh]at eo;subst eo;exact⟨cm1,vs1,x1.past x fr kk,I2,r1.mp λ_ _ r=>r.go x I1.mem on1.nq,toD (tk:=tk) kk⟩
  ·subst hr
   exact R5 ⟨rfl,q⟩
 |some t =>
  have hit:=(R8.mp et).1;rw[T3 hit,(R8.mp et).2,bC]at ok1;split at ok1
  ·cases ok1
  rename_i env' eb;obtain⟨xs,m2,ok2,ok3⟩:=ap ok1;obtain⟨ys,m3,ok4,ok5⟩:=ap ok3;cases ok5;obtain⟨k,m4,okt,okb⟩:=ap ok2;obtain⟨el,eg⟩:=vL eb;refine mK (on1.next (tg:=target) (Q:=λu s2=>Fr Y env cm1 m1 s2/\On Y cm1 m1 s2.heap it fp (i+1) ts/\RT Y.D cm1 m1 s2.heap t u/\aH Y.fs Y.gs (D::Y.own) cm0 m0 s0 cm1 m1 s2/\fG Y.D cm1 m1 s2.heap done vs1/\Acc s2.heap (vs++vs1)) hh I1 tk et λu h tk kk x I2 on2 r2=>⟨I2,on2,r2,x1.past x fr kk,r1.mp λ_ _ r=>r.go x I1.mem on1.nq,toD (tk:=tk) kk⟩) λr s2 ⟨u,hr,h2⟩=>?_
  subst hr;refine R0 (mK h2 λ_ s3 ⟨I3,on3,r3,x3,rd3,a3⟩=>?_);refine R0 (hg _ _ _ _ I3 t u env' r3 eb _ _ λs4 x4 I4=>?_);have own:∀b∈Y.own,b∈D::Y.own:=λb hb=>R4 _ hb
  have tbo:∀b∈Y.tb,b∈D::Y.own:=λb hb=>own b (aX b hb)
  refine R0 (mK (sM ht I4 okt) λb s5 ⟨hb,cm5,x5,I5⟩=>?_);have x35:=(x4.sub own).trans (x5.sub tbo);have n3:=qO hA I3 a3;have itD:∀b∈fp,b∉D::Y.own:=λb hb z=>(R6.mp z).elim (λz=>hDf (z▸hb)) (on3.no b hb)
  have a4:=hA.go I3 hD x4.toExtK hDo hs a3;have a5:=hA.go I4 hD x5.toExtK (λz=>hDo (aX _ z)) hs a4;have on5:=on3.go x35.toExtK x35.lent I3.mem n3 itD;have r5:=rd3.mp λ_ _ r=>r.go x35.toExtK I3.mem n3
  have le:∀(j:Nat) w,env[j]?=Zz (Zz w)->env'[j]?=Zz (Zz w):=λj w e=>by rw[eg j λz=>hn j (TG _ z) w e];exact e
  subst hb;cases b with
  |false =>
   rw[Yo RK]at okb ⊢;cases okb;rw[Uf]at eo;exact R5 ⟨rfl,_,by omega,i+1,cm5,m2,vs1,done,ys,x3.trans x35,I5.less el le,on5,r5,a5,ok4,eo,rfl,hit⟩
  |true =>
   rw[Yn rfl]at okb ⊢;have hv:=r5.1;refine mK (hbr I5 a5 (λj hj w=>by rw[eg j λz=>hdis j z hj];exact hn j (U4 _ hj) w) okb (by
    rw[eo,RD,RD]at hl;rw[RD,<-hv];omega) λt ht'=>hpt t (by rw[eo];exact U4 _ (TG _ ht'))) λfin s6 ⟨hfin,cm6,vs6,x6,I6,r6,a6⟩=>?_
   subst hfin;have n5:=qO hA I5 a5;exact⟨rfl,_,by omega,i+1,cm6,m2,vs1++vs6,done++xs,ys,(x3.trans x35).trans x6,I6.less el le,on5.go x6.toExtK x6.lent I5.mem n5 itD,(r5.mp λ_ _ r=>r.go x6.toExtK I5.mem n5).app r6,by rw[<-S9];exact a6,ok4,by rw[eo,S9],rfl,hit⟩
end
noncomputable def Dj(scope osc:UR):Bool:=scope.kind==.function&&scope.names.all λp=>scope.names.lookup p.1==Zz p.2&&(p.2 != .free || osc.names.lookup p.1==Zz .cell || osc.names.lookup p.1==Zz .free)
noncomputable def nV(N' N:List Str)(own:Nat)(keep:List Nat)(scope:UR):Bool:=N'.length==own+keep.length&&(SX keep.length).all λi=>match N'[own+i]?,keep[i]? with
 |some x,Zz j=>N[j]?==Zz x&&scope.names.any λp=>p.1==x&&p.2==.free
 |_,_=>false
structure BJ (X:Cx) (N':List Str) (scope:UR):Prop where
 kind:scope.kind=.function
 look:∀p∈scope.names,scope.names.lookup p.1=Zz p.2
 free:∀x,(x,Rt)∈scope.names->X.env.kindOf x=Zz .cell∨X.env.kindOf x=Zz .free
theorem lU(look:∀p∈scope.names,scope.names.lookup p.1=Zz p.2)(h:(relabel scope env).names.lookup x=Zz k):
  ∃k',scope.names.lookup x=Zz k'/\(k=k'∨(k'=.free/\k=.cell)):=by
 have go:∀(ns:List (Str×Uu)),(ns.map λ(n,k)=>if(k==Rt&&env.scope.kind==.function&&env.kindOf n==Zz .cell)then(n,Wk)else(n,k)).lookup x=Zz k->∃k',ns.lookup x=Zz k'/\(k=k'∨(k'=.free/\k=.cell)):=by
  intro ns
  induction ns with
  |nil=>intro h;simp at h
  |cons p r ih =>
   obtain⟨n,q⟩:=p;intro h;rw[Rf]at h;by_cases hc:(q==Rt&&env.scope.kind==.function&&env.kindOf n==Zz .cell)=true
   ·simp only[hc,if_true]at h
    rw[Sa]at h ⊢;cases hx:x==n with
    |true =>
     rw[hx]at h;cases h;rw[RJ,RJ]at hc;exact⟨q,rfl,.inr ⟨eq_of_beq hc.1.1,rfl⟩⟩
    |false=>rw[hx]at h;exact ih h
   ·simp only[hc,RS,if_false]at h
    rw[Sa]at h ⊢;cases hx:x==n with
    |true=>rw[hx]at h;cases h;exact⟨_,rfl,.inl rfl⟩
    |false=>rw[hx]at h;exact ih h
 exact go scope.names h
theorem oU{ns:List (Str×Uu)}(h:ns.lookup x=Zz k):(x,k)∈ns:=Sf h
structure CA (h:Rm) (lo:Nat) (cs:List (Str×RB)):Prop where
 lt:∀x c,cs.lookup x=Zz c->c<h.objs.size
 inj:∀x y c,cs.lookup x=Zz c->cs.lookup y=Zz c->x=y
 new:∀x c,cs.lookup x=Zz c->lo<=c->h.IsCell c Zy
theorem hM{α:Type}{a c:α}{l:List (Str×α)}(h:TV x ((y,a)::l)=Zz c):(x=y/\c=a)∨l.lookup x=Zz c:=by
 rw[Sa]at h;cases e:x==y with
 |true=>rw[e]at h;cases h;exact .inl ⟨eq_of_beq e,rfl⟩
 |false=>rw[e]at h;exact .inr h
theorem vj:∀(names:List (Str×Uu)) (h:Rm) (lo:Nat) (acc:List (Str×RB)),CA h lo acc->lo<=h.objs.size->CA (pushCells h names) lo (V2 h.objs.size names acc)
 |[],_,_,_,x,_=>x
 |(name,kind)::r,h,lo,acc,x,hlo=>by
  unfold pushCells V2;split
  ·have:=vj r (h.push { cls:=.type "cell",data:=.cell Zy }) lo ((name,h.objs.size)::acc)
    ⟨λn c hm=>by
      rw[S3];rcases hM hm with⟨_,rfl⟩|hm
      ·exact TY _
      ·exact Rv (x.lt n c hm),
     λn n' c h1 h2=>by
      rcases hM h1 with⟨e1,z1⟩|h1<;>rcases hM h2 with⟨e2,z2⟩|h2
      ·rw[e1,e2]
      ·exact Ys (x.lt _ _ h2) (by rw[z1];exact S7 _)
      ·exact Ys (x.lt _ _ h1) (by rw[z2];exact S7 _)
      ·exact x.inj n n' c h1 h2,
     λn c hm hc=>by
      rcases hM hm with⟨_,rfl⟩|hm
      ·exact⟨_,RN _ rfl,rfl⟩
      ·exact(x.new n c hm hc).keeps λb o e=>R7 _ e⟩ (by rw[S3];omega)
   rwa [S3]at this
  ·exact vj r h lo acc x hlo
theorem mj{c:RB}:∀(names:List (Str×Uu)) (n:Nat) (acc:List (Str×RB)),(V2 n names acc).lookup x=Zz c->(n<=c/\(x,Wk)∈names)∨acc.lookup x=Zz c
 |[],_,_,h=>.inr h
 |(y,k)::r,n,acc,h=>by
  unfold V2 at h;split at h
  ·rename_i hk
   have hk:=eq_of_beq hk;rcases mj r (n+1) _ h with⟨h1,h2⟩|h1
   ·exact .inl ⟨by omega,R4 _ h2⟩
   ·rcases hM h1 with⟨rfl,rfl⟩|h1
    ·exact .inl ⟨RO _,by rw[hk];exact R9⟩
    ·exact .inr h1
  ·rcases mj r n _ h with⟨h1,h2⟩|h1
   ·exact .inl ⟨h1,R4 _ h2⟩
   ·exact .inr h1
theorem mM:∀(names:List (Str×Uu)) (n:Nat) (acc:List (Str×RB)),names.lookup x=Zz .cell->(V2 n names acc).lookup x=Zz c->n<=c
 |[],_,_,h,_=>by cases h
 |(y,k)::r,n,acc,h,e=>by
  unfold V2 at e;rw[Sa]at h;cases q:x==y with
  |true =>
   rw[q]at h;cases h;have e:=e;rcases mj r (n+1) _ e with⟨h1,_⟩|h1
   ·omega
   ·rw[Sa,q]at h1
    cases h1;exact RO _
  |false =>
   rw[q]at h;split at e
   ·have:=mM r (n+1) _ h e
    omega
   ·exact mM r n _ h e
structure Lk (X:Cx) (scope:UR) (cl:List (Str×RB)) (C:RB) (h:Rm):Prop where
 one:∀x c,cl.lookup x=Zz c->(C<c/\(x,Wk)∈scope.names/\h.IsCell c Zy)∨X.env.cells.lookup x=Zz c
 own:∀x c,scope.names.lookup x=Zz .cell->cl.lookup x=Zz c->C<c
 inj:∀x y c,cl.lookup x=Zz c->cl.lookup y=Zz c->x=y
 has:∀x,(x,Rt)∈scope.names∨scope.names.lookup x=Zz .cell->∃c,cl.lookup x=Zz c
section
variable{X:Cx}
theorem yL{E:R3->RA->Prop}(hcl1:∀x c,cl0.lookup x=Zz c->X.env.cells.lookup x=Zz c)(hcl2:∀x,(x,Rt)∈scope.names->∃c,cl0.lookup x=Zz c)(hlt:∀x c,X.env.cells.lookup x=Zz c->c<s.heap.objs.size)(hinj:∀x y c,X.env.cells.lookup x=Zz c->X.env.cells.lookup y=Zz c->x=y)(h:∀h1 cl,(∃m,h1.Ns s.heap.objs.size m)->(∀b o,s.heap.get? b=Zz o->h1.get? b=Zz o)->Lk X scope cl s.heap.objs.size h1->Q (newEnv scope s.heap.objs.size X.env.globals cl X.env.qual Zy .none (Zz X.env) VF) { s with heap:=h1 }):
  RF M A (newFunctionEnv scope X.env.globals cl0 [] X.env.qual Zy .none (Zz X.env)) Q E s:=by
 simp only[newFunctionEnv,Option.isSome_some,if_true];refine R0 (Y1 ?_);refine R0 (wpAny_layCells _ (λname kind cells=>by cases hkc:kind==Wk<;>simp[hkc]) _ _ _ _ ?_);have hz:(s.heap.push { cls:=.type "dict",data:=.dict #[] }).objs.size=s.heap.objs.size+1:=S3 ..;have ok:=vj scope.names (s.heap.push { cls:=.type "dict",data:=.dict #[] }) (s.heap.objs.size+1) cl0
  ⟨λx c e=>by rw[hz];exact Rv (hlt x c (hcl1 x c e)),λx y c e1 e2=>hinj x y c (hcl1 x c e1) (hcl1 y c e2),λx c e z=>Ys (hlt x c (hcl1 x c e)) (WI.mpr (Wa z))⟩ (by rw[hz];exact RO _)
 rw[WL];refine R0 (R5 (R5 ?_));refine h _ _ ⟨_,(Heap.Ns.new s.heap (.type "dict")).keeps (pushCells_keeps _ _)⟩ (λb o e=>pushCells_keeps _ _ b o (R7 _ e)) ⟨λx c e=>?_,λx c hx e=>?_,ok.inj,λx hx=>?_⟩
 ·rcases mj _ _ _ e with⟨h1,h2⟩|h1
  ·rw[show({ s with heap:=s.heap.push { cls:=.type "dict",data:=.dict #[] } }:RA).heap.objs.size=s.heap.objs.size+1 from hz]at h1
   exact .inl ⟨h1,h2,ok.new x c e h1⟩
  ·exact .inr (hcl1 x c h1)
 ·have:=mM _ _ _ hx e
  rw[show({ s with heap:=s.heap.push { cls:=.type "dict",data:=.dict #[] } }:RA).heap.objs.size=s.heap.objs.size+1 from hz]at this;exact this
 ·refine Option.isSome_iff_exists.mp (WR _ _ _ ?_)
  rcases hx with hx|hx
  ·obtain⟨c,e⟩:=hcl2 x hx
   exact .inr (by rw[e];rfl)
  ·exact .inl hx
end
section
variable{X Y:Cx}{env env':Mi.Env}{cm cm' cm0:List RB}{m m' m0 m1 m2:Mem}{s s' s0:RA}{w:W}{v u:R3}{ch:List RB}{J Q:VK}{h h':Rm}{t:T}{l ts out:List T}{vs:List R3}{a it D C:RB}{n d L:Nat}{i:Nat}{tk:Nat}{o o':Obj}{f:List RB}
variable{call:Nat->List W->Mem->Res W}{gv:List T}{e elt target iter:S4}{ifs:List S4}{gens gs:List UM}{E inner:Mi.E}{cs:Es}{tg:Tg}{pos p:Pos}{Acc:Rm->List R3->Prop}{scope:UR}{N':List Str}{cl:List (Str×RB)}
theorem yg(I:Fr X env cm m s)(hD:D∈X.fs)(ne:D≠X.env.locals)(hs:D∉frs X.stack)(a:AccAt D s.heap vs)(hz:vs.length<Rq)(q:∀s',aH X.fs X.gs (D::X.own) cm m s cm m s'->Fr X env cm m s'->AccAt D s'.heap (vs++[u])->Q .none s'):RF X.M X.A (Sq (.builtin "list.append") [.ref D,u]) Q J s:=by
 have fl:=(eA hD).obj a;obtain⟨z,n,e⟩:=a;refine UK F.slot_list_append ⟨_,e,rfl⟩ F.entry_list_append (F.args_list_append_2 _ _) (PySem.list_append D vs.toArray n u (by simpa using Sb hz)) ⟨e,?_⟩;have e2:=PySem.IsL.update e (·.push u);rw[show vs.toArray.push u=(vs++[u]).toArray by simp]at e2;obtain⟨x,I'⟩:=I.acc (ch:=X.own) (tk:=s.toks) hD ne fl (λb o hb eb=>(Rs s.heap (RZ (·.push u)) (Su hb)).trans eb) ⟨_,e2,⟨(λv z=>by cases z),λz=>Ys z hs⟩,λo e' n=>by rw[e]at e';cases e';exact Ys rfl (n _ _)⟩;exact q _ x I' ⟨by rw[RD,T8];omega,_,e2⟩
theorem Gr(hc:Y.calm=true)(hD:D∈Y.fs)(hDo:D∉Y.own)(hs:D∉frs Y.stack)(hin:IR call gv Y elt gens d inner):∀{target iter:S4}{ifs:List S4}{tg:Tg}{cs:Es},gens[d]?=Zz ⟨target,iter,ifs,0⟩ ->
  PG Y target tg->Gf call gv Y cs ifs->(∀i∈rJ tg,i∉fB inner) ->
  ∀{s0 s:RA}{cm0 cm:List RB}{m0 m m':Mem}{env:Mi.Env}{ts out:List T}{it:RB}{fp:List RB}{vs:List R3},aH Y.fs Y.gs (D::Y.own) cm0 m0 s0 cm m s->uS fp target->D∉fp->(∀b∈fp,s0.heap.get? b=Zy)->Fr Y env cm m s->On Y cm m s.heap it fp 0 ts->AccAt D s.heap vs ->
   (∀i∈rJ tg++fB inner,∀w,env[i]?≠Zz (Zz w))->bC (turnF call gv cs inner) tg ts env m=.ok out m'->vs.length+out.length<=lim ->
   UB Y.M Y.A (.compLoop (.ListComp elt gens scope pos) d (.ref it) (.ref D) Y.env) (λr s'=>r=.ok .next/\wX Y (AccAt D) D env vs cm0 m0 s0 out m' s') s:=by
 have hz:=mi;have tbo:∀b∈Y.tb,b∈D::Y.own:=λb hb=>R4 _ (aX b hb)
 have neL:D≠Y.env.locals:=λz=>hDo (z▸R9)
 induction hin with
 |@emit d a l pe =>
  intro target iter ifs tg cs hg pg pt q s0 s cm0 cm m0 m m' env ts out it fp vs x0 tk hDf fr I on ha hn ok hl;refine lO hc (eA hD) hD hDo hs (Pt:=λ_=>True) rfl rfl (rU hg l) pg pt q ?_ x0 tk hDf fr I on ha hn ok hl (λ_ _=>trivial);intro s cm m m' env out vs J I ha hn ok hl _;obtain⟨w,m1,j,ok2⟩:=ap ok;obtain⟨rfl,rfl⟩:=jO ok2;rw[va]at j;obtain⟨w1,m2,ok3,ok4⟩:=ap j;obtain⟨t,m3,h,ok6⟩:=ap ok4;cases ok6;refine R0 (R0 (mK (pe.run I ok3) λu s1 ⟨cm1,x1,I1,r1⟩=>?_));obtain⟨x2,I2,r2⟩:=qV I1 r1 h;have a2:=(eA hD).go I1 hD x2.toExtK (λz=>hDo (aX _ z)) hs ((eA hD).go I hD x1.toExtK (λz=>hDo (aX _ z)) hs ha);have n2:=qO (eA hD) I2 a2;refine R0 (yg I2 hD neL hs a2 (by simp at hl;omega) λs3 x3 I3 a3=>R5 (R5 ⟨rfl,cm1,[u],((x1.trans x2).sub tbo).trans x3,I3,.cons (r2.go x3.toExtK I2.mem n2) .nil,a3⟩))
 |@more d it' inner' tg' cs' target' iter' ifs' l pi hfs pg' pt' hdis' hlt' hin' ih =>
  intro target iter ifs tg cs hg pg pt q s0 s cm0 cm m0 m m' env ts out it fp vs x0 tk hDf fr I on ha hn ok hl;refine lO hc (eA hD) hD hDo hs (Pt:=λ_=>True) rfl rfl (rV hg l) pg pt q ?_ x0 tk hDf fr I on ha hn ok hl (λ_ _=>trivial);intro s cm m m' env out vs J I ha hn ok hl _;obtain⟨w,m1,j,ok2⟩:=ap ok;obtain⟨rfl,rfl⟩:=jO ok2;rw[zu]at j;obtain⟨w1,m2,ok3,ok4⟩:=ap j;obtain⟨ts',m3,h,ok6⟩:=ap ok4;obtain⟨out',m4,ok7,ok8⟩:=ap ok6;cases ok8;refine R0 (mK (pi.run I ok3 h) λxv s1 h1=>?_);refine R0 (TA (R0 (WZ (hfs xv) (R0 (SE (mK h1 λitv s2 h2=>?_))))));obtain⟨F,fp2,it2,cm1,s1',rfl,z1,_,_,x1,I1,x2,I2,on2,tk2,fr2⟩:=h2;obtain rfl:=z1 rfl;have I2:Fr Y env cm1 m3 s2:=I2;have on2:On Y cm1 m3 s2.heap it2 fp2 0 ts':=on2;have hb:=cL (ch:=D::Y.own) I1 h;have a1:=(eA hD).go I hD x1.toExtK (λz=>hDo (aX _ z)) hs ha;have a2:=(eA hD).go hb.2 hD (x2 []).toExtK (λz=>nomatch z) hs a1;have hDf2:D∉fp2:=λz=>by
   obtain⟨_,_,e⟩:=a1;rw[fr2 D z]at e;cases e
  have go:=ih l pg' pt' hdis' (x2 _) tk2 hDf2 fr2 I2 on2 a2 hn ok7 hl;refine R0 (wpAny_runOwn (TC (i5 l rfl rfl go (on2.self (I2.ok.hd hc) I2 go)) λr s3 ⟨hr,cm3,vs3,x3,I3,r3,a3⟩=>?_));subst hr;obtain⟨x4,M4,sm⟩:=hH I3.mem (hb.1.trans x3) (λj l h=>x3.lent j l h) h;exact R5 ⟨rfl,cm3,vs3,(x1.sub tbo).trans x4,I3.go (sm []) M4 (λ_ z=>nomatch z),r3.mp λ_ _ r=>r.go (sm []) I3.mem Nq.nil,a3⟩
noncomputable abbrev aP(X:Cx)(N':List Str)(scope:UR)(cl:List (Str×RB))(C:RB)(F:List RB):Cx:=
 { X with N:=N',env:=compEnvC scope cl C X.env,fs:=F,fn:=λx=>scope.names.lookup x==Zz .cell }
theorem yv(I:Fr X env cm m s)(S:BJ X N' scope)(hD:s.heap.get? D=Zy)(eD:∃o,h.get? D=Zz o/\∀v,o.data≠.fields v)(hC:s.heap.objs.size<=C)(hns:∃f,h.Ns C f)(k:∀b o,s.heap.get? b=Zz o->h.get? b=Zz o)(kc:Lk X scope cl C h)(hl:env'.length=N'.length)(hσ:∀(i:Nat) (x:Str) (w:W),N'[i]?=Zz x->env'[i]?=Zz (Zz w)->∃j:Nat,X.N[j]?=Zz x/\env[j]?=Zz (Zz w)/\(x,Rt)∈scope.names):
  Fr (aP X N' scope cl C (D::C::X.fs)) env' cm m { s with heap:=h,toks:=tk }:=by
 have gone:∀b,s.heap.objs.size<=b->s.heap.get? b=Zy:=λb hb=>Rk hb
 have nb:∀b,s.heap.get? b=Zy->X.base.get? b=Zy:=λb hb=>by
  cases q:X.base.get? b with
  |none=>rfl
  |some o=>rw[I.bs _ _ q]at hb;cases hb
 have nst:∀b,s.heap.get? b=Zy->b∉frs X.stack:=λb hb z=>I.nR z hb
 have hfree:∀x k,(relabel scope X.env).names.lookup x=Zz k->(k=.cell∨k=.free)->(x,Rt)∈scope.names∨scope.names.lookup x=Zz .cell:=λx k h hk'=>by
  obtain⟨k',h1,h2⟩:=lU S.look h;rcases h2 with rfl|⟨rfl,_⟩
  ·rcases hk' with rfl|rfl
   ·exact .inr h1
   ·exact .inl (oU h1)
  ·exact .inl (oU h1)
 have nn:∀b∈D::C::X.fs,b∈X.fs∨s.heap.get? b=Zy:=λb hb=>by
  rcases R6.mp hb with rfl|hb
  ·exact .inr hD
  ·rcases R6.mp hb with rfl|hb
   ·exact .inr (gone _ hC)
   ·exact .inl hb
 obtain⟨mm,hns⟩:=hns;refine⟨⟨I.ok.mod,S.kind,I.ok.glob,I.ok.blt,kc.inj,λx hx=>?_,I.ok.hd,I.ok.frames,λe he=>(I.ok.pL e he).imp id λ⟨L,h1,h2⟩=>⟨L,R4 _ (R4 _ h1),h2⟩,R4 _ R9,λx c e=>?_,I.ok.tab,I.ok.iz,I.ok.rW⟩,
  I.mem.fr (X:=X) rfl nn k λT=>I.ok.iz _ _ T λb o _=>k b o,I.bare,λb o e=>k b o (I.bs b o e),⟨mm,hns,λi x w e1 e2 e3=>?_⟩,λx c e=>?_,λb hb=>?_,hl⟩
 ·rcases hx with hx|hx
  ·exact kc.has x (hfree x _ hx (.inl rfl))
  ·exact kc.has x (hfree x _ hx (.inr rfl))
 ·rcases kc.one x c e with⟨q,_⟩|q
  ·exact nb _ (gone _ (Rg hC (Sb q)))
  ·exact I.ok.cb x c q
 ·obtain⟨j,h1',h2',h3'⟩:=hσ i x w e1 e2
  obtain⟨m0,hn0,hl0⟩:=I.loc;have kx:=S.free x h3';obtain⟨u,ru,lu⟩:=hl0 j x w h1' h2' (kx.elim (λz=>.inr (.inl z)) λz=>.inr (.inr z));refine⟨u,ru.fr nn k,.inr ?_⟩;obtain⟨c,ec,ic⟩:∃c,X.env.cells.lookup x=Zz c/\s.heap.IsCell c (Zz u):=by
   rcases lu with⟨q,_⟩|⟨_,c,q1,q2⟩
   ·rcases kx with z|z
    ·rw[z]at q;cases q
    ·rw[z]at q;cases q
   ·exact⟨c,q1,q2⟩
  obtain⟨c',ec'⟩:=kc.has x (.inl h3');have:c'=c:=by
   rcases kc.one x c' ec' with⟨_,q,_⟩|this
   ·have q1:=S.look _ q
    rw[S.look _ h3']at q1;cases q1
   ·rw[ec]at this;exact(SY this).symm
  subst this;obtain⟨o,ho,hd⟩:=ic;refine⟨?_,c',ec',o,k _ _ ho,hd⟩;rcases e3 with e3|e3|e3
  ·obtain⟨k',q1,q2⟩:=lU S.look e3
   rw[S.look _ h3']at q1;cases q1;rcases q2 with q2|⟨_,q2⟩<;>cases q2
  ·exact .inl e3
  ·exact .inr e3
 ·rcases kc.one x c e with⟨_,_,q⟩|q
  ·exact⟨_,q⟩
  ·obtain⟨v,o,ho,hd⟩:=I.cell x c q
   exact⟨v,o,k _ _ ho,hd⟩
 ·rcases R6.mp hb with rfl|hb
  ·obtain⟨o,e,n⟩:=eD
   exact⟨nb _ hD,o,e,n,λz=>Ys z (nst _ hD)⟩
  ·rcases R6.mp hb with rfl|hb
   ·obtain⟨o,es,ep,e,d,_⟩:=hns
    exact⟨nb _ (gone _ hC),o,e,λv z=>(by rw[d]at z;cases z),λz=>Ys z (nst _ (gone _ hC))⟩
   ·obtain⟨h1,o,e,d⟩:=I.bF b hb
    exact⟨h1,o,k _ _ e,d⟩
end
section
variable{X Y:Cx}{env env':Mi.Env}{cm cm' cm0:List RB}{m m' m0 m1 m2:Mem}{s s' s0:RA}{w:W}{v u:R3}{ch:List RB}{J Q:VK}{h h':Rm}{t:T}{l ts out:List T}{vs:List R3}{a D C:RB}{n d L own:Nat}{i:Nat}{tk:Nat}{o o':Obj}{f:List RB}
variable{call:Nat->List W->Mem->Res W}{gv:List T}{e elt target iter node:S4}{ifs:List S4}{gens gs:List UM}{E inner it:Mi.E}{cs:Es}{tg:Tg}{pos p px spos pos':Pos}{Acc:RB->Rm->List R3->Prop}{scope:UR}{N':List Str}{cl:List (Str×RB)}{keep:List Nat}{oN:Obj}{nw:Sem R3}{use:Option (R3->Sem Unit)}{x:Str}{rest:List S5}{K:Mi.S}
variable(call gv) in
def Hn(X:Cx)(N':List Str)(scope:UR)(elt target:S4)(ifs:List S4)(gens:List UM)(tg:Tg)(cs:Es)(inner:Mi.E):Prop:=
 ∀(cl:List (Str×RB)) (C:RB) (F:List RB),PG (aP X N' scope cl C F) target tg/\Gf call gv (aP X N' scope cl C F) cs ifs/\IR call gv (aP X N' scope cl C F) elt gens 0 inner
variable(call gv) in
structure rE (X:Cx) (N':List Str) (scope:UR) (own:Nat) (keep:List Nat) (target iter:S4) (it:Mi.E) (tg:Tg) (inner:Mi.E) (P:Prop):Prop where
 sc:BJ X N' scope
 hown:N'.length=own+keep.length
 hkeep:∀(i:Nat) x,N'[own+i]?=Zz x->∃j,keep[i]?=Zz j/\X.N[j]?=Zz x/\(x,Rt)∈scope.names
 pi:PI call gv true X target iter it
 fs:∀x,UF iter X.env x=pure x
 ins:P
 dis:∀i∈rJ tg,i∉fB inner
 JT:∀i∈rJ tg++fB inner,i<own
variable(call gv) in
abbrev wb(X:Cx)(N':List Str)(scope:UR)(own:Nat)(keep:List Nat)(elt target iter:S4)(ifs:List S4)(gs:List UM)(it:Mi.E)(tg:Tg)(cs:Es)(inner:Mi.E):Prop:=
 rE call gv X N' scope own keep target iter it tg inner (Hn call gv X N' scope elt target ifs (⟨target,iter,ifs,0⟩::gs) tg cs inner)
theorem wq{P:Prop}(h1:Dj scope X.env.scope=true)(h2:nV N' X.N own keep scope=true)(pi:PI call gv true X target iter it)(fs:∀x,UF iter X.env x=pure x)(ins:P)(dis:∀i∈rJ tg,i∉fB inner)(JT:∀i∈rJ tg++fB inner,i<own):
  rE call gv X N' scope own keep target iter it tg inner P:=by
 unfold Dj at h1;rw[RJ]at h1;obtain⟨hk,h1⟩:=h1;have h1:=SC.mp h1;unfold nV at h2;rw[RJ]at h2;obtain⟨hl,h2⟩:=h2;have h2:=SC.mp h2;refine⟨⟨eq_of_beq hk,λp hp=>?_,λx hx=>?_⟩,eq_of_beq hl,λi x e=>?_,pi,fs,ins,dis,JT⟩
 ·have:=h1 p hp
  simp only[RJ]at this;exact eq_of_beq this.1
 ·have:=h1 _ hx
  simp only[RJ,Tl]at this;rcases this.2 with(h|h)|h
  ·cases h
  ·exact .inl (eq_of_beq h)
  ·exact .inr (eq_of_beq h)
 ·have hlen:=eq_of_beq hl
  have hi:i<keep.length:=by
   have:=(R8.mp e).1;omega
  have h:=h2 i (Ur.mpr hi);rw[e]at h;cases q:keep[i]? with
  |none=>rw[q]at h;cases h
  |some j =>
   rw[q]at h;have h:=h;rw[RJ]at h;refine⟨j,rfl,eq_of_beq h.1,?_⟩;obtain⟨p,hp,hq⟩:=V1.mp h.2;rw[RJ]at hq;rw[<-eq_of_beq hq.1];have:p.2=Rt:=eq_of_beq hq.2;rw[<-this];exact hp
structure wf (X:Cx) (Acc:RB->Rm->List R3->Prop) (env:Mi.Env) (cm:List RB) (m:Mem) (s:RA) (out:List T) (m':Mem) (D C:RB) (s3:RA) (cm3:List RB) (vs:List R3):Prop where
 ext:aH (C::X.fs) X.gs X.tb cm m s cm3 m' s3
 fr:Fr { X with fs:=C::X.fs } env cm3 m' s3
 rel:fG (Cx.D { X with fs:=C::X.fs }) cm3 m' s3.heap out vs
 acc:Acc D s3.heap vs
 nf:D∉C::X.fs
 nl:ai cm3 m' D
 ns:∃f,s3.heap.Ns C f
 nC:s.heap.get? C=Zy
 nD:s.heap.get? D=Zy
 nb:X.base.get? D=Zy
 gl:RU<D
theorem nG(hc:X.calm=true){P:Prop}(k:rE call gv X N' scope own keep target iter it tg inner P)(hcl:clausesOf node=⟨target,iter,ifs,0⟩::gs)(hal:oN.isFreed=false)(hof:∀v,oN.data≠.fields v)(hd:∀it acc env,(Rp X.prog X.w).den (.compStart node 0 it acc env)=(YN node 0 it acc env).onRaise (λx=>do Wx x env;Uo theWindowsPlace))(hA:∀it acc env,X.A.under (.compStart node 0 it acc env)=X.A)(hnw:∀{A:SF}{E:R3->RA->Prop}{s:RA}{Q:R3->RA->Prop},Q (.ref s.heap.objs.size) { s with heap:=s.heap.push oN }->RF (Rp X.prog X.w) A nw Q E s)(h0:∀{h:Rm}{D:RB},h.get? D=Zz oN->Acc D h [])(loop:∀(cl:List (Str×RB)) (C D:RB) (F:List RB) {s0 s:RA}{cm0 cm:List RB}{m0 m m':Mem}{env:Mi.Env}{ts:List T}{it:RB}{fp:List RB},D∈F->D∉(aP X N' scope cl C F).own->D∉frs X.stack->aH F X.gs (D::(aP X N' scope cl C F).own) cm0 m0 s0 cm m s->uS fp target->D∉fp->(∀b∈fp,s0.heap.get? b=Zy)->Fr (aP X N' scope cl C F) env cm m s->On (aP X N' scope cl C F) cm m s.heap it fp 0 ts->Acc D s.heap [] ->
   (∀i∈rJ tg++fB inner,∀w,env[i]?≠Zz (Zz w))->bC (turnF call gv cs inner) tg ts env m=.ok out m'->out.length<=lim ->
   UB X.M X.A (.compLoop node 0 (.ref it) (.ref D) (compEnvC scope cl C X.env)) (λr s'=>r=.ok .next/\wX (aP X N' scope cl C F) (Acc D) D env [] cm0 m0 s0 out m' s') s)(I:Fr X env cm m s)(ok:ev call gv (.comp own keep it tg cs inner) env m=.ok (.t (.lst out)) m')(fin:∀D C s3 cm3 vs,wf X Acc env cm m s out m' D C s3 cm3 vs->compPost X.M X.A J use Q (.ref D) C (.ok .next) s3):
  RF X.M X.A (comprehension node scope X.env pos' nw false (eval iter X.env) use) Q J s:=by
 obtain⟨cl0,hclos,hcl1,hcl2⟩:=qA λx hx=>I.ok.has x (k.sc.free x hx)
 rw[pU]at ok;obtain⟨w1,m1,ok0,ok2⟩:=ap ok;have ok1:=vZ ok0;obtain⟨ts,m2,ok3,ok4⟩:=ap ok2;obtain⟨out',m3,ok5,ok6⟩:=ap ok4;split at ok6<;>cases ok6;rename_i hlen;have ok5':=vZ ok5;refine wpAny_comprehension_free hcl k.fs hclos k.sc.kind (λx hx e=>by rw[k.sc.look x hx,e]) (mK (k.pi.run I ok1 ok3) λxv s1' h1=>mK h1 λitv s2 h2=>?_);obtain⟨F,fp,itA,c1,s1,rfl,_,z2,z3,x1,I1,x2,I2,on2,tk2,fr2⟩:=h2;refine hnw (yL hcl1 hcl2 (λx c e=>?_) I2.ok.inj λh₁ cl hns₁ hsb₁ kc=>?_)
 ·obtain⟨v,o,e,_⟩:=I2.cell x c e
  exact SO (Re e) (by show _<=(Heap.push _ _).objs.size;rw[S3];exact Tf _)
 dsimp only at hns₁ hsb₁ kc ⊢;generalize hP:s2.heap.push oN=P2 at hns₁ hsb₁ kc ⊢;have hCs:P2.objs.size=s2.heap.objs.size+1:=by rw[<-hP,S3]
 generalize hC:P2.objs.size=C at hns₁ kc hCs ⊢;generalize hD:s2.heap.objs.size=D at hCs ⊢;have gone2:∀b,D<=b->s2.heap.get? b=Zy:=λb hb=>Rk (hD▸hb)
 have gone:∀b,D<=b->s.heap.get? b=Zy:=λb hb=>by
  cases e:s.heap.get? b with
  |none=>rfl
  |some o =>
   obtain⟨o,e,_⟩:=x1.thr b o e;obtain⟨o,e,_⟩:=(x2 []).thr b o e;rw[gone2 b hb]at e;cases e
 have old:=λb o e=>hsb₁ b o (hP▸R7 oN e)
 have hacc:h₁.get? D=Zz oN:=hsb₁ _ _ (by rw[<-hP,<-hD];exact RN _ hal);have gone1:∀b,D<=b->s1.heap.get? b=Zy:=λb hb=>by
  cases e:s1.heap.get? b with
  |none=>rfl
  |some o =>
   obtain⟨o,e,_⟩:=(x2 []).thr b o e;rw[gone2 b hb]at e;cases e
 have J0:Fr (aP X N' scope cl C (D::C::F)) (DZ own keep env) c1 m2 { s2 with heap:=h₁ }:=yv (X:={ X with fs:=F }) I2 ⟨k.sc.kind,k.sc.look,k.sc.free⟩ (gone2 D (RO _)) ⟨_,hacc,hof⟩ (by omega) hns₁ old ⟨kc.one,kc.own,kc.inj,kc.has⟩ (by unfold DZ;simp[k.hown]) λi x w e1 e2=>by
  unfold DZ at e2;by_cases hi:i<own
  ·rw[RQ (by simpa using hi),Ti]at e2
   split at e2<;>cases e2
  ·rw[RV (by simpa using hi),Rx,RR]at e2
   obtain⟨j,q1,q2,q3⟩:=k.hkeep (i-own) x (by rw[show own+(i-own)=i by omega];exact e1);rw[q1]at e2;have e3:(env[j]?).join=Zz w:=SY e2;refine⟨j,q2,?_,q3⟩;cases r:env[j]? with
   |none=>rw[r]at e3;cases e3
   |some o=>rw[r]at e3;exact congrArg Zz e3
 have up0:∀b∈F,b∈D::C::F:=λb h=>R4 _ (R4 _ h)
 have up:∀b∈X.fs,b∈D::C::F:=λb h=>up0 b (z2 b h)
 have nn:∀b∈D::C::F,b∈F∨s2.heap.get? b=Zy:=λb hb=>by
  rcases R6.mp hb with rfl|hb
  ·exact .inr (gone2 _ (RO _))
  ·rcases R6.mp hb with rfl|hb
   ·exact .inr (gone2 _ (by omega))
   ·exact .inl hb
 have nF:∀b∈F,b∈X.fs∨s.heap.get? b=Zy:=λb hb=>(z3 b hb).imp id λz=>by
  cases e:s.heap.get? b with
  |none=>rfl
  |some o =>
   obtain⟨o,e,_⟩:=x1.thr b o e;rw[z]at e;cases e
 have DC:D<C:=by omega
 have ownY:∀b∈(aP X N' scope cl C (D::C::F)).own,b∈X.tb∨D<b:=λb hb=>by
  rcases R6.mp hb with z|hb
  ·exact .inr (Nat.lt_of_lt_of_eq DC z.symm)
  ·rcases SM.mp hb with hb|hb
   ·exact .inl hb
   ·obtain⟨x,h1,h2⟩:=kW.mp hb
    have:=kc.own x b (eq_of_beq h1) h2;exact .inr (UC DC this)
 have tbD:D∉X.tb:=λz=>by
  obtain⟨o,e⟩:=I2.ok.rW _ I2.mem.tab D z;rw[gone2 D (RO _)]at e;cases e
 have hDo:D∉(aP X N' scope cl C (D::C::F)).own:=λz=>(ownY D z).elim tbD λz=>S7 _ z
 have fpD:∀b∈fp,b<D:=λb hb=>by
  obtain⟨o,e,_⟩:=on2.pt b hb;exact hD▸Re e
 have on3:On (aP X N' scope cl C (D::C::F)) c1 m2 h₁ itA fp 0 ts:=⟨on2.src.fr (X:={ X with fs:=F }) rfl nn old,on2.nb,λb hb z=>(ownY _ z).elim (λz=>on2.no b hb (aX (X:={ X with fs:=F }) _ z)) (λz=>Nat.lt_asymm z (fpD b hb)),λb hb=>by
  have q:=on2.nf b hb;by_cases ht:isTup fp b=true
  ·rw[Yn ht]at q ⊢;exact⟨up0 b q.1,q.2⟩
  ·rw[Yo ht]at q ⊢
   intro z;rcases R6.mp z with z|z
   ·exact Ys (fpD b hb) (by rw[z];exact S7 _)
   ·rcases R6.mp z with z|z
    ·exact Ys (fpD b hb) (by rw[z];exact WI.mpr (Sb DC))
    ·exact q z⟩
 have x3:aH (D::C::F) X.gs (D::(aP X N' scope cl C (D::C::F)).own) c1 m2 s1 c1 m2 { s2 with heap:=h₁ }:=((x2 _).fr λb h=>.inl (up0 b h)).trans (.kept old);have hnone:∀i∈rJ tg++fB inner,∀w,(DZ own keep env)[i]?≠Zz (Zz w):=λi hi w e=>by
  unfold DZ at e;rw[RQ (by simpa using k.JT i hi),Ti]at e;split at e<;>cases e
 have go:=loop cl C D (D::C::F) R9 hDo (λz=>I2.nR (X:={ X with fs:=F }) z (gone2 D (RO _))) x3 tk2 (λz=>Ys (fpD D z) (S7 _)) fr2 J0 on3 (h0 hacc) hnone ok5' hlen;refine TC (i5 (by rw[hcl];rfl) (hd _ _ _) (hA _ _ _) go (On.self (X:=aP X N' scope cl C (D::C::F)) (s:={ s2 with heap:=h₁ }) (I2.ok.hd hc) J0 on3 go)) λr s3 ⟨hr,cm3,vs3,x4,I4,r4,a4⟩=>?_
 subst hr;obtain⟨x5,M5,sm⟩:=hH I4.mem (((cL (ch:=D::(aP X N' scope cl C (D::C::F)).own) I1 ok3).1.fr λb h=>.inl (up b h)).trans x4) (λj l h=>x4.lent j l h) ok3;have xt:=((((x1.fr λb h=>.inl (up b h)).sub (ch:=D::(aP X N' scope cl C (D::C::F)).own) λb hb=>R4 _ (aX (X:=aP X N' scope cl C (D::C::F)) b hb)).trans x5).fr (fs:=C::X.fs) (λb hb=>by
  rcases R6.mp hb with z|hb
  ·exact .inr (by rw[z];exact gone D (RO _))
  ·rcases R6.mp hb with z|hb
   ·exact .inl (by rw[z];exact R9)
   ·exact(nF b hb).imp (λz=>R4 _ z) id)).weak (ch':=X.tb) λb hb n=>by
  rcases R6.mp hb with rfl|hb
  ·exact gone _ (RO _)
  ·exact(ownY b hb).elim (λz=>Ys z n) λz=>gone _ (Sb z)
 have upC:∀b∈X.fs,b∈C::X.fs:=λb h=>R4 _ h
 have dn:∀b∈C::X.fs,b∈D::C::F:=λb h=>(R6.mp h).elim (λz=>by rw[z];simp) (up b)
 have MX:av { X with fs:=C::X.fs } cm3 (giveBack w1 m1 m3) s3.heap:=M5.fr (X:=aP X N' scope cl C (D::C::F)) rfl (λb h=>.inl (dn b h)) (λ_ _ e=>e) id;refine fin D C s3 cm3 vs3 ⟨xt,I.KY (f:=C::X.fs) (I.ok.fs upC) (λb h=>(R6.mp h).elim (λz=>.inr (by rw[z];exact gone C (Sb DC))) .inl) (λb h _=>I4.bF b (dn b h)) xt.toExtK MX I.nc,r4.mp λ_ _ r=>(RT.go (sm []) I4.mem Nq.nil r).fr (f:=D::C::F) (λb h=>.inl (dn b h)) λ_ _ e=>e,?_,λz=>?_,EA (X:=aP X N' scope cl C (D::C::F)) M5 R9,?_,gone _ (by omega),gone _ (RO _),(I4.bF D R9).1,(let⟨_,_,_,e,_⟩:=I2.ok.mod.glob;hD▸Re (I2.bs _ _ e))⟩
 ·rw[Uf]at a4;exact a4
 ·rcases R6.mp z with z|z
  ·exact Ys z (Rd DC)
  ·obtain⟨_,o,e,_⟩:=I2.bF D (z2 D z)
   rw[gone2 D (RO _)]at e;cases e
 ·obtain⟨f,h,_⟩:=I4.loc
  exact⟨f,h⟩
section
variable{D C:RB}{s3:RA}{cm3:List RB}
theorem wf.ne(F:wf X Acc env cm m s out m' D C s3 cm3 vs)(I:Fr X env cm m s):C≠X.env.locals/\C∉X.own/\C∉X.fs:=by
 have no:∀{o},s.heap.get? C≠Zz o:=λz=>by rw[F.nC]at z;cases z
 have nl:C≠X.env.locals:=λz=>by
  obtain⟨f,⟨o,_,_,e,_⟩,_⟩:=I.loc;exact no (z▸e)
 refine⟨nl,λhb=>?_,λhb=>?_⟩
 ·rcases R6.mp hb with z|hb
  ·exact nl z
  ·rcases SM.mp hb with hb|hb
   ·obtain⟨o,e⟩:=I.ok.rW _ I.mem.tab _ hb
    exact no e
   ·obtain⟨y,_,hm⟩:=kW.mp hb
    obtain⟨v,o,e,_⟩:=I.cell y C hm;exact no e
 ·obtain⟨_,o,e,_⟩:=I.bF _ hb
  exact no e
theorem G5(h:∃f,h'.Ns C f)(n:C∈f):J3 f C h':=by
 obtain⟨g,o,es,ep,e,d,_⟩:=h;refine⟨o,e,λk=>?_,λv z=>(by rw[d]at z;cases z),λv z=>(by rw[d]at z;cases z)⟩;cases k with
 |seq _ _ z=>rw[d]at z;cases z
 |dict _ _ _ z=>exact z n
 |ref _ _ _ z=>rw[d]at z;cases z
 |trace _ _ z=>rw[d]at z;cases z
 |plain z=>rw[d]at z;cases z
theorem wf.go(F:wf X Acc env cm m s out m' D C s3 cm3 vs)(I:Fr X env cm m s){s4:RA}{ch:List RB}(I4:Fr { X with fs:=C::X.fs } env' cm3 m' s4)(x4:aH (C::X.fs) X.gs ch cm m s cm3 m' s4)(ns:∃f,s4.heap.Ns C f)(hs:Tp C s4.heap h'):
  ExtK (C::X.fs) X.gs [C] cm3 m' s4 cm3 m' { s4 with heap:=h' }/\Nq (C::X.fs) [C] s4.heap/\aH X.fs X.gs ch cm m s cm3 m' { s4 with heap:=h' }/\Fr X env' cm3 m' { s4 with heap:=h' }:=by
 obtain⟨n1,_,n3⟩:=F.ne I;have kk:∀b o,b≠C->s4.heap.get? b=Zz o->h'.get? b=Zz o:=λb o n e=>(hs.2 b n).trans e
 obtain⟨x,nq,I5⟩:=I4.Jm (f:=X.fs) (tk:=s4.toks) I.ok (λb h=>R4 _ h) R9 n1 (G5 ns R9) kk λz=>Ys z n3
 exact⟨x,nq,(aH.past (X:={ X with fs:=C::X.fs }) x4 x (λb hb=>by rw[RH.mp hb];exact F.nC) λb o n e=>kk b o (λz=>n (RH.mpr z)) e).fr λb h=>(R6.mp h).elim (λz=>.inr (by rw[z];exact F.nC)) .inl,I5⟩
theorem wf.val(F:wf X AccAt env cm m s out m' D C s3 cm3 vs):RT (Cx.D { X with fs:=C::X.fs }) cm3 m' s3.heap (.lst out) (.ref D):=by
 obtain⟨z,n,e⟩:=F.acc;exact .lst (x:=vs.toArray) ⟨⟨n,e⟩,F.nf,by simpa using z⟩ F.nl (by simpa using F.rel.1) (by simpa using F.rel.2)
end
theorem vX(hc:X.calm=true)(k:wb call gv X N' scope own keep elt target iter ifs gs it tg cs inner)(I:Fr X env cm m s)(ok:ev call gv (.comp own keep it tg cs inner) env m=.ok (.t (.lst out)) m')(fin:∀D C s3 cm3 vs,wf X AccAt env cm m s out m' D C s3 cm3 vs->compPost X.M X.A J use Q (.ref D) C (.ok .next) s3):
  RF X.M X.A (comprehension (.ListComp elt (⟨target,iter,ifs,0⟩::gs) scope pos) scope X.env pos' (newList []) false (eval iter X.env) use) Q J s:=
 nG hc k rfl rfl (λv z=>(by cases z)) (λ_ _ _=>rfl) (λ_ _ _=>rfl) (λh=>SG h) (λh=>⟨S8 _,0,h⟩) (λcl C D F s0 s cm0 cm m0 m m' env ts it fp hDF hDo hDs x0 tk hDf fr I on ha hn ok hl =>
  Gr (Y:=aP X N' scope cl C F) hc hDF hDo hDs (k.ins cl C F).2.2 rfl (k.ins cl C F).1 (k.ins cl C F).2.1 k.dis x0 tk hDf fr I on ha hn ok (by rw[Sy,Ua];exact hl)) I ok fin
theorem aN(hc:X.calm=true)(k:wb call gv X N' scope own keep elt target iter ifs gs it tg cs inner):
  PE call gv X (.ListComp elt (⟨target,iter,ifs,0⟩::gs) scope pos) (.comp own keep it tg cs inner):=λenv cm m s I Q J hp=>by
 cases h:ev call gv (.comp own keep it tg cs inner) env m with
 |stuck=>rw[h]at hp;exact hp.elim
 |exc e m'=>exact Ys h (io e m')
 |ok w m' =>
  obtain⟨out,rfl⟩:=jT h;rw[h]at hp;rw[eval_ListComp];refine vX hc k I h λD C s3 cm3 vs F=>⟨_,F.ns.choose_spec,λh' hs=>?_⟩
  obtain⟨x,nq,x5,I5⟩:=F.go I F.fr F.ext F.ns hs;exact hp.to x5 I5.mem _ ((RT.go x F.fr.mem nq F.val).fr (f:=C::X.fs) (λb h=>.inl (R4 _ h)) λ_ _ e=>e)
theorem cW(hc:X.calm=true)(kk:wb call gv X N' scope own keep elt target iter ifs gs it tg cs inner)(hN:X.N.Nodup)(hi:X.N[i]?=Zz x)(hx:Loc X x)(hk:fW call gv X rest K)(hsw:Wv (.ListComp elt (⟨target,iter,ifs,0⟩::gs) scope pos) (Zz (.Name x px)) spos.line X.env=pure true:=by rfl):
  fW call gv X (.Assign [.Name x px] (.ListComp elt (⟨target,iter,ifs,0⟩::gs) scope pos) spos::rest) (.asg i (.comp own keep it tg cs inner) K):=λenv cm m s I R J j hp=>by
 rw[uj]at hp;cases h:ev call gv (.comp own keep it tg cs inner) env m with
 |stuck=>rw[h]at hp;exact hp.elim
 |exc e m'=>exact Ys h (io e m')
 |ok w m' =>
  obtain⟨out,rfl⟩:=jT h;rw[h]at hp;refine S6 ?_;rw[exec_Assign_Name_used _ _ _ _ hsw];refine R0 (TA (R0 ?_));refine R0 (mK (Q:=λ_ s'=>RF X.M X.A (execs rest X.env) R J s') (vX (use:=Zz (assign (.Name x px) X.env)) hc kk I h λD C s3 cm3 vs F=>?_) λ_ s' h=>R5 (R5 h));refine Wd (store (X:={ X with fs:=C::X.fs }) F.fr hN hi hx (w:=.t (.lst out)) F.val λs4 x4 I4=>?_);have ns:∃f,s4.heap.Ns C f:=by
   obtain⟨f,o,es,ep,e,d,r⟩:=F.ns;obtain⟨_,o',e',q⟩:=x4.keep C o e (F.ne I).2.1 (EA F.fr.mem R9);refine⟨f,o',es,ep,e',?_,r⟩;rcases q with rfl|⟨_,_,_,sl,rfl⟩<;>exact d
  refine⟨_,ns.choose_spec,λh' hs=>?_⟩;obtain⟨_,_,x5,I5⟩:=F.go I I4 ((F.ext.sub aX).trans x4) ns hs;exact hk _ _ _ _ I5 R J j ((show ak X X.own cm m s (ex call gv K (env.set i (Zz (.t (.lst out)))) m') J (FQ X R)from hp).shift x5)
end
noncomputable def b7(s:S5):XX:=match s with
 |.FunctionDef _ a _ _ _ _ _ _ _ _=>a
 |_=>{ posonlyargs:=[],args:=[],vararg:=Zy,kwonlyargs:=[],kw_defaults:=[],kwarg:=Zy,defaults:=[] }
noncomputable def aR(s:S5):List S5:=match s with
 |.FunctionDef _ _ b _ _ _ _ _ _ _=>b
 |_=>[]
noncomputable def aa(s:S5):UR:=match s with
 |.FunctionDef _ _ _ _ _ _ sc _ _ _=>sc
 |_=>{ kind:=.function,names:=[],isGenerator:=false,isCoroutine:=false }
structure bI (k:Nat) (A:SF):Prop where
 hd:A.handled=Zy
 dp:A.depth+3*k+5<Va
 un:A.units+16*k+200<cLine
theorem bI.depth{k:Nat}{A:SF}(r:bI k A):A.depth<Va:=by have:=r.dp;omega
theorem bI.units{k:Nat}{A:SF}(r:bI k A):A.units+64<cLine:=by have:=r.un;omega
def Binds(K:To)(fd:TX)(ps:List Str)(ds:List R3):Prop:=
 ∀(s:RA) (us:List R3),K.In s.heap->(us++ds).length=ps.length->Xr s fd ⟨us,[]⟩ (ps.zip (us++ds))
theorem Binds.all{K:To}{fd:TX}{ps:List Str}(h:∀us:List R3,us.length=ps.length->Sx fd ⟨us,[]⟩=pure (ps.zip us)):Binds K fd ps []:=λs us _ hl=>by
 rw[Rh]at hl ⊢;exact .of_eq (h us hl)
structure ac (N P:List Str) (sc:UR):Prop where
 kind:sc.kind=.function
 co:sc.isCoroutine=false
 gen:sc.isGenerator=false
 nd:N.Nodup
 pre:N.take P.length=P
 HI:∀x∈P,sc.names.lookup x=Zz .local∨sc.names.lookup x=Zz .cell
 HQ:∀y∈sc.names,y.2≠.free
theorem tu{kindOf:Str->Option Uu}{x:Str}:∀{binds:List (Str×R3)}{m:Str->Option R3},(∀v,(x,v)∉binds)->bindL kindOf binds m x=m x
 |[],_,_=>rfl
 |(n,v)::r,m,h=>by
  unfold bindL;rw[tu λw hw=>h w (R4 _ hw)];split
  ·have:x≠n:=by rintro rfl;exact h v R9
   simp[this]
  ·rfl
theorem tj{kindOf:Str->Option Uu}{x:Str}:∀{binds:List (Str×R3)}{m:Str->Option R3},(∀v,(x,v)∉binds)->bindC kindOf binds m x=m x
 |[],_,_=>rfl
 |(n,v)::r,m,h=>by
  unfold bindC;rw[tj λw hw=>h w (R4 _ hw)];split
  ·rfl
  ·have:x≠n:=by rintro rfl;exact h v R9
   simp[this]
theorem tq{kindOf:Str->Option Uu}{x:Str}{v:R3}:∀{P:List Str}{vs:List R3}{i:Nat}{m:Str->Option R3},P.Nodup->P[i]?=Zz x->vs[i]?=Zz v->kindOf x=Zz .local ->
  bindL kindOf (P.zip vs) m x=Zz v
 |[],_,_,_,_,h,_,_=>by simp at h
 |_::_,[],_,_,_,_,h,_=>by simp at h
 |p::P,w::vs,0,m,nd,h1,h2,hk=>by
  simp at h1 h2;subst h1;subst h2;show bindL kindOf ((p,w)::P.zip vs) m p=_;unfold bindL;rw[tu λv hv=>(Ug.mp nd).1 (Uh hv).1,Yn hk];simp
 |p::P,w::vs,i+1,m,nd,h1,h2,hk=>by
  show bindL kindOf ((p,w)::P.zip vs) m x=_;unfold bindL;exact tq (i:=i) (Ug.mp nd).2 (by simpa using h1) (by simpa using h2) hk
theorem tC{kindOf:Str->Option Uu}{x:Str}{v:R3}:∀{P:List Str}{vs:List R3}{i:Nat}{m:Str->Option R3},P.Nodup->P[i]?=Zz x->vs[i]?=Zz v->kindOf x≠Zz .local ->
  bindC kindOf (P.zip vs) m x=Zz v
 |[],_,_,_,_,h,_,_=>by simp at h
 |_::_,[],_,_,_,_,h,_=>by simp at h
 |p::P,w::vs,0,m,nd,h1,h2,hk=>by
  simp at h1 h2;subst h1;subst h2;show bindC kindOf ((p,w)::P.zip vs) m p=_;unfold bindC;rw[tj λv hv=>(Ug.mp nd).1 (Uh hv).1,Yo hk];simp
 |p::P,w::vs,i+1,m,nd,h1,h2,hk=>by
  show bindC kindOf ((p,w)::P.zip vs) m x=_;unfold bindC;exact tC (i:=i) (Ug.mp nd).2 (by simpa using h1) (by simpa using h2) hk
theorem vC{sc:UR}{n:Nat}{x:Str}(h:sc.names.lookup x=Zz .cell):∃c,(V2 n sc.names []).lookup x=Zz c:=by
 have q:=WR sc.names n [] (.inl h);exact Option.isSome_iff_exists.mp q
structure AH (K:To) (x qual:Str) (st:S5) (f:RB) (fd:TX):Prop where
 ex:∃(oc:R3) (od:Option RB) (kV doc pm:R3) (an:Option RB) (cdv ct:R3) (osl:Array (Option R3)),
  fd=fnOf x qual (b7 st) (aR st) (aa st) .none kV doc pm an cdv ct/\K.lookup f=Zz ⟨oc,od,.func fd,osl⟩/\codeIn K cdv qual=true
 kp:keepIn K (.ref f)=true
theorem bI.deeper{k:Nat}{A:SF}(r:bI (k+1) A)(env:SZ):bI k (A.deeper env):=
 ⟨r.hd,by have:=r.dp;show A.depth+1+3*k+5<_;omega,by have:=r.un;show A.units+3+16*k+200<_;omega⟩
section
variable{K:To}
theorem AH.binds{x qual:Str}{st:S5}{f:RB}{fd:TX}{ps:List Str}(F:AH K x qual st f fd)(h:∀(kV doc pm:R3) (an:Option RB) (cdv ct:R3) (us:List R3),us.length=ps.length->Sx (fnOf x qual (b7 st) (aR st) (aa st) .none kV doc pm an cdv ct) ⟨us,[]⟩=pure (ps.zip us)):Binds K fd ps []:=by
 obtain⟨oc,od,kV,doc,pm,an,cdv,ct,osl,rfl,lk,hcd⟩:=F.ex;exact .all (h kV doc pm an cdv ct)
theorem vh{x qual:Str}{st:S5}{f:RB}{oc:R3}{od an:Option RB}{osl:Array (Option R3)}{kV doc pm cdv ct:R3}(l:K.lookup f=Zz ⟨oc,od,.func (fnOf x qual (b7 st) (aR st) (aa st) .none kV doc pm an cdv ct),osl⟩)(c:codeIn K cdv qual=true)(k:keepIn K (.ref f)=true):AH K x qual st f (fnOf x qual (b7 st) (aR st) (aa st) .none kV doc pm an cdv ct):=⟨⟨oc,od,kV,doc,pm,an,cdv,ct,osl,rfl,l,c⟩,k⟩
end
def Jp(h:Rm)(e:RB)(mk hd:R3):Prop:=hd=.none∨∃T oT ts,hd=.ref T/\T≠e/\h.get? T=Zz oT/\oT.data=.fields ts/\ts[3]?=Zz mk
theorem mw{o:Obj}(h:o.data=.fields vs)(f:Array R3->Array R3):o.mapFields f={ o with data:=.fields (f vs) }:=by
 obtain⟨c,d,e,b⟩:=o;cases h;rfl
structure GA (fr:List RB) (h:Rm) (e:RB) (oe:Obj) (mk:R3) (h':Rm):Prop where
 keep:∀b o,b∉fr->b≠e->h.get? b=Zz o->h'.get? b=Zz o
 slot:∀b o,b∈fr->h.get? b=Zz o->∃sl,h'.get? b=Zz { o with slots:=sl }
 new:∃T oT ts vs,h.get? T=Zy/\T≠e/\h'.get? T=Zz oT/\oT.cls=.type "traceback"/\oT.data=.fields ts/\ts[3]?=Zz mk/\h'.get? e=Zz { oe with data:=.fields vs }/\vs[1]?=Zz (.ref T)
section
variable{M:YI}{A:SF}{E:R3->RA->Prop}{s:RA}{base:Rm}{env:SZ}{outer:List SZ}{L e:RB}{oe:Obj}{vs:Array R3}{hd:R3}{Q:Unit->RA->Prop}
theorem Aa{before:Bool}(hfr:A.frames=Zz (env::outer))(hl:s.heap.FunFrames base (env::outer))(hf:env.frame=Zz L)(he:s.heap.get? e=Zz oe)(hv:oe.data=.fields vs)(h1:1<vs.size)(k:∀h':Rm,GA (frs (env::outer)) s.heap e oe (rawInt L) h'->Q () { s with heap:=h' }):
  RF M A (do
   let a <-frameOf env
   let pl <-entryPlaceOf L before
   let b <-EntryCells.newEntry hd a .none (rawInt L) .none pl
   Yc (.ref e) 1 b) Q E s:=by
 have ne:e∉frs (env::outer):=λhm=>by
  obtain⟨_,o,q,nf⟩:=hl.mem hm;rw[he]at q;cases q;exact nf vs hv
 refine R0 (wpAny_frameOf_fun hfr hl hf λf so=>?_);refine R0 (wpAny_entryPlaceOf λpl hp=>?_);unfold EntryCells.newEntry newFields;refine R0 (SG ?_ (hp.sizeOk5 _ _ _ _ _));have e1:=(so.2.1 e ne).trans he;generalize hob:({ cls:=.type "traceback",dict:=Zy,data:=.fields ([hd,.ref L,.none,rawInt L,.none]++(if pl.isEmpty then RE 6 Us else pl)).toArray }:Obj)=ob;have e2:=R7 ob e1;have obf:ob.isFreed=false:=by rw[<-hob];rfl
 refine Sk e2 hv h1 (k _ ?_);have nT:=Uz (Re e1);have kp:∀b o,b≠e->f.get? b=Zz o->((f.push ob).update e (UI (·.setIfInBounds 1 (TR f.objs.size)))).get? b=Zz o:=λb o hb q=>by
  rw[Rs _ _ (Su hb)];exact R7 _ q
 refine⟨λb o hb hbe q=>kp b o hbe ((so.2.1 b hb).trans q),λb o hb q=>?_,?_⟩
 ·obtain⟨sl,z⟩:=so.2.2 b o q
  exact⟨sl,kp b _ (λy=>ne (y▸hb)) z⟩
 ·refine⟨f.objs.size,ob,_,vs.setIfInBounds 1 (TR f.objs.size),Rk (by rw[so.1];exact RO _),nT,?_,?_,by rw[<-hob],?_,?_,?_⟩
  ·rw[Rs _ _ (Su nT)]
   exact RN _ obf
  ·rw[<-hob]
  ·simp
  ·rw[SH _ e2 (T9 (SP hv _)),mw hv]
  ·simp[h1]
theorem IA(a:A.frames=Zz (env::outer))(hl:s.heap.FunFrames base (env::outer))(d:env.frame=Zz L)(f:s.heap.get? e=Zz oe)(c:oe.data=.fields vs)(h1:vs[1]?=Zz hd)(ah:Jp s.heap e .none hd)(k:∀h':Rm,GA (frs (env::outer)) s.heap e oe (rawInt L) h'->Q () { s with heap:=h' }):RF M A (Wx (.ref e) env) Q E s:=by
 have hz:=(TN.mp h1).1;unfold Wx;simp only[d];refine R0 (SV f c h1 ?_);rcases ah with rfl|⟨T,oT,ts,rfl,ne,hT,dT,b⟩
 ·rw[Yo (by decide)]
  exact Aa a hl d f c hz k
 ·rw[Yn (by simp)]
  refine R0 (SV hT dT b ?_);rw[Yo (by simp[rawInt])];refine R0 (Sk hT dT (TN.mp b).1 ?_);rw[Heap.update_setField_same s.heap T oT ts 3 .none hT dT b];exact Aa a hl d f c hz k
theorem Ei{T:RB}{oT:Obj}{ts:Array R3}{mk:R3}(he:s.heap.get? e=Zz oe)(hv:oe.data=.fields vs)(h1:vs[1]?=Zz (.ref T))(hT:s.heap.get? T=Zz oT)(dT:oT.data=.fields ts)(mT:ts[3]?=Zz mk)(k:∀h':Rm,(∀b,b≠T->h'.get? b=s.heap.get? b)->h'.get? T=Zz { oT with data:=.fields (ts.setIfInBounds 3 .none) }->Q () { s with heap:=h' }):RF M A (WH (.ref e) Zy) Q E s:=by
 unfold WH;refine R0 (SV he hv h1 ?_);rw[Yn (by simp)];refine Sk hT dT (TN.mp mT).1 (k _ (λb hb=>Rs _ _ (Su hb)) ?_);rw[SH _ hT (T9 (SP dT _)),mw dT];rfl
end
section
variable{X Y:Cx}{env env':Mi.Env}{cm cm' cm0 c:List RB}{m m' m0 m1 m2:Mem}{s s' s0 s1 t:RA}{w:W}{v u:R3}{ch:List RB}{J Q:VK}{h h':Rm}{l ts out:List T}{vs us:List R3}{ws:List W}{a e C:RB}{n k fi:Nat}{i:Nat}{tk:Nat}{o o':Obj}{fs:List RB}
theorem XF.gen{P:Ry}{w:SS}{f:List RB}{ks:List Str}{dx:Option RB}(nl:∀a,ai cm m a->ai cm' m' a)(p:XF ⟨P,w,f⟩ cm m h ks l dx):XF ⟨P,w,f⟩ cm' m' h ks l dx:=by
 cases dx with
 |none=>exact p
 |some d=>obtain⟨vs,g,⟨h1,h2⟩,r,h3,h4,h5⟩:=p;exact⟨vs,g,⟨h1,nl _ h2⟩,r,h3,h4,h5.mp λ_ _ r=>r.gen nl (λ_ h=>.inl h) λ_ _ e=>e⟩
theorem RW.gen{P:Ry}{w:SS}{f:List RB}{y:W}(nl:∀a,ai cm m a->ai cm' m' a)(rc:∀(i:Nat) a,y=.c i->cm[i]?=Zz a->cm'[i]?=Zz a)(r:RW ⟨P,w,f⟩ cm m h y u):RW ⟨P,w,f⟩ cm' m' h y u:=by
 cases y with
 |t t=>exact RT.gen nl (λ_ h=>.inl h) (λ_ _ e=>e) r
 |c i=>obtain⟨a,h1,h2⟩:=r;exact⟨a,rc i a rfl h1,h2⟩
 |e _=>exact r.elim
 |x C ks l=>obtain⟨e,dx,h1,h2,h3⟩:=r;exact⟨e,dx,h1,h2,h3.gen nl⟩
theorem av.sel(M:av X cm m h)(g:Nat->Nat)(len:cm'.length=m'.length)(sl:∀(j:Nat) p,m'[j]?=Zz (Zz p)->m[g j]?=Zz (Zz p)/\cm'[j]?=cm[g j]?)(inj:∀(i j:Nat) p q,m'[i]?=Zz (Zz p)->m'[j]?=Zz (Zz q)->g i=g j->i=j)(ins:∀(j:Nat) C F i,m'[j]?=Zz (Zz (.o C F))->g j=i+1->m[i]?=Zz (Zz .d)->∃k,j=k+1/\g k=i/\m'[k]?=Zz (Zz .d))(rc:∀(j:Nat) C F y i a,m'[j]?=Zz (Zz (.o C F))->F.lookup y=Zz (.c i)->cm[i]?=Zz a->cm'[i]?=Zz a):av X cm' m' h/\∀a,ai cm m a->ai cm' m' a:=by
 have nl:∀a,ai cm m a->ai cm' m' a:=λa n j p e z=>n (g j) p (sl j p e).1 ((sl j p e).2▸z)
 refine⟨⟨len,λi j a p q e1 e2 c1 c2=>?_,λi p e=>?_,M.tab⟩,nl⟩
 ·obtain⟨h1,h2⟩:=sl i p e1
  obtain⟨h3,h4⟩:=sl j q e2;exact inj i j p q e1 e2 (M.inj _ _ a p q h1 h3 (h2▸c1) (h4▸c2))
 ·obtain⟨h1,h2⟩:=sl i p e
  obtain⟨a,h3,h4,h5⟩:=M.at' _ p h1;refine⟨a,h2.trans h3,h4,?_⟩;cases p with
  |l b l=>obtain⟨x,h5,h6⟩:=h5;exact⟨x,h5,h6.mp λ_ _ r=>r.gen nl (λ_ h=>.inl h) λ_ _ e=>e⟩
  |d=>exact h5
  |o C F =>
   obtain⟨j,d,f,e1,e2,e3,e4,e5,e6,e7,e8⟩:=h5;obtain⟨k,k1,k2,k3⟩:=ins i C F j e e1 e2;exact⟨k,d,f,k1,k3,by rw[(sl k _ k3).2,k2];exact e3,e4,e5,e6,λy w z=>(e7 y w z).imp λu q=>⟨q.1,q.2.1.gen nl (λi' a h=>rc i C F y i' a e (h▸z)),q.2.2⟩,e8⟩
theorem aH.sel(x:aH fs gs ch cm m s c m2 t)(pre:∀(i:Nat) a,cm[i]?=Zz a->cm'[i]?=Zz a)(len:m.length<=m'.length)(lent:∀(i:Nat) l,m[i]?=Zz (Zz (.l true l))->m'[i]?=Zz (Zz (.l true l)))(ob:uE m m')(nl:∀a,ai c m2 a->ai cm' m' a):aH fs gs ch cm m s cm' m' t:=
 .of x.thr lent ob ⟨x.os,x.bare,pre,len,λb o e c n=>let⟨n',r⟩:=x.keep b o e c n;⟨nl _ n',r⟩⟩
def KS(X:Cx)(Q:VK)(c:List RB)(m2:Mem)(t:RA):Mi.Flow->Prop
 |.next _=>Q .none t
 |.ret w=>∀v,RW X.D c m2 t.heap w v->Q v t
 |_=>False
theorem HG{cell:Bool}{fl:Mi.Flow}(M0:av X cm m s.heap)(x:aH X.fs X.gs X.tb cm m s c m2 t)(M:av X c m2 t.heap)(hp:ak X X.tb cm m s (fin m.length cell fl m2) J (WK X Q)):KS X Q c m2 t fl:=by
 have hl:=M0.len;have ml:=x.len;have cl:=M.len;have lt1:∀{α:Type}{l:List α}{j:Nat}{p:α},(l.take m.length)[j]?=Zz p->j<m.length/\l[j]?=Zz p:=λe=>by
  rw[Tw]at e;split at e
  ·exact⟨‹_›,e⟩
  ·cases e
 have lt2:∀{α:Type}{l:List α}{j:Nat},j<m.length->(l.take m.length)[j]?=l[j]?:=λh=>by rw[Tw,Yn h]
 have at1:∀{α:Type}{l:List α}{j:Nat}{p:α},l[j]?=Zz p->j<l.length:=λe=>(R8.mp e).1
 have tc:(c.take m.length).length=m.length:=by rw[Sm];omega
 have tm:(m2.take m.length).length=m.length:=by rw[Sm];omega
 have fo:∀{j C F y i},j<m.length->m2[j]?=Zz (Zz (.o C F))->F.lookup y=Zz (.c i)->i<m.length:=λ{j C F y i} h e z=>x.fld M0 h e z
 obtain⟨Mt,nl⟩:=M.sel (cm':=c.take m.length) (m':=m2.take m.length) id (by rw[tc,tm]) (λj p e=>⟨(lt1 e).2,lt2 (lt1 e).1⟩) (λ_ _ _ _ _ _ h=>h) (λj C F i e h d=>by have:=(lt1 e).1;have h:j=i+1:=h;exact⟨i,h,rfl,(lt2 (by omega)).trans d⟩) λj C F y i a e z c=>(lt2 (fo (lt1 e).1 (lt1 e).2 z)).trans c
 have pre:∀(i:Nat) a,cm[i]?=Zz a->i<m.length/\(c.take m.length)[i]?=Zz a:=λi a e=>⟨hl▸at1 e,by rw[lt2 (hl▸at1 e)];exact x.pre i a e⟩
 have len:∀(i:Nat) l,m[i]?=Zz (Zz (.l true l))->i<m.length/\(m2.take m.length)[i]?=Zz (Zz (.l true l)):=λi l e=>⟨at1 e,by rw[lt2 (at1 e)];exact x.lent i l e⟩
 have xt:aH X.fs X.gs X.tb cm m s (c.take m.length) (m2.take m.length) t:=x.sel (λi a e=>(pre i a e).2) (by omega) (λi l e=>(len i l e).2) x.ob.take nl;cases fl with
 |next _=>exact hp.to xt Mt _ .non
 |brk _=>exact hp.elim
 |cont _=>exact hp.elim
 |ret w =>
  intro v r;cases w with
  |t t'=>exact hp.to xt Mt v (RT.gen nl (λ_ h=>.inl h) (λ_ _ e=>e) r)
  |x _ _ _=>exact hp.elim
  |e _=>exact hp.elim
  |c i =>
   obtain⟨a,h1,h2⟩:=r;unfold fin at hp;dsimp only at hp;split at hp
   ·exact hp.to xt Mt v ⟨a,by rw[lt2 ‹_›];exact h1,h2⟩
   rename_i hi;split at hp
   rotate_left
   ·exact hp.elim
   rename_i ts e;split at hp
   ·have lt3:∀{α:Type}{l:List α}{b:α}{j:Nat}{p:α},l.length=m.length->(l++[b])[j]?=Zz p->(j<m.length/\l[j]?=Zz p)∨(j=m.length/\p=b):=λ{α l b j p} hl e=>by
     rcases Nat.lt_trichotomy j m.length with h|h|h
     ·rw[RQ (by omega)]at e;exact .inl ⟨h,e⟩
     ·subst h;rw[<-hl]at e;simp at e;exact .inr ⟨rfl,e.symm⟩
     ·rw[Uk (by simp;omega)]at e;cases e
    have lt4:∀{α:Type}{l:List α}{b:α}{j:Nat},l.length=m.length->j<m.length->(l++[b])[j]?=l[j]?:=λhl h=>RQ (by omega)
    have top:∀{α:Type}{l:List α}{b:α},l.length=m.length->(l++[b])[m.length]?=Zz b:=λ{α l b} hl=>by rw[<-hl];simp
    obtain⟨Mn,nn⟩:=M.sel (cm':=c.take m.length++[a]) (m':=m2.take m.length++[Zz (.l false ts)]) (λj=>if j<m.length then j else i) (by simp[tc,tm]) (λj p ej=>by
     rcases lt3 tm ej with⟨hj,eq⟩|⟨hj,eq⟩
     ·rw[Yn hj,lt4 tc hj,lt2 hj];exact⟨(lt1 eq).2,rfl⟩
     ·rw[hj,Yo (S7 _),top tc,h1,e];cases eq;exact⟨rfl,rfl⟩) (λj1 j2 p q e1 e2 ej=>by
     rcases lt3 tm e1 with⟨k1,_⟩|⟨k1,_⟩<;>rcases lt3 tm e2 with⟨k2,_⟩|⟨k2,_⟩
     ·rw[Yn k1,Yn k2]at ej;exact ej
     ·rw[Yn k1,Yo (by omega)]at ej;omega
     ·rw[Yo (by omega),Yn k2]at ej;omega
     ·omega) (λj C F k ej h d=>by
     rcases lt3 tm ej with⟨hj,eq⟩|⟨_,eq⟩
     ·rw[Yn hj]at h
      exact⟨k,h,Yn (by omega),by rw[lt4 tm (by omega),lt2 (by omega)];exact d⟩
     ·cases eq) λj C F y k b ej z c=>by
     rcases lt3 tm ej with⟨hj,eq⟩|⟨_,eq⟩
     ·have:=fo hj (lt1 eq).2 z
      rw[lt4 tc this,lt2 this];exact c
     ·cases eq
    exact hp.to (x.sel (λi a e=>by rw[lt4 tc (pre i a e).1];exact(pre i a e).2) (by simp[tm]) (λi l e=>by rw[lt4 tm (len i l e).1];exact(len i l e).2) (x.ob.take.app [_] (by omega)) nn) Mn v ⟨a,top tc,h2⟩
   ·subst h2
    obtain⟨b,y,q1,q2,q3,q4⟩:=M.li e;rw[h1]at q1;cases q1;have na:ai (c.take m.length) (m2.take m.length) a:=λj q ej z=>by
     have:=M.inj j i a _ _ (lt1 ej).2 e (lt1 z).2 h1;have:=(lt1 ej).1;omega
    have q5:=q4.mp λ_ _ r=>r.gen nl (λ_ h=>.inl h) λ_ _ e=>e
    exact hp.to xt Mt _ (RT.lst q2 na q5.1 q5.2)
structure Ll (X:Cx) (cm:List RB) (m:Mem) (s:RA) (e C:RB) (dx:Option RB) (k:List Str) (l:List T) (h':Rm):Prop where
 ext:ExtK X.fs X.gs [e] cm m s cm m { s with heap:=h' }
 thr:∀b o,s.heap.get? b=Zz o->∃o',h'.get? b=Zz o'/\Kd o o'
 mem:av X cm m h'
 xp:XP h' e C dx
 xf:XF X.D cm m h' k l dx
structure Le (X:Cx) (h:Rm):Prop where
 ff:h.FunFrames X.base X.stack
 sub:∀b∈frs X.stack,b∈X.fs/\∀o,h.get? b=Zz o->∀x n,o.data≠.seq x n
theorem Fr.Lc{env:Mi.Env}(I:Fr X env cm m s)(x:∀b o,s.heap.get? b=Zz o->∃o',h.get? b=Zz o'/\Kd o o'):Le X h:=by
 have one:∀{b},b∈X.fs->∃o,h.get? b=Zz o/\(∀v,o.data≠.fields v)/\(b∈frs X.stack->∀x n,o.data≠.seq x n):=λhb=>by
  obtain⟨_,o,e,n⟩:=I.bF _ hb;obtain⟨o',e',k⟩:=x _ o e;exact⟨o',e',k.1 n.1,λz=>k.2 (n.2 z)⟩
 have ff:∀l:List SZ,(∀e∈l,e.scope.kind≠.module/\∃L∈X.fs,e.frame=Zz L)->h.FunFrames X.base l:=λl=>by
  induction l with
  |nil=>exact λ_=>trivial
  |cons e r ih =>
   intro q;obtain⟨h1,L,h2,h3⟩:=q e R9;obtain⟨o,e',n,_⟩:=one h2;exact⟨h1,⟨L,o,h3,(I.bF _ h2).1,e',n⟩,ih λe z=>q e (R4 _ z)⟩
 refine⟨ff _ I.ok.pL,λb hb=>?_⟩;obtain⟨e,h1,h2⟩:=Ta.mp hb;obtain⟨_,L,h3,h4⟩:=I.ok.pL e h1;rw[h2]at h4;cases h4;obtain⟨o,e',_,n⟩:=one h3;exact⟨h3,λo' e2=>by rw[e']at e2;cases e2;exact n hb⟩
theorem land{env:SZ}{outer:List SZ}{dx:Option RB}{k:List Str}{l:List T}{L:RB}{A:SF}{E:VK}{Q:Unit->RA->Prop}(M:av X cm m s.heap)(hx:XP s.heap e C dx)(hf:XF X.D cm m s.heap k l dx)(ok:X.Ok)(g:A.frames=Zz (env::outer))(st:X.stack=env::outer)(hl:Le X s.heap)(d:env.frame=Zz L)(q:∀h',Ll X cm m s e C dx k l h'->Q () { s with heap:=h' }):
  RF X.M A (Wx (.ref e) env) (λ_ s1=>RF X.M A (WH (.ref e) Zy) Q E s1) E s:=by
 obtain⟨o,vs,u,e1,e2,e3,e4,e5,e6⟩:=hx;have fl:=hl.ff;rw[st]at fl;refine IA g fl d e1 e4 e5 ?_ λh1 N=>?_
 ·rcases e6 with rfl|⟨T,p,ts,rfl,ne,a,b,c,d⟩
  ·exact .inl rfl
  ·exact .inr ⟨T,p,ts,rfl,ne,a,c,d⟩
 obtain⟨T,oT,ts,vs',a1,a2,a3,a0,a4,a5,a6,a7⟩:=N.new;refine Ei a6 rfl a7 a3 a4 a5 λh2 k2 hT=>q h2 ?_
 rw[<-st]at N;have neT:∀b o,s.heap.get? b=Zz o->b≠T:=λb o q z=>by rw[z,a1]at q;cases q
 have kp:=λb o d hbe q=>(k2 b (neT b o q)).trans (N.keep b o d hbe q)
 have sl:∀b o,b∈frs X.stack->s.heap.get? b=Zz o->∃sl,h2.get? b=Zz { o with slots:=sl }:=λb o d q=>by
  obtain⟨sl,z⟩:=N.slot b o d q;exact⟨sl,(k2 b (neT b o q)).trans z⟩
 have nf:∀b o,b∈frs X.stack->s.heap.get? b=Zz o->∀v,o.data≠.fields v:=λb o hb q v z=>by
  obtain⟨_,o',e',n⟩:=hl.ff.mem hb;rw[q]at e';cases e';exact n v z
 have x:ExtK X.fs X.gs [e] cm m s cm m { s with heap:=h2 }:=⟨rfl,id,λ_ _ h=>h,RO _,λb ob eb hb nl=>⟨nl,by
  by_cases hm:b∈frs X.stack
  ·obtain⟨sl,z⟩:=sl b ob hm eb
   exact⟨_,z,.inr ⟨(hl.sub b hm).1,(hl.sub b hm).2 ob eb,hm,sl,rfl⟩⟩
  ·exact⟨ob,kp b ob hm (λz=>hb (RH.mpr z)) eb,.inl rfl⟩⟩⟩
 have nr:Nr X.fs [e] s.heap:=λb hb o' eb _=>by
  obtain rfl:=RH.mp hb;rw[e1]at eb;cases eb;exact⟨_,e4⟩
 have nc:=ok.tab _ M.tab;refine⟨x,λb ob eb=>?_,⟨M.len,M.inj,λi p ei=>?_,ok.iz _ _ M.tab λb ob hb eb=>?_⟩,⟨_,vs',.ref T,(k2 e (Su a2)).trans a6,e2,e3,rfl,a7,.inr ⟨T,_,_,rfl,a2,hT,a0,rfl,by simp[(TN.mp a5).1]⟩⟩,?_⟩
 ·by_cases hm:b∈frs X.stack
  ·obtain⟨sl,z⟩:=sl b ob hm eb
   exact⟨_,z,id,id⟩
  ·by_cases hbe:b=e
   ·subst hbe;rw[e1]at eb;cases eb
    exact⟨_,(k2 b (Su a2)).trans a6,λn=>Ys e4 (n _),λ_ _ _ z=>nomatch z⟩
   ·exact⟨ob,kp b ob hm hbe eb,.r⟩
 ·have kk:∀{j q a o},m[j]?=Zz (Zz q)->cm[j]?=Zz a->s.heap.get? a=Zz o->h2.get? a=Zz o:=λ{j q a o} e c z=>by
   obtain⟨f,_,o',e',k⟩:=M.live e c;rw[z]at e';cases e';refine kp a o (λz=>f (hl.sub a z).1) (λy=>?_) z;rw[y,e1]at z;cases z;rw[e4]at k;rcases k with⟨_,_,_,k⟩|⟨_,_,k⟩|k<;>cases k
  obtain⟨a,h1,h2,h3⟩:=M.at' i p ei;refine⟨a,h1,h2,h3.to (λo z=>kk ei h1 z) (λj d h e c=>⟨j,h,e,c,λo z=>kk e c z⟩) id λw u n r=>?_⟩;cases w with
  |t t=>exact r.Bz x M nr
  |c i=>exact r
  |e _=>exact r.elim
  |x _ _ _=>cases p with
   |l _ _=>obtain⟨_,n⟩:=n;cases n
   |d=>exact n.elim
   |o _ _=>cases n.1
 ·rcases hb with hb|⟨v,x,t,q,k⟩
  ·obtain⟨⟨v,q⟩,q2,_⟩:=(nc b hb).2 ob eb
   exact kp b ob (λz=>nf b ob z eb v q) (λz=>by rw[z,e1]at eb;cases eb;exact q2 _ e2) eb
  ·exact kp b ob (λz=>nf b ob z eb v q) (λz=>by rw[z,e1]at eb;cases eb;rw[e4]at q;cases q;rw[e5]at k;cases k;rcases e6 with h|⟨_,_,_,h,_⟩<;>cases h) eb
 ·cases dx with
  |none=>exact hf
  |some d =>
   obtain⟨vs,f,⟨h1,hn⟩,⟨od,es,ep,ed,cd,r⟩,h3,h4,h5⟩:=hf;exact⟨vs,f,⟨h1,hn⟩,⟨od,es,ep,kp d od (λz=>h1 (hl.sub d z).1) (λz=>by rw[z,e1]at ed;cases ed;rw[e4]at cd;cases cd) ed,cd,r⟩,h3,h4,h5.mp λ_ _ r=>r.Bz x M nr⟩
end
noncomputable abbrev lF(B:Bs)(N:List Str)(qual:Str)(scope:UR)(f:RB)(cd:R3)(A:SF)(st:List SZ)(fs:List RB)(n:Nat):Cx:=
 { B with A:=A.deeper (envOfC qual scope n f cd),N:=N,env:=envOfC qual scope n f cd,stack:=envOfC qual scope n f cd::st,fs:=n::fs,fn:=λ_=>true,calm:=true }
def CR(Q J:VK)(r:Result)(s:RA):Prop:=match r with
 |.ok (.ret u)=>Q u s
 |.ok _=>False
 |.error e=>J e s
structure Ca (X:Cx) (cm:List RB) (m:Mem) (s:RA):Prop where
 mod:Mod X.K X.mg X.base
 frames:X.A.frames=Zz X.stack
 pL:∀e∈X.stack,e.scope.kind≠.module/\∃L∈X.fs,e.frame=Zz L
 tab:∀h,X.Tab h->Nc X.base X.tb h
 iz:∀h h',X.Tab h->(∀b o,b∈X.tb∨Kc o->h.get? b=Zz o->h'.get? b=Zz o)->X.Tab h'
 rW:∀h,X.Tab h->∀b∈X.tb,∃o,h.get? b=Zz o
 mem:av X cm m s.heap
 bare:XU s.gens
 bs:∀b o,X.base.get? b=Zz o->s.heap.get? b=Zz o
 bF:∀b∈X.fs,X.base.get? b=Zy/\∃o,s.heap.get? b=Zz o/\NF X b o
theorem Fr.ca{X:Cx}{env:Mi.Env}{cm:List RB}{m:Mem}{s:RA}(I:Fr X env cm m s):Ca X cm m s:=⟨I.ok.mod,I.ok.frames,I.ok.pL,I.ok.tab,I.ok.iz,I.ok.rW,I.mem,I.bare,I.bs,I.bF⟩
def xD(B:Bs)(call:List W->Mem->Res W)(k:Nat)(f:RB)(fd:TX)(ps:List Str):Prop:=
 ∀X:Cx,X.toBs=B->bI k X.A->∀cm m s,Ca X cm m s->∀args us ws,(∃env,Fr X env cm m s)∨(∃w m',call ws m=.ok w m')->Xr s fd args (ps.zip us)->us.length=ps.length->sr X.D cm m s.heap ws us->∀Q J,ak X X.tb cm m s (call ws m) J (WK X Q)->UB X.M X.A (.call (.ref f) args) (CR Q J) s
inductive df (B:Bs) (fns:List Fn) (gv:List T) (k:Nat) (x:Str) (fi:Nat):Prop where
 |mk (f fd ps) (_:B.mg x=Zz (.ref f)) (_:keepIn B.K (.ref f)=true) (_:Binds B.K fd ps []) (_:∀ws m,az fns gv k fi ws m=.stuck∨ws.length=ps.length) (_:xD B (az fns gv k fi) k f fd ps)
section
variable{X Y:Cx}{B:Bs}{env env':Mi.Env}{cm cm' cm0 c:List RB}{m m' m0 m1 m2:Mem}{s s' s0 s1 t:RA}{w:W}{v u:R3}{ch:List RB}{J Q:VK}{h h':Rm}{l ts out:List T}{vs us:List R3}{ws:List W}{a C f:RB}{n k fi np:Nat}{i:Nat}{tk:Nat}{o o':Obj}{fs:List RB}
variable{fns:List Fn}{gv:List T}{e:S4}{es:List S4}{L:Es}{x qual:Str}{p pos:Pos}{scope:UR}{N ps:List Str}{cd:R3}{st:S5}{fd:TX}{body:Mi.S}{cell:Bool}
theorem Eg(F:df X.toBs fns gv k x fi)(q:bI k X.A)(t:Gl X x)(y:PA (az fns gv k) gv X (e::es) L)(c:(x==("__debug__" : Str))=false:=by decide)(u:notStar e=true:=by rfl)(b:es.all notStar=true:=by rfl):PE (az fns gv k) gv X (.Call (.Name x p) (e::es) [] pos) (.call fi L):=λenv cm m s I Q J h=>by
 obtain⟨f,fd,ps,hm,hk,hb,len,F⟩:=F;rw[zF]at h;refine Se (ln I t hm ?_ c);refine Xh (h₀:=X.base) I.ok.mod.gO hk (y.one I h λws us c1 m1 s1 I1 x1 r o=>⟨I1.gO,?_⟩) (bu u) (ia b);have hl:us.length=ps.length:=by
  rcases len ws m1 with z|z
  ·rw[z]at o;exact o.elim
  ·rw[<-r.1];exact z
 have hb:=hb s1 us I1.gO (by simpa using hl);rw[Rh]at hb;refine Vl (TC (F X rfl q c1 m1 s1 I1.ca ⟨us,[]⟩ us ws (.inl ⟨_,I1⟩) hb hl r Q J o) λr s' hq=>?_);cases r with
 |error e=>exact hq
 |ok fl =>
  cases fl with
  |ret u=>exact hq
  |next=>exact TP hq
  |brk=>exact TP hq
  |cont=>exact TP hq
theorem wG(S:ac N ps scope)(hd:X.A.handled=Zy)(I:Ca X cm m s)(hl:us.length=ps.length)(r:sr X.D cm m s.heap ws us)(x:InCallC s s.heap.objs.size (bindL (envOfC qual scope s.heap.objs.size f cd).kindOf (ps.zip us) λ_=>Zy) (V2 (s.heap.objs.size+1) scope.names []) (bindC (envOfC qual scope s.heap.objs.size f cd).kindOf (ps.zip us) λ_=>Zy) s1):
  Fr (lF X.toBs N qual scope f cd X.A X.stack X.fs s.heap.objs.size) (ws.map Zz++RE (N.length-ps.length) Zy) cm m s1:=by
 have hpl:ps.length<=N.length:=by have:=congrArg Vz S.pre;rw[Sm]at this;omega
 obtain⟨h1,tk,rfl,hk⟩:=x.done;have gone:∀b,s.heap.objs.size<=b->s.heap.get? b=Zy:=λb hb=>Rk hb
 have nb:∀b,s.heap.get? b=Zy->X.base.get? b=Zy:=λb hb=>by
  cases q:X.base.get? b with
  |none=>rfl
  |some o=>rw[I.bs _ _ q]at hb;cases hb
 have nn:∀b∈s.heap.objs.size::X.fs,b∈X.fs∨s.heap.get? b=Zy:=λb hb=>(R6.mp hb).elim (λz=>.inr (gone b (by rw[z];exact RO _))) .inl
 obtain⟨oN,_,_,eN,dN,_⟩:=id x.toInCall.ns;refine⟨⟨I.mod,S.kind,rfl,rfl,λy z c h1 h2=>?_,λy hy=>?_,λ_=>hd,Uv I.frames,λe he=>?_,R9,λy c h=>nb c (gone c (Sb (x.above y c (Sf h)))),I.tab,I.iz,I.rW⟩,
  I.mem.fr (X:=X) rfl nn hk λT=>I.iz _ _ T λb o _=>hk b o,I.bare,λb o e=>hk b o (I.bs b o e),⟨_,x.toInCall.ns,λi y w h1 h2 h3=>?_⟩,λy c h=>⟨_,x.cell y c h⟩,λb hb=>?_,?_⟩
 ·exact name_of_addr x.apart (Sf h1) (Sf h2)
 ·have hy:scope.names.lookup y=Zz .cell∨scope.names.lookup y=Zz .free:=hy
  rcases hy with hy|hy
  ·exact vC hy
  ·exact Ys rfl (S.HQ _ (Sf hy))
 ·rcases R6.mp he with rfl|he
  ·exact⟨by rw[show(envOfC qual scope s.heap.objs.size f cd).scope.kind=scope.kind from rfl,S.kind];decide,_,R9,rfl⟩
  ·exact(I.pL e he).imp id λ⟨L,h1,h2⟩=>⟨L,R4 _ h1,h2⟩
 ·have hw:=r.1
  have hi:i<ws.length:=by
   by_cases hi:i<ws.length
   ·exact hi
   ·rw[RV (by simpa using hi),Ti]at h2
    split at h2<;>cases h2
  rw[RQ (by simpa using hi),RR]at h2;obtain⟨w',ew,e⟩:=RL.mp h2;cases e;obtain⟨u,hu,rv⟩:=r.get ew;have hp:ps[i]?=Zz y:=by
   rw[<-S.pre,List.getElem?_take_of_lt (by omega)];exact h1
  have ndP:ps.Nodup:=by rw[<-S.pre];exact S.nd.sublist (List.take_sublist _ _)
  refine⟨u,rv.fr nn hk,?_⟩;rcases S.HI y (Rj hp)with k|k
  ·exact .inl ⟨k,tq ndP hp hu k⟩
  ·obtain⟨c,e⟩:=vC (n:=s.heap.objs.size+1) k
   refine .inr ⟨.inl k,c,e,?_⟩;have q:=x.cell y c e;rw[tC ndP hp hu (by show scope.names.lookup y≠_;rw[k];decide)]at q;exact q
 ·rcases R6.mp hb with rfl|hb
  ·exact⟨nb _ (gone _ (RO _)),oN,eN,(λv z=>by rw[dN]at z;cases z),λ_ x n z=>by rw[dN]at z;cases z⟩
  ·obtain⟨g,o,e,n⟩:=I.bF b hb
   refine⟨g,o,hk _ _ e,n.1,λz=>n.2 ?_⟩;obtain⟨en,z1,z2⟩:=Ta.mp z;rcases R6.mp z1 with rfl|z1
   ·cases z2
    exact Ys (Re e) (S7 _)
   ·exact Ta.mpr ⟨en,z1,z2⟩
 ·show _=N.length
  rw[RD,R2,Rx,r.1];omega
theorem vi(F:AH B.K x qual st f fd)(S:ac N ps (aa st))(r:fns[fi]?=Zz ⟨np,n,body,cell⟩)(hnp:np=ps.length)(hn:N.length=n)(hb:∀cd:R3,codeIn B.K cd qual=true->∀(A:SF) (sk:List SZ) (fs:List RB) (z:Nat),bI (k+1) A->fW (az fns gv k) gv (lF B N qual (aa st) f cd A sk fs z) (aR st) body):
  (∀ws m,az fns gv (k+1) fi ws m=.stuck∨ws.length=ps.length)/\xD B (az fns gv (k+1) fi) (k+1) f fd ps:=by
 subst hn hnp;refine⟨λws m=>?_,?_⟩
 ·rw[az,r]
  dsimp only;by_cases h:ws.length=ps.length
  ·exact .inr h
  ·exact .inl (Yo h)
 rintro X rfl hr cm m s I args us ws he hbd hl rv Q J hp;obtain⟨oc,od,kV,doc,pm,an,cdv,ct,osl,rfl,lk,hcd⟩:=F.ex;rw[az,r]at hp he;dsimp only at hp;dsimp only at he;obtain⟨hq,hp⟩:=im hp;rw[Yn hq]at he;have lim:s.heap.NoLimit:=I.mod.nolimit.keeps I.bs;have gO:X.K.In s.heap:=I.mod.gO.keeps I.bs;have hkind:∀y∈ps.zip us,(aa st).names.lookup y.1=Zz .local∨((aa st).names.lookup y.1=Zz .cell/\((V2 (s.heap.objs.size+1) (aa st).names []).lookup y.1).isSome=true):=λ⟨n,v⟩ hy=>by
  rcases S.HI n (Uh hy).1 with q|q
  ·exact .inl q
  ·exact .inr ⟨q,WR _ _ _ (.inl q)⟩
 refine codeAny_call_function hr.depth (gO _ _ lk) rfl S.co S.gen rfl (PySem.W.codeRec_of gO hcd) (hbd _ _ _ _ ?_)
 refine wpAny_newFunctionEnv_cells S.kind hkind λenv1 he s1 x=>?_
 subst he;refine⟨lim.keeps x.toInCall.keep,codeAny_func ?_⟩;have I1:=wG S hr.hd I hl rv x;obtain⟨h1,tk,rfl,hk⟩:=x.done;have gone:∀b,s.heap.objs.size<=b->s.heap.get? b=Zy:=λb hb=>Rk hb
 have up:∀{c m2 t},aH (s.heap.objs.size::X.fs) (s.heap.objs.size::X.gs) (lF X.toBs N qual (aa st) f cdv X.A X.stack X.fs s.heap.objs.size).own cm m { s with heap:=h1,toks:=tk } c m2 t->aH (s.heap.objs.size::X.fs) (s.heap.objs.size::X.gs) X.tb cm m s c m2 t:=λx=>((aH.kept (d:=s.drawn) hk).trans x).weak λb hb n=>by
  have hb:b=s.heap.objs.size∨b∈X.tb∨s.heap.objs.size<b:=by
   rcases R6.mp hb with z|hb
   ·exact .inl z
   ·rcases SM.mp hb with hb|hb
    ·exact .inr (.inl hb)
    ·obtain⟨y,_,h2⟩:=kW.mp hb
     exact .inr (.inr ((‹InCallC _ _ _ _ _ _›).above y b (Sf h2)))
  rcases hb with z|z|z
  ·exact gone b (by rw[z];exact RO _)
  ·exact Ys z n
  ·exact gone b (Sb z)
 have nn:∀l:List RB,∀b∈s.heap.objs.size::l,b∈l∨s.heap.get? b=Zy:=λ_ b hb=>(R6.mp hb).elim (λz=>.inr (gone b (by rw[z];exact RO _))) .inl
 have dn:∀{c m2 t},av (lF X.toBs N qual (aa st) f cdv X.A X.stack X.fs s.heap.objs.size) c m2 t->av X c m2 t:=λM=>M.fr (X:=lF X.toBs N qual (aa st) f cdv X.A X.stack X.fs s.heap.objs.size) rfl (λb h=>.inl (R4 _ h)) (λ_ _ e=>e) id
 refine hb cdv hcd X.A X.stack X.fs s.heap.objs.size hr _ _ _ _ I1 _ _ PassesOwn.leaving ?_;cases eb:ex (az fns gv k) gv body (ws.map Zz++RE (N.length-ps.length) Zy) m with
 |stuck=>rw[eb]at hp;exact hp.elim
 |ok fl m2 =>
  rw[eb]at hp;intro c t xY MY;have fin:=HG I.mem ((up xY).fr (nn _) (nn _)) (dn MY) hp;cases fl with
  |next env'=>exact λ_=>fin
  |brk _=>exact λ_=>fin.elim
  |cont _=>exact λ_=>fin.elim
  |ret w=>exact λ_ _ v r=>fin v (RW.fr (f':=X.fs) (λb h=>.inl (R4 _ h)) (λ_ _ e=>e) r)
 |exc y m2 =>
  rw[eb]at hp;rintro v c t xY MY ⟨_,e,dx,rfl,h1,h2,h3⟩;unfold leaving;refine R0 (land (X:=lF X.toBs N qual (aa st) f cdv X.A X.stack X.fs s.heap.objs.size) MY h2 h3 I1.ok (Uv I.frames) rfl (I1.Lc xY.thr) rfl λh' Ld=>?_);have ne:s.heap.get? e=Zy:=by
   cases q:s.heap.get? e with
   |none=>rfl
   |some o=>rw[hk _ _ q]at h1;cases h1
  have xt:=((up xY).mK Ld.ext (λb hb=>by rw[RH.mp hb];exact ne) λb o _ q=>Ld.thr b o q).fr (nn _) (nn _);rcases he with⟨env,If⟩|⟨_,_,he⟩
  rotate_left
  ·rw[eb]at he;cases he
  exact hp (.ref e) c _ xt (dn Ld.mem) ⟨⟨_,If.go xt.toExtK (dn Ld.mem) If.nc⟩,e,dx,rfl,ne,Ld.xp,Ld.xf.fr (f':=X.fs) (λb h=>.inl (R4 _ h)) λ_ _ e=>e⟩
end
end Mi
namespace Mi
open PySem PySem.Spec PyProof.Rows PySem.W PySem.Builtin.ObjectAttr
theorem xN{A:SF}{C:RB}{us:List R3}{kw:List (Str×R3)}:(A.under (.builtin "type.__call__" ⟨.ref C::us,kw⟩)).depth=A.depth+1:=by
 first|rfl|simp[Around.under,Code.weight,Code.isCreation,Code.isGuard,Code.isCaller,Code.frames,Code.isFrame,guardIds]
noncomputable def GP:List R3->Bool
 |.ref _::r=>GP r
 |l=>l==[.type "ValueError",.type "Exception",.type "BaseException",.type "object"]
noncomputable def J8(K:To)(C:RB):Bool:=(clsIn K C).any λcd=>GP cd.mro
structure K2 (K:To) (C:RB) (f:Str):Prop where
 sa:findIn K (.ref C) "__setattr__" = Zz (Zz (.builtin "object.__setattr__"))
 ov:J8 K C=true
 na:findIn K (.ref C) f=Zz Zy
 hd:Ww K C=true
noncomputable def IB:List R3:=[.type "ValueError",.type "Exception",.type "BaseException",.type "object"]
noncomputable def AG(K:To)(C:RB):Bool:=match K.lookup C with
 |some ⟨.type "type",_,.cls cd,sl⟩=>(match cd.mro,sl.toList with
  |.ref C'::bm,[_,_,_,_,Zz (.builtin n),_]=>C'==C&&n == "ValueError.__new__" && !cd.hasDel&&tailIn K IB bm
  |_,_=>false)
 |_=>false
theorem IT{K:To}(X:K.In h)(q:AG K C=true):∃f e N i bm hdct d b j c dd k0 k1 k2 k3 k5,h.get? C=Zz (excClassObj f e C N i bm hdct d b j c dd k0 k1 k2 k3 k5 "ValueError.__new__")/\OwnTail h IB bm:=by
 unfold AG at q;split at q
 ·rename_i dd cd sl ho
  split at q
  ·rename_i C' bm k0 k1 k2 k3 n k5 hm hs
   simp only[RJ,beq_iff_eq,Vb]at q;obtain⟨⟨⟨rfl,rfl⟩,a⟩,o⟩:=q;obtain⟨f,i,m,k,e,p,d,b,j,c,r⟩:=cd;dsimp only at hm a;subst hm a;have g:sl=#[k0,k1,k2,k3,Zz (.builtin "ValueError.__new__"),k5]:=by
    obtain⟨l⟩:=sl;simp only at hs;rw[hs]
   subst g;exact⟨f,e,k,i,bm,p,d,b,j,c,dd,k0,k1,k2,k3,k5,X _ _ ho,tail_of_in X o⟩
  ·cases q
 ·cases q
theorem ER{E:R3->RA->Prop}{K:To}(m:AG K C=true)(o:A.handled=Zy)(h:RF M A x (λv a=>∃e c f,v=.ref e/\K.In a.heap/\a.heap.get? e=Zz c/\c.cls=.ref C/\c.data=.fields f/\f[1]?=Zz .none/\E (.ref e) a) E s):RF M A (raiseStmt env (Zz x) Zy) Q E s:=by
 unfold raiseStmt;refine R0 (Sv h (λv a i=>?_) λ_ _ z=>z);obtain⟨e,c,f,rfl,X,j,b,p,i,r⟩:=i;obtain⟨F,B,N,R,u,k,y,n,S,t,P,L,J,I,H,G,l,T⟩:=IT X m;have q:(TR C::u).contains (.type "BaseException")=true:=by rw[List.contains_cons,T.hasType (show IB.contains (.type "BaseException")=true by decide),Xs]
 obtain⟨O,g,d,w,D⟩:=a
 repeat (first|(with_reducible refine wpAny_loadPart_at j ?_;rw[b])|with_reducible refine wpAny_loadPart_at l ?_|(with_reducible refine wpAny_isSubtype_exc l ?_;rw[q])|with_reducible refine SV j p i ?_|wp_step)
 exact wpAny_raiseNew_none o r
structure Lp (K:To) (C:RB) (nm:Str):Prop where
 xc:AG K C=true
 kp:keepIn K (.ref C)=true
 xs:K2 K C nm
 fn:∃f fd x qual st a b p1 p2 p3 p4,findIn K (.ref C) "__init__" = Zz (Zz (.ref f))/\typeIn K (.ref f)=Zz (.type "function")/\AH K x qual st f fd/\ac [a,b] [a,b] (aa st)/\aR st=[.Assign [.Attribute (.Name a p1) nm p2] (.Name b p3) p4] /\
  Binds K fd [a,b] []/\(a==("__debug__" : Str))=false/\(b==("__debug__" : Str))=false/\(a==("__classdict__" : Str))=false/\(b==("__classdict__" : Str))=false
theorem DM{E:R3->RA->Prop}{e T:RB}(g:s.heap.get? e=Zz oe)(f:oe.data=.fields vs)(h:vs[1]?=Zz (.ref T))(c:s.heap.get? T=Zz oT)(d:oT.data=.fields ts)(a:ts[3]?=Zz .none)(k:Q () s):RF M A (WH (.ref e) Zy) Q E s:=by
 unfold WH;refine R0 (SV g f h ?_);rw[Yn (by simp)];refine Sk c d (TN.mp a).1 ?_;show Q () { s with heap:=s.heap.update T (UI (·.setIfInBounds 3 .none)) };rw[Heap.update_setField_same s.heap T oT ts 3 .none c d a];exact k
section
variable{X Y:Cx}{B:Bs}{env env':Mi.Env}{cm cm' cm0 c:List RB}{m m' m0 m1 m2:Mem}{s s' s0 s1 t:RA}{w:W}{v u:R3}{ch:List RB}{J Q:VK}{h h':Rm}{l ts out:List T}{vs us:List R3}{ws:List W}{C D f e:RB}{n k fi np:Nat}{i:Option Nat}{tk:Nat}{o o':Obj}{fs:List RB}{tt:T}
variable{fns:List Fn}{gv:List T}{call':Nat->List W->Mem->Res W}{ee:S4}{es:List S4}{L:Es}{x y qual nm a b:Str}{p pos p1 p2 p3 p4 yp hpos cpos:Pos}{scope:UR}{N ps:List Str}{cd:R3}{st:S5}{fd:TX}{body rest hb:List S5}{sb sh kk:Mi.S}{ea:Mi.E}{cell:Bool}{A:SF}{b0:S5}{nmo:Option Str}{yes:List Nat}
noncomputable abbrev Hb(X:Cx)(A:SF):Cx:={ X with A:=A,calm:=false }
def GH(X:Cx)(i:Option Nat)(nmo:Option Str):Prop:=match i,nmo with
 |none,Zy=>True
 |some j,Zz x=>X.N[j]?=Zz x/\X.env.scope.names.lookup x=Zz .local
 |_,_=>False
theorem Fr.hnd(I:Fr X env cm m s)(h:A.frames=X.A.frames):Fr (Hb X A) env cm m s:=
 ⟨{ I.ok with hd:=(λz=>nomatch z),frames:=h.trans I.ok.frames },⟨I.mem.len,I.mem.inj,I.mem.at',I.mem.tab⟩,I.bare,I.bs,I.loc,I.cell,I.bF,I.len⟩
theorem Fr.Lq(ok:X.Ok)(I:Fr (Hb X A) env cm m s):Fr X env cm m s:=⟨ok,⟨I.mem.len,I.mem.inj,I.mem.at',I.mem.tab⟩,I.bare,I.bs,I.loc,I.cell,I.bF,I.len⟩
theorem Fr.LD{k:List Str}{dx:Option RB}(I:Fr X env cm m s)(L:Ll X cm m s e C dx k l h)(hx:XP s.heap e C dx)(nb:X.base.get? e=Zy):Fr X (RE env.length Zy) cm m { s with heap:=h }:=
 I.Li (f:=X.fs) I.ok (λ_ h=>.inl h) (λ_ h n=>Ys h n) L.ext L.mem (λb hb=>by
  obtain⟨oe,vs,_,e1,e2,_,e4,_⟩:=hx;obtain rfl:=RH.mp hb;exact⟨nb,λo e=>by rw[e1]at e;cases e;exact⟨_,e4⟩⟩) (λi w e=>by
  rw[Ti]at e;split at e<;>cases e) (Rx)
theorem Ea(hN:X.N.Nodup)(hi:GH X i nmo)(hg:Gl X y)(hm:X.mg y=Zz (.ref D))(hy:∀c∈yes,exmOne X.K (.ref c) (.ref D)=Zz true)(hb':fW call' gv X body sb)(hh:∀A,A.units=X.A.units->fW call' gv (Hb X A) (b0::hb) sh)(hk:fW call' gv X rest kk)(hdb:(y==("__debug__" : Str))=false:=by decide)(hst:X.stack=X.env::X.stack.tail:=by rfl)(hfr:X.env.frame=Zz X.env.locals:=by rfl):
  fW call' gv X (.Try body [.ExceptHandler (Zz (.Name y yp)) nmo (b0::hb) hpos] [] [] pos::rest) (.tri sb yes i sh kk):=λenv cm m s I R J j hp=>by
 refine S6 (wpAny_Try_except ?_);rw[Ck]at hp;have keep:∀{fl:Mi.Flow}{c m1 t},ak X X.own c m1 t (match fl with|.next env=>ex call' gv kk env m1|fl=>.ok fl m1) J (FQ X R)->av X c m1 t.heap->FQ X (λf s1=>match f with
   |.next=>RF X.M X.A (execs [] X.env) (λf s'=>match f with|.next=>RF X.M X.A (execs rest X.env) R J s'|f=>R f s') J s1
   |f=>match f with|.next=>RF X.M X.A (execs rest X.env) R J s1|f=>R f s1) fl c m1 t:=λ{fl c m1 t} o M=>by
  cases fl with
  |next env'=>exact λI'=>VD (hk _ _ _ _ I' R J j o)
  |ret w=>exact λe I v r=>o.now M e I v r
  |brk e=>exact λI=>o.now M I
  |cont e=>exact λI=>o.now M I
 refine hb' _ _ _ _ I _ _ PassesOwn.looking ?_;cases r:ex call' gv sb env m with
 |stuck=>rw[r]at hp;exact hp.elim
 |ok fl m1=>rw[r]at hp;exact λc t x M=>keep (hp.shift x) M
 |exc x m1 =>
  rw[r]at hp;dsimp only at hp;by_cases hx:x.cls∈yes
  rotate_left
  ·rw[Yo hx]at hp;exact hp.elim
  rw[Yn hx]at hp;rintro v c t xt M ⟨⟨env',I'⟩,e,dx,rfl,ne,xp,xf⟩;have nbe:X.base.get? e=Zy:=by
   cases q:X.base.get? e with
   |none=>rfl
   |some o=>rw[I.bs _ _ q]at ne;cases ne
  refine land M xp xf I'.ok (by rw[<-hst];exact I'.ok.frames) hst (I.Lc xt.thr) hfr λh2 Ld=>?_
  have J0:=I'.LD Ld xp nbe;have x2:aH X.fs X.gs X.own cm m s c m1 { t with heap:=h2 }:=xt.mK Ld.ext (λb hb=>by rw[RH.mp hb];exact ne) λb o _ q=>Ld.thr b o q
  obtain⟨oe,vs,uu,y1,y2,y3,y4,y5,y6⟩:=id Ld.xp;have hl:env'.length=env.length:=I'.len.trans I.len.symm;refine wpAny_handleBy_cons (codeAny_handlers_test (ln (J0.hnd (A:=X.A.mark (Zz (.ref e))) rfl) hg hm ?_ hdb)) (by intro q;cases q);have LT:Looks (Rp X.prog X.w) h2 (typeOf (.ref e)) oe.cls:=(Looks.ld y1).andThen .now;rw[y2]at LT;refine(exm_one J0.gO LT (hy _ hx)).here ?_;rw[Yn rfl];have go:∀s2,Fr X (Fj env.length i x) c m1 s2->aH X.fs X.gs X.own cm m s c m1 s2->∀Q2:WQ->RA->Prop,
    (∀fl c3 m3 s3,aH X.fs X.gs X.own cm m s c3 m3 s3->av X c3 m3 s3.heap->ak X X.own cm m s (match fl with|.next env=>ex call' gv kk (K8 i env) m3|.ret w=>.ok (.ret w) m3|_=>.stuck) J (FQ X R)->FQ X Q2 fl c3 m3 s3) ->
    RF X.M (X.A.mark (Zz (.ref e))) (execs (b0::hb) X.env) Q2 (λ_ _=>False) s2:=λs2 I4 x4 Q2 q=>by
   refine hh (X.A.mark (Zz (.ref e))) rfl _ _ _ _ (I4.hnd rfl) _ _ PassesOwn.never ?_;cases r2:ex call' gv sh (Fj env.length i x) m1 with
   |stuck=>rw[r2]at hp;exact hp.elim
   |exc x3 m3=>rw[r2]at hp;exact hp.elim
   |ok fl m3 =>
    rw[r2]at hp;intro c3 s3 x3 M3;have M3:av X c3 m3 s3.heap:=⟨M3.len,M3.inj,M3.at',M3.tab⟩
    have q:=q fl c3 m3 s3 (x4.trans x3) M3 hp;cases fl with
    |next env3=>exact λI5=>q (I5.Lq I4.ok)
    |ret w=>exact λe I5=>q e (I5.Lq I4.ok)
    |brk e=>exact hp.elim
    |cont e=>exact hp.elim
  have flt:∀{A:SF}{Q:Unit->RA->Prop}{E:VK},Q () { t with heap:=h2 }->RF X.M A (WH (.ref e) Zy) Q E { t with heap:=h2 }:=λq=>by
   rcases y6 with rfl|⟨T,p,ts,rfl,z1,z2,z3,z4,z5⟩
   ·unfold WH
    refine R0 (SV y1 y4 y5 ?_);rw[Yo (by decide)];exact R5 q
   ·exact DM y1 y4 y5 z2 z4 z5 q
  unfold GH at hi;split at hi
  ·refine codeAny_handlers_suite (flt (Sv (go _ (by rw[hl]at J0;exact J0) x2 _ λfl c3 m3 s3 x3 M3 o=>?_) (λ_ _ z=>z) λ_ _ z=>z.elim))
   cases fl with
   |next env3=>exact λI5=>hk _ _ _ _ I5 R J j (o.shift x3)
   |ret w=>exact λe I v r=>o.to x3 M3 e I v r
   |brk e=>exact o.elim
   |cont e=>exact o.elim
  ·rename_i jj xn
   obtain⟨hj,hloc⟩:=hi;refine codeAny_handlers_suite_as (flt (store (X:=X) J0 hN hj (.inl hloc) (w:=.x x.cls x.nms x.Hw) (v:=.ref e) ⟨e,dx,rfl,Ld.xp,Ld.xf⟩ λs4 x4 I4=>Sv (go s4 (by rw[hl]at I4;exact I4) (x2.trans x4) _ λfl c3 m3 s3 x3 M3 o=>?_) (λ_ _ z=>z) λ_ _ z=>z.elim));cases fl with
   |next env3=>exact λI5=>td I5 hN hj hloc λs5 x5 I6=>hk _ _ _ _ I6 R J j (o.shift (x3.trans x5))
   |ret w=>exact λe5 I5 v r=>td I5 hN hj hloc λs5 x5 I6=>o.to (x3.trans x5) I6.mem _ I6 v (r.go x5.toExtK I5.mem I5.nq)
   |brk e=>exact o.elim
   |cont e=>exact o.elim
  ·exact hi.elim
end
end Mi
namespace Mi
open PySem PySem.Spec PyProof.Rows
section
variable{X:Cx}{env:Mi.Env}{cm:List RB}{m:Mem}{s:RA}{J Q:VK}{α:Type}{k:α->List RB->Mem->RA->Prop}{z:Bool}
variable{call:Nat->List W->Mem->Res W}{gv:List T}{a b e:S4}{es ts:List S4}{E:Mi.E}{L:Es}{pos p tp:Pos}
theorem PA.KM{f:List W->Mem->Res α}{Q:List R3->RA->Prop}(h:PA call gv X es L)(I:Fr X env cm m s)(hp:ak X X.own cm m s ((evs call gv L env m).bind f) J k)(q:∀w v cm1 m1 s1,evs call gv L env m=.ok w m1->Fr X env cm1 m1 s1->aH X.fs X.gs X.tb cm m s cm1 m1 s1->sr X.D cm1 m1 s1.heap w v->ak X X.own cm1 m1 s1 (f w m1) J k->Q v s1):RF X.M X.A (YU (backTo p (Tx es X.env))) Q J s:=by
 refine h p env cm m s I Q J ?_;cases e:evs call gv L env m with
 |stuck=>rw[e]at hp;exact hp
 |exc x m' =>
  rw[e]at hp;exact λv c t x M=>hp v c t (x.sub aX) M
 |ok w m' =>
  rw[e]at hp;exact λc t x M v r=>q w v c m' t e (I.go x M I.nc) x r (ak.shift (r:=f w m') hp (x.sub aX))
theorem PE.tree(h:PE call gv X e E):PE call gv X e (.tr E):=λenv cm m s I Q J hp=>by
 rw[C8]at hp;exact h.one I hp λw v c1 m1 s1 I1 x1 r o=>by
  cases w with
  |t x=>exact o.now I1.mem v r
  |c i=>exact o.elim
  |x _ _ _=>exact o.elim
  |e _=>exact o.elim
theorem DD{kk}(hg:Gl X "enumerate")(hm:X.mg "enumerate" = Zy)(ha:PA call gv X [a] (.cons (.tr E) .nil))(hs:notStar a=true:=by rfl):PI call gv z X (.Tuple ts kk tp) (.Call (.Name "enumerate" p) [a] [] pos) (.blt .enum (.cons (.tr E) .nil)):=Do (fp1:=λit=>[it,it-1]) (λ_=>.inr ⟨_,_,_,rfl⟩) (λ_ _=>rfl) λenv cm m s I α f k Q J hp q=>by
 rw[fA,a9]at hp;refine Call_ (dy I hg hm (show UE "enumerate" = Zz (.type "enumerate")from by decide +kernel) (Ss (ha.KM I hp λws us c1 m1 s1 ee I1 x1 r o=>?_) (bu hs) rfl));obtain⟨t,e0,o2⟩:=pF o;obtain⟨l,e1,e2⟩:=RP.mp e0;obtain⟨b,rfl,e3⟩:=mR e2;obtain⟨w,rfl,e4⟩:=mL e1;obtain⟨v,rfl,r1⟩:=uh r;have hw:∃t,w=.t t:=by
  rw[jb]at ee;obtain⟨w0,n1,h1,h2⟩:=ap ee;obtain⟨ws',n2,h3,h4⟩:=ap h2;cases h4;rw[C8]at h1;obtain⟨w1,n3,h5,h6⟩:=ap h1;cases w1 with
  |t t=>cases h6;exact⟨t,rfl⟩
  |c i=>cases h6
  |x _ _ _=>cases h6
  |e _=>cases h6
 obtain⟨t0,rfl⟩:=hw;cases e4;cases b with
 |lst l =>
  obtain⟨hc,e5⟩:=RI.mp (show(if l.length<=lim then Zz (T.lst (kK l))else Zy)=Zz t from e3);cases e5;cases r1 with
  |lst p1 n1 q1 q2 =>
   refine call_enumerate_list p1.pl.isList λg hE hI hsz hk=>We hE ?_
   have u:=λch=>I1.up (g:=g) (t:=s1.toks) (d:=s1.drawn) (ch:=ch) hk
   refine q _ _ c1 m1 m1 s1 _ _ x1 I1 rfl o2 (λch=>(u ch).1) (u []).2 (.BA (Wy _) hE hI ((SrcL.own n1 p1 ⟨q1,q2⟩).go (u []).1.toExtK (λ_ _ h=>h) I1.mem Nq.nil) rfl) λb hb=>?_
   refine Rk ?_;rcases R6.mp hb with rfl|hb
   ·exact Tf _
   ·rw[RH.mp hb];exact RO _
 |_=>cases e3
end
noncomputable def inBody(s:S5)(i:Nat):S5:=match s with
 |.ClassDef _ _ _ b _ _ _ _ _ _ _=>b.getD i (.Pass ⟨0,0,0,0⟩)
 |s=>s
structure Bd (call:Nat->List W->Mem->Res W) (gv:List T) (X:Cx) (st:List S5) (S:Mi.S):Prop where
 h:fW call gv X st S
section
variable{K:To}{B:Bs}{fns:List Fn}{gv:List T}{x qual:Str}{st:S5}{f a:RB}{fd:TX}{N ps:List Str}{fi np n k:Nat}{body:Mi.S}{cell:Bool}{y:Str}{t:Tok}{cs:List Nat}{i:Int}{its:Array R3}{nn:Nat}{sl:Array (Option R3)}{us:List R3}{ts:List T}{u:R3}{tt:T}{css:List (List Nat)}
theorem HL(F:AH B.K x qual st f fd)(m:B.mg x=Zz (.ref f))(b:Binds B.K fd ps [])(S:ac N ps (aa st))(r:fns[fi]?=Zz ⟨np,n,body,cell⟩)(hnp:np=ps.length)(hn:N.length=n)(hb:∀(cd:R3) (A:SF) (sk:List SZ) (fs:List RB) (z:Nat),bI k (A.deeper (envOfC qual (aa st) z f cd))->Bd (az fns gv k) gv (lF B N qual (aa st) f cd A sk fs z) (aR st) body):df B fns gv (k+1) x fi:=
 let q:=vi F S r hnp hn λcd _ A sk fs z h=>(hb cd A sk fs z (h.deeper _)).h
 ⟨f,fd,ps,m,F.kp,b,q.1,q.2⟩
theorem Gg(F:AH B.K x qual st f fd)(m:B.mg x=Zz (.ref f))(b:Binds B.K fd ps [])(S:ac N ps (aa st))(r:fns[fi]?=Zz ⟨np,n,body,cell⟩)(hnp:np=ps.length)(hn:N.length=n)(hb:∀cd:R3,codeIn B.K cd qual=true->∀(A:SF) (sk:List SZ) (fs:List RB) (z:Nat),bI (k+1) A->Bd (az fns gv k) gv (lF B N qual (aa st) f cd A sk fs z) (aR st) body):df B fns gv (k+1) x fi:=
 let q:=vi F S r hnp hn λcd hcd A sk fs z h=>(hb cd hcd A sk fs z h).h
 ⟨f,fd,ps,m,F.kp,b,q.1,q.2⟩
theorem E3(F:AH B.K x qual st f fd)(m:B.mg x=Zz (.ref f))(b:Binds B.K fd ps []):df B fns gv 0 x fi:=⟨f,fd,ps,m,F.kp,b,λ_ _=>.inl rfl,λX _ _ cm m s _ _ _ _ _ _ _ _ Q J h=>by rw[az]at h;exact h.elim⟩
theorem D1(h:y.cps.toList=cs):VT K (.str y t) (.str cs):=λX _ cm m hh _ _ _=>by
 obtain⟨⟨v⟩⟩:=y;dsimp at h;subst h;exact .str _ _
theorem IN:VT K (.int i t) (.int i):=λ_ _ _ _ _ _ _ _=>.int _ _
theorem GF.nil:GF K [] []:=λ_ _ _ _ _ _ _ _=>.nil
theorem GF.cons(a:VT K u tt)(b:GF K us ts):GF K (u::us) (tt::ts):=λX e cm m h M k n=>.cons (a X e cm m h M k n) (b X e cm m h M k n)
theorem IL(l:K.lookup a=Zz ⟨.type "tuple",Zy,.seq its nn,sl⟩)(hz:its.size<=Rq)(hs:GF K its.toList ts):VT K (.ref a) (.tup ts):=λX e cm m h M k n =>
 let q:=hs X e cm m h M k n
 .tup ⟨_,nn,k _ _ l,rfl,rfl,rfl,hz⟩ (λhb=>by rw[n a hb]at l;cases l) q.1 q.2
theorem C1(h:B.mg x=Zz (.str y t))(e:y.cps.toList=cs):a8 B x (.str cs):=⟨_,h,D1 e⟩
theorem bg(h:B.mg x=Zz (.int i t)):a8 B x (.int i):=⟨_,h,IN⟩
inductive mH:List (List Nat)->List R3->Prop where
 |nil:mH [] []
 |cons {y:Str}{t:Tok}{cs:List Nat}{r:List (List Nat)}{us:List R3}:y.cps.toList=cs->mH r us->mH (cs::r) (.str y t::us)
theorem mH.Lm:∀{l:List (List Nat)}{us:List R3},mH l us->GF K us (l.map .str)
 |_,_,.nil=>.nil
 |_,_,.cons h r=>.cons (D1 h) r.Lm
theorem mY{b:List (List Nat)}(h:B.mg x=Zz (.ref a))(l:B.K.lookup a=Zz ⟨.type "tuple",Zy,.seq its nn,sl⟩)(hz:its.size<=Rq)(g:mH b its.toList):a8 B x (.tup (b.map .str)):=⟨_,h,IL l hz g.Lm⟩
end
open L2 in
inductive IC (w:SS):List (List Nat)->List R3->List DictEntry->Prop where
 |nil:IC w [] [] []
 |cons {y:Str}{t:Tok}{cs:List Nat}{h:Int}{u:R3}{css:List (List Nat)}{us:List R3}{es:List DictEntry}:y.cps.toList=cs->h=hashStr w y->IC w css us es->IC w (cs::css) (u::us) (⟨h,.str y t,u⟩::es)
theorem zn{vs:List R3}{ns:List Int}(h:TB vs ns):Al (λn v=>∃t,v=.int n t) ns vs:=by
 induction h with
 |nil=>exact .nil
 |cons n t _ ih=>exact .cons ⟨t,rfl⟩ ih
structure FI (K:To) (C:RB):Prop where
 pg:Xt K C Str.empty=true
 hd:Ww K C=true
 po:YO K C=true
 sa:findIn K (.ref C) "__setattr__" = Zz (Zz (.builtin "object.__setattr__"))
def cP(K:To)(C:RB)(f:Str):Prop:=findIn K (.ref C) f=Zz Zy
theorem cP.taker{K:To}{C:RB}{f:Str}(n:cP K C f):takerIn K C f=Zz Zy:=by
 unfold takerIn;rw[show findIn K (.ref C) f=Zz Zy from n];rfl
theorem FI.get{K:To}{C:RB}(c:FI K C)(f:Str):Xt K C f=true:=c.pg
structure Meth (K:To) (C:RB) (m:Str) (f:RB):Prop where
 at_:findIn K (.ref C) m=Zz (Zz (.ref f))
 fn:isFn K (.ref f)=true
 kp:keepIn K (.ref f)=true
structure Mk (K:To) (C f:RB):Prop where
 makes:makesIn K C=true
 init:findIn K (.ref C) "__init__" = Zz (Zz (.ref f))
 fn:isFn K (.ref f)=true
 kp:keepIn K (.ref C)=true
section
variable{prog:Ry}{w:SS}{A:SF}{E:R3->RA->Prop}{s:RA}{K:To}{x dx C f:RB}{mA:Str->Option R3}{name:Str}{v:R3}
theorem E9{expr:Bool}{Q:R3->RA->Prop}(X:K.In s.heap)(I:er s.heap x dx C mA)(hg:Xt K C name=true)(hh:Ww K C=true)(ha:findIn K (.ref C) name=Zz Zy)(hv:mA name=Zz v)(hv':PySem.W.handedIn v=true)(h:Q v { s with toks:=s.toks+1 }):
  RF (Rp prog w) A (getAttr (.ref x) name expr) Q E s:=by
 obtain⟨od,J,hl⟩:=I.look;exact PySem.W.get_value X J (Y3 hg).1 (PySem.W.findObj_own hh ha rfl (by rw[hl,hv])) hv' h
theorem vt{pl:Sem Bool}{Q:R3×List R3->RA->Prop}(X:K.In s.heap)(I:er s.heap x dx C mA)(hg:Xt K C name=true)(hf:findIn K (.ref C) name=Zz (Zz (.ref f)))(ht:isFn K (.ref f)=true)(hv:mA name=Zy)(h:Q (.ref f,[.ref x]) s):
  RF (Rp prog w) A (YQ (.ref x) name pl) Q E s:=by
 obtain⟨od,J,hl⟩:=I.look;exact PySem.W.method_fn X J (Y3 hg).1 (Y3 hg).2 hf (beq_iff_eq.mp ht) (by show(lookIn name od).map (·.isSome)=Zz false;rw[hl,hv];rfl) h
theorem zK{ns:List Str}{Q:Unit->RA->Prop}(X:K.In s.heap)(I:er s.heap x dx C mA)(hs:findIn K (.ref C) "__setattr__" = Zz (Zz (.builtin "object.__setattr__")))(hp:YO K C=true)(ht:takerIn K C name=Zz Zy)(hh:Ww K C=true)(hw:UW mA ns)(hsz:ns.length<=Rq)(h:∀h',er h' x dx C (λy=>if y=name then Zz v else mA y)->Tp dx s.heap h'->Q () { s with heap:=h',toks:=s.toks+2 }):
  RF (Rp prog w) A (setAttr (.ref x) name v) Q E s:=by
 obtain⟨od,J,hl⟩:=I.look;refine PySem.W.set_plain X J hs (PySem.W.osa_open (s:={ s with toks:=s.toks+1 }) (r:=Zy) X J hp ht λb=>?_);obtain⟨cd,hc,hd'⟩:=PySem.W.any_some hh;have hx:s.heap.get? x=Zz ⟨.ref C,Zz dx,.plain,#[]⟩:=I.obj;refine R0 (R5 (R0 (R0 (wpAny_loadPart hx (R0 (WS (s:={ s with toks:=s.toks+1 }) (PySem.W.looks_clsIn X hc) ?_))))));rw[hd'];refine R5 (a:=Zz dx) (R0 (R5 (R0 ?_)));refine wpAny_nsSet1 (s:={ s with toks:=s.toks+1 }) I.ns λh' hn2 hs2=>?_
 obtain⟨oD,esD,epD,hoD,hdD,hcD⟩:=hn2.count (PySem.Within.cons name v hw);refine R0 (wpAny_lookBehind hoD (by rw[hdD];exact pastItsLine_dict (Rg hcD (by rw[Rr];omega))) ?_);exact R5 (h _ ⟨(hs2.2 _ (Su I.ne)).trans I.obj,hn2,I.ne⟩ hs2)
theorem Cw{R:Result->RA->Prop}{vs:List R3}{kw:List (Str×R3)}(X:K.In s.heap)(hm:makesIn K C=true)(hi:findIn K (.ref C) "__init__" = Zz (Zz (.ref f)))(hf:PySem.W.typeIn K (.ref f)=Zz (.type "function"))(h:UB (Rp prog w) (A.under (.builtin "type.__call__" ⟨.ref C::vs,kw⟩)) (.call (.ref f) ⟨.ref (s.heap.objs.size+1)::vs,kw⟩) (PySem.W.InitBack (s.heap.objs.size+1) R)
   { s with heap:=(s.heap.push VQ).push (Vu C s.heap.objs.size) }):
  UB (Rp prog w) A (.call (.ref C) ⟨vs,kw⟩) R s:=by
 obtain⟨hh,g,d,t,os⟩:=s;exact PySem.W.make_core (PySem.W.makes_of X hm) (PySem.W.looks_findIn X hi) (λself=>PySem.W.bind_fn X self hf) (.inl rfl) h
end
section
variable{X:Cx}{cm:List RB}{m:Mem}{s s':RA}{h:Rm}{ch:List RB}{C i:Nat}{a d:RB}{F F':List (Str×W)}{g:Str->Option R3}{x w:W}{v:R3}
theorem av.KW(M:av X cm m s.heap)(hp:m[i+1]?=Zz (Zz (.o C F)))(hd:m[i]?=Zz (Zz .d))(cd:cm[i]?=Zz d)(ca:cm[i+1]?=Zz a)(ho:∀b o,b≠d->s.heap.get? b=Zz o->s'.heap.get? b=Zz o)(os:s'.os=s.os)(gs:s'.gens=s.gens)(hI:er s'.heap a d C g)(hw:UW g (F'.map (·.1)))(hl:F'.length<=1000)(h6:∀y w,F'.lookup y=Zz w->∃u,g y=Zz u/\RW X.D cm m s.heap w u/\D0 w=true)(h7:∀y,F'.lookup y=Zy->g y=Zy)(hob:∀y j,F'.lookup y=Zz (.c j)->∃z,F.lookup z=Zz (.c j))(ht:X.Tab s'.heap):
  aH X.fs X.gs ch cm m s cm (m.set (i+1) (Zz (.o C F'))) s'/\av X cm (m.set (i+1) (Zz (.o C F'))) s'.heap:=by
 have hi:=(R8.mp hp).1;have live:∀{j:Nat}{r:Cl},(m.set (i+1) (Zz (.o C F')))[j]?=Zz (Zz r)->∃r',m[j]?=Zz (Zz r'):=λ{j r} e=>by
  by_cases hj:j=i+1
  ·exact⟨_,hj▸hp⟩
  ·rw[Rc (Su hj)]at e;exact⟨r,e⟩
 have ex:∀ch,aH X.fs X.gs ch cm m s cm (m.set (i+1) (Zz (.o C F'))) s':=λch=>by
  refine .of (λb o e=>?_) (λj l e=>?_) (.set λC' F0 z=>by cases z;exact⟨F,hp,hob⟩) ⟨os,λh=>by rw[gs];exact h,λ_ _ h=>h,by simp,λb o e _ n=>⟨λj r e'=>(live e').elim λr' z=>n j r' z,o,ho b o (λz=>n i _ hd (z▸cd)) e,.inl rfl⟩⟩
  ·by_cases hb:b=d
   ·subst hb
    obtain⟨f,o1,es,ep,e1,d1,_⟩:=(show sX X.D cm m s.heap i b .d from by obtain⟨b',h1,_,h3⟩:=M.at' i _ hd;rw[cd]at h1;cases h1;exact h3)
    obtain⟨o2,es2,ep2,e2,d2,_⟩:=hI.ns;rw[e]at e1;cases e1;exact⟨o2,e2,λ_ v z=>(by rw[d2]at z;cases z),λ_ x n z=>by rw[d2]at z;cases z⟩
   ·exact⟨o,ho b o hb e,.r⟩
  ·rw[Rc λz=>by rw[<-z,hp]at e;cases e];exact e
 have nc:Nq X.fs [] s.heap:=Nq.nil;refine⟨ex ch,by rw[SI];exact M.len,λj k b r t e1 e2=>?_,λj r e=>?_,ht⟩
 ·obtain⟨r',e1⟩:=live e1
  obtain⟨t',e2⟩:=live e2;exact M.inj j k b r' t' e1 e2
 ·by_cases hj:j=i+1
  ·subst hj
   rw[Ri hi]at e;cases e;obtain⟨h2,h3,_⟩:=M.live hp ca;exact⟨a,ca,⟨h2,h3⟩,i,d,g,rfl,by rw[Rc (by omega)];exact hd,cd,hI,hw,hl,λy w z=>(h6 y w z).imp λu q=>⟨q.1,q.2.1.go (ex []).toExtK M nc,q.2.2⟩,h7⟩
  ·rw[Rc (Su hj)]at e
   obtain⟨b,h1,h2,h3⟩:=M.at' j r e;by_cases hji:j=i
   ·subst hji
    rw[hd]at e;cases e;rw[cd]at h1;cases h1;exact⟨d,cd,h2,_,hI.ns⟩
   ·refine⟨b,h1,h2,h3.to (ho b · (λz=>hji (M.inj j i d r _ e hd (z▸h1) cd))) (λk d' h e c=>⟨k,h,?_,c,(ho d' · λz=>?_)⟩) id λ_ _ _ z=>z.go (ex []).toExtK M nc⟩
    ·rw[Rc λz=>by rw[<-z,hp]at e;cases e];exact e
    ·have:=M.inj k i d _ _ e hd (z▸c) cd
     omega
theorem AY(e:kb C x m=Zz (i,F)):x=.c i/\m[i]?=Zz (Zz (.o C F)):=by
 unfold kb at e;split at e
 ·split at e
  ·split at e
   ·rename_i h _ _ _;subst h;cases e;exact⟨rfl,‹_›⟩
   ·cases e
  ·cases e
 ·cases e
theorem av.obj(M:av X cm m h)(e:m[i]?=Zz (Zz (.o C F))):∃a j d g,cm[i]?=Zz a/\i=j+1/\m[j]?=Zz (Zz .d)/\cm[j]?=Zz d/\er h a d C g/\UW g (F.map (·.1))/\F.length<=1000/\(∀y w,F.lookup y=Zz w->∃u,g y=Zz u/\RW X.D cm m h w u/\D0 w=true)/\∀y,F.lookup y=Zy->g y=Zy:=by
 obtain⟨a,h1,_,j,d,g,h3⟩:=M.at' i _ e;exact⟨a,j,d,g,h1,h3⟩
theorem pX(M:av X cm m h)(e:kb C x m=Zz (i,F))(r:RW X.D cm m h x v):∃a j d g,x=.c i/\v=.ref a/\m[i]?=Zz (Zz (.o C F))/\cm[i]?=Zz a/\i=j+1/\m[j]?=Zz (Zz .d)/\cm[j]?=Zz d/\er h a d C g/\UW g (F.map (·.1))/\F.length<=1000/\(∀y w,F.lookup y=Zz w->∃u,g y=Zz u/\RW X.D cm m h w u/\D0 w=true)/\∀y,F.lookup y=Zy->g y=Zy:=by
 obtain⟨rfl,e2⟩:=AY e;obtain⟨a,j,d,g,h1,h2⟩:=M.obj e2;obtain⟨b,h3,rfl⟩:=r;rw[h1]at h3;cases h3;exact⟨a,j,d,g,rfl,rfl,e2,h1,h2⟩
theorem handed(r:RW X.D cm m h w v)(n:D0 w=true):PySem.W.handedIn v=true:=by
 cases w with
 |t t=>cases r<;>rfl
 |c i=>obtain⟨_,_,rfl⟩:=r;rfl
 |x _ _ _=>cases n
 |e _=>cases n
theorem jH(nm y:Str)(w:W):∀F:List (Str×W),(j8 nm w F).lookup y=if y=nm then Zz w else F.lookup y
 |[]=>by
  by_cases h:y=nm
  ·subst h;simp[j8,TV]
  ·simp[j8,TV,Yr.mpr h,h]
 |(g,x)::r=>by
  unfold j8;by_cases hg:g=nm
  ·subst hg
   rw[Yn rfl];by_cases h:y=g
   ·subst h;simp[TV]
   ·simp[TV,Yr.mpr h,h]
  ·rw[Yo hg]
   by_cases h:y=g
   ·subst h
    rw[Yo hg];simp[TV]
   ·simp only[TV,Yr.mpr h]
    exact jH nm y w r
theorem tF(nm:Str)(w:W):∀F:List (Str×W),nm∈(j8 nm w F).map (·.1)/\(∀y∈F.map (·.1),y∈(j8 nm w F).map (·.1))/\(j8 nm w F).length<=F.length+1
 |[]=>⟨by simp[j8],λ_ h=>(by cases h),by simp[j8]⟩
 |(g,x)::r=>by
  obtain⟨h1,h2,h3⟩:=tF nm w r;unfold j8;by_cases hg:g=nm
  ·rw[Yn hg]
   exact⟨by simp[hg],λy h=>h,by simp⟩
  ·rw[Yo hg]
   refine⟨R4 _ h1,λy h=>?_,by simp;omega⟩;rcases R6.mp h with h|h
   ·rw[h];exact R9
   ·exact R4 _ (h2 y h)
end
inductive oQ (B:Bs) (fns:List Fn) (gv:List T) (k:Nat) (C:Nat) (nm:Str) (fi:Nat):Prop where
 |mk (f fd ps) (_:Meth B.K C nm f) (_:Binds B.K fd ps []) (_:∀ws m,az fns gv k fi ws m=.stuck∨ws.length=ps.length) (_:xD B (az fns gv k fi) k f fd ps)
section
variable{X:Cx}{env:Mi.Env}{cm:List RB}{m:Mem}{s:RA}{J Q:VK}{C k fi:Nat}{nm:Str}
variable{call:Nat->List W->Mem->Res W}{fns:List Fn}{gv:List T}{e o:S4}{es:List S4}{rest:List S5}{E V:Mi.E}{L:Es}{S:Mi.S}{p' apos pos:Pos}
theorem Ff(cl:FI X.K C)(na:cP X.K C nm)(he:PE call gv X e E)(hb:V9 e nm X.env (eval e X.env)=eval e X.env:=by rfl):PE call gv X (.Attribute e nm pos) (.fld C E nm):=λenv cm m s I Q J h=>by
 rw[B4]at h;refine FK hb (he.one I h λw v c1 m1 s1 I1 x1 r o=>?_);cases q:kb C w m1 with
 |none=>rw[q]at o;exact o.elim
 |some p =>
  obtain⟨i,F⟩:=p;rw[q]at o;obtain⟨a,j,d,g,rfl,rfl,h1,h2,h3,h4,h5,O,h6,h7,h8,h9⟩:=pX I1.mem q r;have o:ak X X.tb c1 m1 s1 (match F.lookup nm with
   |some w=>.ok w m1
   |none=>.stuck) J (WK X Q):=o
  cases l:F.lookup nm with
  |none=>rw[l]at o;exact o.elim
  |some w =>
   rw[l]at o;obtain⟨u,hu,ru,nx⟩:=h8 nm w l;obtain⟨x2,I2⟩:=I1.up (t:=s1.toks+1) (d:=s1.drawn) (ch:=X.tb) (λ_ _ e=>e);exact E9 I1.gO O (cl.get nm) cl.hd na hu (handed ru nx) (ak.to o x2 I2.mem _ (ru.go x2.toExtK I1.mem I1.nc.q))
theorem Ej(cl:FI X.K C)(na:cP X.K C nm)(hv:PE call gv X e V)(ho:PE call gv X o E)(hk:fW call gv X rest S)(hs:Wv e (Zz (.Attribute o nm p')) pos.line X.env=pure false:=by rfl):fW call gv X (.Assign [.Attribute o nm p'] e pos::rest) (.GR C E nm V S):=λenv cm m s I R J j hp=>by
 rw[Cr]at hp;refine S6 (plainObj_wpAny_Assign_Attribute (hv.gI I hp λw v c1 m1 s1 I1 x1 r1 d=>ho.gI I1 d λx ov c2 m2 s2 I2 x2 r2 d=>?_) hs);cases q:kb C x m2 with
 |none=>rw[q]at d;exact d.elim
 |some p =>
  obtain⟨i,F⟩:=p;rw[q]at d;cases w with
  |t t =>
   obtain⟨hl,d⟩:=im d;obtain⟨a,j',dd,g,rfl,rfl,h1,h2,rfl,h4,h5,O,h6,h7,h8,h9⟩:=pX I2.mem q r2;have r3:=r1.go x2.toExtK I1.mem I1.nc.q;refine zK I2.gO O cl.sa cl.po na.taker cl.hd h6 (by rw[R2];have:=line;have:lim=1000000:=rfl;omega) λh' O' sb=>?_
   obtain⟨kk1,kk2,kk3⟩:=tF nm (.t t) F;have ho:∀b o,b≠dd->s2.heap.get? b=Zz o->h'.get? b=Zz o:=λb o n e=>(sb.2 b n).trans e
   obtain⟨od,esd,epd,ed,dd',_⟩:=id O.ns;obtain⟨x3,M3⟩:=I2.mem.KW (s':={ s2 with heap:=h',toks:=s2.toks+2 }) (ch:=X.tb) h1 h4 h5 h2 ho rfl rfl O' (F':=j8 nm (.t t) F) (λy hy=>by
    by_cases e:y=nm
    ·rw[e];exact kk1
    ·exact kk2 y (h6 y λz=>hy ((Yo e).trans z))) (by omega) (λy w z=>by
    rw[jH]at z;by_cases e:y=nm
    ·rw[Yn e]at z;cases z;exact⟨v,Yn e,r3,rfl⟩
    ·rw[Yo e]at z;obtain⟨u,a,b⟩:=h8 y w z;exact⟨u,(Yo e).trans a,b⟩) (λy z=>by
    rw[jH]at z;by_cases e:y=nm
    ·rw[Yn e]at z;cases z
    ·rw[Yo e]at z;exact(Yo e).trans (h9 y z)) (λy jj z=>by
    rw[jH]at z;by_cases e:y=nm
    ·rw[Yn e]at z;cases z
    ·rw[Yo e]at z;exact⟨y,z⟩) (I2.ok.iz _ _ I2.mem.tab λb o hb hu=>ho b o (λz=>by
    obtain⟨v,k⟩:=hb.elim (λh=>((I2.nc b h).2 o hu).1) Kc.f;rw[z,ed]at hu;cases hu;rw[dd']at k;cases k) hu)
   exact hk _ _ _ _ (I2.go x3.toExtK M3 I2.nc) R J j (d.shift (x3.sub aX))
  |_=>exact d.elim
theorem Ef{pl:Sem Bool}(cl:FI X.K C)(F:oQ X.toBs fns gv k C nm fi)(hr:bI k X.A)(ho:PE (az fns gv k) gv X o E)(ha:PA (az fns gv k) gv X (e::es) L)(hst:notStar e=true:=by rfl)(hpl:es.all notStar=true:=by rfl)(ht:eval (.Call (.Attribute o nm apos) (e::es) [] pos) X.env=(do
   let ov <-eval o X.env
   Uo apos.atName
   let(f,first) <-WE [ov] (YQ ov nm pl)
   callWith pos f first (backTo pos (Tx (e::es) X.env)) (YB pos (XO [] X.env))):=by rfl):PE (az fns gv k) gv X (.Call (.Attribute o nm apos) (e::es) [] pos) (.aZ C E nm fi L):=λenv cm m s I Q J h=>by
 obtain⟨f,fd,ps,hm,hb,len,F⟩:=F;rw[lW]at h;refine PySem.W.methodCall_KW (pl:=pl) (ho.one I h λw v c1 m1 s1 I1 x1 r1 d=>?_) ht;cases q:kb C w m1 with
 |none=>rw[q]at d;exact d.elim
 |some p =>
  obtain⟨i,F0⟩:=p;rw[q]at d;have d:ak X X.tb c1 m1 s1 (match Zz (F0.lookup nm).isSome with
   |some false=>(evs (az fns gv k) gv L env m1).bind λws m=>az fns gv k fi (w::ws) m
   |_=>.stuck) J (WK X Q):=d
  obtain⟨a,j',dd,g,rfl,rfl,h1,h2,rfl,h4,h5,O,h6,h7,h8,h9⟩:=pX I1.mem q r1;cases l:F0.lookup nm with
  |some w=>rw[l]at d;exact d.elim
  |none =>
   rw[l]at d;refine vt I1.gO O (cl.get nm) hm.at_ hm.fn (h9 _ l) ?_;refine Xh (first:=[.ref a]) (h₀:=X.base) I.ok.mod.gO hm.kp (ha.one I1 d λws us c2 m2 s2 I2 x2 r2 o=>⟨I2.gO,?_⟩) (bu hst) (ia hpl);have r:sr X.D c2 m2 s2.heap (.c (j'+1)::ws) (.ref a::us):=.cons ((show RW X.D c1 m1 s1.heap (.c (j'+1)) (.ref a)from⟨a,h2,rfl⟩).go x2.toExtK I1.mem I1.nc.q) r2;have hl:(TR a::us).length=ps.length:=by
    rcases len (.c (j'+1)::ws) m2 with z|z
    ·rw[z]at o;exact o.elim
    ·rw[<-r.1];exact z
   have hb:=hb s2 (.ref a::us) I2.gO (by simpa using hl);rw[Rh]at hb;refine Vl (TC (F X rfl hr c2 m2 s2 I2.ca ⟨.ref a::us,[]⟩ (.ref a::us) _ (.inl ⟨_,I2⟩) hb hl r Q J o) λr s' hq=>?_);cases r with
   |error e=>exact hq
   |ok fl =>
    cases fl with
    |ret u=>exact hq
    |next=>exact TP hq
    |brk=>exact TP hq
    |cont=>exact TP hq
theorem Bc{pl:Sem Bool}(cl:FI X.K C)(F:oQ X.toBs fns gv k C nm fi)(hr:bI k X.A)(ho:PE (az fns gv k) gv X o E)(ht:eval (.Call (.Attribute o nm apos) [] [] pos) X.env=(do
   let ov <-eval o X.env
   Uo apos.atName
   let(f,first) <-WE [ov] (YQ ov nm pl)
   callWith pos f first (backTo pos (Tx [] X.env)) (YB pos (XO [] X.env))):=by rfl):PE (az fns gv k) gv X (.Call (.Attribute o nm apos) [] [] pos) (.aZ C E nm fi .nil):=λenv cm m s I Q J h=>by
 obtain⟨f,fd,ps,hm,hb,len,F⟩:=F;rw[lW]at h;refine PySem.W.methodCall_KW (pl:=pl) (ho.one I h λw v c1 m1 s1 I1 x1 r1 d=>?_) ht;cases q:kb C w m1 with
 |none=>rw[q]at d;exact d.elim
 |some p =>
  obtain⟨i,F0⟩:=p;rw[q]at d;have d:ak X X.tb c1 m1 s1 (match Zz (F0.lookup nm).isSome with
   |some false=>(evs (az fns gv k) gv .nil env m1).bind λws m=>az fns gv k fi (w::ws) m
   |_=>.stuck) J (WK X Q):=d
  obtain⟨a,j',dd,g,rfl,rfl,h1,h2,rfl,h4,h5,O,h6,h7,h8,h9⟩:=pX I1.mem q r1;cases l:F0.lookup nm with
  |some w=>rw[l]at d;exact d.elim
  |none =>
   rw[l]at d;refine vt I1.gO O (cl.get nm) hm.at_ hm.fn (h9 _ l) ?_;refine PySem.W.callWith_K0 (first:=[.ref a]) I1.gO hm.kp ?_;rw[mI]at d;have d:ak X X.tb c1 m1 s1 (az fns gv k fi [.c (j'+1)] m1) J (WK X Q):=d;have r:sr X.D c1 m1 s1.heap [.c (j'+1)] [.ref a]:=.cons (show RW X.D c1 m1 s1.heap (.c (j'+1)) (.ref a)from⟨a,h2,rfl⟩) .nil;have hl:([TR a]).length=ps.length:=by
    rcases len [.c (j'+1)] m1 with z|z
    ·rw[z]at d;exact d.elim
    ·exact z
   have hb:=hb s1 [.ref a] I1.gO (by simpa using hl);rw[Rh]at hb;refine Vl (TC (F X rfl hr c1 m1 s1 I1.ca ⟨[.ref a],[]⟩ [.ref a] _ (.inl ⟨_,I1⟩) hb hl r Q J d) λr s' hq=>?_);cases r with
   |error e=>exact hq
   |ok fl =>
    cases fl with
    |ret u=>exact hq
    |next=>exact TP hq
    |brk=>exact TP hq
    |cont=>exact TP hq
end
noncomputable def Lf:Ik->Mi.E
 |.nm j=>.var (j+1)
 |.non=>.con .non
 |.lst=>.rI .nil
section
variable{X Y:Cx}{B:Bs}{P:Ry}{wd:SS}{env:Mi.Env}{cm cm' cm0:List RB}{m m' m0:Mem}{s s' s0 t:RA}{h h':Rm}{ch f f' fs:List RB}{C i n z:Nat}{a d0 e0:RB}{F:List (Str×W)}{g:Str->Option R3}{tt:T}{w:W}{v u:R3}{J Q:VK}{ws:List W}{us:List R3}
variable{call:Nat->List W->Mem->Res W}{fns:List Fn}{gv:List T}{e o:S4}{es:List S4}{rest:List S5}{E V:Mi.E}{L:Es}{S:Mi.S}{p pos:Pos}{slf x:Str}
theorem RT.Ly(G:∀a o,h.get? a=Zz o->a∉f->((∃x n,o.data=.seq x n)∨∃x n,o.data=.dict x n)->a∉f'/\(ai cm m a->ai cm' m' a))(r:RT ⟨P,wd,f⟩ cm m h tt v):RT ⟨P,wd,f'⟩ cm' m' h tt v:=by
 induction r with
 |non=>exact .non
 |bl b=>exact .bl b
 |int i t=>exact .int i t
 |str i t=>exact .str i t
 |tup p nf l _ ih=>obtain⟨o,n,e,c,d,q⟩:=id p;exact .tup p (G _ o e nf (.inl ⟨_,_,d⟩)).1 l ih
 |lst p c l _ ih =>
  obtain⟨⟨n,e⟩,nf,z⟩:=id p;have g:=G _ _ e nf (.inl ⟨_,_,rfl⟩);exact .lst ⟨⟨n,e⟩,g.1,z⟩ (g.2 c) l ih
 |fH ns p c nf l =>
  obtain⟨o,n,e,_,d,q⟩:=id p;have g:=G _ o e nf (.inl ⟨_,_,d⟩);exact .fH ns p (g.2 c) g.1 l
 |dct p c l1 l2 _ ih =>
  obtain⟨z,y,⟨o,es,ep,e,c1,d,r⟩,q⟩:=id p;have g:=G _ o e q (.inr ⟨_,_,d⟩);exact .dct ⟨z,y,⟨o,es,ep,e,c1,d,r⟩,g.1⟩ (g.2 c) l1 l2 ih
theorem av.rev(x:aH X.fs X.gs ch cm0 m0 s0 cm m t)(M:av { X with fs:=d0::X.fs } cm m t.heap)(hn:m0.length<=n)(dd:m[n]?=Zz Zy)(de:m[n+1]?=Zz Zy)(cd:cm[n]?=Zz d0)(ce:cm[n+1]?=Zz e0)(nd:s0.heap.get? d0=Zy)(ne:s0.heap.get? e0=Zy)(nfd:d0∉X.fs)(nfe:e0∉X.fs)(bd:X.base.get? d0=Zy)(be:X.base.get? e0=Zy)(nle:ai cm m e0)(O:er t.heap e0 d0 C g)(wi:UW g (F.map (·.1)))(hl:F.length<=1000)(h6:∀y w,F.lookup y=Zz w->∃u,g y=Zz u/\RW ⟨X.prog,X.w,d0::X.fs⟩ cm m t.heap w u/\D0 w=true)(h7:∀y,F.lookup y=Zy->g y=Zy):
  aH X.fs X.gs ch cm0 m0 s0 cm ((m.set n (Zz .d)).set (n+1) (Zz (.o C F))) t/\av X cm ((m.set n (Zz .d)).set (n+1) (Zz (.o C F))) t.heap:=by
 have l1:=(R8.mp de).1;have nld:ai cm m d0:=EA M R9;generalize hm':(m.set n (Zz Cl.d)).set (n+1) (Zz (Cl.o C F))=m';have ao:m'[n+1]?=Zz (Zz (.o C F)):=by rw[<-hm'];exact Ri (by simpa using l1)
 have ad:m'[n]?=Zz (Zz .d):=by rw[<-hm',Rc (by omega)];exact Ri (by omega)
 have ot:∀{j:Nat},j≠n->j≠n+1->m'[j]?=m[j]?:=λa b=>by rw[<-hm',Rc (Su b),Rc (Su a)]
 have len':m'.length=m.length:=by rw[<-hm'];simp
 have old:∀{j:Nat}{q:Cl},m'[j]?=Zz (Zz q)->(j≠n/\j≠n+1/\m[j]?=Zz (Zz q))∨(j=n/\q=.d)∨j=n+1/\q=.o C F:=λ{j q} e=>by
  by_cases h1:j=n
  ·subst h1;rw[ad]at e;cases e;exact .inr (.inl ⟨rfl,rfl⟩)
  ·by_cases h2:j=n+1
   ·subst h2;rw[ao]at e;cases e;exact .inr (.inr ⟨rfl,rfl⟩)
   ·exact .inl ⟨h1,h2,ot h1 h2▸e⟩
 have keep:∀{j:Nat}{q:Cl},m[j]?=Zz (Zz q)->m'[j]?=Zz (Zz q):=λ{j q} e=>by
  rw[ot (λz=>by rw[z,dd]at e;cases e) (λz=>by rw[z,de]at e;cases e)];exact e
 have nl:∀a,a≠d0->a≠e0->ai cm m a->ai cm m' a:=λa h1 h2 k j q e c=>by
  rcases old e with⟨_,_,e⟩|⟨rfl,_⟩|⟨rfl,_⟩
  ·exact k j q e c
  ·rw[cd]at c;cases c;exact h1 rfl
  ·rw[ce]at c;cases c;exact h2 rfl
 have rt:∀{t' v},RT ⟨X.prog,X.w,d0::X.fs⟩ cm m t.heap t' v->RT X.D cm m' t.heap t' v:=λr=>r.Ly λa o e k q=>⟨λz=>k (R4 _ z),nl a (λz=>k (z▸R9)) λz=>by
  rw[z,O.obj]at e;cases e;rcases q with⟨_,_,q⟩|⟨_,_,q⟩<;>cases q⟩
 have rw':∀{w u},D0 w=true->RW ⟨X.prog,X.w,d0::X.fs⟩ cm m t.heap w u->RW X.D cm m' t.heap w u:=λ{w u} k r=>by
  cases w with
  |t _=>exact rt r
  |c _=>exact r
  |x _ _ _=>cases k
  |e _=>cases k
 refine⟨.of x.thr (λi l e=>?_) (λi C' F' hi e=>?_) ⟨x.os,x.bare,x.pre,by rw[len'];exact x.len,λb o e c k=>?_⟩,?_⟩
 ·exact keep (x.lent i l e)
 ·rw[ot (by omega) (by omega)]at e
  exact x.ob i C' F' hi e
 ·obtain⟨k,r⟩:=x.keep b o e c k
  exact⟨nl b (λz=>by rw[z,nd]at e;cases e) (λz=>by rw[z,ne]at e;cases e) k,r⟩
 ·have lv:∀{j q},m[j]?=Zz (Zz q)->cm[j]?≠Zz d0/\cm[j]?≠Zz e0:=λe=>⟨nld _ _ e,nle _ _ e⟩
  refine⟨M.len.trans len'.symm,λi j a p q e1 e2 c1 c2=>?_,λi p e=>?_,M.tab⟩
  ·rcases old e1 with⟨_,_,e1⟩|⟨rfl,_⟩|⟨rfl,_⟩<;>rcases old e2 with⟨_,_,e2⟩|⟨rfl,_⟩|⟨rfl,_⟩
   ·exact M.inj i j a p q e1 e2 c1 c2
   ·rw[cd]at c2;cases c2;exact Ys c1 (lv e1).1
   ·rw[ce]at c2;cases c2;exact Ys c1 (lv e1).2
   ·rw[cd]at c1;cases c1;exact Ys c2 (lv e2).1
   ·rfl
   ·rw[cd]at c1;rw[ce]at c2;cases c1;cases c2;exact Ys rfl O.ne
   ·rw[ce]at c1;cases c1;exact Ys c2 (lv e2).2
   ·rw[ce]at c1;rw[cd]at c2;cases c1;cases c2;exact Ys rfl O.ne
   ·rfl
  ·rcases old e with⟨_,_,e⟩|⟨rfl,rfl⟩|⟨rfl,rfl⟩
   ·obtain⟨a,h1,h2,h3⟩:=M.at' i p e
    refine⟨a,h1,⟨λz=>h2.1 (R4 _ z),h2.2⟩,h3.to (λ_ e=>e) (λj d h e c=>⟨j,h,keep e,c,λ_ e=>e⟩) (λk z=>k (R4 _ z)) λw u k r=>rw' ?_ r⟩;cases p with
    |l _ _=>obtain⟨_,rfl⟩:=k;rfl
    |d=>exact k.elim
    |o _ _=>exact k.1
   ·exact⟨d0,cd,⟨nfd,bd⟩,g,O.ns⟩
   ·exact⟨e0,ce,⟨nfe,be⟩,n,d0,g,rfl,ad,cd,O,wi,hl,λy w z=>(h6 y w z).imp λu q=>⟨q.1,rw' q.2.2 q.2.1,q.2.2⟩,h7⟩
theorem Hg{c:S4}{A:List S5}{R:WQ->RA->Prop}(hc:PT call gv X c E)(ha:fW call gv X A S)(j:PassesOwn X.M X.A X.env J)(I:Fr X env cm m s)(hp:ak X X.own cm m s (ex call gv (.dv E S .done .done) env m) J (FQ X λf s=>match f with|.next=>RF X.M X.A (execs rest X.env) R J s|f=>R f s)):RF X.M X.A (execs (.If c A [] pos::rest) X.env) R J s:=by
 rw[qW,<-a9]at hp;refine S6 (wpAny_If (hc.gI I hp λb c1 m1 s1 I1 x1 o=>?_));have go:∀{T:Mi.S}{B:List S5},fW call gv X B T->ak X X.own c1 m1 s1 (ex call gv T env m1) J (λfl c2 m2 s2=>ak X X.own c2 m2 s2 (match fl with|.next env=>ex call gv .done env m2|fl=>.ok fl m2) J (FQ X λf s=>match f with|.next=>RF X.M X.A (execs rest X.env) R J s|f=>R f s))->RF X.M X.A (execs B X.env) (λf s'=>match f with|.next=>RF X.M X.A (execs rest X.env) R J s'|f=>R f s') J s1:=λhB o=>hB _ _ _ _ I1 _ J j (o.mono λfl c2 m2 s2 x2 M2 o=>by
  cases fl with
  |next env' =>
   have o:ak X X.own c2 m2 s2 (ex call gv .done env' m2) J (FQ X _):=o;rw[mr]at o;exact λI2=>o.now M2 I2
  |ret w=>exact λe2 I2 v r=>o.now M2 e2 I2 v r
  |brk e2=>exact λI2=>o.now M2 I2
  |cont e2=>exact λI2=>o.now M2 I2)
 cases b with
 |true=>exact go ha o.bind
 |false=>exact go wz o.bind
end
inductive Ln (call:Nat->List W->Mem->Res W) (gv:List T) (Y:Cx) (slf:Str):Str×Ik->S5->Prop where
 |mk {nm:Str}{k:Ik}{p1 p2 pos:Pos}{e:S4}(_:PE call gv Y e (Lf k)) (_:Wv e (Zz (.Attribute (.Name slf p1) nm p2)) pos.line Y.env=pure false):Ln call gv Y slf (nm,k) (.Assign [.Attribute (.Name slf p1) nm p2] e pos)
inductive AM (call:Nat->List W->Mem->Res W) (gv:List T) (Y:Cx) (slf:Str):List (Str×Ik)->List S5->Prop where
 |nil:AM call gv Y slf [] []
 |cons {k:Str×Ik}{st:S5}{ks:List (Str×Ik)}{l:List S5}(_:Ln call gv Y slf k st) (_:AM call gv Y slf ks l):AM call gv Y slf (k::ks) (st::l)
section
variable{X Y:Cx}{B:Bs}{env:Mi.Env}{cm cm' cm0:List RB}{m m' m0:Mem}{s s' s0 t:RA}{h h':Rm}{C n z:Nat}{a d0 e0:RB}{w:W}{v u:R3}{J Q:VK}{ws:List W}{us:List R3}
variable{call:Nat->List W->Mem->Res W}{fns:List Fn}{gv:List T}{slf x:Str}
theorem k9:∀{ks:List (Str×Ik)}{b:Nat}{F:List (Str×W)},Bk ws ks b=Zz F->F.map (·.1)=ks.map (·.1)
 |[],_,_,e=>by cases e;rfl
 |(f,.nm j)::r,b,F,e=>by
  unfold Bk at e;split at e
  ·obtain⟨F',e',rfl⟩:=RL.mp e
   rw[Rf,Rf,k9 e']
  ·cases e
 |(f,.non)::r,b,F,e=>by
  obtain⟨F',e',rfl⟩:=RL.mp e;rw[Rf,Rf,k9 e']
 |(f,.lst)::r,b,F,e=>by
  obtain⟨F',e',rfl⟩:=RL.mp e;rw[Rf,Rf,k9 e']
theorem uq:∀{ks:List (Str×Ik)}{b b':Nat}{F:List (Str×W)},Bk ws ks b=Zz F->∃F',Bk ws ks b'=Zz F'/\∀y w,F.lookup y=Zz w->D0 w=true/\∃w',F'.lookup y=Zz w'/\(w'=w/\(∃x,w=.t x)∨∃i,i<A9 ks/\w=.c (b+i)/\w'=.c (b'+i))
 |[],_,_,_,e=>by cases e;exact⟨[],rfl,λy w z=>by cases z⟩
 |(f,.nm j)::r,b,b',F,e=>by
  unfold Bk at e ⊢;cases q:ws[j]? with
  |none=>rw[q]at e;cases e
  |some w =>
   rw[q]at e;cases w with
   |t x =>
    obtain⟨F0,e0,rfl⟩:=RL.mp e;obtain⟨F1,e1,k⟩:=uq (b':=b') e0;refine⟨(f,.t x)::F1,congrArg (Sr _) e1,λy w z=>?_⟩;unfold TV at z ⊢;split at z
    ·cases z;exact⟨rfl,_,rfl,.inl ⟨rfl,x,rfl⟩⟩
    ·exact k y w z
   |_=>cases e
 |(f,.non)::r,b,b',F,e=>by
  obtain⟨F0,e0,rfl⟩:=RL.mp e;obtain⟨F1,e1,k⟩:=uq (b':=b') e0;refine⟨(f,.t .non)::F1,congrArg (Sr _) e1,λy w z=>?_⟩;unfold TV at z ⊢;split at z
  ·cases z;exact⟨rfl,_,rfl,.inl ⟨rfl,_,rfl⟩⟩
  ·exact k y w z
 |(f,.lst)::r,b,b',F,e=>by
  obtain⟨F0,e0,rfl⟩:=RL.mp e;obtain⟨F1,e1,k⟩:=uq (b':=b'+1) e0;refine⟨(f,.c b')::F1,congrArg (Sr _) e1,λy w z=>?_⟩;unfold TV at z ⊢;split at z
  ·cases z;exact⟨rfl,_,rfl,.inr ⟨0,Xu _,rfl,rfl⟩⟩
  ·obtain⟨k0,w',k1,k2⟩:=k y w z
   refine⟨k0,w',k1,k2.imp id λ⟨i,h1,h2,h3⟩=>⟨i+1,Nat.succ_lt_succ h1,?_,?_⟩⟩
   ·rw[h2];congr 1;omega
   ·rw[h3];congr 1;omega
theorem er.keep{ch:List RB}{g:Str->Option R3}(x:ExtK Y.fs Y.gs ch cm m s cm' m' s')(I:Fr Y env cm m s)(O:er s.heap e0 d0 C g)(c1:e0∉ch)(c2:d0∉ch)(nle:ai cm m e0)(hd:d0∈Y.fs)(hs:d0∉frs Y.stack)(hse:e0∉frs Y.stack):er s'.heap e0 d0 C g/\ai cm' m' e0:=by
 obtain⟨n1,o1,e1,q1⟩:=x.keep _ _ O.obj c1 nle;obtain⟨o,es,ep,e,r⟩:=O.ns;obtain⟨_,o2,e2,q2⟩:=x.keep _ _ e c2 (EA I.mem hd);rcases q1 with rfl|⟨_,_,z,_⟩
 ·rcases q2 with rfl|⟨_,_,z,_⟩
  ·exact⟨⟨e1,⟨_,es,ep,e2,r⟩,O.ne⟩,n1⟩
  ·exact Ys z hs
 ·exact Ys z hse
theorem er.Lg{g:Str->Option R3}(O:er h e0 d0 C g)(hd:d0∈Y.fs):J3 Y.fs d0 h:=by
 obtain⟨o,es,ep,e,d,_⟩:=O.ns;refine⟨o,e,λk=>?_,(λv z=>by rw[d]at z;cases z),λv z=>by rw[d]at z;cases z⟩;cases k with
 |seq _ _ z=>rw[d]at z;cases z
 |dict _ _ _ z=>exact z hd
 |ref _ _ _ z=>rw[d]at z;cases z
 |trace _ _ z=>rw[d]at z;cases z
 |plain z=>rw[d]at z;cases z
theorem er.nq{g:Str->Option R3}(I:Fr Y env cm m s)(O:er s.heap e0 d0 C g)(hd:d0∈Y.fs):Nq Y.fs (d0::Y.own) s.heap:=λb hb o e k=>by
 rcases R6.mp hb with rfl|hb
 ·obtain⟨o',e',n,_⟩:=O.Lg (Y:=Y) hd
  rw[e]at e';cases e';exact n k
 ·exact I.nq b hb o e k
theorem er.GM{g:Str->Option R3}(I:Fr Y env cm m s)(O:er s.heap e0 d0 C g):e0∉Y.tb:=λz=>by
 obtain⟨⟨v,d⟩,_⟩:=(I.nc _ z).2 _ O.obj;cases d
theorem BO(cl:FI Y.K C)(hd:d0∈Y.fs)(hne:d0∉Y.own)(hs:d0∉frs Y.stack)(hse:e0∉frs Y.stack)(hself:∀p,PE call gv Y (.Name slf p) (.var 0)){R:WQ->RA->Prop}(e0e:env[0]?=Zz (Zz (.c z)))(hw:∀j x,ws[j]?=Zz (.t x)->env[j+1]?=Zz (Zz (.t x))):
  ∀{ks:List (Str×Ik)}{l:List S5},AM call gv Y slf ks l->(ks.map (·.1)).Nodup->(∀q∈ks,cP Y.K C q.1)->∀{g:Str->Option R3}{ns:List Str}{cm:List RB}{m:Mem}{s:RA}{F:List (Str×W)},Fr Y env cm m s->cm[z]?=Zz e0->ai cm m e0->er s.heap e0 d0 C g->UW g ns->ns.length+ks.length<=1000->Bk ws ks m.length=Zz F ->
   (∀cm' s' g',aH Y.fs Y.gs (d0::Y.own) cm m s cm' (m++RE (A9 ks) (Zz (.l false []))) s'->Fr Y env cm' (m++RE (A9 ks) (Zz (.l false []))) s'->ai cm' (m++RE (A9 ks) (Zz (.l false []))) e0->er s'.heap e0 d0 C g'->(∀y,y∉ks.map (·.1)->g' y=g y) ->
    (∀y w,F.lookup y=Zz w->∃u,g' y=Zz u/\RW Y.D cm' (m++RE (A9 ks) (Zz (.l false []))) s'.heap w u)->R .next s')->RF Y.M Y.A (execs l Y.env) R J s:=by
 intro ks l hl
 induction hl with
 |nil =>
  intro nd na g ns cm m s F I _ nle O _ _ eF q;cases eF;refine VD (q cm s g ?_ ?_ (by rw[show m++RE (A9 []) (Zz (Cl.l false []))=m from Rh _];exact nle) O (λ_ _=>rfl) λ_ _ z=>nomatch z)
  ·rw[show m++RE (A9 []) (Zz (Cl.l false []))=m from Rh _];exact .refl
  ·rw[show m++RE (A9 []) (Zz (Cl.l false []))=m from Rh _];exact I
 |@cons k st ks l ha _ ih =>
  intro nd na g ns cm m s F I cz nle O wi hz eF q;obtain⟨hv,hsw⟩:=ha;rename_i nm k p1 p2 pos e;rw[Rf,Ug]at nd
  -- the value
  have hev:∃w m1 F1,ev call gv (Lf k) env m=.ok w m1/\D0 w=true/\Bk ws ks m1.length=Zz F1/\F=(nm,w)::F1/\m1++RE (A9 ks) (Zz (.l false []))=m++RE (A9 ((nm,k)::ks)) (Zz (.l false [])):=by
   cases k with
   |nm j =>
    unfold Bk at eF;cases hq:ws[j]? with
    |none=>rw[hq]at eF;cases eF
    |some w =>
     rw[hq]at eF;cases w with
     |t x =>
      obtain⟨F1,e1,rfl⟩:=RL.mp eF;exact⟨.t x,m,F1,by show ev call gv (.var (j+1)) env m=_;rw[tX,hw j x hq],rfl,e1,rfl,rfl⟩
     |_=>cases eF
   |non =>
    obtain⟨F1,e1,rfl⟩:=RL.mp eF;exact⟨.t .non,m,F1,by show ev call gv (.con .non) env m=_;rw[nH],rfl,e1,rfl,rfl⟩
   |lst =>
    obtain⟨F1,e1,rfl⟩:=RL.mp eF;refine⟨.c m.length,m++[Zz (.l false [])],F1,?_,rfl,by rw[RD];exact e1,rfl,?_⟩
    ·show ev call gv (.rI .nil) env m=_
     rw[xJ,mI];rfl
    ·rw[S9];rfl
  obtain⟨w,m1,F1,h1,h2,h3,rfl,h5⟩:=hev;refine S6 (plainObj_wpAny_Assign_Attribute (mK (hv.run I h1) λv s1 ⟨c1,x1,I1,r1⟩=>?_) hsw);have h6:ev call gv (.var 0) env m1=.ok (.c z) m1:=by rw[tX,e0e]
  refine mK ((hself p1).run I1 h6) λov s2 ⟨c2,x2,I2,r2⟩=>?_
  obtain⟨a2,h7,rfl⟩:=r2;rw[x2.pre _ _ (x1.pre _ _ cz)]at h7;cases h7;have GM:d0∉Y.tb:=λz=>hne (R4 _ (TG _ z))
  obtain⟨O1,n1⟩:=O.keep x1.toExtK I (O.GM I) GM nle hd hs hse;obtain⟨O2,n2⟩:=O1.keep x2.toExtK I1 (O1.GM I1) GM n1 hd hs hse;refine zK I2.gO O2 cl.sa cl.po (na _ R9).taker cl.hd wi (by have:=line;have:lim=1000000:=rfl;simp at hz;omega) λh' O' sb=>?_
  obtain⟨o',es',ep',e',d',_⟩:=id O'.ns;obtain⟨x3,I3⟩:=I2.acc (ch:=Y.own) (tk:=s2.toks+2) hd (λz=>hne (z▸R9)) (O2.Lg hd) (λb o n e=>(sb.2 b n).trans e) ⟨o',e',⟨(λv z=>by rw[d']at z;cases z),λz=>Ys z hs⟩,λ_ _ _ x n z=>by rw[d']at z;cases z⟩;rw[<-h5]at q;refine ih nd.2 (λq hq=>na q (R4 _ hq)) I3 (x2.pre _ _ (x1.pre _ _ cz)) n2 O' (PySem.Within.cons _ v wi) (by simp at hz ⊢;omega) h3 λcm' s' g' x4 I4 n4 O4 hg h8=>?_
  have nn:Y.tb ⊆ d0::Y.own:=λb hb=>R4 _ (aX b hb)
  refine q cm' s' g' ((((x1.trans x2).sub nn).trans x3).trans x4) I4 n4 O4 (λy hy=>?_) λy w' z=>?_
  ·rw[Rf,R6,not_or]at hy
   exact(hg y hy.2).trans (Yo hy.1)
  ·by_cases hy:y=nm
   ·subst hy
    have:w'=w:=by simpa[TV]using z.symm
    subst this;exact⟨v,(hg _ nd.1).trans (Yn rfl),((r1.go x2.toExtK I1.mem I1.nc.q).go x3.toExtK I2.mem (O2.nq I2 hd)).go x4.toExtK I3.mem (O'.nq I3 hd)⟩
   ·exact h8 y w' (by simpa[TV,Yr.mpr hy]using z)
end
theorem xM{A:SF}{C:RB}{us:List R3}{kw:List (Str×R3)}:(A.under (.builtin "type.__call__" ⟨.ref C::us,kw⟩)).units=A.units+1:=by
 first|rfl|simp[Around.under,Code.cUnits,Code.frames,Code.isFrame]
def K1(B:Bs)(call:List W->Mem->Res W)(k:Nat)(f:RB)(C:Nat)(ks:List (Str×Ik)):Prop:=
 ∀X:Cx,X.toBs=B->∀us,bI k (X.A.under (.builtin "type.__call__" ⟨.ref C::us,[]⟩))->∀env cm m s ws,Fr X env cm m s->sr X.D cm m s.heap ws us->∀Q J,ak X X.tb cm m s ((call (.c (m.length+1)::ws) (m++[Zy,Zy])).bind λ_ m'=>IP C ks ws m.length m') J (WK X Q) ->
  UB X.M (X.A.under (.builtin "type.__call__" ⟨.ref C::us,[]⟩)) (.call (.ref f) ⟨.ref (s.heap.objs.size+1)::us,[]⟩) (PySem.W.InitBack (s.heap.objs.size+1) (CR Q J)) { s with heap:=(s.heap.push VQ).push (Vu C s.heap.objs.size) }
inductive JA (B:Bs) (fns:List Fn) (gv:List T) (k:Nat) (C fi:Nat) (ks:List (Str×Ik)):Prop where
 |mk (f) (_:Mk B.K C f) (_:K1 B (az fns gv k fi) k f C ks)
section
variable{X Y:Cx}{B:Bs}{env:Mi.Env}{cm cm' cm0 c:List RB}{m m' m0 m2:Mem}{s s' s0 t:RA}{h h':Rm}{C n z k fi np:Nat}{a d0 e0 f:RB}{w:W}{v u:R3}{J Q:VK}{ws:List W}{us:List R3}
variable{call:Nat->List W->Mem->Res W}{fns:List Fn}{gv:List T}{slf x qual:Str}{e:S4}{es:List S4}{L:Es}{p pos:Pos}{st:S5}{fd:TX}{N ps:List Str}{cell:Bool}{ks:List (Str×Ik)}
theorem CN(F:JA X.toBs fns gv k C fi ks)(hr:∀us,bI k (X.A.under (.builtin "type.__call__" ⟨.ref C::us,[]⟩)))(hm:X.mg x=Zz (.ref C))(hg:Gl X x)(ha:PA (az fns gv k) gv X (e::es) L)(hdb:(x==("__debug__" : Str))=false:=by decide)(he:notStar e=true:=by rfl)(hpl:es.all notStar=true:=by rfl):PE (az fns gv k) gv X (.Call (.Name x p) (e::es) [] pos) (.make C fi ks L):=λenv cm m s I Q J h=>by
 obtain⟨f,M,R⟩:=F;rw[zM]at h;refine Se (ln I hg hm ?_ hdb);refine Xh (h₀:=X.base) I.ok.mod.gO M.kp (ha.one I h λws us c1 m1 s1 I1 x1 r o=>⟨I1.gO,?_⟩) (bu he) (ia hpl);refine Vl (TC (Cw I1.gO M.makes M.init (beq_iff_eq.mp M.fn) (R X rfl us (hr us) _ _ _ _ _ I1 r Q J o)) λr s' hq=>?_);cases r with
 |error e=>exact hq
 |ok fl =>
  cases fl with
  |ret u=>exact hq
  |next=>exact TP hq
  |brk=>exact TP hq
  |cont=>exact TP hq
theorem BB{ec:Mi.E}{sa:Mi.S}{fl:Mi.Flow}(hno:∀env m fl m',ex call gv sa env m≠.ok fl m')(e:ex call gv (.dv ec sa .done .done) env m=.ok fl m'):fl=.next env:=by
 rw[qW]at e;obtain⟨w,m1,_,e⟩:=ap e;obtain⟨b,m2,_,e⟩:=ap e;cases b with
 |true=>obtain⟨fl,m3,e,_⟩:=ap e;exact Ys e (hno _ _ _ _)
 |false =>
  obtain⟨fl',m3,e1,e⟩:=ap e;rw[Yo (by decide),mr]at e1;cases e1;have e:ex call gv .done env _=.ok fl m':=e;rw[mr]at e;cases e;rfl
theorem qf{i:Nat}(h:dead m i=true):m[i]?=Zz Zy:=by
 unfold dead at h;split at h
 ·assumption
 ·cases h
theorem tz{y:Str}:∀{F:List (Str×W)},F.lookup y=Zy->y∉F.map (·.1)
 |[],_=>λh=>nomatch h
 |(g,w)::r,h=>λz=>by
  unfold TV at h;split at h
  ·cases h
  ·rename_i e
   rcases R6.mp z with z|z
   ·rw[z,beq_self_eq_true]at e;cases e
   ·exact tz h z
theorem BS{F F1:List (Str×W)}{g:Str->Option R3}{l:List T}{kk:Nat}(I:Fr X env cm m s)(M4:av { X with fs:=d0::X.fs } cm' (m2++RE kk (Zz (.l false l))) s'.heap)(xT:aH X.fs X.gs X.tb cm m s cm' (m2++RE kk (Zz (.l false l))) s')(l2:m.length+2<=m2.length)(dd:dead (m2.take (m.length+2)) m.length=true)(de:dead (m2.take (m.length+2)) (m.length+1)=true)(cd:cm'[m.length]?=Zz d0)(ce:cm'[m.length+1]?=Zz e0)(z0:s.heap.get? d0=Zy)(z1:s.heap.get? e0=Zy)(f0:d0∉X.fs)(f1:e0∉X.fs)(b0:X.base.get? d0=Zy)(b1:X.base.get? e0=Zy)(n4:ai cm' (m2++RE kk (Zz (.l false l))) e0)(O4:er s'.heap e0 d0 C g)(wi:UW g (F.map (·.1)))(hl:F.length<=1000)(h7:∀y,F.lookup y=Zy->g y=Zy)(h6:∀y w,F.lookup y=Zz w->D0 w=true/\∃w' u,g y=Zz u/\RW ⟨X.prog,X.w,d0::X.fs⟩ cm' (m2++RE kk (Zz (.l false l))) s'.heap w' u/\(w'=w/\(∃x,w=.t x)∨∃i,i<kk/\w=.c (m.length+2+i)/\w'=.c (m2.length+i))):
  ∃c2,aH X.fs X.gs X.tb cm m s c2 (((m2.take (m.length+2)).set m.length (Zz .d)).set (m.length+1) (Zz (.o C F))++RE kk (Zz (.l false l))) s'/\av X c2 (((m2.take (m.length+2)).set m.length (Zz .d)).set (m.length+1) (Zz (.o C F))++RE kk (Zz (.l false l))) s'.heap/\c2[m.length+1]?=Zz e0:=by
 have lc:=M4.len;rw[RD]at lc;have lt:(m2.take (m.length+2)).length=m.length+2:=by rw[Sm];omega
 have ltc:(cm'.take (m.length+2)).length=m.length+2:=by rw[Sm];omega
 have hg1:∀j,j<m.length+2->(if j<m.length+2 then j else m2.length+(j-(m.length+2)))=j:=λj h=>Yn h
 have hg2:∀j,¬j<m.length+2->(if j<m.length+2 then j else m2.length+(j-(m.length+2)))=m2.length+(j-(m.length+2)):=λj h=>Yo h
 have hm:∀j:Nat,(m2.take (m.length+2)++RE kk (Zz (Cl.l false l)))[j]?=(m2++RE kk (Zz (Cl.l false l)))[if j<m.length+2 then j else m2.length+(j-(m.length+2))]?:=λj=>by
  by_cases h:j<m.length+2
  ·rw[hg1 j h,RQ (by omega),RQ (by omega),Tw,Yn h]
  ·rw[hg2 j h,RV (by omega),RV (by omega),lt];congr 1;omega
 have hc:∀j:Nat,(cm'.take (m.length+2)++cm'.drop m2.length)[j]?=cm'[if j<m.length+2 then j else m2.length+(j-(m.length+2))]?:=λj=>by
  by_cases h:j<m.length+2
  ·rw[hg1 j h,RQ (by omega),Tw,Yn h]
  ·rw[hg2 j h,RV (by omega),List.getElem?_drop,ltc]
 have ins0:∀{j C F},(m2.take (m.length+2)++RE kk (Zz (Cl.l false l)))[j]?=Zz (Zz (.o C F))->j<m.length/\(m2++RE kk (Zz (Cl.l false l)))[j]?=Zz (Zz (.o C F)):=λ{j C F} e=>by
  by_cases h:j<m.length+2
  ·have q:=e
   rw[RQ (by omega)]at q;refine⟨?_,by rw[hm,hg1 j h]at e;exact e⟩;by_cases h1:j=m.length
   ·rw[h1,qf dd]at q;cases q
   ·by_cases h2:j=m.length+1
    ·rw[h2,qf de]at q;cases q
    ·omega
  ·rw[RV (by omega),Ti]at e
   split at e<;>cases e
 obtain⟨Ms,nls⟩:=M4.sel (cm':=cm'.take (m.length+2)++cm'.drop m2.length) (m':=m2.take (m.length+2)++RE kk (Zz (.l false l))) (λj=>if j<m.length+2 then j else m2.length+(j-(m.length+2)))
  (by rw[RD,RD,lt,ltc,Tc];omega) (λj p e=>⟨(hm j).symm.trans e,hc j⟩) (λi j p q _ _ h=>by
   by_cases h1:i<m.length+2<;>by_cases h2:j<m.length+2<;>simp only[h1,h2,if_true,if_false]at h<;>omega) (λj C F i e h d=>by
   have hj:=(ins0 e).1;simp only[show j<m.length+2 by omega,if_true]at h;exact⟨i,h,hg1 i (by omega),by rw[hm,hg1 i (by omega)];exact d⟩) λj C F y i a e z c=>by
   obtain⟨hj,e⟩:=ins0 e;have:=xT.fld I.mem hj e z;rw[hc,hg1 i (by omega)];exact c
 have ml:=I.mem.len;have at1:∀{α:Type}{l:List α}{j:Nat}{p:α},l[j]?=Zz p->j<l.length:=λe=>(R8.mp e).1
 have xS:aH X.fs X.gs X.tb cm m s (cm'.take (m.length+2)++cm'.drop m2.length) (m2.take (m.length+2)++RE kk (Zz (.l false l))) s':=xT.sel (λi a e=>by
  have:=at1 e;rw[hc,hg1 i (by omega)];exact xT.pre i a e) (by rw[RD,lt];omega) (λi l e=>by
  have:=at1 e;rw[hm,hg1 i (by omega)];exact xT.lent i l e) (λi C F h e=>xT.ob i C F h (ins0 e).2) nls
 have wD:∀j,dead (m2.take (m.length+2)) j=true->(m2.take (m.length+2)++RE kk (Zz (.l false l)))[j]?=Zz Zy:=λj h=>by
  have q:=qf h;have:=at1 q;rw[RQ this];exact q
 have ce':(cm'.take (m.length+2)++cm'.drop m2.length)[m.length+1]?=Zz e0:=by rw[hc,hg1 _ (by omega)];exact ce
 obtain⟨xF,MF⟩:=av.rev (n:=m.length) (F:=F) xS Ms (RO _) (wD _ dd) (wD _ de) (by rw[hc,hg1 _ (by omega)];exact cd) ce' z0 z1 f0 f1 b0 b1 (nls _ n4) O4 wi hl (λy w z=>by
  obtain⟨nx,w',u,gu,ru,alt⟩:=h6 y w z;refine⟨u,gu,?_,nx⟩;rcases alt with⟨rfl,x,rfl⟩|⟨i,hi,rfl,rfl⟩
  ·exact ru.gen nls λ_ _ z=>nomatch z
  ·obtain⟨a,q1,q2⟩:=ru
   refine⟨a,?_,q2⟩;rw[hc,hg2 _ (by omega),show m.length+2+i-(m.length+2)=i by omega];exact q1) h7
 rw[Uw _ _ (by omega),Uw _ _ (by rw[SI];omega)]at xF MF;exact⟨_,xF,MF,ce'⟩
theorem BM{ec:Mi.E}{sa:Mi.S}(F:AH B.K x qual st f fd)(S:ac N (slf::ps) (aa st))(bd:Binds B.K fd (slf::ps) [])(cl:FI B.K C)(r:fns[fi]?=Zz ⟨np,n,.dv ec sa .done .done,cell⟩)(hnp:np=ps.length+1)(hn:N.length=n)(M:Mk B.K C f)(nd:(ks.map (·.1)).Nodup)(na:∀q∈ks,cP B.K C q.1)(hz:ks.length<=1000)(hno:∀env m fl m',ex (az fns gv k) gv sa env m≠.ok fl m')(hb:∀(cd:R3) (A:SF) (sk:List SZ) (fs:List RB) (z:Nat),bI k (A.deeper (envOfC qual (aa st) z f cd))->∃c sA p l,aR st=.If c sA [] p::l/\PT (az fns gv k) gv (lF B N qual (aa st) f cd A sk fs z) c ec/\fW (az fns gv k) gv (lF B N qual (aa st) f cd A sk fs z) sA sa/\AM (az fns gv k) gv (lF B N qual (aa st) f cd A sk fs z) slf ks l/\∀p,PE (az fns gv k) gv (lF B N qual (aa st) f cd A sk fs z) (.Name slf p) (.var 0)):JA B fns gv (k+1) C fi ks:=by
 refine⟨f,M,?_⟩;subst hn hnp;rintro X rfl us hr env cm m s ws I rv Q J hp;obtain⟨oc,od,kV,doc,pm,an,cdv,ct,osl,rfl,lk,hcd⟩:=F.ex
 -- the new instance
 have z0:s.heap.get? s.heap.objs.size=Zy:=iX _;have z1:s.heap.get? (s.heap.objs.size+1)=Zy:=Rk (Tf _);have kp:∀b o,s.heap.get? b=Zz o->((s.heap.push VQ).push (Vu C s.heap.objs.size)).get? b=Zz o:=λb o e=>R7 _ (R7 _ e)
 have g1:((s.heap.push VQ).push (Vu C s.heap.objs.size)).get? s.heap.objs.size=Zz VQ:=R7 _ (RN s.heap rfl);have g2:((s.heap.push VQ).push (Vu C s.heap.objs.size)).get? (s.heap.objs.size+1)=Zz (Vu C s.heap.objs.size):=by
  have:=RN (s.heap.push VQ) (o:=Vu C s.heap.objs.size) rfl
  rwa [S3]at this
 have hsz:((s.heap.push VQ).push (Vu C s.heap.objs.size)).objs.size=s.heap.objs.size+2:=by rw[S3,S3]
 obtain⟨hp0,hh0⟩:∃hp0,hp0=(s.heap.push VQ).push (Vu C s.heap.objs.size):=⟨_,rfl⟩
 obtain⟨d0,hd0⟩:∃d0,d0=s.heap.objs.size:=⟨_,rfl⟩
 rw[<-hd0]at hh0;rw[<-hd0]at z0 z1 kp g1 g2 hsz ⊢;rw[<-hh0]at kp g1 g2 hsz ⊢;have O:er hp0 (d0+1) d0 C (λ_=>Zy):=⟨g2,⟨_,#[],_,g1,rfl,(λe he=>Ys he (by simp)),List.Pairwise.nil,λ_=>rfl⟩,(Wy d0).symm⟩
 have nfs:∀b,s.heap.get? b=Zy->b∉X.fs:=λb e hb=>by obtain⟨_,o,g,_⟩:=I.bF b hb;rw[e]at g;cases g
 have nbs:∀b,s.heap.get? b=Zy->X.base.get? b=Zy:=λb e=>by
  cases q:X.base.get? b with
  |none=>rfl
  |some o=>rw[I.bs _ _ q]at e;cases e
 obtain⟨X0,hX0⟩:∃X0:Cx,X0={ X with A:=X.A.under (.builtin "type.__call__" ⟨.ref C::us,[]⟩),fs:=d0::X.fs }:=⟨_,rfl⟩
 have nn0:∀b∈d0::X.fs,b∈X.fs∨s.heap.get? b=Zy:=λb hb=>(R6.mp hb).elim (λz=>.inr (z▸z0)) .inl
 have M0:av X0 cm m s.heap:=I.mem.fr (X:=X) (by rw[hX0]) (by rw[hX0];exact nn0) (λ_ _ e=>e) id;have tab0:X.Tab hp0:=I.ok.iz _ _ I.mem.tab λb o _=>kp b o
 have N0:=λch=>M0.Jk (s':={ s with heap:=hp0 }) (ch:=ch) (ms:=[Zy,Zy]) (as:=[d0,d0+1]) kp rfl rfl rfl (by simp[z0,z1]) (by simp) (by rw[hX0];exact tab0) λ_ i p a e _=>by
  rcases i with _|_|i<;>simp at e
 have ml:cm.length=m.length:=I.mem.len;have c0:(cm++[d0,d0+1])[m.length]?=Zz d0:=by rw[<-ml];simp
 have c1:(cm++[d0,d0+1])[m.length+1]?=Zz (d0+1):=by rw[<-ml,RV (Tf _)];simp
 have nle0:ai (cm++[d0,d0+1]) (m++[Zy,Zy]) (d0+1):=λi p q c=>by
  by_cases hi:i<m.length
  ·rw[RQ hi]at q
   rw[RQ (by omega)]at c;exact KL M0 z1 i p q c
  ·rw[RV (by omega)]at q
   rcases hj:i-m.length with _|_|j<;>rw[hj]at q<;>simp at q
 have ca:Ca X0 (cm++[d0,d0+1]) (m++[Zy,Zy]) { s with heap:=hp0 }:=by
  have M1:=(N0 []).2;subst hX0;refine⟨I.ok.mod,I.ok.frames,λe he=>(I.ok.pL e he).imp id λ⟨L,h1,h2⟩=>⟨L,R4 _ h1,h2⟩,I.ok.tab,I.ok.iz,I.ok.rW,M1,I.bare,λb o e=>kp b o (I.bs b o e),λb hb=>?_⟩;rcases R6.mp hb with rfl|hb
  ·exact⟨nbs _ z0,_,g1,(λv z=>nomatch z),λhb=>Ys z0 (I.nR hb)⟩
  ·obtain⟨q1,o,q2,q3⟩:=I.bF b hb
   exact⟨q1,o,kp _ _ q2,q3⟩
 have rv0:sr X0.D (cm++[d0,d0+1]) (m++[Zy,Zy]) hp0 (.c (m.length+1)::ws) (.ref (d0+1)::us):=by
  have x0:=(N0 []).1;refine .cons ⟨d0+1,c1,rfl⟩ (Al.mp (R:=RW X0.D cm m s.heap) ?_ λ_ _ r=>r.go x0.toExtK M0 Nq.nil);rw[hX0];exact rv.mp λ_ _ r=>r.fr nn0 λ_ _ e=>e
 subst hX0
 -- the call
 rw[az,r]at hp;dsimp only at hp;by_cases hl:(W.c (m.length+1)::ws).length=ps.length+1
 rotate_left
 ·rw[Yo hl]at hp;exact hp.elim
 rw[Yn hl,a9]at hp;have hlu:(TR (d0+1)::us).length=(slf::ps).length:=by rw[<-rv0.1];exact hl
 have gO:X.K.In hp0:=I.gO.keeps kp;have lim:hp0.NoLimit:=I.ok.mod.nolimit.keeps λb o e=>kp b o (I.bs b o e)
 have hkind:∀y∈(slf::ps).zip (TR (d0+1)::us),(aa st).names.lookup y.1=Zz .local∨((aa st).names.lookup y.1=Zz .cell/\((V2 (hp0.objs.size+1) (aa st).names []).lookup y.1).isSome=true):=λ⟨n,v⟩ hy=>by
  rcases S.HI n (Uh hy).1 with q|q
  ·exact .inl q
  ·exact .inr ⟨q,WR _ _ _ (.inl q)⟩
 have hbd:=bd { s with heap:=hp0 } (TR (d0+1)::us) gO (by simpa using hlu);rw[Rh]at hbd;refine codeAny_call_function hr.depth (gO _ _ lk) rfl S.co S.gen rfl (PySem.W.codeRec_of gO hcd) (hbd _ _ _ _ ?_)
 refine wpAny_newFunctionEnv_cells S.kind hkind λenv1 he s1 x=>?_
 subst he;refine⟨lim.keeps x.toInCall.keep,codeAny_func ?_⟩;have I1:=wG (X:={ X with A:=X.A.under (.builtin "type.__call__" ⟨.ref C::us,[]⟩),fs:=d0::X.fs }) S hr.hd ca hlu rv0 x;have xab:=λy b h=>x.above y b h
 obtain⟨h1,tk,rfl,hk⟩:=x.done;obtain⟨cc,sA,p0,l,hbody,hc,hA,hl2,hself⟩:=hb cdv (X.A.under (.builtin "type.__call__" ⟨.ref C::us,[]⟩)) X.stack (d0::X.fs) hp0.objs.size (hr.deeper _);have kpA:∀b o,s.heap.get? b=Zz o->h1.get? b=Zz o:=λb o e=>hk b o (kp b o e)
 rw[hbody];have gone:∀b,d0<=b->s.heap.get? b=Zy:=λb hb=>Rk (hd0▸hb)
 have hown:∀b∈(lF X.toBs N qual (aa st) f cdv (X.A.under (.builtin "type.__call__" ⟨.ref C::us,[]⟩)) X.stack (d0::X.fs) hp0.objs.size).own,b∈X.tb∨d0+2<=b:=λb hb=>by
  rcases R6.mp hb with hz'|hb
  ·exact .inr (by rw[hz'];exact UD hsz.symm)
  ·rcases SM.mp hb with hb|hb
   ·exact .inl hb
   ·obtain⟨y,_,h2⟩:=kW.mp hb
    exact .inr (Sb ((hsz▸xab y b (Sf h2))))
 have GM:∀b,s.heap.get? b=Zy->b∉X.tb:=λb e hb=>by obtain⟨o,e'⟩:=I.ok.rW _ I.mem.tab b hb;rw[e]at e';cases e'
 have dno:d0∉(lF X.toBs N qual (aa st) f cdv (X.A.under (.builtin "type.__call__" ⟨.ref C::us,[]⟩)) X.stack (d0::X.fs) hp0.objs.size).own:=λhb=>(hown _ hb).elim (GM _ z0) λz=>Nat.not_succ_le_self _ (Wa z)
 have eno:d0+1∉(lF X.toBs N qual (aa st) f cdv (X.A.under (.builtin "type.__call__" ⟨.ref C::us,[]⟩)) X.stack (d0::X.fs) hp0.objs.size).own:=λhb=>(hown _ hb).elim (GM _ z1) λz=>Nat.not_succ_le_self _ z
 have fst:∀b,s.heap.get? b=Zy->b≠hp0.objs.size->b∉frs (lF X.toBs N qual (aa st) f cdv (X.A.under (.builtin "type.__call__" ⟨.ref C::us,[]⟩)) X.stack (d0::X.fs) hp0.objs.size).stack:=λb e ne hb=>by
  rcases R6.mp (show b∈hp0.objs.size::frs X.stack from hb)with z|z
  ·exact ne z
  ·exact I.nR z e
 have up0:∀{ch' c m2 t},(∀b∈ch',b∉X.tb->d0<=b)->aH (hp0.objs.size::(d0::X.fs)) (hp0.objs.size::X.gs) ch' (cm++[d0,d0+1]) (m++[Zy,Zy]) { s with heap:=h1,toks:=tk } c m2 t->aH (hp0.objs.size::(d0::X.fs)) (hp0.objs.size::X.gs) X.tb cm m s c m2 t:=λ{ch' c m2 t} hch x=>by
  have a:=(N0 ch').1.fr (fs:=hp0.objs.size::(d0::X.fs)) (gs:=hp0.objs.size::X.gs) (λb h=>.inl (R4 _ h)) (λb h=>.inl (R4 _ h));exact((a.trans (aH.kept (d:=s.drawn) hk)).trans x).weak (ch':=X.tb) λb hb n=>gone b (hch b hb n)
 have upf:∀{c m2 t},aH (hp0.objs.size::(d0::X.fs)) (hp0.objs.size::X.gs) X.tb cm m s c m2 t->aH X.fs X.gs X.tb cm m s c m2 t:=λx=>by
  refine x.fr (λb hb=>?_) λb hb=>?_
  ·rcases R6.mp hb with z|hb
   ·exact .inr (gone b (by rw[z,hsz];exact Uy _ _))
   ·exact nn0 b hb
  ·rcases R6.mp hb with z|hb
   ·exact .inr (gone b (by rw[z,hsz];exact Uy _ _))
   ·exact .inl hb
 have hup:∀b∈(lF X.toBs N qual (aa st) f cdv (X.A.under (.builtin "type.__call__" ⟨.ref C::us,[]⟩)) X.stack (d0::X.fs) hp0.objs.size).own,b∉X.tb->d0<=b:=λb hb n=>(hown b hb).elim (λz=>Ys z n) λz=>Rg (Uy _ _) z
 refine Hg hc hA PassesOwn.leaving I1 ?_;have lN:N.length-(ps.length+1)=N.length-(slf::ps).length:=rfl;rw[lN]at hp;cases eb:ex (az fns gv k) gv (.dv ec sa .done .done) ((W.c (m.length+1)::ws).map Zz++RE (N.length-(slf::ps).length) Zy) (m++[Zy,Zy])with
 |stuck=>rw[eb]at hp;exact hp.elim
 |exc y m2 =>
  rw[eb]at hp;rintro v c t xY MY ⟨_,e,dx,rfl,h1',h2,h3⟩;unfold leaving;refine R0 (land (X:=lF X.toBs N qual (aa st) f cdv (X.A.under (.builtin "type.__call__" ⟨.ref C::us,[]⟩)) X.stack (d0::X.fs) hp0.objs.size) MY h2 h3 I1.ok (Uv I.ok.frames) rfl (I1.Lc xY.thr) rfl λh' Ld=>?_);have ne:s.heap.get? e=Zy:=by
   cases q:s.heap.get? e with
   |none=>rfl
   |some o=>rw[kpA _ _ q]at h1';cases h1'
  have xt:=upf ((up0 hup xY).mK Ld.ext (λb hb=>by rw[RH.mp hb];exact ne) λb o _ q=>Ld.thr b o q);have dn:=Ld.mem.fr (X:=lF X.toBs N qual (aa st) f cdv (X.A.under (.builtin "type.__call__" ⟨.ref C::us,[]⟩)) X.stack (d0::X.fs) hp0.objs.size) (Y:=X) rfl (λb h=>.inl (R4 _ (R4 _ h))) (λ_ _ e=>e) id;exact hp (.ref e) c _ xt dn ⟨⟨_,I.go xt.toExtK dn I.nc⟩,e,dx,rfl,ne,Ld.xp,Ld.xf.fr (f':=X.fs) (λb h=>.inl (R4 _ (R4 _ h))) λ_ _ e=>e⟩
 |ok fl m2 =>
  obtain rfl:=BB hno eb;rw[eb]at hp;intro c t xY MY I2;have n':(m++[Zy,Zy]:Mem).length=m.length+2:=by simp
  have hp:ak X X.tb cm m s (IP C ks ws m.length (m2.take (m.length+2))) J (WK X Q):=by rw[<-n'];exact hp
  unfold IP at hp;cases eF:Bk ws ks (m.length+2)with
  |none=>rw[eF]at hp;exact hp.elim
  |some F =>
   rw[eF]at hp;obtain⟨⟨dd,de⟩,hp⟩:=im hp;obtain⟨F1,eF1,hF1⟩:=uq (b':=m2.length) eF;have O':er h1 (d0+1) d0 C (λ_=>Zy):=by
    obtain⟨o,es,ep,e,q⟩:=O.ns;exact⟨hk _ _ O.obj,⟨o,es,ep,hk _ _ e,q⟩,O.ne⟩
   have nz0:d0≠hp0.objs.size:=by rw[hsz];exact(Rd (Nat.lt_add_of_pos_right (by decide)))
   have nz1:d0+1≠hp0.objs.size:=by rw[hsz];exact(Rd (TY _))
   have hdm:d0∈(lF X.toBs N qual (aa st) f cdv (X.A.under (.builtin "type.__call__" ⟨.ref C::us,[]⟩)) X.stack (d0::X.fs) hp0.objs.size).fs:=R4 _ R9;obtain⟨O1,nle1⟩:=er.keep xY.toExtK I1 O' eno dno nle0 hdm (fst _ z0 nz0) (fst _ z1 nz1);have l2:m.length+2<=m2.length:=n'▸xY.len;refine BO (Y:=lF X.toBs N qual (aa st) f cdv (X.A.under (.builtin "type.__call__" ⟨.ref C::us,[]⟩)) X.stack (d0::X.fs) hp0.objs.size) (F:=F1) cl hdm dno (fst _ z0 nz0) (fst _ z1 nz1) hself (z:=m.length+1) (e0:=d0+1) rfl (λj x hj=>?_) hl2 nd na I2 (xY.pre _ _ c1) nle1 O1 (PySem.Within.of_none λ_=>rfl) (by simpa using hz) eF1 λcm' s' g' x4 I4 n4 O4 hg h8=>?_
   ·rw[Rf,List.cons_append,List.getElem?_cons_succ,RQ (by rw[R2];exact(R8.mp hj).1),RR,hj];rfl
   ·refine⟨rfl,?_⟩
    have xT:=upf (up0 (λb hb n=>(R6.mp hb).elim (λz=>UD z.symm) λz=>hup b z n) ((xY.sub λb hb=>R4 _ hb).trans x4));have M4:=I4.mem.fr (X:=lF X.toBs N qual (aa st) f cdv (X.A.under (.builtin "type.__call__" ⟨.ref C::us,[]⟩)) X.stack (d0::X.fs) hp0.objs.size) (Y:={ X with fs:=d0::X.fs }) rfl (λb h=>.inl (R4 _ h)) (λ_ _ e=>e) id;have keys:=k9 eF;obtain⟨c2,xF,MF,ce⟩:=BS (F:=F) (F1:=F1) I M4 xT l2 dd de (x4.pre _ _ (xY.pre _ _ c0)) (x4.pre _ _ (xY.pre _ _ c1)) z0 z1 (nfs _ z0) (nfs _ z1) (nbs _ z0) (nbs _ z1) n4 O4 (λy hy=>by
     rw[keys];exact Classical.byContradiction λn=>hy (hg y n)) (by rw[<-R2 (f:=(·.1)),keys,R2];exact hz) (λy z=>hg y (keys▸tz z)) λy w z=>by
     obtain⟨nx,w',l',alt⟩:=hF1 y w z;obtain⟨u,gu,ru⟩:=h8 y w' l';exact⟨nx,w',u,gu,RW.fr (λb h=>.inl (R4 _ h)) (λ_ _ e=>e) ru,alt⟩
    exact hp.to xF MF _ ⟨_,ce,rfl⟩
end
section
variable{B:Bs}{C n k fi np:Nat}{f:RB}{fns:List Fn}{gv:List T}{nm x qual:Str}{st:S5}{fd:TX}{N ps nms:List Str}{cell:Bool}{ks:List (Str×Ik)}{body:Mi.S}{A:SF}{call:Nat->List W->Mem->Res W}{c:Nat}{es:Es}{kk:Mi.S}
theorem bI.new(r:bI (k+1) A){e:SZ}(us:List R3):bI k ((A.deeper e).under (.builtin "type.__call__" ⟨.ref C::us,[]⟩)):=
 ⟨r.hd,by have:=r.dp;rw[xN];show A.depth+1+1+3*k+5<_;omega,by have:=r.un;rw[xM];show A.units+3+1+16*k+200<_;omega⟩
theorem Hm(F:AH B.K x qual st f fd)(m:Meth B.K C nm f)(b:Binds B.K fd ps [])(S:ac N ps (aa st))(r:fns[fi]?=Zz ⟨np,n,body,cell⟩)(hnp:np=ps.length)(hn:N.length=n)(hb:∀(cd:R3) (A:SF) (sk:List SZ) (fs:List RB) (z:Nat),bI k (A.deeper (envOfC qual (aa st) z f cd))->Bd (az fns gv k) gv (lF B N qual (aa st) f cd A sk fs z) (aR st) body):oQ B fns gv (k+1) C nm fi:=
 let q:=vi F S r hnp hn λcd _ A sk fs z h=>(hb cd A sk fs z (h.deeper _)).h
 ⟨f,fd,ps,m,b,q.1,q.2⟩
theorem Dl(m:Meth B.K C nm f)(b:Binds B.K fd ps []):oQ B fns gv 0 C nm fi:=⟨f,fd,ps,m,b,λ_ _=>.inl rfl,λX _ _ cm m s _ _ _ _ _ _ _ _ Q J h=>by rw[az]at h;exact h.elim⟩
theorem CJ(m:Mk B.K C f):JA B fns gv 0 C fi ks:=⟨f,m,λX _ us _ env cm m s ws _ _ Q J h=>by rw[az]at h;exact h.elim⟩
end
section
variable{X:Cx}{z:Bool}{call:Nat->List W->Mem->Res W}{gv:List T}{a b e:S4}{es ts:List S4}{E:Mi.E}{L:Es}{pos p tp:Pos}
theorem AT{kk}(hg:Gl X "enumerate")(hm:X.mg "enumerate" = Zy)(ha:PA call gv X [a] L)(hs:notStar a=true:=by rfl):PI call gv z X (.Tuple ts kk tp) (.Call (.Name "enumerate" p) [a] [] pos) (.enc L):=Do (fp1:=λit=>[it,it-1]) (λ_=>.inr ⟨_,_,_,rfl⟩) (λ_ _=>rfl) λenv cm m s I α f k Q J hp q=>by
 rw[D5,a9]at hp;refine Call_ (dy I hg hm (show UE "enumerate" = Zz (.type "enumerate")from by decide +kernel) (Ss (ha.gI I hp λws us c1 m1 s1 I1 x1 r o=>?_) (bu hs) rfl));unfold Ir at o;split at o
 rotate_left
 ·exact o.elim
 rename_i i;obtain⟨v,rfl,a1,q1,rfl⟩:=uh r;have o2:ak X X.own c1 m1 s1 ((aL (.e i) m1).bind λts m2=>f (.e i) ts m1 m2) J k:=o;cases eb:aL (.e i) m1 with
 |stuck=>rw[eb]at o2;exact o2.elim
 |exc x m'=>unfold aL at eb;dsimp only at eb;split at eb<;>cases eb
 |ok us m2 =>
  rw[eb]at o2;obtain⟨_,Ib⟩:=cL (ch:=[]) I1 eb;have hx:∃l,us=kK l/\SrcL X c1 m2 s1.heap a1 l:=by
   unfold aL at eb;dsimp only at eb;split at eb<;>cases eb;exact⟨_,rfl,.rI (Ri (R8.mp ‹_›).1) q1⟩
  obtain⟨l,rfl,sl⟩:=hx;obtain⟨x,hx,_,_⟩:=sl.now Ib.mem;refine call_enumerate_list hx λg hE hI hsz hk=>We hE ?_
  have u:=λch=>Ib.up (g:=g) (t:=s1.toks) (d:=s1.drawn) (ch:=ch) hk
  refine q _ _ c1 m1 m2 s1 _ _ x1 I1 eb o2 (λch=>(u ch).1) (u []).2 (.BA (Wy _) hE hI (sl.go (u []).1.toExtK (λ_ _ h=>h) Ib.mem Nq.nil) rfl) λb hb=>?_
  refine Rk ?_;rcases R6.mp hb with rfl|hb
  ·exact Tf _
  ·rw[RH.mp hb];exact RO _
end
end Mi
section
set_option maxHeartbeats 1000000
namespace Mi
open PySem PySem.Spec PyProof.Rows
noncomputable def cZ:List Str:=["row_of","first_meeting"]
noncomputable def iU(q:Str):Str:=(q++".<locals>.")++"<lambda>"
noncomputable def fb(o:Obj):Option (Str×RB):=match o.data with
 |.fields vs=>match vs[1]?,vs[11]? with
  |some (YH q _),Zz (TR P)=>if cZ.contains q then Zz (q,P)else Zy
  |_,_=>Zy
 |_=>Zy
def nY(K:To)(q:Str)(P:RB):Prop:=∃c o,K.lookup c=Zz o/\fb o=Zz (q,P)/\K.lookup P=Zy
def H9(q:Str)(h:Rm)(ps:Array R3):Prop:=XY ps.toList/\∀pos cv,Wz pos ps.toList=Zz cv->h.CodeRec cv (iU q)
def vT(K:To)(tb:List RB)(base h:Rm):Prop:=(∀P∈tb,base.get? P=Zy/\∃ps,h.get? P=Zz (tabObj ps)/\XY ps.toList)/\∀q P,nY K q P->P∈tb/\∃ps,h.get? P=Zz (tabObj ps)/\H9 q h ps
structure wQ (X:Bs):Prop where
 tab:X.Tab=vT X.K X.tb X.base
 Ih:∀q q' P,nY X.K q P->nY X.K q' P->q=q'
 hd:∀c q,codeIn X.K (.ref c) q=true->cZ.contains q=true->∃P,WT X.K c P=true/\nY X.K q P
theorem CodeRec.go{h h':Rm}{cv:R3}{q:Str}(c:h.CodeRec cv q)(k:∀b o,Kc o->h.get? b=Zz o->h'.get? b=Zz o):h'.CodeRec cv q:=by
 obtain⟨a,o,vs,t,e,g,d,n⟩:=c;exact⟨a,o,vs,t,e,k a o ⟨vs,q,t,d,n⟩ g,d,n⟩
theorem vT.nc{K:To}{tb:List RB}{base h:Rm}(T:vT K tb base h):Nc base tb h:=λb hb=>by
 obtain⟨n,ps,e,_⟩:=T.1 b hb;refine⟨n,λo g=>?_⟩;rw[e]at g;cases g;exact⟨⟨_,rfl⟩,λ_ z=>(by cases z),λz=>by cases z⟩
theorem vT.go{K:To}{tb:List RB}{base h h':Rm}(T:vT K tb base h)(k:∀b o,b∈tb∨Kc o->h.get? b=Zz o->h'.get? b=Zz o):vT K tb base h':=
 ⟨λP hP=>(T.1 P hP).imp id λ⟨ps,e,t⟩=>⟨ps,k _ _ (.inl hP) e,t⟩,λq P i=>by
  obtain⟨hP,ps,e,t,c⟩:=T.2 q P i;exact⟨hP,ps,k _ _ (.inl hP) e,t,λpos cv z=>CodeRec.go (c pos cv z) λb o kc=>k b o (.inr kc)⟩⟩
theorem yH{pos:Pos}{a b:Int}{c v:R3}(l:List R3)(h:XY l)(e:Wz pos (l++[rawInt a,rawInt b,c])=Zz v):Wz pos l=Zz v∨v=c:=by
 fun_induction XY l with
 |case1 =>
  simp only[Uf,rawInt,Wz]at e;split at e
  ·cases e;exact .inr rfl
  ·cases e
 |case2 a' t b' u x rest ih =>
  simp only[List.cons_append,Wz]at e ⊢;split at e
  ·rename_i q
   cases e;rw[Yn q];exact .inl rfl
  ·rename_i q
   rw[Yo q];exact ih h e
 |case3 l h1 h2=>exact h.elim
theorem qo:∀{l:List R3}{x:Str}{t:Tok},XY l->l[1]?≠Zz (.str x t)
 |[],_,_,_,z=>by simp at z
 |.int _ _::.int _ _::_::rest,_,_,_,z=>by simp at z
theorem Fr.code{X:Cx}{env:Mi.Env}{cm cm':List RB}{m m':Mem}{s s':RA}{cv:R3}{q:Str}(I:Fr X env cm m s)(LK:wQ X.toBs)(c:s.heap.CodeRec cv q)(x:aH X.fs X.gs ch cm m s cm' m' s')(w:∀b∈ch,b∈X.tb∨b∈X.fs):s'.heap.CodeRec cv q:=by
 obtain⟨a,o,vs,t,e,g,d,n⟩:=c;have nf:a∉X.fs:=λz=>by
  obtain⟨_,o',g',k⟩:=I.bF a z;rw[g]at g';cases g';exact k.1 _ d
 have nt:a∉X.tb:=λz=>by
  have TT:=I.mem.tab;rw[show X.Tab=_ from LK.tab]at TT;obtain⟨_,ps,g',k⟩:=TT.1 a z;rw[g]at g';cases g';cases d;exact qo k (by simpa using n)
 have nl:ai cm m a:=uR I.mem g d;obtain⟨_,o',g',r⟩:=x.keep a o g (λz=>(w a z).elim nt nf) nl;rcases r with rfl|⟨r,_⟩
 ·exact⟨a,_,vs,t,e,g',d,n⟩
 ·exact Ys r nf
section
variable{X:Cx}{env:Mi.Env}{cm:List RB}{m m':Mem}{s:RA}{params:XX}{body:S4}{scope:UR}{pos:Pos}{q y:Str}{cl:List (Str×RB)}{Q:R3->RA->Prop}{f:RB}{pm cv ct x:R3}{w w':W}{call:Nat->List W->Mem->Res W}{gv:List T}{eb:Mi.E}{N':List Str}{keep:List Nat}{tk:Nat}{h₁:Rm}
noncomputable abbrev mX(q:Str)(params:XX)(body:S4)(scope:UR)(cl:List (Str×RB))(pm cv ct:R3):Obj:={ cls:=.type "function",data:=.func (kla_fn "<lambda>" (iU q) params body scope cl pm cv ct) }
theorem Ee{E:R3->RA->Prop}(I:Fr X env cm m s)(LK:wQ X.toBs)(hq:X.env.qual=q++".<locals>.")(hn:cZ.contains q=true)(hcd:codeIn X.K X.env.code q=true)(hdef:YE params X.env=([],[]))(hcl:YD scope X.env=pure cl)(h:∀f pm cv ct s',aH X.fs X.gs X.tb cm m s cm m s'->Fr X env cm m s'->s.heap.get? f=Zy->s'.heap.get? f=Zz (mX q params body scope cl pm cv ct)->s'.heap.CodeRec cv (iU q)->Q (.ref f) s'):
  RF X.M X.A (eval (.Lambda params body scope pos) X.env) Q E s:=by
 obtain⟨c,hc⟩:∃c,X.env.code=.ref c:=by
  cases e:X.env.code with
  |ref c=>exact⟨c,rfl⟩
  |_=>rw[e]at hcd;cases hcd
 rw[hc]at hcd;obtain⟨P,hP,hT⟩:=LK.hd c q hcd hn;have TT:=I.mem.tab;rw[show X.Tab=_ from LK.tab]at TT;obtain⟨htb,ps,gP,ht⟩:=TT.2 q P hT;have CH:PySem.W.CodeHd s.heap c P:=PySem.W.codeHd_of_K I.gO hP;have hg:s.heap.Ns RU X.mg:=I.ok.mod.glob.keeps I.bs;have hgP:RU≠P:=λz=>by
  obtain⟨o,es,ep,e,hd,_⟩:=hg;rw[z,gP]at e;cases e;cases hd
 obtain⟨bm,ob,b1,b2,b3,b4,b5,b6⟩:=I.ok.mod.bm;have b3':=I.bs _ _ b3;have hbP:bm≠P:=λz=>by rw[z,gP]at b3';cases b3';cases b4
 have hbG:bm≠RU:=λz=>by
  obtain⟨o,es,ep,e,hd,_⟩:=hg;rw[z,e]at b3';cases b3';rw[hd]at b6;cases b6
 have hb:s.heap.BuiltinsAt X.mg P:=⟨bm,ob,b1,b2,hbG,hbP,b3',b4,b5,b6⟩
 refine PySem.W.kla_eval hdef ?_;have eq:X.env.qual++"<lambda>" = iU q:=by rw[hq];rfl
 rw[eq];have gone:∀b,s.heap.objs.size<=b->s.heap.get? b=Zy:=λb hb=>Rk hb
 cases hca:Wz pos ps.toList with
 |some cv =>
  refine PySem.W.kla_makeFunctionHit hcl I.ok.glob hg hc CH gP ht.1 hca hb λctv h' tk hk hz=>?_
  have kp:∀b o,s.heap.get? b=Zz o->(h'.push (mX q params body scope cl ((X.mg "__name__").getD .none) cv ctv)).get? b=Zz o:=λb o e=>R7 _ (hk b o e)
  obtain⟨x1,I1⟩:=I.up (t:=tk) (d:=s.drawn) (ch:=X.tb) kp;exact h _ _ _ _ _ x1 I1 (gone _ hz) (RN _ rfl) (CodeRec.go (ht.2 pos cv hca) λb o _=>kp b o)
 |none =>
  refine PySem.W.kla_makeFunction hcl I.ok.glob hg hc CH gP ht.1 hca hgP hb λc' ctv h' tk hx hge hlt hrec htb'=>?_
  have hz:s.heap.objs.size<=h'.objs.size:=Rg hge (Sb hlt);generalize hfo:PySem.W.kla_obj "<lambda>" (iU q) params body scope cl ((X.mg "__name__").getD .none) c' ctv=fo;have kp:∀b o,b≠P->s.heap.get? b=Zz o->(h'.push fo).get? b=Zz o:=λb o n e=>R7 _ (hx b o n e)
  have x1:aH X.fs X.gs X.tb cm m s cm m { s with heap:=h'.push fo,toks:=tk }:=.heap (λb o n e=>kp b o (λz=>n (z▸htb)) e) λb n o e=>by
   by_cases z:b=P
   ·subst z;rw[gP]at e;cases e
    exact⟨_,R7 _ htb',λn=>Ys rfl (n _),λ_ _ _ z=>nomatch z⟩
   ·exact⟨o,kp b o z e,.r⟩
  have kc:∀b o,Kc o->s.heap.get? b=Zz o->(h'.push fo).get? b=Zz o:=λb o ⟨v,a,t,d,n⟩ e=>kp b o (λz=>by
   rw[z,gP]at e;cases e;cases d;exact qo ht.1 (by simpa using n)) e
  have hrec':(h'.push fo).CodeRec (.ref c') (iU q):=CodeRec.go hrec λb o _ e=>R7 _ e
  have T':X.Tab (h'.push fo):=by
   rw[show X.Tab=_ from LK.tab];refine⟨λb hb=>?_,λq' P' i=>?_⟩
   ·obtain⟨n,qs,e,t⟩:=TT.1 b hb
    by_cases z:b=P
    ·exact⟨n,_,by rw[z];exact R7 _ htb',by simpa using TriplesOk_snoc pos.line pos.col (.ref c') ps.toList ht.1⟩
    ·exact⟨n,_,kp _ _ z e,t⟩
   ·obtain⟨n,qs,e,t,k⟩:=TT.2 q' P' i
    refine⟨n,?_⟩;by_cases z:P'=P
    ·subst z
     obtain rfl:=LK.Ih _ _ _ hT i;refine⟨_,R7 _ htb',by simpa using TriplesOk_snoc pos.line pos.col (.ref c') ps.toList ht.1,λpos' cv e=>?_⟩;rcases yH _ ht.1 (by simpa using e)with e|rfl
     ·exact CodeRec.go (ht.2 pos' cv e) kc
     ·exact hrec'
    ·exact⟨_,kp _ _ z e,t,λpos' cv e=>CodeRec.go (k pos' cv e) kc⟩
  have M:=I.mem.go I.nc.q x1.toExtK (λb o n e=>kp b o (λz=>n (z▸htb)) e) T';subst hfo;exact h _ _ _ _ _ x1 (I.go x1 M I.nc) (gone _ hz) (RN _ rfl) hrec'
noncomputable abbrev om(X:Cx)(N':List Str)(q:Str)(scope:UR)(cl:List (Str×RB))(f:RB)(cv:R3)(n:RB):Cx:=
 { X with A:=X.A.in1.in1.deeper (envX (iU q) scope n f cv cl),N:=N',env:=envX (iU q) scope n f cv cl,stack:=envX (iU q) scope n f cv cl::X.stack,fs:=n::X.fs,fn:=λ_=>false }
structure te (X:Cx) (y:Str) (scope:UR):Prop where
 kind:scope.kind=.function
 co:scope.isCoroutine=false
 gen:scope.isGenerator=false
 xL:∀x∈scope.names,x.2≠.cell
 HI:scope.names.lookup y=Zz .local
 look:∀p∈scope.names,scope.names.lookup p.1=Zz p.2
 free:∀x,(x,Rt)∈scope.names->X.env.kindOf x=Zz .cell∨X.env.kindOf x=Zz .free
noncomputable def stK(keep:List Nat)(env:Mi.Env):Mi.Env:=keep.map λi=>(env[i]?).join
theorem A0(I:Fr X env cm m s)(S:te X y scope)(hcl1:∀x c,cl.lookup x=Zz c->X.env.cells.lookup x=Zz c)(hcl2:∀x,(x,Rt)∈scope.names->∃c,cl.lookup x=Zz c)(rx:RW X.D cm m s.heap w x)(hy:N'[0]?=Zz y)(hown:N'.length=1+keep.length)(hkeep:∀(i:Nat) x,N'[1+i]?=Zz x->∃j,keep[i]?=Zz j/\X.N[j]?=Zz x/\(x,Rt)∈scope.names)(hns:∃g,h₁.Ns s.heap.objs.size g/\g y=Zz x)(hk:∀b o,s.heap.get? b=Zz o->h₁.get? b=Zz o):
  Fr (om X N' q scope cl f cv s.heap.objs.size) (Zz w::stK keep env) cm m { s with heap:=h₁,toks:=tk }:=by
 have gone:∀b,s.heap.objs.size<=b->s.heap.get? b=Zy:=λb hb=>Rk hb
 have nb:∀b,s.heap.get? b=Zy->X.base.get? b=Zy:=λb hb=>by
  cases q:X.base.get? b with
  |none=>rfl
  |some o=>rw[I.bs _ _ q]at hb;cases hb
 have nn:∀b∈s.heap.objs.size::X.fs,b∈X.fs∨s.heap.get? b=Zy:=λb hb=>(R6.mp hb).elim (λz=>.inr (gone b (by rw[z];exact RO _))) .inl
 obtain⟨g,hns,gy⟩:=hns;obtain⟨oN,_,_,eN,dN,_⟩:=id hns;refine⟨⟨I.ok.mod,S.kind,rfl,rfl,λa b c h1 h2=>I.ok.inj a b c (hcl1 a c h1) (hcl1 b c h2),λz hz=>?_,λh=>I.ok.hd h,Uv I.ok.frames,λe he=>?_,R9,λz c h=>I.ok.cb z c (hcl1 z c h),I.ok.tab,I.ok.iz,I.ok.rW⟩,
  I.mem.fr (X:=X) rfl nn hk λT=>I.ok.iz _ _ T λb o _=>hk b o,I.bare,λb o e=>hk b o (I.bs b o e),⟨_,hns,λi z u h1 h2 h3=>?_⟩,λz c h=>?_,λb hb=>?_,?_⟩
 ·have hz:scope.names.lookup z=Zz .cell∨scope.names.lookup z=Zz .free:=hz
  rcases hz with hz|hz
  ·exact Ys rfl (S.xL _ (Sf hz))
  ·exact hcl2 z (Sf hz)
 ·rcases R6.mp he with rfl|he
  ·exact⟨by rw[show(envX (iU q) scope s.heap.objs.size f cv cl).scope.kind=scope.kind from rfl,S.kind];decide,_,R9,rfl⟩
  ·exact(I.ok.pL e he).imp id λ⟨L,h1,h2⟩=>⟨L,R4 _ h1,h2⟩
 ·cases i with
  |zero =>
   have e1:z=y:=by rw[show(om X N' q scope cl f cv s.heap.objs.size).N[0]?=N'[0]? from rfl,hy]at h1;exact(SY h1).symm
   have e2:u=w:=by have h2:Zz (Zz w)=Zz (Zz u):=h2;cases h2;rfl
   subst e1;subst e2;exact⟨x,rx.fr nn hk,.inl ⟨S.HI,gy⟩⟩
  |succ i =>
   obtain⟨j,q1,q2,q3⟩:=hkeep i z (by rw[Nat.add_comm];exact h1);have h2:(stK keep env)[i]?=Zz (Zz u):=h2;unfold stK at h2;rw[RR,q1]at h2;have e3:(env[j]?).join=Zz u:=SY h2;have e4:env[j]?=Zz (Zz u):=by
    cases r:env[j]? with
    |none=>rw[r]at e3;cases e3
    |some o=>rw[r]at e3;exact congrArg Zz e3
   obtain⟨m0,hn0,hl0⟩:=I.loc;have kx:=S.free z q3;obtain⟨v,ru,lu⟩:=hl0 j z u q2 e4 (kx.elim (λz=>.inr (.inl z)) λz=>.inr (.inr z));obtain⟨c,ec,ic⟩:∃c,X.env.cells.lookup z=Zz c/\s.heap.IsCell c v:=by
    rcases lu with⟨q,_⟩|⟨_,c,q1,q2⟩
    ·rcases kx with k|k
     ·rw[k]at q;cases q
     ·rw[k]at q;cases q
    ·exact⟨c,q1,q2⟩
   obtain⟨c',ec'⟩:=hcl2 z q3;obtain rfl:c'=c:=by have:=hcl1 z c' ec';rw[ec]at this;exact(SY this).symm
   obtain⟨o,ho,hd⟩:=ic;exact⟨v,ru.fr nn hk,.inr ⟨.inr (S.look _ q3),c',ec',o,hk _ _ ho,hd⟩⟩
 ·obtain⟨v,o,ho,hd⟩:=I.cell z c (hcl1 z c h)
  exact⟨v,o,hk _ _ ho,hd⟩
 ·rcases R6.mp hb with rfl|hb
  ·exact⟨nb _ (gone _ (RO _)),oN,eN,(λv z=>by rw[dN]at z;cases z),λ_ x n z=>by rw[dN]at z;cases z⟩
  ·obtain⟨g,o,e,n⟩:=I.bF b hb
   refine⟨g,o,hk _ _ e,n.1,λz=>n.2 ?_⟩;obtain⟨en,z1,z2⟩:=Ta.mp z;rcases R6.mp z1 with rfl|z1
   ·cases z2
    exact Ys (Re e) (S7 _)
   ·exact Ta.mpr ⟨en,z1,z2⟩
 ·show(Zz w::stK keep env).length=N'.length
  unfold stK;rw[Rr,R2,hown,Nat.add_comm]
theorem C5(I:Fr X env cm m s)(ho:s.heap.get? f=Zz (mX q params body scope cl pm cv ct))(cf:s.heap.CodeRec cv (iU q))(S:te X y scope)(hcl1:∀x c,cl.lookup x=Zz c->X.env.cells.lookup x=Zz c)(hcl2:∀x,(x,Rt)∈scope.names->∃c,cl.lookup x=Zz c)(hroom:X.A.depth<Va)(hbind:Sx (kla_fn "<lambda>" (iU q) params body scope cl pm cv ct) ⟨[x],[]⟩=pure [(y,x)])(rx:RW X.D cm m s.heap w x)(hy:N'[0]?=Zz y)(hown:N'.length=1+keep.length)(hkeep:∀(i:Nat) x,N'[1+i]?=Zz x->∃j,keep[i]?=Zz j/\X.N[j]?=Zz x/\(x,Rt)∈scope.names)(hb:∀n,PE call gv (om X N' q scope cl f cv n) body eb)(ok:ev call gv eb (Zz w::stK keep env) m=.ok w' m'){E:R3->RA->Prop}:
  RF X.M X.A.in1.in1 (Sq (.ref f) [x]) (λv s'=>∃cm',aH X.fs X.gs X.tb cm m s cm' m' s'/\Fr X env cm' m' s'/\RW X.D cm' m' s'.heap w' v) E s:=by
 refine Vl (TC (R:=λr s'=>∃v,r=.ok (.ret v)/\∃cm',aH X.fs X.gs X.tb cm m s cm' m' s'/\Fr X env cm' m' s'/\RW X.D cm' m' s'.heap w' v) (PySem.W.kla_callFunE (A:=X.A.in1.in1) hroom ho rfl S.co S.gen rfl cf ?_) λr s' hq=>?_)
 ·rw[hbind]
  refine R5 (wpAny_newFunctionEnv S.xL (λz hz=>?_) (λh₁ hns hsb=>⟨(I.ok.mod.nolimit.keeps I.bs).fresh _ hsb,?_⟩) S.kind)
  ·obtain rfl:z=(y,x):=RH.mp hz
   exact S.HI
  show UB _ _ (.expr body (envX (iU q) scope s.heap.objs.size f cv cl)) _ _;have hk:∀b o,s.heap.get? b=Zz o->h₁.get? b=Zz o:=λb o e=>hsb.extBut b o (Rd (Re e)) (R7 _ e)
  have J:=A0 (q:=q) (f:=f) (cv:=cv) (tk:=s.toks+1) I S hcl1 hcl2 rx hy hown hkeep ⟨_,hns,by simp⟩ hk;have nn:∀l:List RB,∀b∈s.heap.objs.size::l,b∈l∨s.heap.get? b=Zy:=λ_ b hb=>(R6.mp hb).elim (λz=>.inr (Rk (by rw[z];exact RO _))) .inl
  refine PySem.W.kla_codeExpr (Sv ((hb _).run (J:=λ_ _=>False) J ok) (λv s' ⟨cm',x1,I1,r1⟩=>⟨v,rfl,cm',?_⟩) λ_ _ z=>z.elim);have x2:aH X.fs X.gs X.tb cm m s cm' m' s':=((aH.kept (d:=s.drawn) hk).trans x1).fr (nn X.fs) (nn X.gs);have M2:av X cm' m' s'.heap:=I1.mem.fr (X:=om X N' q scope cl f cv s.heap.objs.size) rfl (λb h=>.inl (R4 _ h)) (λ_ _ e=>e) id;exact⟨x2,I.go x2 M2 I.nc,RW.fr (f':=X.fs) (λb h=>.inl (R4 _ h)) (λ_ _ e=>e) r1⟩
 ·obtain⟨u,rfl,hc⟩:=hq
  exact hc
end
theorem hG:∀{x y:List Int},bj x y=true->bj y x=false
 |[],[],h=>by cases h
 |[],_::_,_=>rfl
 |_::_,[],h=>by cases h
 |a::x,b::y,h=>by
  rw[bj]at h ⊢;by_cases e:a=b
  ·subst e
   rw[Yn rfl]at h ⊢;exact hG h
  ·rw[Yo e]at h
   rw[Yo (Su e)];have:=Yt h;exact Yp (by omega)
theorem gQ:∀{x y:List Int},bj x y=false->bj y x=false->x=y
 |[],[],_,_=>rfl
 |[],_::_,h,_=>by cases h
 |_::_,[],_,h=>by cases h
 |a::x,b::y,h1,h2=>by
  rw[bj]at h1 h2;by_cases e:a=b
  ·subst e
   rw[Yn rfl]at h1 h2;rw[gQ h1 h2]
  ·rw[Yo e]at h1
   rw[Yo (Su e)]at h2;have h1:=of_decide_eq_false h1;have h2:=of_decide_eq_false h2;omega
theorem jI:∀{x y z:List Int},bj y x=false->bj z y=false->bj z x=false
 |[],[],_,_,h=>h
 |[],_::_,[],_,_=>rfl
 |[],_::_,_::_,_,_=>rfl
 |_::_,[],_,h,_=>by cases h
 |_::_,_::_,[],_,h=>by cases h
 |a::x,b::y,c::z,h1,h2=>by
  rw[bj]at h1 h2 ⊢;by_cases e1:b=a
  ·by_cases e2:c=b
   ·rw[Yn e1]at h1
    rw[Yn e2]at h2;rw[Yn (e2.trans e1)];exact jI h1 h2
   ·rw[Yo e2]at h2
    have h2:=of_decide_eq_false h2;rw[Yo (by omega)];exact Yp (by omega)
  ·rw[Yo e1]at h1
   have h1:=of_decide_eq_false h1;by_cases e2:c=b
   ·rw[Yo (by omega)]
    exact Yp (by omega)
   ·rw[Yo e2]at h2
    have h2:=of_decide_eq_false h2;rw[Yo (by omega)];exact Yp (by omega)
theorem jY:∀{ts:List T}{ns:List Int},eG ts=Zz ns->ts=ns.map .int
 |[],_,h=>by cases h;rfl
 |t::r,ns,h=>by
  cases t with
  |int c =>
   have h:(eG r).map (c::·)=Zz ns:=h;cases q:eG r with
   |none=>rw[q]at h;cases h
   |some ms=>rw[q]at h;cases h;rw[jY q];rfl
  |_=>cases h
theorem ints_get:∀{vs:List R3}{ns:List Int},TB vs ns->∀(i:Nat) (v:R3) (x:Int),vs[i]?=Zz v->ns[i]?=Zz x->∃t,v=.int x t
 |_,_,.nil,i,v,x,h,_=>by simp at h
 |_,_,.cons n t r,0,v,x,h1,h2=>by
  simp at h1 h2;exact⟨t,by rw[<-h1,<-h2]⟩
 |_,_,.cons n t r,i+1,v,x,h1,h2=>ints_get r i v x (by simpa using h1) (by simpa using h2)
open AutoSeq1 (wpAny_loadPart') in
open MeetsSeq MeetsSeq2 MeetsSeq3 in
theorem Gc(l b:RB)(items items2:Array R3)(n n2:Nat)(xs ys:List Int)(g1:TB items.toList xs)(g2:TB items2.toList ys):∀(k i:Nat),items.size-i=k->i<=items.size->i<=items2.size ->
  Yf (Builtin.«list.__eq__.loop» ⟨[.ref l,.ref b,rawInt i,rawInt 0],[]⟩)
   (λA R s=>s.heap.get? l=Zz { cls:=.type "list",data:=.seq items n }/\s.heap.get? b=Zz { cls:=.type "list",data:=.seq items2 n2 }/\R (.ok (.ret (.bool (bj (xs.drop i) (ys.drop i))))) s):=by
 have z1:xs.length=items.size:=by rw[<-g1.length,RM]
 have z2:ys.length=items2.size:=by rw[<-g2.length,RM]
 intro k
 induction k with
 |zero =>
  intro i hk hi1 hi2 prog w A R s h;obtain⟨hp,g,d,tk,os⟩:=s;obtain⟨hl,hb,h⟩:=h
  wp_walk using SJ hl,SJ hb
  have e:i=items.size:=by omega
  have ii1:items[((i:Nat):Int).toNat]?=Zy:=by simp;omega
  rw[ii1];have hd:xs.drop i=[]:=Tq (by omega);have hx:bj (xs.drop i) (ys.drop i)=decide (items.size<items2.size):=by
   rw[hd];cases hy:ys.drop i with
   |nil =>
    have:=List.drop_eq_nil_iff.mp hy;rw[Yp (by omega)];rfl
   |cons y r =>
    have:¬ys.length<=i:=λz=>by rw[Tq z]at hy;cases hy
    rw[Yq (by omega)];rfl
  rw[hx]at h
  wp_walk using SJ hl,SJ hb
  exact h
 |succ k ih =>
  intro i hk hi1 hi2 prog w A R s h;obtain⟨hp,g,d,tk,os⟩:=s;obtain⟨hl,hb,h⟩:=h
  wp_walk using SJ hl,SJ hb
  have hlt:i<items.size:=by omega
  have ii1:items[((i:Nat):Int).toNat]?=Zz items[i]:=by simp[hlt]
  rw[ii1];by_cases hlt2:i<items2.size
  ·have ii2:items2[((i:Nat):Int).toNat]?=Zz items2[i]:=by simp[hlt2]
   have l1:i<xs.length:=by omega
   have l2:i<ys.length:=by omega
   obtain⟨t,et⟩:∃t,items[i]=.int xs[i] t:=ints_get g1 i _ _ (by rw[Rw,V3 hlt]) (RC l1);obtain⟨u,eu⟩:∃t,items2[i]=.int ys[i] t:=ints_get g2 i _ _ (by rw[Rw,V3 hlt2]) (RC l2);rw[ii2,et,eu];rw[T3 l1,T3 l2,bj]at h;refine R0 (Wl ?_);have hc:((i:Int)+1)=((i+1:Nat):Int):=by push_cast;rfl
   by_cases he:xs[i]=ys[i]
   ·rw[Yn he]at h
    have hb':(xs[i]==ys[i])=true:=by rw[he];exact beq_self_eq_true _
    rw[hb']
    wp_walk
    rw[hc];exact⟨Te plain_eq_loop _,Sj entry_eq_loop (by
     rw[Sc plain_eq_loop _];exact ih (i+1) (by omega) (by omega) (by omega) prog w A R _ ⟨hl,hb,h⟩)⟩
   ·rw[Yo he]at h
    have hb':(xs[i]==ys[i])=false:=Yr.mpr he;rw[hb']
    wp_walk using SJ hl,SJ hb
    rw[ii1,ii2,et,eu];refine R0 (wpAny_lt_int ?_);exact R5 h
  ·have ii2:items2[((i:Nat):Int).toNat]?=Zy:=by simp;omega
   rw[ii2];have hd:ys.drop i=[]:=Tq (by omega);have hx:bj (xs.drop i) (ys.drop i)=decide (items.size<items2.size):=by
    rw[hd,T3 (show i<xs.length by omega),Yp (by omega)];rfl
   rw[hx]at h
   wp_walk using SJ hl,SJ hb
   exact h
open AutoSeq1 (wpAny_loadPart') in
open MeetsSeq MeetsSeq2 MeetsSeq3 in
theorem Da(l b:RB)(items items2:Array R3)(n n2:Nat)(xs ys:List Int)(g1:TB items.toList xs)(g2:TB items2.toList ys):
  Yf (Builtin.«list.__lt__» ⟨[.ref l,.ref b],[]⟩)
   (λA R s=>s.heap.get? l=Zz { cls:=.type "list",data:=.seq items n }/\s.heap.get? b=Zz { cls:=.type "list",data:=.seq items2 n2 }/\R (.ok (.ret (.bool (bj xs ys)))) s):=by
 intro prog w A R s h;obtain⟨hp,g,d,tk,os⟩:=s;obtain⟨hl,hb,h⟩:=h;have f3:=AutoSeq1.sub_list_list
 wp_walk using SJ hl,SJ hb
 exact⟨Te plain_eq_loop _,Sj entry_eq_loop (by
  rw[Sc plain_eq_loop _];exact Gc l b items items2 n n2 xs ys g1 g2 _ 0 rfl (S8 _) (S8 _) prog w A R _ ⟨hl,hb,by simpa using h⟩)⟩
inductive LI (h:Rm) (v:R3) (k:List Int)  : Prop where
 |mk (a its n) (_:v=.ref a) (_:h.get? a=Zz { cls:=.type "list",data:=.seq its n }) (_:TB its.toList k)
section
variable{prog:Ry}{w:SS}{A:SF}{E:R3->RA->Prop}{s:RA}
theorem J7(hx:LI s.heap x xs)(hy:LI s.heap y ys)(hu:A.units<cLine)(h:Q (bj xs ys) s):RF (Rp prog w) A (keyLt' Xv x y) Q E s:=by
 obtain⟨a,its,n,rfl,e2,e3⟩:=hx;obtain⟨b,jts,k,rfl,f2,f3⟩:=hy;rw[keyLt'_oneType,oneLt'_eq];simp only[if_true];refine R0 (wpAny_cRoomFor hu ?_);refine R0 (wpAny_callSpecialIfBound?_slot (T:="list") ⟨_,e2,rfl⟩ PySem.F.slot_list_lt (UK PySem.F.slot_list_lt ⟨_,e2,rfl⟩ PySem.F.entry_list_lt (PySem.F.args_list_lt_2 _ _) (Da a b its jts n k xs ys e3 f3) ⟨e2,f2,?_⟩));exact Sh h
theorem Ay{ks vs:List R3}{kf:R3->List Int}(hv:∀v∈ks,LI s.heap v (kf v))(inj:∀x∈ks.zip vs,∀y∈ks.zip vs,kf x.1=kf y.1->x=y)(hu:A.units<cLine):
  Ts.Ia prog w A s Xv (λx=>x∈ks.zip vs) (λx y=>bj (kf x.1) (kf y.1)):=by
 refine⟨λx y hx hy E Q q=>?_,λx y z _ _ _=>jI,λx y _ _=>hG,λx y hx hy h1 h2=>inj x hx y hy (gQ h1 h2)⟩;exact J7 (hv _ (Uh hx).1) (hv _ (Uh hy).1) hu q
theorem oE:∀(vs:List R3) {Q:List (Option R3)->RA->Prop},(∀v∈vs,∃k,LI s.heap v k)->Q (vs.map λ_=>Zy) s->RF (Rp prog w) A (vs.mapM firstOfTuple') Q E s
 |[],_,_,h=>by rw[List.mapM_nil];exact R5 h
 |v::vs,Q,t,h=>by
  obtain⟨_,a,its,n,rfl,ho,_⟩:=t v R9;rw[List.mapM_cons];refine R0 ?_;rw[PySem.W.kas_first_eq];refine R0 (WS (show YG (Rp prog w) s.heap (typeOf (.ref a)) (.type "list")from(PySem.W.Looks.ld ho).andThen .now) ?_);rw[Yn (by first|decide|simp)];refine R5 ?_;exact R0 (oE vs (Q:=λbs s'=>RF (Rp prog w) A (pure (Zy::bs)) Q E s') (λu hu=>t u (R4 _ hu)) (R5 h))
theorem yP{vs:List R3}(hv:∀v∈vs,∃k,LI s.heap v k)(h0:0<vs.length){Q:Vv->RA->Prop}(h:Q Xv s):RF (Rp prog w) A (XG vs.toArray) Q E s:=by
 obtain⟨v,vr,rfl⟩:∃v vr,vs=v::vr:=by
  cases vs with
  |nil=>exact Ys h0 (S7 _)
  |cons v vr=>exact⟨v,vr,rfl⟩
 rw[kat_kind_eq,List.mapM_toArray,map_eq_pure_bind];refine R0 (R0 (oE _ hv (R5 ?_)));have hall:¬(((v::vr).map λ_=>(Zy:Option R3)).toArray.all λx=>x.isSome)=true:=by simp
 rw[Yo hall];have hf:¬(((((v::vr).map λ_=>(Zy:Option R3)).toArray)[0]?.bind id).isSome=true):=by simp
 rw[Yo hf,oneTypeOnly'_eq,List.mapM_toArray,map_eq_pure_bind];refine R0 (R0 (R0 (PySem.W.kas_mapM (r:=.type "list") _ (λv hv' Q' hq=>?_) (R5 ?_))))
 ·obtain⟨_,a,its,n,rfl,ho,_⟩:=hv v hv'
  exact WS (show YG (Rp prog w) s.heap (typeOf (.ref a)) (.type "list")from(PySem.W.Looks.ld ho).andThen .now) hq
 have hall2:((Yj (λ_=>UV "list") (v::vr)).toArray.all λx=>x==UV "list")=true:=by
  simp only[List.all_toArray,List.all_map,SC];intro _ _;rfl
 have h0:(Yj (λ_=>UV "list") (v::vr)).toArray[0]?=Zz (UV "list"):=by simp
 rw[h0];simp only[hall2,if_true];exact R5 (R5 h)
end
theorem m6(x:List Int×T):∀l:List (List Int×T),(Bh x l).Perm (x::l)
 |[]=>.refl _
 |y::r=>by
  rw[Bh];split
  ·exact((m6 x r).cons y).trans (.swap _ _ _)
  ·exact .refl _
theorem iK:∀xs:List (List Int×T),(oC xs).Perm xs
 |[]=>.refl _
 |x::r=>(m6 x _).trans ((iK r).cons x)
theorem zW(x:List Int×T):∀{l:List (List Int×T)},l.Pairwise (λa b=>bj b.1 a.1=false)->(Bh x l).Pairwise (λa b=>bj b.1 a.1=false)
 |[],_=>TE _ _
 |y::r,h=>by
  rw[Bh];obtain⟨h1,h2⟩:=SQ.mp h;split
  ·rename_i q
   refine SQ.mpr ⟨λz hz=>?_,zW x h2⟩;rcases R6.mp ((m6 x r).mem_iff.mp hz)with rfl|hz
   ·exact hG q
   ·exact h1 z hz
  ·rename_i q
   have q:bj y.1 x.1=false:=by simpa using q
   refine SQ.mpr ⟨λz hz=>?_,h⟩;rcases R6.mp hz with rfl|hz
   ·exact q
   ·exact jI q (h1 z hz)
theorem v6:∀xs:List (List Int×T),(oC xs).Pairwise (λa b=>bj b.1 a.1=false)
 |[]=>.nil
 |x::r=>zW x (v6 r)
theorem nj{α β:Type}:∀{xs:List (α×β)},(xs.map (·.1)).Nodup->∀{a b:α×β},a∈xs->b∈xs->a.1=b.1->a=b
 |[],_,_,_,h,_,_=>by cases h
 |x::xs,hn,a,b,ha,hb,e=>by
  obtain⟨h1,h2⟩:=Ug.mp (hn);rcases R6.mp ha with z1|z1
  ·rcases R6.mp hb with z2|z2
   ·rw[z1,z2]
   ·exact(h1 (RX.mpr ⟨b,z2,by rw[<-z1];exact e.symm⟩)).elim
  ·rcases R6.mp hb with z2|z2
   ·exact(h1 (RX.mpr ⟨a,z1,by rw[<-z2];exact e⟩)).elim
   ·exact nj h2 z1 z2 e
theorem BN(hn:(xs.map (·.1)).Nodup)(hp:ys.Perm xs)(hw:ys.Pairwise (λa b=>bj b.1 a.1=false)):ys=oC xs:=
 VA (λa b ha hb h1 h2=>nj hn (hp.mem_iff.mp ha) ((iK xs).mem_iff.mp hb) (gQ h2 h1)) hw (v6 xs) (hp.trans (iK xs).symm)
theorem sK{α β:Type}(f:α->β){out ys:List β}(h:out.Perm ys):∀l:List α,ys=l.map f->∃l':List α,l'.Perm l/\out=l'.map f:=by
 induction h with
 |nil =>
  intro l e;cases l with
  |nil=>exact⟨[],.nil,rfl⟩
  |cons=>cases e
 |cons x _ ih =>
  intro l e;cases l with
  |nil=>cases e
  |cons a l =>
   injection e with e1 e2;obtain⟨l',p,q⟩:=ih l e2;exact⟨a::l',p.cons a,by rw[q,e1];rfl⟩
 |swap x y r =>
  intro l e;cases l with
  |nil=>cases e
  |cons a l =>
   cases l with
   |nil=>cases e
   |cons b l =>
    injection e with e1 e2;injection e2 with e2 e3;exact⟨b::a::l,.swap _ _ _,by rw[e1,e2,e3];rfl⟩
 |trans _ _ ih1 ih2 =>
  intro l e;obtain⟨l2,p2,q2⟩:=ih2 l e;obtain⟨l1,p1,q1⟩:=ih1 l2 q2;exact⟨l1,p1.trans p2,q1⟩
theorem tn:∀{ts:List T}{m m':Mem}{ks:List (List Int)},fP f kept ts m=.ok ks m'->ks.length=ts.length
 |[],_,_,_,h=>by cases h;rfl
 |t::ts,m,m',ks,h=>by
  rw[fP]at h;obtain⟨w,m1,_,h⟩:=ap h;cases q:Dy w with
  |none=>rw[q]at h;cases h
  |some k =>
   rw[q]at h;obtain⟨ks',m2,h1,h2⟩:=ap h;cases h2;rw[Rr,Rr,tn h1]
theorem AX(h:Dy w=Zz k):w=.t (.lst (k.map .int)):=by
 cases w with
 |t x =>
  cases x with
  |lst us=>rw[jY (h)]
  |_=>cases h
 |_=>cases h
theorem mq{α β:Type}:∀{as:List α}{bs:List β},as.length=bs.length->(as.zip bs).map (·.1)=as
 |[],[],_=>rfl
 |a::as,b::bs,h=>by rw[UZ,Rf,mq (by simpa using h)]
 |[],_::_,h=>by cases h
 |_::_,[],h=>by cases h
theorem vF{α β:Type}:∀{as:List α}{bs:List β},as.length=bs.length->(as.zip bs).map (·.2)=bs
 |[],[],_=>rfl
 |a::as,b::bs,h=>by rw[UZ,Rf,vF (by simpa using h)]
 |[],_::_,h=>by cases h
 |_::_,[],h=>by cases h
theorem CX{α β:Type}{as:List α}{bs:List β}{p:α×β}(h:p∈as.zip bs):∃i:Nat,as[i]?=Zz p.1/\bs[i]?=Zz p.2:=by
 obtain⟨i,hi,e⟩:=T5 h;rw[X2]at e;rw[U9]at hi;exact⟨i,by rw[<-e];exact RC (by omega),by rw[<-e];exact RC (by omega)⟩
theorem jA{D:Dm}{cm:List RB}{m:Mem}{h:Rm}:∀{k:List Int}{y:List R3},fG D cm m h (k.map .int) y->TB y k
 |[],y,r=>by
  obtain rfl:y=[]:=UT r.1.symm;exact .nil
 |i::k,y,r=>by
  obtain⟨v,z,rfl,r1,r2⟩:=r.inv;cases r1;exact .cons i _ (jA r2)
theorem RT.li{D:Dm}{cm:List RB}{m:Mem}{h:Rm}{k:List Int}{v:R3}(r:RT D cm m h (.lst (k.map .int)) v):LI h v k:=by
 cases r with
 |lst p nl el r =>
  obtain⟨⟨n,e⟩,_,_⟩:=p;exact⟨_,_,n,rfl,e,jA ⟨el,r⟩⟩
noncomputable def Ci(h:Rm)(v:R3):List Int:=match v with
 |.ref a=>match h.get? a with
  |some o=>match o.data with
   |.seq its _=>its.toList.filterMap λu=>match u with
    |.int i _=>Zz i
    |_=>Zy
   |_=>[]
  |_=>[]
 |_=>[]
theorem zv:∀{y:List R3}{k:List Int},TB y k->(y.filterMap λu=>match u with
  |.int i _=>Zz i
  |_=>Zy)=k
 |_,_,.nil=>rfl
 |_,_,.cons n t r=>by rw[WA];dsimp only;rw[zv r]
theorem yI{h:Rm}{v:R3}{k:List Int}(t:LI h v k):Ci h v=k:=by
 obtain⟨a,its,n,rfl,e,r⟩:=t;unfold Ci;dsimp only;rw[e];exact zv r
section
variable{X:Cx}{env:Mi.Env}{cm:List RB}{m m':Mem}{s:RA}{params:XX}{body:S4}{scope:UR}{pos:Pos}{q y:Str}{cl:List (Str×RB)}{Q E:R3->RA->Prop}{f l:RB}{pm cv ct:R3}{w w':W}{call:Nat->List W->Mem->Res W}{gv:List T}{eb:Mi.E}{N':List Str}{keep:List Nat}{ts:List T}{vs:List R3}{kI:List (List Int)}
theorem Bt(I:Fr X env cm m s)(LK:wQ X.toBs)(ho:s.heap.get? f=Zz (mX q params body scope cl pm cv ct))(hf:f∉X.fs)(cf:s.heap.CodeRec cv (iU q))(S:te X y scope)(hcl1:∀x c,cl.lookup x=Zz c->X.env.cells.lookup x=Zz c)(hcl2:∀x,(x,Rt)∈scope.names->∃c,cl.lookup x=Zz c)(hdp:X.A.depth<Va)(hun:X.A.units+64<cLine)(hbind:∀x,Sx (kla_fn "<lambda>" (iU q) params body scope cl pm cv ct) ⟨[x],[]⟩=pure [(y,x)])(hy:N'[0]?=Zz y)(hown:N'.length=1+keep.length)(hkeep:∀(i:Nat) x,N'[1+i]?=Zz x->∃j,keep[i]?=Zz j/\X.N[j]?=Zz x/\(x,Rt)∈scope.names)(hb:∀fs n,PE call gv (om { X with fs:=fs } N' q scope cl f cv n) body eb)(r1:fG X.D cm m s.heap ts vs)(hl:s.heap.IsList l vs.toArray)(ok:fP (λenv m=>ev call gv eb env m) (stK keep env) ts m=.ok kI m')(hn:kI.Nodup)(h64:kI.length<64)(fin:∀D cm' s' us,aH X.fs X.gs X.tb cm m s cm' m' s'->Fr X env cm' m' s'->fG X.D cm' m' s'.heap ((oC (kI.zip ts)).map (·.2)) us->d8 X.fs s'.heap D us.toArray->ai cm' m' D->s.heap.get? D=Zy->Q (.ref D) s'):
  RF X.M X.A (Sq (.builtin "sorted") [.ref l] [(UU "key",.ref f)]) Q E s:=by
 have lt:=r1.1;have lk:=tn ok;refine Ts.EX hl (by omega) λD kS e1 h' hD hDS gD gS kp=>?_
 have hS:=Rg hD (Sb hDS);have gone:∀b,s.heap.objs.size<=b->s.heap.get? b=Zy:=λb hb=>Rk hb
 have nb:∀b,s.heap.get? b=Zy->X.base.get? b=Zy:=λb hb=>by
  cases q:X.base.get? b with
  |none=>rfl
  |some o=>rw[I.bs _ _ q]at hb;cases hb
 have nfr:∀b,s.heap.get? b=Zy->b∉frs X.stack:=λb hb z=>I.nR z hb
 generalize eF:D::kS::X.fs=F;have dF:D∈F:=by rw[<-eF];exact R9
 have kF:kS∈F:=by rw[<-eF];exact R4 _ R9
 have sF:∀b∈X.fs,b∈F:=λb h=>by rw[<-eF];exact R4 _ (R4 _ h)
 have cF:∀b∈F,b=D∨b=kS∨b∈X.fs:=λb h=>by rw[<-eF]at h;simpa using h
 have nn:∀b∈F,b∈X.fs∨s.heap.get? b=Zy:=λb hb=>by
  rcases cF b hb with rfl|rfl|h
  ·exact .inr (gone _ hD)
  ·exact .inr (gone _ hS)
  ·exact .inl h
 have nfF:f∉F:=λz=>by
  rcases cF f z with rfl|rfl|h
  ·rw[gone _ hD]at ho;cases ho
  ·rw[gone _ hS]at ho;cases ho
  ·exact hf h
 have K':Cx.Ok { X with fs:=F }:=Cx.Ok.fs I.ok sF;have I0:Fr { X with fs:=F } env cm m { s with heap:=h' }:=I.KY (f:=F) (ch:=[]) (s':={ s with heap:=h' }) K' nn (λb hb n=>by
  rcases cF b hb with rfl|rfl|h
  ·exact⟨nb _ (gone _ hD),_,gD,(λv z=>by cases z),λz=>Ys z (nfr _ (gone _ hD))⟩
  ·exact⟨nb _ (gone _ hS),_,gS,(λv z=>by cases z),λz=>Ys z (nfr _ (gone _ hS))⟩
  ·exact Ys h n) (aH.kept kp).toExtK (I.mem.fr (X:=X) rfl nn kp λT=>I.ok.iz _ _ T λb o _=>kp b o) λb z=>nomatch z
 have S':te { X with fs:=F } y scope:=⟨S.kind,S.co,S.gen,S.xL,S.HI,S.look,S.free⟩
 have noF:∀{b:RB}{h:Rm}{x n},b∈F->h.get? b=Zz (seqObj "list" x n)->∀o,h.get? b=Zz o->¬Ig F b o:=λhF e o e' k=>by
  rw[e]at e';cases e';cases k with
  |seq _ _ _ n=>exact n hF
  |dict _ _ z=>cases z
  |ref _ _ _ z=>cases z
  |trace _ _ z=>cases z
  |plain z=>cases z
 generalize ec:kS::D::X.tb=ch;have tc:∀b∈X.tb,b∈ch:=λb h=>by rw[<-ec];exact R4 _ (R4 _ h)
 have cc:∀b∈ch,b=kS∨b=D∨b∈X.tb:=λb h=>by rw[<-ec]at h;simpa using h
 have nqc:∀{c m1 t x1 n1 x2 n2},Fr { X with fs:=F } env c m1 t->t.heap.get? D=Zz (seqObj "list" x1 n1)->t.heap.get? kS=Zz (seqObj "list" x2 n2)->Nq F ch t.heap:=λI1 aD aS b hb o e=>by
  rcases cc b hb with rfl|rfl|h
  ·exact noF kF aS o e
  ·exact noF dF aD o e
  ·exact(I1.nc.q (fs:=F)) b h o e
 have pD:D≠X.env.locals:=λz=>by
  obtain⟨_,hN,_⟩:=I.loc;obtain⟨o,_,_,e,_⟩:=hN;rw[<-z,gone _ hD]at e;cases e
 have pS:kS≠X.env.locals:=λz=>by
  obtain⟨_,hN,_⟩:=I.loc;obtain⟨o,_,_,e,_⟩:=hN;rw[<-z,gone _ hS]at e;cases e
 have wr:∀{b:RB}{c m1 t x n}(g:Array R3->Array R3),b=D∨b=kS->Fr { X with fs:=F } env c m1 t->t.heap.get? b=Zz (seqObj "list" x n)->∃n',(t.heap.update b (RZ g)).get? b=Zz (seqObj "list" (g x) n')/\aH F X.gs ch c m1 t c m1 { t with heap:=t.heap.update b (RZ g) }/\Fr { X with fs:=F } env c m1 { t with heap:=t.heap.update b (RZ g) }:=λ{b c m1 t x n} g hb I1 e=>by
  have e':=VC e g;have hF:b∈F:=by rcases hb with rfl|rfl;exact dF;exact kF
  have hne:b≠X.env.locals:=by rcases hb with rfl|rfl;exact pD;exact pS
  have hg:s.heap.get? b=Zy:=by rcases hb with rfl|rfl;exact gone _ hD;exact gone _ hS
  obtain⟨x1,I2⟩:=I1.acc (X:={ X with fs:=F }) (ch:=ch) (tk:=t.toks) hF hne ⟨_,e,noF hF e _ e,(λv z=>by cases z),λv z=>by cases z⟩ (λb' o ne q=>by rw[Sn _ _ _ _ ne];exact q)
   ⟨_,e',⟨(λv z=>by cases z),λz=>Ys z (nfr _ hg)⟩,λo q k=>by rw[e]at q;cases q;exact Ys rfl (k _ _)⟩
  refine⟨_,e',x1.weak λb' hb' n'=>?_,I2⟩;rcases R6.mp hb' with rfl|h
  ·refine Ys ?_ n'
   rw[<-ec];rcases hb with rfl|rfl
   ·exact R4 _ R9
   ·exact R9
  ·exact Ys h n'
 refine⟨λks s1=>∃cm1 m1,Fr { X with fs:=F } env cm1 m1 s1/\s1.heap.get? D=Zz (seqObj "list" #[] e1)/\(∃e,s1.heap.get? kS=Zz (seqObj "list" ks.toArray e))/\aH F X.gs ch cm m { s with heap:=h' } cm1 m1 s1/\s1.heap.get? f=Zz (mX q params body scope cl pm cv ct)/\s1.heap.CodeRec cv (iU q) /\
  fP (λenv m=>ev call gv eb env m) (stK keep env) (ts.drop ks.length) m1=.ok (kI.drop ks.length) m'/\Al (λk v=>RT ⟨X.prog,X.w,F⟩ cm1 m1 s1.heap (.lst (k.map .int)) v) (kI.take ks.length) ks,?_,?_,?_,?_⟩
 ·exact⟨cm,m,I0,gD,⟨0,gS⟩,.refl,kp _ _ ho,CodeRec.go cf λb o _=>kp b o,ok,.nil⟩
 ·rintro ks s1 ⟨_,_,_,_,g,_⟩
  exact g
 ·rintro ks x r s1 hd ⟨cm1,m1,I1,aD,⟨e,aS⟩,x1,hof,hcf,run,kr⟩
  have hi:ks.length<vs.length:=by
   have:=congrArg Vz hd;rw[Tc,Rr]at this;omega
  have hiT0:ks.length<ts.length:=by omega
  have ex:vs[ks.length]?=Zz x:=by
   have:=congrArg (·[0]?) hd;simpa using this
  obtain⟨t,et⟩:∃t,ts[ks.length]?=Zz t:=⟨_,RC hiT0⟩
  have rt:RT ⟨X.prog,X.w,F⟩ cm1 m1 s1.heap t x:=RT.go (D:=⟨X.prog,X.w,F⟩) (X:={ X with fs:=F }) x1.toExtK I0.mem (nqc I0 gD gS) (RT.fr nn kp (r1.2 _ _ _ et ex));have edr:ts.drop ks.length=t::ts.drop (ks.length+1):=by
   rw[T3 hiT0];rw[RC hiT0]at et;rw[SY et]
  rw[edr,fP]at run;obtain⟨w,m2,run1,run2⟩:=ap run;cases hk:Dy w with
  |none=>rw[hk]at run2;cases run2
  |some k =>
  rw[hk]at run2;obtain⟨ks',m3,run3,run4⟩:=ap run2;injection run4 with e4 e5;subst e5;have ekd:kI.drop (ks.length+1)=ks':=by
   rw[<-List.drop_drop,<-e4];rfl
  have ekt:kI.take (ks.length+1)=kI.take ks.length++[k]:=by
   have:kI[ks.length]?=Zz k:=by
    have:=congrArg (·[0]?) e4;simpa using this.symm
   rw[List.take_add_one,this];rfl
  refine Sv (C5 (X:={ X with fs:=F }) I1 hof hcf S' hcl1 hcl2 hdp (hbind x) (w:=.t t) rt hy hown hkeep (hb F) run1) (λu s2 ⟨cm2,x2,I2,rw2⟩=>?_) λ_ _ z=>z
  obtain rfl:=AX hk;have st:∀{b:RB}{xs n},b∈F->s1.heap.get? b=Zz (seqObj "list" xs n)->s2.heap.get? b=Zz (seqObj "list" xs n):=λhF e=>by
   obtain⟨_,o',e',r⟩:=x2.keep _ _ e (λz=>by
    obtain⟨⟨v,k⟩,_⟩:=(I1.nc _ z).2 _ e;cases k) (EA I1.mem hF)
   rcases r with rfl|⟨_,r,_⟩
   ·exact e'
   ·exact Ys rfl (r _ _)
  obtain⟨n',e',x3,I3⟩:=wr (·.push u) (.inr rfl) I2 (st kF aS);have keepf:s2.heap.get? f=Zz (mX q params body scope cl pm cv ct):=by
   obtain⟨_,o',e',r⟩:=x2.keep _ _ hof (λz=>by
    obtain⟨⟨v,k⟩,_⟩:=(I1.nc _ z).2 _ hof;cases k) (y8 I1.mem hof (by simp) (by simp) (by simp))
   rcases r with rfl|⟨r,_⟩
   ·exact e'
   ·exact Ys r nfF
  have x2':aH F X.gs ch cm1 m1 s1 cm2 m2 s2:=x2.weak λb hb n=>Ys (tc b hb) n
  have c2:=I1.code LK hcf x2 λb h=>.inl h
  refine⟨e,st kF aS,cm2,m2,I3,?_,⟨n',by rw[e',List.push_toArray]⟩,(x1.trans x2').trans x3,?_,?_,?_,?_⟩
  ·rw[Sn _ _ _ _ (Rd hDS)];exact st dF aD
  ·rw[Sn _ _ _ _ (by rintro rfl;exact nfF kF)];exact keepf
  ·exact I2.code (X:={ X with fs:=F }) LK c2 x3 λb h=>by
    rcases cc b h with rfl|rfl|h
    ·exact .inr kF
    ·exact .inr dF
    ·exact .inl h
  ·rw[RD,T8,run3,ekd]
  ·rw[RD,T8,ekt]
   have g1:∀{k:List Int}{v:R3},RT ⟨X.prog,X.w,F⟩ cm1 m1 s1.heap (.lst (k.map .int)) v->RT ⟨X.prog,X.w,F⟩ cm2 m2 s2.heap (.lst (k.map .int)) v:=λr=>RT.go (D:=⟨X.prog,X.w,F⟩) (X:={ X with fs:=F }) x2.toExtK I1.mem I1.nc.q r
   have g2:∀{k:List Int}{v:R3},RT ⟨X.prog,X.w,F⟩ cm2 m2 s2.heap (.lst (k.map .int)) v->RT ⟨X.prog,X.w,F⟩ cm2 m2 (s2.heap.update kS (RZ (·.push u))) (.lst (k.map .int)) v:=λr=>RT.go (D:=⟨X.prog,X.w,F⟩) (X:={ X with fs:=F }) x3.toExtK I2.mem (nqc I2 (st dF aD) (st kF aS)) r
   exact(kr.mp λ_ _ r=>g2 (g1 r)).app (.cons (g2 rw2) .nil)
 ·rintro ks s1 hl ⟨cm1,m1,I1,aD,⟨e,aS⟩,x1,hof,hcf,run,kr⟩
  have ekl:kI.length=ks.length:=by omega
  have etl:ts.length=ks.length:=by omega
  rw[Tq (by first|exact UD etl|exact UD ekl),Tq (by first|exact UD ekl|exact UD etl)]at run;injection run with _ em;subst em;rw[List.take_of_length_le (UD ekl)]at kr;have kv:∀v∈ks,LI s1.heap v (Ci s1.heap v):=λv hv=>by
   obtain⟨i,hi,e'⟩:=T5 hv;have:=(kr.2 i kI[i] v (RC (by omega)) (by rw[<-e'];exact RC hi)).li;rw[yI this];exact this
  have kz:(ks.map (Ci s1.heap))=kI:=by
   refine List.ext_getElem (by rw[R2];omega) λi h1 h2=>?_
   rw[Wm];exact yI (kr.2 i kI[i] _ (RC h2) (RC (by omega))).li
  have nk:=mq hl;have hzn:((ks.zip vs).map (λp=>Ci s1.heap p.1)).Nodup:=by
   have:(ks.zip vs).map (λp=>Ci s1.heap p.1)=((ks.zip vs).map (·.1)).map (Ci s1.heap):=by rw[Ru];rfl
   rw[this,nk,kz];exact hn
  have inj:=λa ha b hb' e'=>by
   have:=nj (xs:=(ks.zip vs).map λp=>(Ci s1.heap p.1,p)) (by rw[Ru];exact hzn) (RX.mpr ⟨a,ha,rfl⟩) (RX.mpr ⟨b,hb',rfl⟩) e';exact(Prod.mk.inj this).2
  refine⟨Xv,λa b=>bj (Ci s1.heap a.1) (Ci s1.heap b.1),?_,λh2 E' Q' hq=>yP (λv hv=>⟨_,kv v hv⟩) (by omega) hq,Ay kv inj (by show X.A.units+1+1<cLine;omega),aD,λout hp hs=>?_⟩
  ·exact(SA.mp hzn).imp λh z=>h (by rw[z])
  ·have lz:(ks.zip vs).length=(kI.zip ts).length:=by rw[U9,U9];omega
   obtain⟨Z,pz,ez⟩:=sK (·.1) hp ((ks.zip vs).zip (kI.zip ts)) (mq lz).symm;obtain⟨n1,d1,x2,I2⟩:=wr (λ_=>#[]) (.inr rfl) I1 aS;obtain⟨n2,d2,x3,I3⟩:=wr (λ_=>(out.map (·.2)).toArray) (.inl rfl) I2 (by rw[Sn _ _ _ _ (Rd hDS)];exact aD);have xa:=(x1.trans x2).trans x3;have rr:∀{t v},RT X.D cm m s.heap t v->RT X.D cm1 m1 ((s1.heap.update kS (RZ λ_=>(#[]:Array R3))).update D (RZ λ_=>(out.map (·.2)).toArray)) t v:=λr =>
    RT.fr (f:=F) (f':=X.fs) (λb h=>.inl (sF b h)) (λ_ _ e=>e) (RT.go (D:=⟨X.prog,X.w,F⟩) (X:={ X with fs:=F }) xa.toExtK I0.mem (nqc I0 gD gS) (RT.fr nn kp r))
   have mem:∀z∈Z,Ci s1.heap z.1.1=z.2.1/\RT X.D cm1 m1 ((s1.heap.update kS (RZ λ_=>(#[]:Array R3))).update D (RZ λ_=>(out.map (·.2)).toArray)) z.2.2 z.1.2:=λz hz=>by
    obtain⟨i,i1,i2⟩:=CX (pz.mem_iff.mp hz);obtain⟨j,j2⟩:=R8.mp i1;obtain⟨k,k1⟩:=R8.mp i2;rw[X2]at j2;rw[X2]at k1;rw[U9]at j k;have a1:=(kr.2 i kI[i] ks[i] (RC (SO k (Nat.min_le_left _ _))) (RC (SO j (Nat.min_le_left _ _)))).li;have hiT:=SO k (Nat.min_le_right _ _);have hiI:=SO j (Nat.min_le_right _ _);rw[<-j2,<-k1];exact⟨yI a1,rr (r1.2 i _ _ (RC hiT) (RC hiI))⟩
   have es:Z.map (·.2)=oC (kI.zip ts):=by
    refine BN (by rw[mq (by omega)];exact hn) ?_ ?_
    ·have:=pz.map (·.2)
     rw[vF lz]at this;exact this
    ·refine SA.mpr ?_
     unfold Ts.Fw at hs;rw[ez]at hs;refine(SA.mp hs).imp_of_mem λ{a b} ha hb' h=>?_
     dsimp only at h;rw[(mem a ha).1,(mem b hb').1]at h;exact h
   have e1':(oC (kI.zip ts)).map (·.2)=Z.map λz=>z.2.2:=by rw[<-es,Ru];rfl
   have e2':out.map (·.2)=Z.map λz=>z.1.2:=by rw[ez,Ru];rfl
   have lo:(out.map (·.2)).length=vs.length:=by
    rw[R2,hp.length_eq,U9];omega
   have xf:aH X.fs X.gs X.tb cm m s cm1 m1 { s1 with heap:=(s1.heap.update kS (RZ λ_=>(#[]:Array R3))).update D (RZ λ_=>(out.map (·.2)).toArray) }:=(((aH.kept (d:=s.drawn) (t:=s.toks) kp).trans xa).weak λb hb n=>by
    rcases cc b hb with rfl|rfl|h
    ·exact gone _ hS
    ·exact gone _ hD
    ·exact Ys h n).fr nn
   have Mf:av X cm1 m1 ((s1.heap.update kS (RZ λ_=>(#[]:Array R3))).update D (RZ λ_=>(out.map (·.2)).toArray)):=I3.mem.fr (X:={ X with fs:=F }) (Y:=X) rfl (λb h=>.inl (sF b h)) (λ_ _ e=>e) id;refine fin D cm1 _ (out.map (·.2)) xf (I.go xf Mf I.nc) ?_ ⟨⟨n2,d2⟩,λz=>?_,by rw[Rz,lo];exact Ts.fy (by omega)⟩ (EA I3.mem dF) (gone _ hD)
   ·refine⟨by rw[e1',e2',R2,R2],λi t v h1 h2=>?_⟩
    rw[e1']at h1;rw[e2']at h2;rw[RR]at h1;obtain⟨z,z1,z2⟩:=RL.mp h1;rw[RR,z1]at h2;cases h2;cases z2;exact(mem z (Rj z1)).2
   ·obtain⟨_,o,e,_⟩:=I.bF _ z
    rw[gone _ hD]at e;cases e
end
section
variable{X:Cx}{params:XX}{body:S4}{scope:UR}{pos p pl:Pos}{q y:Str}{call:Nat->List W->Mem->Res W}{gv:List T}{ea eb:Mi.E}{e:S4}{N':List Str}{keep:List Nat}{k:Nat}{kp:Pos}
theorem Am(hdp:X.A.depth<Va)(hun:X.A.units+64<cLine)(LK:wQ X.toBs)(hq:X.env.qual=q++".<locals>.")(hn:cZ.contains q=true)(hcd:codeIn X.K X.env.code q=true)(hg:Gl X "sorted")(hm:X.mg "sorted" = Zy)(S:te X y scope)(hdef:YE params X.env=([],[]))(hbind:∀cl pm cv ct x,Sx (kla_fn "<lambda>" (iU q) params body scope cl pm cv ct) ⟨[x],[]⟩=pure [(y,x)])(hy:N'[0]?=Zz y)(hown:N'.length=1+keep.length)(hkeep:∀(i:Nat) x,N'[1+i]?=Zz x->∃j,keep[i]?=Zz j/\X.N[j]?=Zz x/\(x,Rt)∈scope.names)(ha:PE call gv X e ea)(he:notStar e=true)(hb:∀cl f cv fs n,PE call gv (om { X with fs:=fs } N' q scope cl f cv n) body eb):
  PE call gv X (.Call (.Name "sorted" p) [e] [⟨Zz "key",.Lambda params body scope pl,kp⟩] pos) (.qP keep ea eb):=λenv cm m s I Q J h=>by
 rw[v7]at h;obtain⟨cl,hclos,hcl1,hcl2⟩:=qA λx hx=>I.ok.has x (S.free x hx)
 refine Se (dy (u:=.builtin "sorted") I hg hm (by decide +kernel) ?_ (by decide) (by decide));have st:=bu (env:=X.env) (es:=[]) he;refine callWith_kw ?_ (by rw[st];rfl) (by rw[st];rfl) rfl rfl;rw[st];refine Tz (ha.one I h λx v cm1 m1 s1 I1 x1 rv o1=>Un ?_);cases qv:view x m1 with
 |none=>rw[qv]at o1;exact o1.elim
 |some tx =>
 rw[qv]at o1;cases tx with
 |lst ts =>
  have o1:ak X X.tb cm1 m1 s1 ((fP (λenv m=>ev call gv eb env m) (keep.map λi=>(env[i]?).join) ts m1).only.bind λks m=>eC (jf ks ts) m) J (WK X Q):=o1;cases ql:fP (λenv m=>ev call gv eb env m) (keep.map λi=>(env[i]?).join) ts m1 with
  |stuck=>rw[ql]at o1;exact o1.elim
  |exc _ _=>rw[ql]at o1;exact o1.elim
  |ok kI m2 =>
   rw[ql]at o1;have o1:ak X X.tb cm1 m1 s1 (eC (jf kI ts) m2) J (WK X Q):=o1;by_cases hc:kI.Nodup/\kI.length<64
   case neg =>
    unfold jf at o1;rw[Yo hc]at o1;exact o1.elim
   unfold jf at o1;rw[Yn hc]at o1;refine wpAny_evalAll_cons (R0 (Ee I1 LK hq hn hcd hdef hclos λf pm cv ct s2 x2 I2 nf gf cf=>R0 (TA (R5 (wpAny_evalAll_nil ?_)))));obtain⟨a,us,rfl,g1,g2⟩:=aE I2.mem (rv.go x2 I1.mem I1.nc.q) qv;have ff:f∉X.fs:=λz=>by
    obtain⟨_,o,e,_⟩:=I1.bF f z;rw[nf]at e;cases e
   refine Bt I2 LK gf ff cf S hcl1 hcl2 hdp hun (λz=>hbind _ _ _ _ z) hy hown hkeep (λfs n=>hb cl f cv fs n) g2 (by obtain⟨⟨n,e⟩,_,_⟩:=g1;exact⟨_,e,rfl,_,rfl⟩) ql hc.1 hc.2 λD cm3 s3 us3 x3 I3 r3 l3 n3 _=>?_
   exact o1.to (x2.trans x3) I3.mem _ (.lst l3 n3 (by simpa using r3.1) (by simpa using r3.2))
 |_=>exact o1.elim
noncomputable def BE(scope osc:UR)(y:Str):Bool:=Dj scope osc&&!scope.isCoroutine&&!scope.isGenerator&&(scope.names.all λp=>p.2 != .cell)&&scope.names.lookup y==Zz .local
theorem Cf(h:BE scope X.env.scope y=true):te X y scope:=by
 unfold BE at h;simp only[RJ]at h;obtain⟨⟨⟨⟨h1,h2⟩,h3⟩,h4⟩,h5⟩:=h;unfold Dj at h1;rw[RJ]at h1;obtain⟨hk,h1⟩:=h1;have h1:=SC.mp h1;have h4:=SC.mp h4;refine⟨eq_of_beq hk,by simpa using h2,by simpa using h3,λx hx z=>?_,eq_of_beq h5,λp hp=>?_,λx hx=>?_⟩
 ·have:=h4 x hx
  rw[z]at this;cases this
 ·have:=h1 p hp
  simp only[RJ]at this;exact eq_of_beq this.1
 ·have:=h1 _ hx
  simp only[RJ,Tl]at this;rcases this.2 with(h|h)|h
  ·cases h
  ·exact .inl (eq_of_beq h)
  ·exact .inr (eq_of_beq h)
theorem yY(h2:nV N' N own keep scope=true):N'.length=own+keep.length/\∀(i:Nat) x,N'[own+i]?=Zz x->∃j,keep[i]?=Zz j/\N[j]?=Zz x/\(x,Rt)∈scope.names:=by
 unfold nV at h2;rw[RJ]at h2;obtain⟨hl,h2⟩:=h2;have h2:=SC.mp h2;refine⟨eq_of_beq hl,λi x e=>?_⟩;have hlen:=eq_of_beq hl;have hi:i<keep.length:=by
  have:=(R8.mp e).1;omega
 have h:=h2 i (Ur.mpr hi);rw[e]at h;cases q:keep[i]? with
 |none=>rw[q]at h;cases h
 |some j =>
  rw[q]at h;have h:=h;rw[RJ]at h;refine⟨j,rfl,eq_of_beq h.1,?_⟩;obtain⟨p,hp,hq⟩:=V1.mp h.2;rw[RJ]at hq;rw[<-eq_of_beq hq.1];have:p.2=Rt:=eq_of_beq hq.2;rw[<-this];exact hp
theorem ta(q:Str)(hr:bI k X.A)(hl:∀e,bI k (X.A.in1.in1.deeper e))(LK:wQ X.toBs)(hcd:codeIn X.K X.env.code q=true)(hm:X.mg "sorted" = Zy)(h1:BE scope X.env.scope y=true)(h2:nV (y::N') X.N 1 keep scope=true)(hg:Gl X "sorted")(hq:X.env.qual=q++".<locals>.")(hn:cZ.contains q=true)(hdef:YE params X.env=([],[]))(hbind:∀cl pm cv ct x,Sx (kla_fn "<lambda>" (iU q) params body scope cl pm cv ct) ⟨[x],[]⟩=pure [(y,x)])(he:notStar e=true)(ha:PE call gv X e ea)(hb:∀cl f cv fs n,bI k (om { X with fs:=fs } (y::N') q scope cl f cv n).A->PE call gv (om { X with fs:=fs } (y::N') q scope cl f cv n) body eb):
  PE call gv X (.Call (.Name "sorted" p) [e] [⟨Zz "key",.Lambda params body scope pl,kp⟩] pos) (.qP keep ea eb):=
 Am hr.depth hr.units LK hq hn hcd hg hm (Cf h1) hdef hbind rfl (yY h2).1 (yY h2).2 ha he λcl f cv fs n=>hb cl f cv fs n (hl _)
end
theorem bI.lam{k:Nat}{A:SF}{e e':SZ}(r:bI (k+1) A):bI k ((A.deeper e).in1.in1.deeper e'):=
 ⟨r.hd,by have:=r.dp;show A.depth+1+1+3*k+5<_;omega,by have:=r.un;show A.units+3+1+1+3+16*k+200<_;omega⟩
structure KI (K:To):Prop where
 Ih:∀q q' P,nY K q P->nY K q' P->q=q'
 hd:∀c q,codeIn K (.ref c) q=true->cZ.contains q=true->∃P,WT K c P=true/\K.lookup P=Zy/\nY K q P
noncomputable def aJ(ps:List RB)(K:To):To:=K.filter λp=>!ps.contains p.1
theorem bN:∀(K:To),(aJ ps K).lookup a=if ps.contains a then Zy else K.lookup a
 |[]=>by cases ps.contains a<;>rfl
 |(b,o)::K=>by
  have ih:=bN (ps:=ps) (a:=a) K;unfold aJ at ih ⊢;rw[Vq];by_cases hb:a=b
  ·subst hb
   cases hc:ps.contains a with
   |true =>
    simp only[hc,TJ,RS,if_false,if_true]at ih ⊢;exact ih
   |false=>simp only[hc,Bool.not_false,if_true,RS,if_false,Sa,beq_self_eq_true]
  ·have e:=Yr.mpr hb
   rw[Sa,e];cases hc:ps.contains b with
   |true =>
    simp only[hc,TJ,RS,if_false];exact ih
   |false =>
    simp only[hc,Bool.not_false,if_true,Sa,e];exact ih
theorem jq:∀{K:To},K.lookup a=Zz o->(a,o)∈K
 |[],h=>by cases h
 |(b,u)::K,h=>by
  rw[Sa]at h;cases e:a==b with
  |true=>rw[e]at h;cases h;rw[eq_of_beq e];exact R9
  |false=>rw[e]at h;exact R4 _ (jq h)
noncomputable def nS(o:Obj):Option Str:=match o.data with
 |.fields vs=>match vs.toList with
  |_::.str n _::_=>Zz n
  |_=>Zy
 |_=>Zy
noncomputable def AF(ps:List RB)(K:To):Bool:=K.all λp=>match nS p.2 with
 |some q=>!cZ.contains q || (match fb p.2 with
  |some x=>ps.contains x.2&&WT K p.1 x.2&&K.all λp'=>match fb p'.2 with
   |some x'=>!decide (x'.2=x.2) || decide (x'.1=x.1)
   |none=>true
  |none=>false)
 |none=>true
section
variable{ps:List RB}{K:To}(T:∀P∈ps,K.lookup P=Zz (tabObj #[]))
include T
theorem i3(l:K.lookup a=Zz o)(nd:o.data≠.fields #[]):(aJ ps K).lookup a=Zz o:=by
 rw[bN,Yo λz=>?_]
 ·exact l
 ·have:=T a (Ul.mp z)
  rw[l]at this;cases this;exact nd rfl
theorem pc(e:codeIn K cd x=true):codeIn (aJ ps K) cd x=true:=by
 cases cd with
 |ref c =>
  have:(aJ ps K).lookup c=K.lookup c:=by
   rw[bN,Yo λz=>?_];have:=T c (Ul.mp z);unfold codeIn at e;dsimp only at e;rw[this]at e;cases e
  unfold codeIn at e ⊢;dsimp only at e ⊢;rw[this];exact e
 |_=>cases e
theorem pQ(l:K.lookup f=Zz ⟨oc,od,.func fd,sl⟩):keepIn (aJ ps K) (.ref f)=true:=by
 have:=i3 T l (λz=>by cases z);unfold keepIn;dsimp only;rw[this]
omit T in
theorem hJ(h:fb o=Zz (q,P)):nS o=Zz q/\cZ.contains q=true:=by
 unfold fb at h;unfold nS;split at h
 ·rename_i vs hd
  try rw[hd]
  try dsimp only
  split at h
  ·rename_i q' t P' h1 h2
   split at h
   ·rename_i hc
    cases h;refine⟨?_,hc⟩;rw[<-Rw]at h1;cases hv:vs.toList with
    |nil=>rw[hv]at h1;cases h1
    |cons a r =>
     rw[hv]at h1;cases r with
     |nil=>cases h1
     |cons b r =>
      have h1:=h1;cases h1;rfl
   ·cases h
  ·cases h
 ·cases h
theorem Ie(B:AF ps K=true):KI (aJ ps K):=by
 have B:=SC.mp B;have at':∀{c:RB}{o:Obj}{q:Str},(aJ ps K).lookup c=Zz o->nS o=Zz q->cZ.contains q=true->∃x,fb o=Zz x/\ps.contains x.2=true/\WT K c x.2=true/\∀p∈K,∀x',fb p.2=Zz x'->x'.2=x.2->x'.1=x.1:=λ{c o q} l hq hn=>by
  rw[bN]at l;split at l
  ·cases l
  ·have b:=B (c,o) (jq l)
   rw[hq]at b;dsimp only at b;rw[hn]at b;cases hx:fb o with
   |none=>rw[hx]at b;cases b
   |some x =>
    rw[hx]at b;simp only[TJ,Bool.false_or,RJ]at b;refine⟨x,rfl,b.1.1,b.1.2,λp hp x' hx' e=>?_⟩;have:=SC.mp b.2 p hp;rw[hx']at this;simp only[Tl,Vb,decide_eq_false_iff_not,decide_eq_true_eq]at this;exact this.resolve_left λz=>z e
 have tb:∀{q:Str}{P:RB},nY (aJ ps K) q P->∃c o,(c,o)∈K/\(aJ ps K).lookup c=Zz o/\fb o=Zz (q,P):=λ⟨c,o,h1,h2,_⟩=>by
  refine⟨c,o,?_,h1,h2⟩;rw[bN]at h1;split at h1
  ·cases h1
  ·exact jq h1
 refine⟨λq q' P h1 h2=>?_,λc q hc hn=>?_⟩
 ·obtain⟨c,o,m1,l1,t1⟩:=tb h1
  obtain⟨c',o',m2,l2,t2⟩:=tb h2;obtain⟨x,e1,_,_,u⟩:=at' l1 (hJ t1).1 (hJ t1).2;rw[t1]at e1;cases e1;exact(u _ m2 _ t2 rfl).symm
 ·have hl:∃o,(aJ ps K).lookup c=Zz o/\nS o=Zz q:=by
   unfold codeIn at hc;dsimp only at hc;split at hc
   ·rename_i vs _ ho
    refine⟨_,ho,?_⟩;unfold nS;dsimp only;split at hc
    ·rename_i n t r hv
     rw[hv];rw[eq_of_beq hc]
    ·cases hc
   ·cases hc
  obtain⟨o,lo,no⟩:=hl;obtain⟨x,e1,e2,e3,_⟩:=at' lo no hn;obtain⟨q',P⟩:=x;obtain rfl:q'=q:=by
   have:=(hJ e1).1;rw[no]at this;exact(SY this).symm
  have hP:(aJ ps K).lookup P=Zy:=by rw[bN,Yn e2]
  refine⟨P,?_,hP,c,o,lo,e1,hP⟩;have lc:(aJ ps K).lookup c=K.lookup c:=by
   rw[bN]at lo ⊢;split at lo
   ·cases lo
   ·rename_i z;rw[Yo z]
  unfold WT at e3 ⊢;rw[lc];exact e3
end
noncomputable abbrev En(P:Ry)(w:SS)(K:To)(mg:Str->Option R3)(ps:List RB)(base:Rm):Bs:=⟨P,w,aJ ps K,mg,base,ps,vT (aJ ps K) ps base⟩
theorem F5{P:Ry}{w:SS}{K:To}{mg:Str->Option R3}{ps:List RB}{base:Rm}(T:∀P∈ps,K.lookup P=Zz (tabObj #[]))(B:AF ps K=true):wQ (En P w K mg ps base):=by
 have L:=Ie T B;exact⟨rfl,L.Ih,λc q h n=>(L.hd c q h n).imp λ_ h=>⟨h.1,h.2.2⟩⟩
theorem law_callT{P:Ry}{w:SS}{K:To}{ps:List RB}{mg mb:Str->Option R3}{s₁:RA}{a fa:RB}{vs:List R3}{ns:List Int}{k:Nat}{fd:TX}{x:Str}{call:List W->Mem->Res W}(KX:K.In s₁.heap)(T:∀P∈ps,K.lookup P=Zz (tabObj #[]))(C:∀P∈ps,∃c,WT K c P=true)(B:AF ps K=true)(hns:s₁.heap.Ns RU mg)(hb:s₁.heap.Ns VF mb)(hbb:∀x:Str,x≠"__name__"->mb x=UE x)(hlim:s₁.heap.NoLimit)(hbm:∃bm ob,mg "__builtins__" = Zz (.ref bm)/\bm≠VF/\s₁.heap.get? bm=Zz ob/\ob.cls=.type "module"/\ob.dict=Zz VF/\ob.data=.plain)(hg:s₁.gens=#[])(ha:s₁.heap.get? a=Zz { cls:=.type "list",data:=.seq vs.toArray })(hi:TB vs ns)(hl:ns.length<=Rq)(hr:bI k Y5)(F:∀base:Rm,(aJ ps K).In base->xD (En P w K mg ps base) call k fa fd [x])(hbind:∀(s:RA) (u:R3),Xr s fd ⟨[u],[]⟩ [(x,u)])(hc:∃m,call [.t (.fH ns)] []=.ok (.t (.bl true)) m):
  UB (Rp P w) Y5 (.call (.ref fa) ⟨[.ref a],[]⟩) (λr s'=>r=.ok (.ret (.bool true))/\OldK s₁.heap s'.heap/\s'.os=s₁.os/\XU s'.gens) s₁:=by
 obtain⟨m',hc⟩:=hc;have sz:vs.length=ns.length:=(zn hi).1.symm;have TH:=λP hP=>KX P _ (T P hP)
 have bas:∀{b:RB}{o:Obj},s₁.heap.get? b=Zz o->(∀v,o.data≠.fields v)->(Y6 s₁.heap ps).get? b=Zz o:=λ{b o} e d=>PySem.W.hideAll_get _ e λhm=>by
  have:=TH b hm;rw[this]at e;cases e;exact d _ rfl
 have nsK:∀{b:RB}{m:Str->Option R3},s₁.heap.Ns b m->(Y6 s₁.heap ps).Ns b m:=λ{b m} ⟨o,es,ep,e,d,r⟩=>⟨o,es,ep,bas e (λv z=>by rw[d]at z;cases z),d,r⟩
 have hKb:(aJ ps K).In (Y6 s₁.heap ps):=λb o e=>by
  rw[bN]at e;split at e
  ·cases e
  ·rename_i z
   exact PySem.W.hideAll_get _ (KX b o e) λhm=>z (Ul.mpr hm)
 have tab:vT (aJ ps K) ps (Y6 s₁.heap ps) s₁.heap:=by
  refine⟨λQ hQ=>⟨PySem.W.hideAll_none ps hQ,#[],TH Q hQ,trivial⟩,λq Q ⟨c,o,l,t,n⟩=>?_⟩;have hQ:Q∈ps:=by
   rw[bN]at l;split at l
   ·cases l
   ·have b:=SC.mp B (c,o) (jq l)
    rw[(hJ t).1]at b;dsimp only at b;rw[(hJ t).2,t]at b;simp only[TJ,Bool.false_or,RJ]at b;exact Ul.mp b.1.1
  exact⟨hQ,#[],TH Q hQ,trivial,λpos cv z=>by cases z⟩
 let X:Cx:={ En P w K mg ps (Y6 s₁.heap ps)with A:=Y5,N:=[],env:=envOfC "" (aa (.Pass ⟨0,0,0,0⟩)) 0 0 .none,stack:=[],fs:=[],fn:=λ_=>false,calm:=true }
 have M:av X [] [] s₁.heap:=⟨rfl,λi j a p q e=>(by simp at e),λi p e=>(by simp at e),tab⟩
 have ca:Ca X [] [] s₁:=⟨⟨hKb,nsK hns,⟨mb,nsK hb,hbb⟩,let⟨mc,h1,h2⟩:=hlim;⟨mc,nsK h1,h2⟩,by
   obtain⟨bm,ob,b1,b2,b3,b4,b5,b6⟩:=hbm;exact⟨bm,ob,b1,b2,bas b3 (λv z=>by rw[b6]at z;cases z),b4,b5,b6⟩⟩,rfl,(λe h=>nomatch h),(λ_ t=>t.nc),(λ_ _ t k=>t.go k),(λ_ t b h=>(t.1 b h).2.elim λ_ h=>⟨_,h.1⟩),M,.of_eq hg,λ_ _ e=>PySem.W.of_hideAll ps e,λ_ h=>nomatch h⟩
 refine TC (F _ hKb X rfl hr [] [] s₁ ca ⟨[.ref a],[]⟩ [.ref a] [.t (.fH ns)] (.inr ⟨_,_,hc⟩) (hbind s₁ (.ref a)) rfl (.cons ?_ .nil) (λv s'=>v=.bool true/\OldK s₁.heap s'.heap/\s'.os=s₁.os/\XU s'.gens) (λ_ _=>False) ?_) λr s' h=>?_
 ·exact RT.fH (x:=vs.toArray) ns ⟨_,_,ha,rfl,rfl,rfl,by simpa[sz]using hl⟩ (λi p e=>by simp at e) (λh=>nomatch h) (by simpa using zn hi)
 ·rw[hc]
  intro cm' t x' M' v r;refine⟨r.KN,⟨λb o e=>?_,λb o e=>(x'.thr b o e).imp λ_ h=>h.1⟩,x'.os,x'.bare ca.bare⟩;by_cases hb:b∈ps
  ·have e':=TH b hb
   rw[e]at e';cases e';obtain⟨c,hc⟩:=C b hb;obtain⟨_,more,z,_⟩:=M'.tab.1 b hb;exact .inr (.inl ⟨((PySem.W.codeHd_of_K KX hc).tab e).isCodeTable,rfl,#[],more,rfl,by rw[z];simp⟩)
  obtain⟨_,o',e',q⟩:=x'.keep b o e hb (λi p e=>by simp at e);rcases q with rfl|⟨h,_⟩
  ·exact .inl e'
  ·cases h
 ·cases r with
  |error e=>exact h.elim
  |ok fl =>
   cases fl with
   |ret u=>obtain⟨rfl,h⟩:=h;exact⟨rfl,h⟩
   |next=>exact TP h
   |brk=>exact TP h
   |cont=>exact TP h
theorem Co{q:Ry}{loose:List Str}{XP:(Str->Option R3)->Rm->Prop}{YP:SS->Rm->Prop}{d:DefRec}{l:Xi}{K:Yk->To}{ps:List RB}{n k:Nat}{x:Str}{call:List W->Mem->Res W}(S:l.most=Zz n)(E:n<=Rq)(J:d.params.defaults=[])(R:bI k Y5)(Z:∀(w:SS) (h:Rm),YP w h->(K w.params).In h)(T:∀(w:SS) P,P∈ps->(K w.params).lookup P=Zz (tabObj #[]))(C:∀(w:SS) P,P∈ps->∃c,WT (K w.params) c P=true)(B:∀w:SS,AF ps (K w.params)=true)(F:∀(w:SS) (p:Str->Option R3) (z:RB) (h:Rm),(K w.params).In h->h.Ns RU p->p d.name=Zz (.ref z) ->
   ∃M:TX,(∀(s:RA) (u:R3),Xr s M ⟨[u],[]⟩ [(x,u)])/\∀i:Rm,(aJ ps (K w.params)).In i->xD (En l.prog w (K w.params) p ps i) call k z M [x])(D:∀y:List Int,y.length<=n->∃m,call [.t (.fH y)] []=.ok (.t (.bl true)) m):
  PySem.W.WalkO q loose XP YP l.row.toRowW d [] (λf N=>Sq f N):=by
 refine Att.wE S J λw O r p mb z o pm cd doc a N y G Y ho hd V I t m j U=>?_
 have Q:=Z w _ Y;obtain⟨M,X,hF⟩:=F w p z _ Q G.T.g I;exact law_callT Q (T w) (C w) (B w) G.T.g G.T.b G.T.builtins G.T.nolimit G.T.bmain U t m (Rg j E) R hF X (D y j)
theorem insI_perm(x:List Int):∀l:List (List Int),(insI x l).Perm (x::l)
 |[]=>.refl _
 |y::r=>by
  rw[insI];split
  ·exact((insI_perm x r).cons y).trans (.swap _ _ _)
  ·exact .refl _
theorem sortI_perm:∀xs:List (List Int),(sortI xs).Perm xs
 |[]=>.refl _
 |x::r=>(insI_perm x _).trans ((sortI_perm r).cons x)
theorem zL(x:List Int):∀{l:List (List Int)},l.Pairwise (λa b=>bj b a=false)->(insI x l).Pairwise (λa b=>bj b a=false)
 |[],_=>TE _ _
 |y::r,h=>by
  rw[insI];obtain⟨h1,h2⟩:=SQ.mp h;split
  ·rename_i q
   refine SQ.mpr ⟨λz hz=>?_,zL x h2⟩;rcases R6.mp ((insI_perm x r).mem_iff.mp hz)with rfl|hz
   ·exact hG q
   ·exact h1 z hz
  ·rename_i q
   have q:bj y x=false:=by simpa using q
   refine SQ.mpr ⟨λz hz=>?_,h⟩;rcases R6.mp hz with rfl|hz
   ·exact q
   ·exact jI q (h1 z hz)
theorem rf:∀xs:List (List Int),(sortI xs).Pairwise (λa b=>bj b a=false)
 |[]=>.nil
 |x::r=>zL x (rf r)
theorem lJ(hp:ys.Perm xs)(hw:ys.Pairwise (λa b=>bj b a=false)):ys=sortI xs:=
 VA (λa b _ _ h1 h2=>gQ h2 h1) hw (rf xs) (hp.trans (sortI_perm xs).symm)
section
open PySem.W
variable{prog:Ry}{w:SS}{A:SF}{E:R3->RA->Prop}{s:RA}
theorem zo{fin:Bool}:∀{vs ws:List R3}{ns ms:List Int}(i:Nat),TB vs ns->TB ws ms->fin=decide (ns.length<ms.length)->Q (bj ns ms) s->KatLex prog w A true fin Q (vs.zip ws) i s
 |_,_,_,_,i,.nil,hw,hf,h=>by
  refine kat_nil ?_;rw[hf];cases hw with
  |nil=>exact h
  |cons c u hw=>exact h
 |_,_,_,_,i,.cons a t hv,.nil,hf,h=>by
  refine kat_nil ?_;rw[hf];exact h
 |_,_,_,_,i,.cons a t hv,.cons c u hw,hf,h=>by
  refine kat_cons (Wl ?_);rw[bj]at h;cases q:(a==c)with
  |true =>
   rw[Yn (eq_of_beq q)]at h;exact kat_yes (zo (i+1) hv hw (by rw[hf];simp) h)
  |false =>
   rw[Yo (by simpa using q)]at h;refine kat_no ?_;cases z:(true&&i==0)with
   |true=>exact oneLt_int h
   |false=>exact kat_one _ _ (lt_int h)
def TI(h:Rm)(v:R3)(k:List Int):Prop:=∃a o its n,v=.ref a/\h.get? a=Zz o/\o.cls=.type "tuple"/\o.data=.seq its n/\TB its.toList k
theorem TI.keep(t:TI h v k)(kp:∀b o,h.get? b=Zz o->h'.get? b=Zz o):TI h' v k:=by
 obtain⟨a,o,its,n,e1,e2,e3⟩:=t;exact⟨a,o,its,n,e1,kp _ _ e2,e3⟩
theorem DL{kf:R3->List Int}(hv:∀v∈vs,TI s.heap v (kf v))(inj:∀v∈vs,∀u∈vs,kf v=kf u->v=u)(h':Rm)(kp:∀b o,s.heap.get? b=Zz o->h'.get? b=Zz o):
  Ts.Ia prog w A { s with heap:=h' } (tuples' true) (λx=>x∈(Um vs).toList) (λx y=>bj (kf x.1) (kf y.1)):=by
 have mm:∀{x:W9},x∈(Um vs).toList->x.1=x.2/\x.1∈vs:=λh=>by rw[US]at h;exact Xw h
 refine⟨λx y hx hy E Q q=>?_,λx y z _ _ _=>jI,λx y _ _=>hG,λx y hx hy h1 h2=>?_⟩
 ·obtain⟨a,o,its,n,e1,e2,e3,e4,e5⟩:=(hv _ (mm hx).2).keep kp
  obtain⟨b,p,jts,k,f1,f2,f3,f4,f5⟩:=(hv _ (mm hy).2).keep kp;rw[e1,f1];refine kat_lt e2 e4 f2 f4 (zo 0 e5 f5 ?_ q);rw[<-e5.length,<-f5.length];simp
 ·have:=inj _ (mm hx).2 _ (mm hy).2 (gQ h1 h2)
  exact Yh this (by rw[<-(mm hx).1,<-(mm hy).1];exact this)
theorem Ax{vs:List R3}{kf:R3->List Int}(hv:∀v∈vs,TI s.heap v (kf v))(hne:∀v∈vs,kf v≠[])(h0:0<vs.length){Q:Vv->RA->Prop}(h:Q (tuples' true) s):RF (Rp prog w) A (XG vs.toArray) Q E s:=by
 obtain⟨fs,hf,hfi,hl⟩:∃fs,KatTups s.heap vs fs/\(∀v∈fs,∃n t,v=XS n t)/\fs.length=vs.length:=by
  clear h0 h
  induction vs with
  |nil=>exact⟨[],.nil,λv hv=>by simp at hv,rfl⟩
  |cons v vs ih =>
   obtain⟨fs,h1,h2,h3⟩:=ih (λu hu=>hv u (R4 _ hu)) (λu hu=>hne u (R4 _ hu));obtain⟨a,o,its,n,rfl,e2,e3,e4,e5⟩:=hv v R9;have hn:=hne _ R9;obtain⟨f,t,e6⟩:∃f t,its[0]?=Zz (XS f t):=by
    rw[<-Rw];cases q:kf (.ref a)with
    |nil=>exact Ys q hn
    |cons i r =>
     rw[q]at e5;generalize its.toList=l at e5;cases e5 with
     |cons i t _=>exact⟨i,t,rfl⟩
   refine⟨_::fs,.cons e2 e3 e4 e6 h1,λu hu=>?_,by simp[h3]⟩;rcases R6.mp hu with rfl|hu
   ·exact⟨f,t,rfl⟩
   ·exact h2 u hu
 refine kat_kind (T:=.type "int") hf (by omega) (λv hv=>?_) (by decide) h;obtain⟨n,t,rfl⟩:=hfi v hv;exact .now
theorem IntsAre.inj:∀{vs:List R3}{ns ms:List Int},TB vs ns->TB vs ms->ns=ms
 |_,_,_,.nil,.nil=>rfl
 |_,_,_,.cons a t h,.cons _ _ h2=>by rw[IntsAre.inj h h2]
theorem TI.inj(t:TI h v k)(u:TI h v l):k=l:=by
 obtain⟨a,o,its,n,rfl,e2,e3,e4,e5⟩:=t;obtain⟨b,p,jts,m,f1,f2,f3,f4,f5⟩:=u;cases f1;rw[e2]at f2;cases f2;rw[e4]at f4;cases f4;exact Mi.IntsAre.inj e5 f5
open Classical in
noncomputable def zi(h:Rm)(v:R3):List Int:=if p:∃k,TI h v k then p.choose else[]
theorem Ew(t:TI h v k):zi h v=k:=by
 unfold zi;rw[dif_pos ⟨k,t⟩];exact(Exists.choose_spec (⟨k,t⟩:∃k,TI h v k)).inj t
end
theorem zw:∀{ts:List T}{ks:List (List Int)},kM ts=Zz ks->ts=ks.map kQ
 |[],_,h=>by cases h;rfl
 |t::r,ks,h=>by
  have h:((D2 t).bind λk=>(kM r).map (k::·))=Zz ks:=h;cases t with
  |tup us =>
   have h:((eG us).bind λk=>(kM r).map (k::·))=Zz ks:=h;cases q1:eG us with
   |none=>rw[q1]at h;cases h
   |some k =>
    rw[q1]at h;have h:(kM r).map (k::·)=Zz ks:=h;cases q2:kM r with
    |none=>rw[q2]at h;cases h
    |some ls=>rw[q2]at h;cases h;rw[jY q1,zw q2];rfl
  |_=>cases h
theorem eW{α β:Type}{f:α->β}{l:List α}(h:(l.map f).Nodup):l.Nodup:=(SA.mp h).imp λq e=>q (congrArg f e)
theorem RT.ti{D:Dm}{cm:List RB}{m:Mem}{h:Rm}{k:List Int}{v:R3}(r:RT D cm m h (kQ k) v):TI h v k:=by
 unfold kQ at r;cases r with
 |tup p f el r =>
  obtain⟨o,n,e,c,d,_⟩:=p;exact⟨_,o,_,n,rfl,e,c,d,jA ⟨el,r⟩⟩
section
variable{X:Cx}{env:Mi.Env}{cm:List RB}{m:Mem}{s:RA}{J Q:VK}{A:SF}{E:VK}{us:List R3}{ks:List (List Int)}{l:RB}{call:Nat->List W->Mem->Res W}{gv:List T}{e:S4}{es:List S4}{L:Es}{pos p:Pos}{D:Dm}{ns:List Int}
theorem Ah(P:fG D cm m s.heap (ks.map kQ) us)(hl:s.heap.IsList l us.toArray)(hz:us.length<64)(hN:ks.Nodup)(hne:(ks.all λk=>!k.isEmpty)=true)(h:∀out:List R3,fG D cm m s.heap ((sortI ks).map kQ) out->Q (.ref (s.heap.objs.size+1)) { s with heap:=Xy s.heap us out.toArray }):
  RF (Rp X.prog X.w) A (Sq (.builtin "sorted") [.ref l]) Q E s:=by
 have hv:∀u∈us,TI s.heap u (zi s.heap u)/\zi s.heap u∈ks/\RT D cm m s.heap (kQ (zi s.heap u)) u:=λu hu=>by
  obtain⟨i,hi,rfl⟩:=T5 hu;have hk:i<ks.length:=by have:=P.1;rw[R2]at this;omega
  have r:=P.2 i (kQ ks[i]) us[i] (by rw[RR,RC hk];rfl) (RC hi);rw[Ew r.ti];exact⟨r.ti,UP hk,r⟩
 have hm:us.map (zi s.heap)=ks:=by
  refine List.ext_getElem (by have:=P.1;rw[R2]at this ⊢;omega) λi h1 h2=>?_
  rw[Wm];have hi:i<us.length:=by simpa using h1
  exact Ew (P.2 i (kQ ks[i]) us[i] (by rw[RR,RC h2];rfl) (RC hi)).ti
 have nd:(us.map (zi s.heap)).Nodup:=by rw[hm];exact hN
 have inj:∀v∈us,∀u∈us,zi s.heap v=zi s.heap u->v=u:=λv hv' u hu e=>by
  obtain⟨i,hi,rfl⟩:=Ux.mp hv';obtain⟨j,hj,rfl⟩:=Ux.mp hu;have:=(V0 (h₀:=by simpa using hi) (h₁:=by simpa using hj) nd).mp (by simpa using e);subst this;rfl
 have ndu:us.Nodup:=eW nd;have ndp:(Um us).toList.Nodup:=by
  rw[US];have:(us.zip us).map (·.1)=us:=by rw[Vr (RO _)]
  exact eW (f:=(·.1)) (by rw[this];exact ndu)
 have hn0:∀v∈us,zi s.heap v≠[]:=λv hv' z=>by
  have:=SC.mp hne _ (hv v hv').2.1;rw[z]at this;cases this
 refine Ts.zJ (κ:=tuples' true) (B:=λx y=>bj (zi s.heap x.1) (zi s.heap y.1)) hl hz ndp (λh2 A' h' kp E' Q' q=>?_) (λA' h' kp=>DL (λv hv'=>(hv v hv').1) inj h' kp) λout hp hs=>?_
 ·exact Ax (s:={ s with heap:=h' }) (λv hv'=>(hv v hv').1.keep kp) hn0 (by omega) q
 ·have mm:∀x∈out.toList,x.1=x.2/\x.1∈us:=λx hx=>by
   have:=hp.mem_iff.mp hx;rw[US]at this;exact Xw this
  have e2:(out.map (·.2)).toList=out.toList.map (·.1):=by
   rw[Tt];exact UO λx hx=>((mm x hx).1).symm
  have pu:(out.toList.map (·.1)).Perm us:=by
   have:=hp.map (·.1);rw[US,Vr (RO _)]at this;exact this
  have ek:(out.toList.map (·.1)).map (zi s.heap)=sortI ks:=by
   refine lJ ?_ ?_
   ·have:=pu.map (zi s.heap)
    rw[hm]at this;exact this
   ·rw[Ru]
    exact SA.mpr hs
  have fin:fG D cm m s.heap ((sortI ks).map kQ) (out.toList.map (·.1)):=by
   rw[<-ek,Ru];refine⟨by rw[R2],λi t v a b=>?_⟩;rw[RR,b]at a;cases a;exact(hv v (pu.mem_iff.mp (Rj b))).2.2
  have:=h _ fin;rw[<-e2]at this;exact this
theorem q6{os:List R3}{l:List T}(I:Fr X env cm m s)(q:ak X X.tb cm m s (.ok (.t (.lst l)) m) J (WK X Q))(r:fG X.D cm m s.heap l os)(hz:os.length<=Rq):Q (.ref (s.heap.objs.size+1)) { s with heap:=Xy s.heap us os.toArray }:=by
 obtain⟨ep,z⟩:=sortedAll_at s.heap us os.toArray;refine I.lst (n:=s.toks) (d:=s.drawn) q r (λb ob q=>sortedAll_old q) (Rk (Tf _)) ⟨⟨_,by simpa[seqObj]using z⟩,λhb=>?_,by simpa using hz⟩;obtain⟨_,o',ho',_⟩:=I.bF _ hb;exact Ys (SO (Re ho') (Tf _)) (S7 _)
theorem wj:CB X (.builtin "sorted") .vy:=λenv cm m s I ws us r Q J q=>by
 obtain⟨w,v,t,rr,rfl,rfl,r,e,c,q⟩:=qi r (cY (by decide)) q;cases t with
 |lst l =>
  obtain⟨ks,q3,c⟩:=RP.mp (show((kM l).bind λks=>if ks.Nodup/\ks.length<64/\(ks.all λk=>!k.isEmpty)=true then Zz (T.lst ((sortI ks).map kQ))else Zy)=Zz rr from c);obtain⟨⟨hN,hL,hne⟩,c⟩:=RI.mp c;cases c;cases zw q3;obtain⟨a,⟨x⟩,rfl,p,k⟩:=aE I.mem r e;have hl:x.length=ks.length:=by have:=k.1;rw[R2]at this;exact this.symm
  refine Ah k p.pl.isList (by show x.length<64;omega) hN hne λout ro=>q6 I q ro ?_
  have:=ro.1;have hsl:=TS;rw[R2,(sortI_perm ks).length_eq]at this;omega
 |_=>cases c
theorem w5(hg:Gl X "sorted")(hm:X.mg "sorted" = Zy)(ha:PA call gv X (e::es) L)(he:notStar e=true)(hpl:es.all notStar=true):PE call gv X (.Call (.Name "sorted" p) (e::es) [] pos) (.blt .vy L):=fY wj (by decide +kernel) hg hm ha (by decide) (by decide) he hpl
end
section
variable{X:Cx}{call:Nat->List W->Mem->Res W}{gv:List T}{pos:Pos}{rest:List S5}{K:Mi.S}
theorem AL:fW call gv X (.Return Zy pos::rest) (.DO K):=λenv cm m s I R J j h=>by
 rw[Ac]at h;exact S6 (wpAny_Return_none (h.now I.mem env I .none .non))
theorem BQ{sts:List S5}:fW call gv X sts .pL:=λenv cm m s I R J j h=>by
 rw[Eb]at h;exact h.elim
end
section
variable{X:Cx}{env:Mi.Env}{cm:List RB}{m:Mem}{s:RA}{J Q:VK}{A:SF}{us:List R3}{l:RB}{call:Nat->List W->Mem->Res W}{gv:List T}{e:S4}{es:List S4}{ea:Mi.E}{L:Es}{pos p:Pos}{D:Dm}{ns:List Int}{h:Rm}
noncomputable def iv:R3->Int
 |.int n _=>n
 |_=>0
theorem C9:∀{us:List R3}{ns:List Int},TB us ns->us.map iv=ns
 |_,_,.nil=>rfl
 |_,_,.cons n t r=>by rw[Rf,C9 r];rfl
theorem ints_of:∀{us:List R3}{ns:List Int},TB us ns->∀os:List R3,(∀u∈os,u∈us)->TB os (os.map iv):=λ{us ns} h os ho=>by
 have mem:∀u∈us,∃n t,u=XS n t:=λu hu=>by
  clear ho
  induction h with
  |nil=>cases hu
  |cons n t r ih =>
   rcases R6.mp hu with rfl|hu
   ·exact⟨n,t,rfl⟩
   ·exact ih hu
 induction os with
 |nil=>exact .nil
 |cons u os ih =>
  obtain⟨n,t,rfl⟩:=mem u (ho u R9);exact .cons n t (ih λv hv=>ho v (R4 _ hv))
theorem KJ(a b:Int):bj [a] [b]=decide (a<b):=by
 by_cases h:a=b
 ·subst h
  rw[bj,Yn rfl];simp[bj]
 ·rw[bj,Yo h]
theorem A8{E:R3->RA->Prop}(P:TB us ns)(hl:s.heap.IsList l us.toArray)(hz:us.length<64)(hN:ns.Nodup)(h:∀out:List R3,TB out ((sortI (ns.map λn=>[n])).map λk=>k.headD 0)->Q (.ref (s.heap.objs.size+1)) { s with heap:=Xy s.heap us out.toArray }):
  RF (Rp X.prog X.w) A (Sq (.builtin "sorted") [.ref l]) Q E s:=by
 have hm:us.map iv=ns:=C9 P;have nd:(us.map iv).Nodup:=by rw[hm];exact hN
 have inj:∀v∈us,∀u∈us,iv v=iv u->v=u:=λv hv' u hu e=>by
  obtain⟨i,hi,rfl⟩:=Ux.mp hv';obtain⟨j,hj,rfl⟩:=Ux.mp hu;have:=(V0 (h₀:=by simpa using hi) (h₁:=by simpa using hj) nd).mp (by simpa using e);subst this;rfl
 have ndu:us.Nodup:=eW nd;have ndp:(Um us).toList.Nodup:=by
  rw[US];have:(us.zip us).map (·.1)=us:=by rw[Vr (RO _)]
  exact eW (f:=(·.1)) (by rw[this];exact ndu)
 have mz:∀{x:W9},x∈(Um us).toList->x.1=x.2/\x.1∈us:=λh=>by rw[US]at h;exact Xw h
 have form:∀u∈us,∃t,u=XS (iv u) t:=λu hu=>by
  have:=ints_of P [u] (λv hv=>by rw[RH.mp hv];exact hu);generalize e1:[u]=l1 at this;generalize e2:l1.map iv=l2 at this;cases this with
  |nil=>cases e1
  |cons n t r =>
   injection e1 with e1 _;subst e1;exact⟨t,rfl⟩
 refine Ts.zJ (κ:=Xv) (B:=λx y=>bj [iv x.1] [iv y.1]) hl hz ndp (λh2 A' h' kp E' Q' q=>?_) (λA' h' kp=>⟨λx y hx hy E Q q=>?_,λx y z _ _ _=>jI,λx y _ _=>hG,λx y hx hy h1 h2=>?_⟩) λout hp hs=>?_
 ·obtain⟨v1,v2,vr,rfl⟩:∃v1 v2 vr,us=v1::v2::vr:=by
   rcases us with _|⟨a,_|⟨b,r⟩⟩
   ·simp at h2
   ·simp at h2
   ·exact⟨a,b,r,rfl⟩
  rw[keyKind_ints P];exact R5 q
 ·obtain⟨t,e1⟩:=form _ (mz hx).2
  obtain⟨u,e2⟩:=form _ (mz hy).2;rw[KJ]at q;rw[e1,e2];exact PySem.W.kat_lt_int q
 ·have e0:iv x.1=iv y.1:=by
   have:=gQ h1 h2;injection this
  have:=inj _ (mz hx).2 _ (mz hy).2 e0;exact Yh this (by rw[<-(mz hx).1,<-(mz hy).1];exact this)
 ·have mm:∀x∈out.toList,x.1=x.2/\x.1∈us:=λx hx=>mz (hp.mem_iff.mp hx)
  have e2:(out.map (·.2)).toList=out.toList.map (·.1):=by
   rw[Tt];exact UO λx hx=>((mm x hx).1).symm
  have pu:(out.toList.map (·.1)).Perm us:=by
   have:=hp.map (·.1);rw[US,Vr (RO _)]at this;exact this
  have ek:(out.toList.map (·.1)).map (λv=>[iv v])=sortI (ns.map λn=>[n]):=by
   refine lJ ?_ ?_
   ·have:=pu.map (λv=>[iv v])
    rw[show us.map (λv=>[iv v])=ns.map λn=>[n] by rw[<-hm,Ru];rfl]at this;exact this
   ·rw[Ru]
    exact SA.mpr hs
  have i1:=ints_of P (out.toList.map (·.1)) λu hu=>pu.mem_iff.mp hu
  have e3:(out.toList.map (·.1)).map iv=(sortI (ns.map λn=>[n])).map λk=>k.headD 0:=by
   rw[<-ek,Ru,Ru,Ru];rfl
  rw[e3]at i1;have:=h (out.toList.map (·.1)) i1;rw[<-e2]at this;exact this
theorem zj:∀{ns:List Int}{us:List R3},TB us ns->fG D cm m h (ns.map .int) us
 |_,_,.nil=>.nil
 |_,_,.cons n t r=>.cons (.int n t) (zj r)
theorem vK:CB X (.builtin "sorted") .wu:=λenv cm m s I ws us r Q J q=>by
 obtain⟨w,v,t,rr,rfl,rfl,r,e,c,q⟩:=qi r (cY (by decide)) q;cases t with
 |lst l =>
  obtain⟨ns,q3,c⟩:=RP.mp (show((eG l).bind λns=>if ns.Nodup/\ns.length<64 then Zz (T.lst ((sortI (ns.map λn=>[n])).map λk=>.int (k.headD 0)))else Zy)=Zz rr from c);obtain⟨⟨hN,hL⟩,c⟩:=RI.mp c;cases c;cases jY q3;obtain⟨a,⟨x⟩,rfl,p,k⟩:=aE I.mem r e;have hl:x.length=ns.length:=by have:=k.1;rw[R2]at this;exact this.symm
  refine A8 (jA k) p.pl.isList (by show x.length<64;omega) hN λout ro=>?_
  have r2:=zj (D:=X.D) (cm:=cm) (m:=m) (h:=s.heap) ro;rw[Ru]at r2;refine q6 I q r2 ?_;have:=ro.length;have hsl:=TS;rw[R2,(sortI_perm _).length_eq,R2]at this;omega
 |_=>cases c
theorem yX(hg:Gl X "sorted")(hm:X.mg "sorted" = Zy)(ha:PA call gv X (e::es) L)(he:notStar e=true)(hpl:es.all notStar=true):PE call gv X (.Call (.Name "sorted" p) (e::es) [] pos) (.blt .wu L):=fY vK (by decide +kernel) hg hm ha (by decide) (by decide) he hpl
end
section
variable{X:Cx}{call:Nat->List W->Mem->Res W}{gv:List T}{o e:S4}{E:Mi.E}{L:Es}{apos cpos:Pos}
theorem yO:CM X "list.extend" (xy .extend):=λenv cm m s I w ws v us r rs Q J h=>by
 obtain⟨i,a,m1,xs,ts,t,ys,y,rfl,I,e1,e2,p,q,rs,e,h⟩:=uZ (λ_ _ _=>rfl) (λ_ _ _=>rfl) (λ_ _ _ _ _=>rfl) I r rs h;have one:∃zs,ts=[.lst zs]:=by
  rcases ts with _|⟨t,_|⟨t',ts⟩⟩
  ·cases e
  ·cases t<;>first|exact⟨_,rfl⟩|cases e
  ·cases t<;>cases e
 obtain⟨zs,rfl⟩:=one;obtain⟨hl,e⟩:=RI.mp (show(if xs.length+zs.length<=lim then Zz (T.non,xs++zs)else Zy)=Zz (t,ys)from e);cases e;obtain⟨u,us,rfl,r1,r0⟩:=rs.inv;obtain rfl:=RY.mp r0.1.symm;cases r1 with
 |@lst b z _ p2 n2 el rz =>
  obtain⟨⟨n2,e4⟩,_,hz2⟩:=p2;obtain⟨⟨n,e3⟩,_,hz⟩:=id p;have hq:=q.1;simp only[RM]at hq el;have hn:=line;have hsz:y.size+z.size<=Rq:=by omega
  have hlong:¬(!y.isEmpty&&UJ (y.size+z.size))=true:=by
   rw[vN hsz,Bool.and_false];exact RK
  obtain⟨x,I2⟩:=lR (f:=λx=>x++z) (y':=y++z) (n:=s.toks) I e1 e2 p rfl (by rw[Array.size_append];omega) (by rw[Array.toList_append];exact q.app ⟨by simpa using el,rz⟩);exact UK F.slot_list_extend ⟨_,e3,rfl⟩ F.entry_list_extend (F.args_list_extend_2 _ _) (AutoSeq1.list_extend_list_list_0 a y n b z n2 hlong (by omega) (by omega)) ⟨e3,e4,h.to x I2.mem _ .non⟩
theorem wU(z:PE call gv X o E)(A:PA call gv X [e] L)(b:V9 o "extend" X.env (eval o X.env)=eval o X.env:=by rfl)(a:(apos.endLine==cpos.line)=true:=by rfl)(k:notStar e=true:=by rfl):PE call gv X (.Call (.Attribute o "extend" apos) [e] [] cpos) (.vo .extend E L):=yk (b:=.extend) VP PySem.F.slot_list_extend PySem.F.type_list_extend yO (λ_ _=>by rw[uI]) (xm λ_ _=>rfl) z A b (Hl k) a k rfl
end
section
variable{X:Cx}{D:Dm}{cm:List RB}{m:Mem}{h:Rm}{call:Nat->List W->Mem->Res W}{gv:List T}{a b:S4}{A B:Mi.E}{pos:Pos}{v:R3}{ks:List L2.Key}{ts:List T}{neg:Bool}
theorem FX(env:Mi.Env)(m:Mem):evs call gv (.cons A (.cons B .nil)) env m=(ev call gv A env m).bind λw m=>(ev call gv B env m).bind λu m=>.ok [w,u] m:=by
 rw[jb]
 congr 1
 funext w m
 rw[uC,a9];rfl
theorem RT.KR(r:RT D cm m h (.dct ks ts) v):∃a us,v=.ref a/\Je D h a (ks.zip us)/\ks.length=us.length/\fG D cm m h ts us:=by
 cases r with
 |dct p n e1 e2 r=>exact⟨_,_,rfl,p,e1,e2,r⟩
theorem Ds(ha:PE call gv X a A)(hb:PE call gv X b B)(hs:Ji b)(_:X.A.units+64<cLine):PE call gv X (.Subscript a b pos) (.blt .wD (.cons A (.cons B .nil))):=λenv cm m s I Q J h=>by
 rw[fA,FX,a9]at h;simp only[a9]at h;refine EJ PySem.F.slot_dict_getitem.lookup hs (ha.two hb I h λw u v z c1 m1 s1 I1 x r1 r2 h=>?_);have h:ak X X.tb c1 m1 s1 (eC ((views [w,u] m1).bind λl=>iR .wD l) m1) J (WK X Q):=h;obtain⟨t,e,h⟩:=fz h;obtain⟨l,e1,e2⟩:=RP.mp e;have e2:Cd l=Zz t:=e2;unfold Cd at e2;split at e2
 rotate_left
 ·cases e2
 rename_i ks vs k q;obtain⟨_,_,e3,e4,e5⟩:=bJ e1;cases e3;obtain⟨_,e3,e6⟩:=mL e5;cases e3;obtain⟨kk,e7,e8⟩:=RP.mp e2;obtain⟨ad,us,rfl,⟨_,_,dd,_⟩,l,ra⟩:=(ae r1 e4).KR;rcases za (ks:=ks) ra kk with⟨t',uu,f1,f2,f3⟩|⟨f1,_⟩
 ·rw[e8]at f1;cases f1
  exact⟨dd.typeIs,wpAny_getItem_of (key_is r2 e6 e7) dd.mapOf f2 (h.to (I1.up (g:=s1.heap) (d:=s1.drawn) λ_ _ e=>e).1 (I1.up (ch:=[]) (g:=s1.heap) (t:=s1.toks+1) (d:=s1.drawn) λ_ _ e=>e).2.mem _ f3)⟩
 ·rw[e8]at f1;cases f1
end
theorem compTurn_dict(hg:gens[d]?=Zz ⟨target,iter,ifs,0⟩)(hn:gens[d+1]?=Zy):
  VZ (.DictComp k v gens scope pos) d it (.ref a) env=(do
   Uo iter.pos
   match <-pyNext it with
   |none=>pure (.done .next)
   |some x =>
    TU target it x
    assign target env x
    let mut ok:=true
    for c in ifs do
     if ok then ok <-isTrue c env (eval c env)
    if ok then
     (do
      let kv <-eval k env
      let vv <-WE [kv] (eval v env)
      Uo { k.pos with endLine:=v.pos.endLine,endCol:=v.pos.endCol }
      WE [kv,vv] (dictSet a kv vv))
    again (.compLoop (.DictComp k v gens scope pos) d it (.ref a) env)):=by
 unfold VZ;simp only[hg,hn];rfl
inductive km:List R3->List (L2.Key×R3)->Prop
 |nil:km [] []
 |cons {vs ps}(kk:L2.Key) (kv v:R3):L2.n8 kk kv=true->km vs ps->km (kv::v::vs) ((kk,v)::ps)
theorem km.snoc{vs:List R3}{ps:List (L2.Key×R3)}{kk:L2.Key}{kv v:R3}(f:km vs ps)(h:L2.n8 kk kv=true):km (vs++[kv,v]) (ps++[(kk,v)]):=by
 induction f with
 |nil=>exact .cons kk kv v h .nil
 |cons a b c d _ ih=>exact .cons a b c d ih
theorem km.len{vs:List R3}{ps:List (L2.Key×R3)}(f:km vs ps):vs.length=2*ps.length:=by
 induction f with
 |nil=>rfl
 |cons kk kv v _ _ ih=>simp only[Rr];omega
theorem oM(ps:List (L2.Key×R3))(p:L2.Key×R3):merged [] (ps++[p])=stored (merged [] ps) p.1 p.2:=by
 unfold merged;rw[List.foldl_append];rfl
def Fs(P:Ry)(w:SS)(D:RB)(h:Rm)(vs:List R3):Prop:=∃ps,km vs ps/\(merged [] ps).length<=ps.length/\h.DictOf (L2.fc P w) D (merged [] ps)
theorem DictOf.obj{P:Ry}{w:SS}{h:Rm}{D:RB}{us:List (L2.Key×R3)}(d:h.DictOf (L2.fc P w) D us):∃o es ep,h.get? D=Zz o/\o.data=.dict es ep:=by
 obtain⟨o,es,ep,e,_,hd,_⟩:=d;exact⟨o,es,ep,e,hd⟩
theorem Az{P:Ry}{w:SS}{D:RB}{f:List RB}(hD:D∈f):xi f D (Fs P w D):=⟨λ⟨_,_,_,d⟩=>(by
 obtain⟨o,es,ep,e,hd⟩:=DictOf.obj d;refine⟨o,e,λk=>?_,(λv z=>by rw[hd]at z;cases z),λv z=>(by rw[hd]at z;cases z)⟩;cases k with
 |seq x n z=>rw[hd]at z;cases z
 |dict x n z n'=>exact n' hD
 |ref C v z1 z=>rw[hd]at z;cases z
 |trace v z1 z=>rw[hd]at z;cases z
 |plain z=>rw[hd]at z;cases z),λ⟨ps,f,l,o,es,ep,e,t⟩ k=>⟨ps,f,l,o,es,ep,k o e,t⟩⟩
theorem yU(ps:List (L2.Key×R3))(k:L2.Key)(v:R3):(stored ps k v).length<=ps.length+1:=by
 unfold stored;split
 ·rw[R2];omega
 ·rw[RD];exact RO _
section
variable{Y:Cx}{call:Nat->List W->Mem->Res W}{gv:List T}{ke ve target iter:S4}{gens:List UM}{scope:UR}{pos:Pos}{D:RB}{ea eb:Mi.E}{ifs:List S4}{tg:Tg}{cs:Es}
theorem AC(hc:Y.calm=true)(hD:D∈Y.fs)(hDo:D∉Y.own)(hs:D∉frs Y.stack)(hg:gens[0]?=Zz ⟨target,iter,ifs,0⟩)(hnx:gens[1]?=Zy)(pg:PG Y target tg)(pt:Gf call gv Y cs ifs)(pk:PE call gv Y ke ea)(pv:PE call gv Y ve eb){s0 s:RA}{cm0 cm:List RB}{m0 m m':Mem}{env:Mi.Env}{ts out:List T}{it:RB}{fp:List RB}{vs:List R3}(x0:aH Y.fs Y.gs (D::Y.own) cm0 m0 s0 cm m s)(tk:uS fp target)(hDf:D∉fp)(fr:∀b∈fp,s0.heap.get? b=Zy)(I:Fr Y env cm m s)(on:On Y cm m s.heap it fp 0 ts)(ha:Fs Y.prog Y.w D s.heap vs)(hn:∀i∈rJ tg++fB (.ji ea eb),∀w,env[i]?≠Zz (Zz w))(ok:bC (turnF call gv cs (.ji ea eb)) tg ts env m=.ok out m')(hl:vs.length+out.length<=lim):
  UB Y.M Y.A (.compLoop (.DictComp ke ve gens scope pos) 0 (.ref it) (.ref D) Y.env) (λr s'=>r=.ok .next/\wX Y (Fs Y.prog Y.w D) D env vs cm0 m0 s0 out m' s') s:=by
 have hz:=mi;have K:=Az (P:=Y.prog) (w:=Y.w) hD;have tbo:∀b∈Y.tb,b∈D::Y.own:=λb hb=>R4 _ (aX b hb)
 have neL:D≠Y.env.locals:=λz=>hDo (z▸R9)
 refine lO hc K hD hDo hs (Pt:=λ_=>True) rfl rfl (compTurn_dict hg hnx) pg pt (λ_ _ z=>by simp[fB]at z) ?_ x0 tk hDf fr I on ha hn ok hl (λ_ _=>trivial);intro s cm m m' env out vs J I ha hn ok hl _;obtain⟨w,m1,j,ok2⟩:=ap ok;obtain⟨rfl,rfl⟩:=jO ok2;rw[vp]at j;obtain⟨w1,m2,ok3,ok4⟩:=ap j;obtain⟨w2,m3,ok5,ok6⟩:=ap ok4;cases w1 with
 |t t =>
  dsimp only at ok6;cases hk:uH t with
  |none=>rw[hk]at ok6;cases ok6
  |some kk =>
   rw[hk]at ok6;obtain⟨u,m4,ok7,ok8⟩:=ap ok6;cases ok8;refine R0 (R0 (mK (pk.run I ok3) λkv s1 ⟨cm1,x1,I1,r1⟩=>R0 (SE (mK (pv.run I1 ok5) λvv s2 ⟨cm2,x2,I2,r2⟩=>?_))));obtain⟨x3,I3,r3⟩:=qV I2 r2 ok7;have nt:D∉Y.tb:=λz=>hDo (aX _ z)
   have a3:=K.go I2 hD x3.toExtK nt hs (K.go I1 hD x2.toExtK nt hs (K.go I hD x1.toExtK nt hs ha));have n3:=qO K I3 a3;have fl:=K.obj a3;obtain⟨ps,f1,f2,dd⟩:=a3;have hlp:=f1.len;have rk:RW Y.D cm2 _ s2.heap (.t t) kv:=(r1.go x2.toExtK I1.mem I1.nc.q).go x3.toExtK I2.mem I2.nc.q;have ek:=key_is (P:=Y.prog) (W:=Y.w) rk (show view (.t t) _=Zz t from rfl) hk;obtain⟨o1,es1,ep1,e1,d1⟩:=DictOf.obj dd;refine R0 (TA (SE (wpAny_dictSet_pairs ek dd (λh' hd' sb=>R5 ?_) (by simp at hl;omega))));obtain⟨o2,es2,ep2,e2,d2⟩:=DictOf.obj hd';obtain⟨x4,I4⟩:=I3.acc (ch:=Y.own) (tk:=s2.toks+1) hD neL fl (λb o hb eb=>(sb.2 b hb).trans eb) ⟨o2,e2,⟨(λv z=>by rw[d2]at z;cases z),λz=>Ys z hs⟩,λo e' n x n' z=>by rw[d2]at z;cases z⟩;exact⟨rfl,cm2,[kv,vv],(((x1.trans x2).trans x3).sub tbo).trans x4,I4,.cons (RW.go (w:=.t t) x4.toExtK I3.mem n3 rk) (.cons (r3.go x4.toExtK I3.mem n3) .nil),ps++[(kk,vv)],f1.snoc ek,by
    rw[oM,RD];exact Rg (yU _ _ _) (Nat.add_le_add_right f2 1),by rw[oM];exact hd'⟩
 |_=>cases ok6
end
section
variable{X:Cx}{D:Dm}{cm:List RB}{m:Mem}{h:Rm}{call:Nat->List W->Mem->Res W}{gv:List T}{k v target iter:S4}{ifs:List S4}{ea eb it:Mi.E}{cs:Es}{tg:Tg}{pos:Pos}{scope:UR}{N':List Str}{own:Nat}{keep:List Nat}
theorem wN:∀{ts:List T}{p:List L2.Key×List T}{vs:List R3}{ps:List (L2.Key×R3)},nB ts=Zz p->fG D cm m h ts vs->km vs ps->p.1=ps.map (·.1)/\fG D cm m h p.2 (ps.map (·.2))
 |[],p,vs,ps,h,r,f=>by
  cases h;cases f with
  |nil=>exact⟨rfl,.nil⟩
  |cons _ _ _ _ _=>cases r.1
 |[_],_,_,_,h,_,_=>by cases h
 |k::v::ts,p,vs,ps,h,r,f=>by
  obtain⟨kv,y,rfl,r1,r⟩:=r.inv;obtain⟨vv,z,rfl,r2,r⟩:=r.inv;cases f with
  |cons kk _ _ hk f =>
   unfold nB at h;obtain⟨k',e1,e2⟩:=RP.mp h;obtain⟨q,e3,rfl⟩:=RL.mp e2;obtain⟨e4,e5⟩:=wN e3 r f;have e6:=(L2.fc D.P D.w).inj kv k' kk (key_is (w:=.t k) r1 rfl e1) hk;exact⟨by rw[Rf,<-e4,e6],.cons r2 e5⟩
theorem zA{α β:Type}(ps:List (α×β)):(ps.map (·.1)).zip (ps.map (·.2))=ps:=by
 induction ps with
 |nil=>rfl
 |cons q r ih=>rw[Rf,Rf,UZ,ih]
variable(call gv) in
def Gi(X:Cx)(N':List Str)(scope:UR)(k v target:S4)(ifs:List S4)(tg:Tg)(cs:Es)(ea eb:Mi.E):Prop:=
 ∀(cl:List (Str×RB)) (C:RB) (F:List RB),PG (aP X N' scope cl C F) target tg/\Gf call gv (aP X N' scope cl C F) cs ifs/\PE call gv (aP X N' scope cl C F) k ea/\PE call gv (aP X N' scope cl C F) v eb
theorem AR{P:Prop}(h1:Dj scope X.env.scope=true)(h2:nV N' X.N own keep scope=true)(pi:PI call gv true X target iter it)(fs:∀x,UF iter X.env x=pure x)(ins:P)(JT:∀i∈rJ tg,i<own):
 rE call gv X N' scope own keep target iter it tg (.ji ea eb) P:=wq h1 h2 pi fs ins (λ_ _ z=>by simp[fB]at z) (by simpa[fB]using JT)
theorem tD(hc:X.calm=true)(K:rE call gv X N' scope own keep target iter it tg (.ji ea eb) (Gi call gv X N' scope k v target ifs tg cs ea eb)):
  PE call gv X (.DictComp k v [⟨target,iter,ifs,0⟩] scope pos) (.blt .Ab (.cons (.comp own keep it tg cs (.ji ea eb)) .nil)):=λenv cm m s I Q J hp=>by
 rw[fA,uC]at hp;cases h:ev call gv (.comp own keep it tg cs (.ji ea eb)) env m with
 |stuck=>rw[h]at hp;exact hp.elim
 |exc e m'=>exact Ys h (io e m')
 |ok w m' =>
  obtain⟨out,rfl⟩:=jT h;rw[h]at hp;obtain⟨t,e,hp⟩:=fz (show ak X X.tb cm m s (eC (qd out) m') J (WK X Q)from hp);unfold qd at e;obtain⟨p,hu,e⟩:=RP.mp e;obtain⟨⟨nd,le⟩,e⟩:=RI.mp e;cases e;rw[arm_eval_DictComp];refine nG (Acc:=Fs X.prog X.w) hc K rfl rfl (λv z=>(by cases z)) (λ_ _ _=>rfl) (λ_ _ _=>rfl) (λh=>SG h) (λh=>⟨[],.nil,RO _,_,#[],0,h,⟨rfl,rfl,rfl⟩,rfl,WG (λ_ he=>by simp at he) ⟨Pairs.nil,List.nodup_nil⟩⟩)
   (λcl C D F s0 s cm0 cm m0 m m' env ts it fp hDF hDo hDs x0 tk hDf fr I on ha hn ok hl =>
    AC (Y:=aP X N' scope cl C F) hc hDF hDo hDs rfl rfl (K.ins cl C F).1 (K.ins cl C F).2.1 (K.ins cl C F).2.2.1 (K.ins cl C F).2.2.2 x0 tk hDf fr I on ha hn ok (by rw[Sy,Ua];exact hl)) I h λD C s3 cm3 vs F=>⟨_,F.ns.choose_spec,λh' hs=>?_⟩
  obtain⟨x,nq,x5,I5⟩:=F.go I F.fr F.ext F.ns hs;obtain⟨ps,f1,_,dd⟩:=F.acc;obtain⟨e1,e2⟩:=wN hu F.rel f1;rw[e1]at nd;rw[merged_nil_of_nodup ps nd]at dd;refine hp.to x5 I5.mem _ ((RT.go x F.fr.mem nq (t:=.dct p.1 p.2) (v:=.ref D) ?_).fr (f:=C::X.fs) (λb h=>.inl (R4 _ h)) λ_ _ e=>e);rw[e1]at le ⊢;refine .dct (x:=ps.map (·.2)) ⟨?_,Yr.mpr λz=>?_,?_,F.nf⟩ F.nl (by rw[R2,R2]) e2.1 e2.2
  ·rw[zA];rw[R2]at le;exact Rg le (by decide)
  ·have:=F.gl
   rw[z]at this;exact Ys this (by decide)
  ·rw[zA];exact dd
end
section
variable{prog:Ry}{w:SS}{A:SF}{E:R3->RA->Prop}{s:RA}
theorem jZ:∀(ns:List Int) (n:Int),eU n ns<=n/\(∀x∈ns,eU n ns<=x)/\eU n ns∈n::ns
 |[],n=>⟨Wf _,λx hx=>by simp at hx,by simp[eU]⟩
 |a::r,n=>by
  obtain⟨h1,h2,h3⟩:=jZ r (if a<n then a else n);have e:eU n (a::r)=eU (if a<n then a else n) r:=rfl;rw[e];by_cases h:a<n
  ·rw[Yn h]at h1 h2 h3 ⊢
   refine⟨by omega,λx hx=>?_,R4 _ h3⟩;rcases R6.mp hx with rfl|hx
   ·exact h1
   ·exact h2 x hx
  ·rw[Yo h]at h1 h2 h3 ⊢
   refine⟨h1,λx hx=>?_,?_⟩
   ·rcases R6.mp hx with rfl|hx
    ·omega
    ·exact h2 x hx
   ·rcases R6.mp h3 with h3|h3
    ·rw[h3];exact R9
    ·exact R4 _ (R4 _ h3)
theorem EL{E:R3->RA->Prop}(hh:A.handled=Zy)(hl:s.heap.IsList l vs.toArray)(hi:TB vs (n::ns))(h:∀h' tk t',(∀b o,s.heap.get? b=Zz o->h'.get? b=Zz o)->Q (.int (eU n ns) t') { s with heap:=h',toks:=tk }):RF (Rp prog w) A (Sq (.builtin "min") [.ref l]) Q E s:=by
 obtain⟨xs,hx⟩:=hi.allInts.items;have hl':=hx▸hl;have e1:n::ns=xs.toList.map (·.1):=by
  rw[<-nums_intItems,<-hx];exact(hi.numsOf).symm
 have hsz:xs.size=ns.length+1:=by
  have:=congrArg Vz e1;simpa using this.symm
 have num:∀j,j<xs.size->numAt xs j=(n::ns).getD j 0:=λj hj=>by
  rw[e1];simp[numAt,Xz]
 refine min_intList hh hl' (by omega) λv h' tk hv hk=>?_
 obtain⟨t,rfl⟩:=Y4 hv;obtain⟨b1,b2⟩:=argBest_lt (numAt xs) (xs.size-1);obtain⟨m1,m2,m3⟩:=jZ ns n;have key:numAt xs (Vc (λi j=>decide (numAt xs i<numAt xs j)) (xs.size-1))=eU n ns:=by
  refine Int.le_antisymm ?_ ?_
  ·obtain⟨j,hj,ej⟩:=T5 m3
   have hj':j<xs.size:=by rw[hsz];exact hj
   have:=b2 j (by omega);rw[num j hj']at this;rw[<-ej];rw[U1,RC hj]at this;exact this
  ·have hb:Vc (λi j=>decide (numAt xs i<numAt xs j)) (xs.size-1)<xs.size:=by omega
   rw[num _ hb];generalize Vc (λi j=>decide (numAt xs i<numAt xs j)) (xs.size-1)=b at hb;have hb':b<(n::ns).length:=by rw[Rr];omega
   have:(n::ns).getD b 0∈n::ns:=by
    rw[U1,RC hb'];exact UP hb'
   rcases R6.mp this with e|e
   ·rw[e];exact m1
   ·exact m2 _ e
 rw[key];exact h h' tk t hk
end
section
variable{X:Cx}{D:Dm}{cm:List RB}{m:Mem}{s:RA}{h:Rm}{J Q:VK}{call:Nat->List W->Mem->Res W}{gv:List T}{a b e o:S4}{es:List S4}{A B E:Mi.E}{L:Es}{pos p apos cpos:Pos}{v z:R3}{u w:W}{x y t:T}
theorem yF(hc:X.calm=true):CB X (.builtin "min") .Gd:=λenv cm m s I ws us r Q J q=>by
 obtain⟨w,v,t,rr,rfl,rfl,r,e,c,q⟩:=qi r (cY (by decide)) q;cases t with
 |lst l =>
  obtain⟨ns,q3,c⟩:=RP.mp (show GL l=Zz rr from c);cases ns with
  |nil=>cases c
  |cons n ns =>
   obtain⟨_,c⟩:=RI.mp (show(if ns.length<64 then Zz (T.int (eU n ns))else Zy)=Zz rr from c);cases c;cases jY q3;obtain⟨a,⟨x⟩,rfl,p,k⟩:=aE I.mem r e;exact EL (I.ok.hd hc) p.pl.isList (jA (k:=n::ns) k) λh' tk t' hk=>q.to (I.up (g:=h') (t:=tk) (d:=s.drawn) hk).1 (I.up (g:=h') (t:=tk) (d:=s.drawn) (ch:=[]) hk).2.mem _ (.int _ _)
 |_=>cases c
theorem Bq(hg:Gl X "min")(hm:X.mg "min" = Zy)(ha:PA call gv X (e::es) L)(he:notStar e=true)(hpl:es.all notStar=true)(hc:X.calm=true:=by rfl):PE call gv X (.Call (.Name "min" p) (e::es) [] pos) (.blt .Gd L):=fY (yF hc) (by decide +kernel) hg hm ha (by decide) (by decide) he hpl
theorem Bi(hc:X.calm=true):CB X (.builtin "any") .any:=λenv cm m s I ws us r Q J q=>by
 obtain⟨w,v,t,rr,rfl,rfl,r,e,k,q⟩:=qi r (cY (by decide)) q;have fin:∀{l:List T}{y:Array R3}{a:RB},(cE l).map (λd=>T.bl (d.any id))=Zz rr->fG X.D cm m s.heap l y.toList->(∃o,s.heap.get? a=Zz o)->∃b:List Bool,y=(b.map Vo).toArray/\a≠s.heap.objs.size /\
   TruthOf X.prog X.w X.A.in1 (λi v=>y[i]?=Zz v) (λi=>(b[i]?).getD false)/\∀(h':Rm) (tk:Nat),(∀b o,s.heap.get? b=Zz o->h'.get? b=Zz o)->Q (.bool ((SX y.size).any λi=>(b[i]?).getD false)) { s with heap:=h',toks:=tk }:=λ{l y a} k r ⟨o,ho⟩=>by
  obtain⟨b,q2,rfl⟩:=RL.mp k;obtain⟨y⟩:=y;obtain rfl:=qN r q2;refine⟨b,rfl,Rd (Re ho),λi v s' Q' E' hP k=>?_,λh' tk kp=>?_⟩
  ·have hP:(b.map Vo)[i]?=Zz v:=by simpa using hP
   rw[RR]at hP;obtain⟨c,qq,rfl⟩:=RL.mp hP;dsimp only at k;rw[qq]at k;exact Sh k
  ·have e:((SX (b.map Vo).toArray.size).any λi=>(b[i]?).getD false)=b.any id:=by
    rw[Rz,R2];have:=congrArg (λl=>l.any id) (BW (α:=Nat) (λ_=>true) b false);rw[<-this,List.any_map];rfl
   rw[e];exact q.to (I.up (d:=s.drawn) kp).1 (I.up (ch:=[]) kp).2.mem _ (.bl _)
 cases t with
 |lst l =>
  obtain⟨a,y,rfl,p,r⟩:=aE I.mem r e;obtain⟨⟨n,ho⟩,_⟩:=id p;obtain⟨b,_,hn,tr,fin⟩:=fin (a:=a) k r ⟨_,ho⟩;have j:=p.pl.isList;exact call_any_walk (VS j ⟨s.heap.objs.size,[s.heap.objs.size,a],[s.heap.objs.size],y.size,_,_,_,rfl,Vm (A:=X.A.in1) (I.ok.hd hc) _ a hn y,⟨⟨_,RN _ rfl,rfl,rfl⟩,j.push _⟩,tr,λh' tk hk=>fin h' tk (pT hk)⟩)
 |tup l =>
  obtain⟨a,y,rfl,p,r⟩:=(ae r e).ka;have j:=p.tup;obtain⟨o,n,ho,_⟩:=id p;obtain⟨b,_,hn,tr,fin⟩:=fin (a:=a) k r ⟨_,ho⟩;exact call_any_walk (VG j ⟨s.heap.objs.size,[s.heap.objs.size,a],[s.heap.objs.size],y.size,_,_,_,rfl,Vy (A:=X.A.in1) (I.ok.hd hc) _ a hn y,⟨⟨_,RN _ rfl,rfl,rfl⟩,(let⟨o,n,r⟩:=j;⟨o,R7 _ n,r⟩)⟩,tr,λh' tk hk=>fin h' tk (pT hk)⟩)
 |_=>cases k
theorem Dv(hg:Gl X "any")(hm:X.mg "any" = Zy)(ha:PA call gv X (e::es) L)(he:notStar e=true)(hpl:es.all notStar=true)(hc:X.calm=true:=by rfl):PE call gv X (.Call (.Name "any" p) (e::es) [] pos) (.blt .any L):=fY (Bi hc) (by decide +kernel) hg hm ha (by decide) (by decide) he hpl
end
section
variable{prog:Ry}{w:SS}{A:SF}{R:Result->RA->Prop}{I:RB}{fp wr:List RB}{n:Nat}{P:Nat->R3->Prop}{St:Nat->Rm->Prop}{E:R3->RA->Prop}{s:RA}{l:RB}{vs:List R3}{ns:List Int}{kw:List (Str×R3)}{Q:R3->RA->Prop}
theorem AW(W:Walks prog w A.in1 I fp wr n P St)(bt:Nat->Nat->Bool)(hcmp:CmpOf prog w A.in1 .Lt P bt)(S:RB)(hSf:S∉fp):
  ∀(k j:Nat) (s:RA) (vb:R3) (c:Nat),n-(j+1)=k->j+1<=n->St (j+1) s.heap->P (Vc bt j) vb->s.heap.get? S=Zz { cls:=.type "list",dict:=Zy,data:=.seq #[vb,vb] c,slots:=#[] } ->
  (∀v h' tk,P (Vc bt (n-1)) v->(∀b o,b∉wr->b≠S->s.heap.get? b=Zz o->h'.get? b=Zz o)->R (.ok (.ret v)) { s with heap:=h',toks:=tk }) ->
  UB (Rp prog w) A (.builtin "min.loop" ⟨[.ref I,.none,.ref S],kw⟩) R s:=by
 have hSw:S∉wr:=λh=>hSf (W.sub _ h)
 have hname:(toString "min"++toString ".loop" : String) = "min.loop":=by decide
 intro k
 induction k with
 |zero =>
  intro j s vb c hk hj hst hPb hS hR;have hin:j+1=n:=by omega
  refine Sj Vd ?_;rw[Sc T2 _];show RF _ A.in1 (YR (.ref S) >>= _) _ _ s;refine R0 (Sw hS rfl ?_);show RF _ A.in1 (tryCatch (pyNext (.ref I)) _ >>= _) _ _ s;refine R0 (Ve (W.done s _ _ (hin▸hst) λh' tk hk'=>?_));have hS':=hk' S _ hSw hS;show RF _ A.in1 (updateSeq S (λ_=>#[]) >>= _) _ _ _;refine R0 (XD hS' rfl (R0 (VI (R5 ?_))));exact hR vb _ tk (by rw[<-hin];exact hPb) λb o hbw hbS e=>(Rs _ _ (Su hbS)).trans (hk' b o hbw e)
 |succ k ih =>
  intro j s vb c hk hj hst hPb hS hR;have hlt:j+1<n:=by omega
  refine Sj Vd ?_;rw[Sc T2 _];show RF _ A.in1 (YR (.ref S) >>= _) _ _ s;refine R0 (Sw hS rfl ?_);show RF _ A.in1 (tryCatch (pyNext (.ref I)) _ >>= _) _ _ s;refine R0 (Ve (W.item (j+1) s _ _ hlt hst λv h' tk hP hst' hk'=>?_));have hS':=hk' S _ hSw hS;show RF _ A.in1 (tryCatch (WE [v,v] (richCompare .Lt v vb >>= _)) _ >>= _) _ _ _;refine R0 (Ve (SE (R0 (hcmp (j+1) (Vc bt j) v vb _ _ _ hP hPb ?_))));refine R0 (SE (Sh (R0 (VI (R5 ?_)))));cases hb:bt (j+1) (Vc bt j)with
  |true =>
   simp only[if_true];refine R0 (XD hS' rfl (R0 (VI ?_)));rw[hname];refine R5 ⟨Te T2 _,ih (j+1) _ v _ (by omega) hlt (W.frame _ _ _ hst' λb hbf o e=>?_) (by simp only[Vc,hb,if_true];exact hP) (SH _ hS' rfl) λv' h'' tk'' hP' hk''=>?_⟩
   ·exact(Rs _ _ (λh:S=b=>hSf (by rw[h];exact hbf))).trans e
   ·exact hR v' h'' tk'' hP' λb o hbw hbS e=>hk'' b o hbw hbS ((Rs _ _ (Su hbS)).trans (hk' b o hbw e))
  |false =>
   simp only[RS,if_false];refine R0 (VI ?_);rw[hname];refine R5 ⟨Te T2 _,ih (j+1) _ vb c (by omega) hlt hst' (by simp only[Vc,hb,RS,if_false];exact hPb) hS' λv' h'' tk'' hP' hk''=>?_⟩;exact hR v' h'' tk'' hP' λb o hbw hbS e=>hk'' b o hbw hbS (hk' b o hbw e)
theorem CD{xs:Array (Int×Tok)}{n:Int}{ns:List Int}(e1:n::ns=xs.toList.map (·.1)):numAt xs (Vc (λi j=>decide (numAt xs i<numAt xs j)) (xs.size-1))=eU n ns:=by
 have hsz:xs.size=ns.length+1:=by
  have:=congrArg Vz e1;simpa using this.symm
 have num:∀j,j<xs.size->numAt xs j=(n::ns).getD j 0:=λj hj=>by
  rw[e1];simp[numAt,Xz]
 obtain⟨b1,b2⟩:=argBest_lt (numAt xs) (xs.size-1);obtain⟨m1,m2,m3⟩:=jZ ns n;refine Int.le_antisymm ?_ ?_
 ·obtain⟨j,hj,ej⟩:=T5 m3
  have hj':j<xs.size:=by rw[hsz];exact hj
  have:=b2 j (by omega);rw[num j hj']at this;rw[<-ej];rw[U1,RC hj]at this;exact this
 ·have hb:Vc (λi j=>decide (numAt xs i<numAt xs j)) (xs.size-1)<xs.size:=by omega
  rw[num _ hb];generalize Vc (λi j=>decide (numAt xs i<numAt xs j)) (xs.size-1)=b at hb;have hb':b<(n::ns).length:=by rw[Rr];omega
  have:(n::ns).getD b 0∈n::ns:=by
   rw[U1,RC hb'];exact UP hb'
  rcases R6.mp this with e|e
  ·rw[e];exact m1
  ·exact m2 _ e
theorem Aq(a v:R3):argsOk "min" ⟨[a],[(UU "default",v)]⟩:=by unfold argsOk;kernel_rfl
theorem Ed(hh:A.handled=Zy)(hl:s.heap.IsList l vs.toArray)(hi:TB vs ns)(h:∀v h' tk,(∀b o,s.heap.get? b=Zz o->h'.get? b=Zz o)->(ns=[]/\v=.none∨∃n r t,ns=n::r/\v=.int (eU n r) t)->Q v { s with heap:=h',toks:=tk }):RF (Rp prog w) A (Sq (.builtin "min") [.ref l] [(UU "default",.none)]) Q E s:=by
 have hname:(toString "min"++toString ".loop" : String) = "min.loop":=by decide
 obtain⟨xs,hx⟩:=hi.allInts.items;have hl':=hx▸hl;have e1:ns=xs.toList.map (·.1):=by
  rw[<-nums_intItems,<-hx];exact(hi.numsOf).symm
 refine kmk_tree PySem.F.kind_min PySem.F.plain_min PySem.F.entry_min (Aq _ _) ?_;show RF _ A.in1 (Builtin.Builtins.bindParams "min" ["key","default"] 0 ⟨[],[(UU "default",.none)]⟩ >>= _) _ _ s;refine R0 (WZ (show Builtin.Builtins.bindParams "min" ["key","default"] 0 ⟨[],[(UU "default",.none)]⟩=pure [Zy,Zz .none]from rfl) ?_);refine R0 (R5 ?_);refine R0 (iter_intList hl' λs₂ e st hfp hlI=>?_);subst e;have hne:ns.length=xs.size:=by rw[e1];simp
 have W:=Vm (prog:=prog) (w:=w) (A:=A.in1) hh s.heap.objs.size l hlI (Xx xs);have S1:s.heap.objs.size+1=(s.heap.push { cls:=.type "list_iterator",data:=.fields #[.ref l,.int 0 0] }).objs.size:=(S3 ..).symm;refine R0 (SG ?_);rw[hname];have hSf:(s.heap.push { cls:=.type "list_iterator",data:=.fields #[.ref l,.int 0 0] }).objs.size∉[s.heap.objs.size,l]:=λhm=>S7 _ (hfp _ hm)
 have hSw:(s.heap.push { cls:=.type "list_iterator",data:=.fields #[.ref l,.int 0 0] }).objs.size∉[s.heap.objs.size]:=λhm=>hSf (W.sub _ hm)
 have st2:=W.frame _ _ _ st λb _ o e=>R7 { cls:=.type "list",data:=.seq #[] } e
 have hS:=RN (s.heap.push { cls:=.type "list_iterator",data:=.fields #[.ref l,.int 0 0] }) (o:={ cls:=.type "list",data:=.seq #[] }) rfl;have kept:∀{h':Rm},(∀b o,b∉[s.heap.objs.size]->b≠(s.heap.push { cls:=.type "list_iterator",data:=.fields #[.ref l,.int 0 0] }).objs.size->((s.heap.push { cls:=.type "list_iterator",data:=.fields #[.ref l,.int 0 0] }).push { cls:=.type "list",data:=.seq #[] }).get? b=Zz o->h'.get? b=Zz o)->∀b o,s.heap.get? b=Zz o->h'.get? b=Zz o:=λ{h'} k b o e =>
  k b o (λz=>by rw[RH.mp z]at e;exact S7 _ (Re e)) (λz=>by rw[z,<-S1]at e;exact Ys (Re e) (WI.mpr (Tf _))) (R7 _ (R7 _ e))
 refine R5 ⟨Te T2 _,?_⟩;have hin:(Xx xs).size=xs.size:=by simp[Xx]
 refine Sj Vd ?_;rw[Sc T2 _];show RF _ A.in1 (YR (.ref _) >>= _) _ _ _;refine R0 (Sw hS rfl ?_);show RF _ A.in1 (tryCatch (pyNext (.ref s.heap.objs.size)) _ >>= _) _ _ _;cases ns with
 |nil =>
  have h0:(Xx xs).size=0:=by rw[hin,<-hne];rfl
  refine R0 (Ve (W.done _ _ _ (h0.symm▸st2) λh' tk hk'=>?_));refine R0 (UH (R5 ?_));exact h _ _ _ (kept λb o h1 h2 e=>hk' b o h1 e) (.inl ⟨rfl,rfl⟩)
 |cons n r =>
  have h1:0<(Xx xs).size:=by rw[hin,<-hne];exact Xu _
  refine R0 (Ve (W.item 0 _ _ _ h1 st2 λv h' tk hP hst' hk'=>?_));have hS':=hk' _ _ hSw hS;show RF _ A.in1 (updateSeq _ (λ_=>#[v,v]) >>= _) _ _ _;refine R0 (XD hS' rfl ?_);rw[hname];refine R5 ⟨Te T2 _,AW W _ (CmpOf.ints_lt (numAt xs) (λ_ _=>Y4)) _ hSf _ 0 _ v _ rfl h1 (W.frame _ _ _ hst' λb hbf o e=>?_) hP (SH _ hS' rfl) λv' h'' tk'' hP' hk''=>?_⟩
  ·exact(Rs _ _ (λh=>hSf (by rw[h];exact hbf))).trans e
  ·obtain⟨t,rfl⟩:=Y4 hP'
   rw[hin,CD e1];exact h _ _ _ (kept λb o z1 z2 e=>hk'' b o z1 z2 ((Rs _ _ (Su z2)).trans (hk' b o z1 e))) (.inr ⟨n,r,t,rfl,rfl⟩)
end
section
variable{X:Cx}{call:Nat->List W->Mem->Res W}{gv:List T}{e:S4}{L:Es}{p cp kp pos:Pos}{kk:Bool}
theorem CO{kk}(hg:Gl X "min")(hm:X.mg "min" = Zy)(ha:PA call gv X [e] L)(hs:notStar e=true:=by rfl)(hc:X.calm=true:=by rfl):PE call gv X (.Call (.Name "min" p) [e] [⟨Zz "default",.Constant .none kk cp,kp⟩] pos) (.blt .Ix L):=λenv cm m s I Q J q=>by
 rw[fA]at q;refine Se (dy I hg hm (show UE "min" = Zz (.builtin "min")from by decide +kernel) (PyProof.Rows.callWith_kw (ha.one I q λws us c1 m1 s1 I1 x1 r o=>?_) (by rw[bu hs];rfl) (by rw[bu hs];rfl)) (by decide) (by decide));obtain⟨w,v,t,rr,rfl,rfl,r,e2,c,q⟩:=qi r (cY (by decide)) o;refine PyProof.Rows.kws_cons (Constant_none (PyProof.Rows.kws_nil ?_));cases t with
 |lst l =>
  obtain⟨ns,q3,c2⟩:=RP.mp (show GT l=Zz rr from c);obtain rfl:=jY q3;clear q3;obtain⟨a,⟨x⟩,rfl,p,k⟩:=aE I1.mem r e2;refine Ed (I1.ok.hd hc) p.pl.isList (jA (k:=ns) k) λv h' tk hk z=>q.to (I1.up (g:=h') (t:=tk) (d:=s1.drawn) hk).1 (I1.up (g:=h') (t:=tk) (d:=s1.drawn) (ch:=[]) hk).2.mem _ ?_
  rcases z with⟨rfl,rfl⟩|⟨n,r,t,rfl,rfl⟩
  ·cases(show Zz T.non=Zz rr from c2);exact .non
  ·cases(show Zz (T.int (eU n r))=Zz rr from c2);exact .int _ _
 |_=>cases c
end
end Mi
end
namespace Mi
open PySem PySem.Spec PyProof.Rows PySem.W PySem.Builtin.ObjectAttr
section
variable{h:Rm}{C:RB}
structure BD (K:To) (C:RB):Prop where
 xc:AG K C=true
 kp:keepIn K (.ref C)=true
 no:excIn K C IB "ValueError.__new__" = true
theorem JP{K:To}(X:K.In h)(q:excIn K C IB "ValueError.__new__" = true):∃nm qn N bs bm hdct sn sub ab col dd k0 k1 k2 k3 k5 mN,h.get? C=Zz (excClassObj nm qn C N bs bm hdct sn sub ab col dd k0 k1 k2 k3 k5 "ValueError.__new__")/\OwnTail h IB bm/\h.Ns N mN/\mN "__init__" = Zy:=by
 unfold excIn at q;split at q
 ·rename_i dd cd sl ho
  split at q
  ·rename_i C' bm k0 k1 k2 k3 n k5 hm hs
   simp only[RJ,beq_iff_eq,Vb]at q;obtain⟨⟨⟨⟨⟨rfl,rfl⟩,hdel⟩,ht⟩,hok⟩,hni⟩:=q;obtain⟨nm,bs,mro,ns,qn,hd,sn,sub,ab,col,del⟩:=cd;dsimp only at hm hdel hok hni;subst hm hdel;have hsl:sl=#[k0,k1,k2,k3,Zz (.builtin "ValueError.__new__"),k5]:=by
    obtain⟨l⟩:=sl;simp only at hs;rw[hs]
   subst hsl;exact⟨nm,qn,ns,bs,bm,hd,sn,sub,ab,col,dd,k0,k1,k2,k3,k5,_,X _ _ ho,tail_of_in X ht,.of_isNs (isNs_of_in X hok),nsMap_none_of_in X hok hni⟩
  ·cases q
 ·cases q
end
section
variable{X:Cx}{call:Nat->List W->Mem->Res W}{gv:List T}{e:S4}{es:List S4}{L:Es}{p pos:Pos}
theorem AD(hc:X.calm=true):CB X (.builtin "max") .max2:=λenv cm m s I ws us r Q J q=>by
 obtain⟨t,e0,ho⟩:=fz q;clear q;obtain⟨l,e1,e⟩:=RP.mp e0;clear e0;obtain⟨i,j,rfl,e⟩:=nv e;cases e;obtain⟨w1,ws,rfl,v1,e1⟩:=bJ e1;obtain⟨w2,ws,rfl,v2,e1⟩:=bJ e1;obtain rfl:=jN e1;obtain⟨v,y,rfl,r1,r⟩:=r.inv;obtain⟨z,y,rfl,r2,r⟩:=r.inv;obtain rfl:=RY.mp r.1.symm;obtain⟨_,rfl⟩:=(ae r1 v1).c9;obtain⟨_,rfl⟩:=(ae r2 v2).c9;refine max_two_ints (I.ok.hd hc) λh' tk k=>ho.to (I.up (d:=s.drawn) k).1 (I.up (ch:=[]) k).2.mem _ ?_
 by_cases hj:i<j
 ·rw[Yn hj,Yn hj];exact .int _ _
 ·rw[Yo hj,Yo hj];exact .int _ _
theorem Db(c:Gl X "max")(b:X.mg "max" = Zy)(g:PA call gv X (e::es) L)(d:notStar e=true)(a:es.all notStar=true)(f:X.calm=true:=by rfl):PE call gv X (.Call (.Name "max" p) (e::es) [] pos) (.blt .max2 L):=fY (AD f) (by decide +kernel) c b g (by decide) (by decide) d a
end
section
variable{X:Cx}{J:VK}{C:RB}{call':Nat->List W->Mem->Res W}{gv:List T}{ee:S4}{x:Str}{p pos cpos:Pos}{rest:List S5}{kk:Mi.S}{ea:Mi.E}
theorem AU(xp:BD X.K C)(hm:X.mg x=Zz (.ref C))(hg:Gl X x)(hc:X.calm=true)(ha:PE call' gv X ee ea)(he:notStar ee=true:=by rfl)(hdb:(x==("__debug__" : Str))=false:=by decide):
  fW call' gv X (.Raise (Zz (.Call (.Name x p) [ee] [] cpos)) Zy pos::rest) (.Ku C [] (.cons ea .nil) kk):=λenv cm m s I R J j hp=>by
 have hh:=I.ok.hd hc;rw[G9]at hp;refine S6 ?_;rw[arm_exec_Raise];refine R0 (TA ?_);refine ER xp.xc hh (R0 ?_);refine Se (ln I hg hm ?_ hdb);refine Xh (h₀:=X.base) I.ok.mod.gO xp.kp ((wB ha zZ (bu he)).gI I hp λws us c1 m1 s1 I1 x1 r o=>⟨I1.gO,?_⟩) (bu he) rfl;cases q:db ws m1 with
 |stuck=>rw[q]at o;exact o.elim
 |exc y m2=>exact Ys q kU
 |ok ts m2 =>
  rw[q]at o;obtain⟨x2,I2,r2⟩:=ur I1 r q;have o:ak X X.own c1 m1 s1 (if([]:List Str)=[]then(if ts.length<=1000 then Res.exc (a:=Mi.Flow) ⟨C,[],[]⟩ m2 else .stuck)else if ts.length=([]:List Str).length then .exc ⟨C,[],ts⟩ m2 else .stuck) J _:=o;rw[Yn rfl]at o;obtain⟨hl,o⟩:=im o;have hu:us.length<=Rq:=by
   have h1:=r2.1;have:=line;have:lim=1000000:=rfl;omega
  obtain⟨cn,qn,N,bs,bm,hdct,sn,sub,ab,col,dd,k0,k1,k2,k3,k5,mN,hC,T,hn,hni⟩:=JP I2.gO xp.no;obtain⟨hp',g,dr,tk,os⟩:=s1;refine wpAny_call_exc_subT PySem.F.excBase_ValueError T hC hn hni λh' e' hx=>?_
  obtain⟨t,ht,_,_⟩:=hx.there;obtain⟨x3,I3⟩:=I2.up (ch:=X.tb) (g:=h') (t:=tk) (d:=dr) hx.keeps;refine R0 (TA (R5 ?_));exact⟨e',_,_,rfl,I3.gO,ht,rfl,rfl,rfl,o (.ref e') c1 _ ((x2.trans x3).sub aX) I3.mem ⟨⟨_,I3⟩,e',Zy,rfl,hx.new,⟨_,_,.none,ht,rfl,rfl,rfl,rfl,.inl rfl⟩,⟨rfl,rfl⟩⟩⟩
end
end Mi
section
set_option maxHeartbeats 1000000
namespace Mi
open PySem PySem.Spec PyProof.Rows
theorem uO(hg:gens[d]?=Zz ⟨target,iter,ifs,0⟩)(hn:gens[d+1]?=Zy):
  VZ (.SetComp elt gens scope pos) d it acc env=(do
   Uo iter.pos
   match <-pyNext it with
   |none=>pure (.done .next)
   |some v =>
    TU target it v
    assign target env v
    let mut ok:=true
    for c in ifs do
     if ok then ok <-isTrue c env (eval c env)
    if ok then
     (do let v <-eval elt env;Uo elt.pos;let _ <-call (.builtin "set.add") [acc,v])
    again (.compLoop (.SetComp elt gens scope pos) d it acc env)):=by
 unfold VZ;simp only[hg,hn];rfl
noncomputable def dl(ss:List Str):List Str:=ss.foldl (λD x=>if x∈D then D else D++[x]) []
theorem FT(ss:List Str)(x:Str):dl (ss++[x])=if x∈dl ss then dl ss else dl ss++[x]:=by
 unfold dl;rw[List.foldl_append];rfl
theorem Dh(ss:List Str):(dl ss).length<=ss.length:=by
 have:∀(ss D:List Str),(ss.foldl (λD x=>if x∈D then D else D++[x]) D).length<=D.length+ss.length:=by
  intro ss
  induction ss with
  |nil=>intro D;exact RO _
  |cons x r ih =>
   intro D;rw[Ue,Rr];refine Rg (ih _) ?_;split
   ·omega
   ·rw[RD,T8];omega
 have h:=this ss [];rw[Sy,Ua]at h;exact h
noncomputable abbrev Ky(w:SS):Bool:=!w.params.followText "set-order"
theorem dl_mem(x:Str)(ss:List Str):x∈dl ss↔x∈ss:=by
 have:∀(ss D:List Str),x∈ss.foldl (λD x=>if x∈D then D else D++[x]) D↔x∈D∨x∈ss:=by
  intro ss
  induction ss with
  |nil=>intro D;simp
  |cons y r ih =>
   intro D;rw[Ue,ih,R6];split
   ·rename_i h
    constructor
    ·rintro (h1|h1)
     ·exact .inl h1
     ·exact .inr (.inr h1)
    ·rintro (h1|h1|h1)
     ·exact .inl h1
     ·subst h1;exact .inl h
     ·exact .inr h1
   ·rw[SM,RH,or_assoc]
 have h:=this ss [];unfold dl;rw[h];simp
theorem JC(ss:List Str):(dl ss).Nodup:=by
 have:∀(ss D:List Str),D.Nodup->(ss.foldl (λD x=>if x∈D then D else D++[x]) D).Nodup:=by
  intro ss
  induction ss with
  |nil=>intro D h;exact h
  |cons y r ih =>
   intro D h;rw[Ue];refine ih _ ?_;split
   ·exact h
   ·rename_i hn
    rw[WX];refine⟨h,by simp,λa ha b hb=>?_⟩;rw[RH.mp hb];exact λe=>hn (e▸ha)
 exact this ss [] .nil
theorem Ht{xs:List (List Nat)}(h:xs.Nodup):(xs.map λc=>(⟨c.toArray⟩:Str)).Nodup:=by
 refine SA.mpr (h.imp λ{a b} q e=>q (zy e))
theorem FC{xs ys:List (List Nat)}(h:∀c,c∈xs↔c∈ys)(x:Str):(x∈xs.map λc=>(⟨c.toArray⟩:Str))↔x∈ys.map λc=>(⟨c.toArray⟩:Str):=by
 constructor
 ·intro q
  obtain⟨c,hc,rfl⟩:=RX.mp q;exact RX.mpr ⟨c,(h c).mp hc,rfl⟩
 ·intro q
  obtain⟨c,hc,rfl⟩:=RX.mp q;exact RX.mpr ⟨c,(h c).mpr hc,rfl⟩
theorem H3{D:List Str}(hd:D.Nodup)(hm:∀x,x∈D↔x∈bs.map λc=>(⟨c.toArray⟩:Str)):D.length=(aK bs).length:=by
 have hp:=(List.perm_ext_iff_of_nodup hd (Ht (qD bs))).mpr λx=>by
  rw[hm];exact FC (λc=>(iY c bs).symm) x
 have:=hp.length_eq;rw[R2]at this;exact this
theorem Ii{n:Nat}(h:n<64):(n:Int)<2^63:=Int.lt_of_lt_of_le (b:=64) (by omega) (by decide)
theorem Fm(hp:(ys.map λc=>(⟨c.toArray⟩:Str)).Perm (dl (bs.map λc=>(⟨c.toArray⟩:Str))))(hs:sortedS (ys.map λc=>(⟨c.toArray⟩:Str))=true):ys=aK bs:=by
 have hw:ys.Pairwise (λa b=>gN b a=false):=by
  cases ys with
  |nil=>exact .nil
  |cons y ys=>exact zt ys y hs
 have hn:ys.Nodup:=by
  have h1:(ys.map λc=>(⟨c.toArray⟩:Str)).Nodup:=hp.nodup_iff.mpr (JC _);exact(SA.mp h1).imp λ{a b} h e=>h (by rw[e])
 have hq:∀(l:List (List Nat)) c,c∈l↔(⟨c.toArray⟩:Str)∈l.map λc=>(⟨c.toArray⟩:Str):=λl c=>by
  constructor
  ·exact λh=>RX.mpr ⟨c,h,rfl⟩
  ·intro h
   obtain⟨d,hd,e⟩:=RX.mp h;rw[<-zy e];exact hd
 have hm:∀c,c∈ys↔c∈aK bs:=λc=>by
  rw[iY,hq ys,hq bs,hp.mem_iff,dl_mem]
 have hpm:ys.Perm (aK bs):=(List.perm_ext_iff_of_nodup hn (qD bs)).mpr hm;exact VA (λa b _ _ h1 h2=>ry h2 h1) hw ((kO bs).imp λ{a b} h=>ES h) hpm
theorem StrsAre.inj:∀{vs:List R3}{a b:List Str},XV vs a->XV vs b->a=b
 |_,_,_,.nil,.nil=>rfl
 |_,_,_,.cons y t p,.cons _ _ q=>by rw[StrsAre.inj p q]
def AO(P:Ry)(w:SS)(D:RB)(h:Rm)(vs:List R3):Prop:=∃ss:List Str,XV vs ss/\iA P w (aY w) h D (dl ss)
theorem vz{P:Ry}{w:SS}{D:RB}{f:List RB}:xi f D (AO P w D):=⟨λ⟨ss,_,o,es,ep,t,e,hE⟩=>(by
 refine⟨o,e,λk=>?_,(λv z=>by rw[hE.data]at z;cases z),λv z=>(by rw[hE.data]at z;cases z)⟩;have d:=hE.data;cases k with
 |seq _ _ z _=>rw[d]at z;cases z
 |dict _ _ z _=>rw[d]at z;cases z
 |ref _ _ _ z=>rw[d]at z;cases z
 |trace _ _ z=>rw[d]at z;cases z
 |plain z=>rw[d]at z;cases z),λ⟨ss,q,o,es,ep,t,e,r⟩ k=>⟨ss,q,o,es,ep,t,k o e,r⟩⟩
section
variable{P:Ry}{w:SS}{A:SF}{s:RA}{Q E:VK}
theorem uw{E:R3->RA->Prop}(h:Q (.ref s.heap.objs.size) { s with heap:=s.heap.push { cls:=.type "set",dict:=Zy,data:=.set #[] 0 (.fresh 0 0 (Ky w)) } }):RF (Rp P w) A (newSet (.type "set")) Q E s:=by
 unfold newSet Y8;refine R0 (R0 (UQ (R5 ?_)));simp only[newObj];exact R0 (Y1 (R5 h))
end
section
variable{prog:Ry}{w:SS}{A:SF}{E:R3->RA->Prop}{s:RA}{led:Bool}
set_option maxHeartbeats 3200000 in
theorem qh(hh:A.handled=Zy)(hl:s.heap.IsTuple l items)(hv:∀(i:Nat) v,items[i]?=Zz v->∃t,v=.str (val i) t)(hb:items.size+1<Uj)(h:∀(h':Rm) (tk:Nat),iA prog w (aY w) h' s.heap.objs.size (dd val items.size)->(∀b o,s.heap.get? b=Zz o->h'.get? b=Zz o)->Q (.ref s.heap.objs.size) { s with heap:=h',toks:=tk }):
  RF (Rp prog w) A (Sq (.type "set") [.ref l]) Q E s:=by
 obtain⟨c,tl,hmro⟩:=PySem.F.called_set.mro;have hmade:=PySem.F.called_set.made;have hsub:=PySem.F.called_set.sub;refine Vl (W3 ?_);refine R5 ⟨Code.quiet_builtin _ (by decide +kernel),Sj PySem.F.entry_type_call ?_⟩;rw[Around.under_plain (weight_type_call_type "set" [.ref l] []) rfl];have h1:=PySem.F.called_set.notType;have h2:=PySem.F.called_set.canCreate;have hct:=PySem.F.typeCall_set_1 (.ref l)
 repeat (any_goals (first|assumption|wp_step))
 refine TC (wI (.ref l) (E:=E) (Q₁:=λobj s₁=>obj=.ref s.heap.objs.size/\s₁={ s with heap:=s.heap.push { cls:=.type "set",dict:=Zy,data:=.set #[] 0 (.fresh 0 0 (aY w)) } }) ⟨rfl,rfl⟩) λr s₁ hr=>?_
 cases r with
 |error e=>exact hr
 |ok fl =>
  cases fl with
  |ret obj =>
   obtain⟨rfl,rfl⟩:=hr;have hS:(s.heap.push { cls:=.type "set",dict:=Zy,data:=.set #[] 0 (.fresh 0 0 (aY w)) }).get? s.heap.objs.size=Zz { cls:=.type "set",dict:=Zy,data:=.set #[] 0 (.fresh 0 0 (aY w)) }:=RN _ rfl;have hT:Vt { s with heap:=s.heap.push { cls:=.type "set",dict:=Zy,data:=.set #[] 0 (.fresh 0 0 (aY w)) } } (.ref s.heap.objs.size) "set":=⟨_,hS,rfl⟩
   have hli:=PySem.F.called_set.init.lookup;have hbi:=PySem.F.called_set.init.bind (.ref s.heap.objs.size)
   repeat (any_goals (first|assumption|wp_step))
   refine TC (codeAny_call_builtin (R:=wants (λr s₂=>r=.none/\∃h' tk,s₂={ s with heap:=h',toks:=tk }/\iA prog w (aY w) h' s.heap.objs.size (dd val items.size)/\(∀b o,s.heap.get? b=Zz o->h'.get? b=Zz o)) E) PySem.F.called_set.init.plain PySem.F.entry_set_init (check_set_init_1 hT ?_)) λr₂ s₂ hr₂=>?_
   ·obtain⟨ol,hol,hcl,nl,hdl⟩:=hl
    obtain⟨ocls,odict,odata,oslots⟩:=ol;simp only at hcl hdl;subst hcl;subst hdl;have hol':(s.heap.push { cls:=.type "set",dict:=Zy,data:=.set #[] 0 (.fresh 0 0 (aY w)) }).get? l=Zz { cls:=.type "tuple",dict:=odict,data:=.seq items nl,slots:=oslots }:=R7 _ hol;have hsls:=PySem.F.sub_tuple_set;have hslf:=PySem.F.sub_tuple_frozenset;have hne:(UV "tuple" == UV "dict")=false:=by decide
    have hl1:(s.heap.push { cls:=.type "set",dict:=Zy,data:=.set #[] 0 (.fresh 0 0 (aY w)) }).IsTuple l items:=⟨_,hol',rfl,nl,rfl⟩
    unfold Builtin.«set.__init__» noKeywords Builtin.Frozenset.updateFrom;generalize hPI:pyIter=PI
    wp_walk
    subst hPI;refine VG hl1 ?_;refine R0 (XJ ?_);have hlS:=Re hol;have hh3:A.in1.in1.in1.handled=Zy:=by simp[hh]
    have hneI:l≠(s.heap.push { cls:=.type "set",dict:=Zy,data:=.set #[] 0 (.fresh 0 0 (aY w)) }).objs.size:=by
     rw[S3];exact Rd (Rv hlS)
    have hSf:s.heap.objs.size∉[(s.heap.push { cls:=.type "set",dict:=Zy,data:=.set #[] 0 (.fresh 0 0 (aY w)) }).objs.size,l]:=by
     rw[S3];simp only[R6,RH,RG,or_false,not_or];exact⟨Rd (TY _),Uz hlS⟩
    refine vS (led:=aY w) ((Vy hh3 _ l hneI items).toS) s.heap.objs.size hSf val hv hb (items.size-0) 0 _ (by omega) (S8 _)
     ⟨⟨_,RN _ rfl,rfl,rfl⟩,(hl1.push _)⟩ ?hS0 ?hR
    case hS0 =>
     exact mO (R7 _ hS)
    case hR =>
     intro s' hm hS';obtain⟨h',g',d',tk',os'⟩:=s';have eg:=hm.gens;have ed:=hm.drawn;have eo:=hm.os;subst eg;subst ed;subst eo;refine R5 ?_;refine R5 ⟨rfl,h',tk',rfl,hS',λb o e=>?_⟩;have hb:=Re e;have hb1:=Rd hb;have hb2:b≠(s.heap.push { cls:=.type "set",dict:=Zy,data:=.set #[] 0 (.fresh 0 0 (aY w)) }).objs.size:=by
      rw[S3];exact Rd (Rv hb)
     exact hm.heap b o (by simp only[R6,RH,RG,or_false,not_or];exact⟨hb1,hb2⟩) (R7 _ (R7 _ e))
   ·cases r₂ with
    |error e=>exact hr₂
    |ok fl₂ =>
     cases fl₂ with
     |ret r =>
      obtain⟨rfl,h',tk,rfl,hS',hk'⟩:=hr₂
      repeat (any_goals (first|assumption|wp_step))
      exact h _ _ hS' hk'
     |_=>exact hr₂.elim
  |_=>exact hr.elim
theorem uF(hh:A.handled=Zy)(hl:s.heap.IsList l items∨s.heap.IsTuple l items)(hv:∀(i:Nat) v,items[i]?=Zz v->∃t,v=.str (val i) t)(hb:items.size+1<Uj)(h:∀(h':Rm) (tk:Nat),iA prog w (aY w) h' s.heap.objs.size (dd val items.size)->(∀b o,s.heap.get? b=Zz o->h'.get? b=Zz o)->Q (.ref s.heap.objs.size) { s with heap:=h',toks:=tk }):
 RF (Rp prog w) A (Sq (.type "set") [.ref l]) Q E s:=hl.elim (λp=>rK hh p hv hb h) λp=>qh hh p hv hb h
end
section
variable{X Y:Cx}{env:Mi.Env}{cm:List RB}{m:Mem}{s:RA}{J Q:VK}{D:RB}{vs:List R3}{x:Str}{t:Tok}
theorem FR(I:Fr X env cm m s)(hD:D∈X.fs)(ne:D≠X.env.locals)(hs:D∉X.gs)(a:AO X.prog X.w D s.heap vs)(hz:vs.length<64)(q:∀s',aH X.fs X.gs (D::X.own) cm m s cm m s'->Fr X env cm m s'->AO X.prog X.w D s'.heap (vs++[.str x t])->Q .none s'):RF X.M X.A (Sq (.builtin "set.add") [.ref D,.str x t]) Q J s:=by
 have fl:=(vz (f:=X.fs)).obj a;obtain⟨ss,ha,hS⟩:=a;have hl:=Dh ss;have hv:=ha.length;have ht:Vt s (.ref D) "set":=by
  obtain⟨o,es,ep,t,e,hE⟩:=hS;exact⟨o,e,hE.ex.1⟩
 refine SK PySem.F.slot_set_add ht PySem.F.entry_set_add ?_ (PySem.F.args_set_add_2 _ _);unfold Builtin.«set.add» Builtin.Frozenset.oneOther;simp only[TZ,bind_assoc];unfold Builtin.Frozenset.addrOf setAdd;refine R0 (R5 ?_);refine R0 (R5 ?_);refine R0 ?_;refine SE ?_;refine R0 ((Sg X.prog X.w).pyHash (by show Td x (.str x t)=true;simp[Td]) ?_);refine wF hS (by unfold Uj;omega) λh' b sb hS'=>?_
 obtain⟨o2,es2,ep2,t2,e2,hE2⟩:=id hS';obtain⟨x1,I1⟩:=I.acc (h:=h') (ch:=X.own) (tk:=s.toks+1) hD ne fl (λb o hb eb=>(sb.2 b hb).trans eb) ⟨o2,e2,⟨(λv z=>by rw[hE2.data]at z;cases z),λz=>Ys z hs⟩,λo e' n x n' z=>by rw[hE2.data]at z;cases z⟩;exact R5 ⟨_,rfl,q _ x1 I1 ⟨ss++[x],ha.append' (.cons x t .nil),by rw[FT];exact hS'⟩⟩
variable{call:Nat->List W->Mem->Res W}{gv:List T}{elt target iter e:S4}{gens gs:List UM}{scope:UR}{pos p p2 pos2:Pos}{ea it E:Mi.E}{ifs:List S4}{tg:Tg}{cs:Es}{N':List Str}{own:Nat}{keep:List Nat}
theorem CV(hc:Y.calm=true)(hD:D∈Y.fs)(hDo:D∉Y.own)(hs:D∉Y.gs)(hg:gens[0]?=Zz ⟨target,iter,ifs,0⟩)(pg:PG Y target tg)(pt:Gf call gv Y cs ifs)(hin:IR call gv Y elt gens 0 (.emit ea))(dis:∀i∈rJ tg,i∉fB (.emit ea)){s0 s:RA}{cm0 cm:List RB}{m0 m m':Mem}{env:Mi.Env}{ts out:List T}{it:RB}{fp:List RB}{vs:List R3}(x0:aH Y.fs Y.gs (D::Y.own) cm0 m0 s0 cm m s)(tk:uS fp target)(hDf:D∉fp)(fr:∀b∈fp,s0.heap.get? b=Zy)(I:Fr Y env cm m s)(on:On Y cm m s.heap it fp 0 ts)(ha:AO Y.prog Y.w D s.heap vs)(hn:∀i∈rJ tg++fB (.emit ea),∀w,env[i]?≠Zz (Zz w))(ok:bC (turnF call gv cs (.emit ea)) tg ts env m=.ok out m')(hl:vs.length+out.length<=63)(hst:∀t∈out,∃c,t=.str c):
  UB Y.M Y.A (.compLoop (.SetComp elt gens scope pos) 0 (.ref it) (.ref D) Y.env) (λr s'=>r=.ok .next/\wX Y (AO Y.prog Y.w D) D env vs cm0 m0 s0 out m' s') s:=by
 have tbo:∀b∈Y.tb,b∈D::Y.own:=λb hb=>R4 _ (aX b hb)
 have K:=vz (P:=Y.prog) (w:=Y.w) (D:=D) (f:=Y.fs);have neL:D≠Y.env.locals:=λz=>hDo (z▸R9)
 obtain⟨hnx,pe⟩:gens[0+1]?=Zy/\PE call gv Y elt ea:=by cases hin with|emit h1 h2=>exact⟨h1,h2⟩
 refine lO hc K hD hDo hs (Pt:=λt=>∃c,t=.str c) rfl rfl (uO hg hnx) pg pt dis ?_ x0 tk hDf fr I on ha hn ok hl hst;intro s cm m m' env out vs J I ha hn ok hl hst;obtain⟨w,m1,j,ok2⟩:=ap ok;obtain⟨rfl,rfl⟩:=jO ok2;rw[va]at j;obtain⟨w1,m2,ok3,ok4⟩:=ap j;obtain⟨t,m3,h,ok6⟩:=ap ok4;cases ok6;obtain⟨c,rfl⟩:=hst t (by simp);refine R0 (R0 (mK (pe.run I ok3) λu s1 ⟨cm1,x1,I1,r1⟩=>?_));obtain⟨x2,I2,r2⟩:=qV I1 r1 h;have nt:D∉Y.tb:=λz=>hDo (aX _ z)
 have a2:=K.go I1 hD x2.toExtK nt hs (K.go I hD x1.toExtK nt hs ha);have n2:=qO K I2 a2;obtain⟨tk,rfl⟩:=r2.kY;refine R0 (TA (R0 (FR I2 hD neL hs a2 (by simp at hl;omega) λs3 x3 I3 a3=>R5 (R5 ⟨rfl,cm1,[_],((x1.trans x2).sub tbo).trans x3,I3,.cons (r2.go x3.toExtK I2.mem n2) .nil,a3⟩))))
theorem DR{out:List T}{m':Mem}{bs:List (List Nat)}(hc:X.calm=true)(k:wb call gv X N' scope own keep elt target iter ifs gs it tg cs (.emit ea))(I:Fr X env cm m s)(ok:ev call gv (.comp own keep it tg cs (.emit ea)) env m=.ok (.t (.lst out)) m')(q:strs? out=Zz bs)(h64:bs.length<64)(fin:∀D s3 cm3,aH X.fs X.gs X.tb cm m s cm3 m' s3->Fr X env cm3 m' s3->iA X.prog X.w (aY X.w) s3.heap D (dl (bs.map λc=>(⟨c.toArray⟩:Str)))->Q (.ref D) s3):
  RF X.M X.A (eval (.SetComp elt (⟨target,iter,ifs,0⟩::gs) scope pos) X.env) Q J s:=by
 have hl:∀{l:List T}{a:List (List Nat)},strs? l=Zz a->l.length=a.length/\∀t∈l,∃c,t=.str c:=by
  intro l
  induction l with
  |nil=>intro a e;cases e;exact⟨rfl,λt h=>by cases h⟩
  |cons t l ih =>
   intro a e;cases t with
   |str c =>
    obtain⟨q,e1,rfl⟩:=RL.mp (show(strs? l).map (c::·)=Zz a from e);obtain⟨h1,h2⟩:=ih e1;exact⟨by rw[Rr,Rr,h1],λu hu=>(R6.mp hu).elim (λz=>⟨c,z⟩) (h2 u)⟩
   |_=>cases e
 obtain⟨ho,hst⟩:=hl q;rw[arm_eval_SetComp];refine nG (Acc:=AO X.prog X.w) hc k rfl rfl (λv z=>(by cases z)) (λ_ _ _=>rfl) (λ_ _ _=>rfl) uw (λh=>⟨[],.nil,mO h⟩) (λcl C D F s0 s cm0 cm m0 m m' env ts it fp hDF hDo hDs x0 tk hDf fr I on ha hn ok hl =>
  CV (Y:=aP X N' scope cl C F) hc hDF hDo hDs rfl (k.ins cl C F).1 (k.ins cl C F).2.1 (k.ins cl C F).2.2 k.dis x0 tk hDf fr I on ha hn ok (by rw[Sy,Ua];omega) hst) I ok λD C s3 cm3 vs F=>⟨_,F.ns.choose_spec,λh' hs=>?_⟩
 obtain⟨x,nq,x5,I5⟩:=F.go I F.fr F.ext F.ns hs;obtain⟨ss,a1,hS⟩:=F.acc;cases StrsAre.inj a1 (tK F.rel q);obtain⟨o,es,ep,t,eo,hE⟩:=hS;exact fin D _ cm3 x5 I5 ⟨o,es,ep,t,(hs.2 D λz=>F.nf (z▸R9)).trans eo,hE⟩
theorem xj(hc:X.calm=true)(hg1:Gl X "len")(hm1:X.mg "len" = Zy)(hg2:Gl X "set")(hm2:X.mg "set" = Zy)(ha:PA call gv X [e] (.cons E .nil))(he:notStar e=true:=by rfl):
  PE call gv X (.Call (.Name "len" p) [.Call (.Name "set" p2) [e] [] pos2] [] pos) (.blt .yt (.cons E .nil)):=λenv cm m s I Q J h=>by
 rw[fA]at h;refine Se (dy (u:=.builtin "len") I hg1 hm1 (by decide +kernel) (Tb (Tz ?_) rfl rfl));refine Se (dy (u:=.type "set") I hg2 hm2 (by decide +kernel) (Ss (ha.one I h λws us c1 m1 s1 I1 x1 r h=>?_) (bu he) (ia rfl)));obtain⟨w,v,t,rr,rfl,rfl,r,e,c,q⟩:=qi r (cY (by decide)) h;obtain⟨l,a,x,rfl,k,pp,c⟩:∃l a x,v=.ref a/\fG X.D c1 m1 s1.heap l x/\(s1.heap.IsList a ⟨x⟩∨s1.heap.IsTuple a ⟨x⟩)/\((strs? l).bind λxs=>if xs.length<64 then Zz (T.int ((aK xs).length:Int))else Zy)=Zz rr:=by
  cases t with
  |lst l =>
   obtain⟨a,⟨x⟩,rfl,p,k⟩:=aE I1.mem r e;exact⟨l,a,x,rfl,k,.inl p.pl.isList,c⟩
  |tup l =>
   obtain⟨a,⟨x⟩,rfl,⟨o,n,e1,e2,e3,_⟩,k⟩:=(ae r e).ka;exact⟨l,a,x,rfl,k,.inr ⟨o,e1,e2,n,e3⟩,c⟩
  |_=>cases c
 obtain⟨bs,q3,c⟩:=RP.mp c;obtain⟨h64,c⟩:=RI.mp c;cases c;have hsa:=tK k q3;have hl:x.length=bs.length:=by have:=hsa.length;rw[R2]at this;exact this
 refine uF (I1.ok.hd hc) pp (λi v hv=>Ha hsa i v (by simpa using hv)) (by unfold Uj;simp;omega) λh' tk hS kp=>?_
 obtain⟨x2,I2⟩:=I1.up (g:=h') (t:=tk) (d:=s1.drawn) (ch:=X.tb) kp;refine Un ?_;rw[show(⟨x⟩:Array R3).size=bs.length by simp;omega]at hS;obtain⟨o,es,ep,t,eo,hE⟩:=hS;have hsz:es.size=(aK bs).length:=by
  have h1:=hE.IJ.length_eq;rw[R2,RM]at h1;rw[h1];refine H3 hE.nd λx=>?_
  rw[DY];constructor
  ·rintro ⟨i,hi,e⟩
   rw[<-e];simp[Xz,hi]
  ·intro h
   obtain⟨c,hc,rfl⟩:=RX.mp h;obtain⟨i,hi,rfl⟩:=T5 hc;exact⟨i,hi,by simp[Xz,hi]⟩
 have hlt:es.size<64:=by
  have h1:=hE.IJ.length_eq;rw[R2,RM]at h1;have:=w6 (λi=>(bs.map λc=>(⟨c.toArray⟩:Str)).getD i ⟨#[]⟩) bs.length;omega
 refine call_len_set eo hE.ex hE.data hE.fits (Ii hlt) ?_;rw[hsz];exact I2.val (q.shift x2) (.int _ _)
theorem uM(hc:X.calm=true)(hg1:Gl X "sorted")(hm1:X.mg "sorted" = Zy)(k:wb call gv X N' scope own keep elt target iter ifs gs it tg cs (.emit ea)):
  PE call gv X (.Call (.Name "sorted" p) [.SetComp elt (⟨target,iter,ifs,0⟩::gs) scope p2] [] pos) (.blt .u3 (.cons (.comp own keep it tg cs (.emit ea)) .nil)):=λenv cm m s I Q J hp=>by
 rw[fA,uC]at hp;refine Se (dy (u:=.builtin "sorted") I hg1 hm1 (by decide +kernel) (Tb (Tz ?_) rfl rfl));cases h:ev call gv (.comp own keep it tg cs (.emit ea)) env m with
 |stuck=>rw[h]at hp;exact hp.elim
 |exc e m'=>exact Ys h (io e m')
 |ok w m' =>
  obtain⟨out,rfl⟩:=jT h;rw[h]at hp;obtain⟨t,e,hp⟩:=fz (show ak X X.tb cm m s (eC ((strs? out).bind λxs=>if xs.length<64 then Zz (T.lst ((aK xs).map .str))else Zy) m') J (WK X Q)from hp);obtain⟨bs,q,e⟩:=RP.mp e;obtain⟨h64,e⟩:=RI.mp e;cases e;refine DR hc k I h q h64 λD s3 cm3 x3 I3 hS=>Un ?_
  have hlen:=Dh (bs.map λc=>(⟨c.toArray⟩:Str));rw[R2]at hlen;refine yC (I3.ok.hd hc) hS (by omega) λh2 tk2 d l out ss' ep hso g hsort hat hle kp2 ht=>?_
  obtain⟨ys,rfl,hv⟩:=Ak (D:=X.D) (cm:=cm3) (m:=m') (h:=s3.heap) hso;have ey:=Fm g hsort;subst ey;have hvl:=hv.1;rw[R2]at hvl;have hsl:=TS;have hpl:(aK bs).length<=bs.length:=by
   have:=g.length_eq;rw[R2]at this;omega
  refine I3.lst (a:=l) (g:=h2) (n:=tk2) (d:=d) (hp.shift x3) hv kp2 (Rk hle) ⟨⟨_,by simpa[seqObj]using hat⟩,λhb=>?_,by simp at hvl ⊢;omega⟩;obtain⟨_,o',ho',_⟩:=I3.bF _ hb;have:=Re ho';exact Ys (SO this hle) (S7 _)
end
end Mi
end
namespace Mi
theorem k7:∀(ts:List T),(∀t∈ts,∃env',bz tg t env=Zz env'/\f env' m=.ok (g t) m)->bC f tg ts env m=.ok (ts.flatMap g) m
 |[],_=>rfl
 |t::ts,h=>by
  obtain⟨env',e1,e2⟩:=h t R9;rw[bC,e1];show(f env' m).bind _=_;rw[e2];show(bC f tg ts env m).bind _=_;rw[k7 ts λt ht=>h t (R4 _ ht)];rfl
inductive Ct {α β:Type}(R:α->β->Prop):List α->List β->Prop where
 |nil:Ct R [] []
 |cons {a:α}{b:β}{as:List α}{bs:List β}:R a b->Ct R as bs->Ct R (a::as) (b::bs)
theorem pA{α:Type}{xs:List α}{i:Int}(h0:0<=i)(h1:i<xs.length):∃x,atT xs i=Zz x/\x∈xs:=by
 have hi:i.toNat<xs.length:=by omega
 refine⟨xs[i.toNat],?_,UP hi⟩;unfold atT gM;rw[Yn h0,Yn h1];exact RC hi
theorem th{α:Type}(f:α->Bool):∀xs:List α,cE (xs.map λx=>.bl (f x))=Zz (xs.map f)
 |[]=>rfl
 |x::xs=>by
  rw[Rf,cE,th f xs];rfl
theorem strs_map{α:Type}(f:α->List Nat):∀xs:List α,strs? (xs.map λx=>.str (f x))=Zz (xs.map f)
 |[]=>rfl
 |x::xs=>by
  rw[Rf,strs?,strs_map f xs];rfl
section
variable{call:Nat->List W->Mem->Res W}{gv:List T}
noncomputable def qR(call:Nat->List W->Mem->Res W)(gv:List T)(cs:Es)(inner:E)(env:Env)(m:Mem):Res (List T):=(tests call gv cs env m).bind λk m=>if k then(ev call gv inner env m).bind ja else .ok [] m
end
section
variable{call:Nat->List W->Mem->Res W}{gv:List T}{env:Env}{m m1 m2:Mem}{k a b:S}{e:E}{w:W}
theorem qX{α β:Type}(x:α)(m:Mem)(f:α->Mem->Res β):(Res.ok x m).bind f=f x m:=rfl
theorem CK(x:Bool)(m:Mem):bq (.t (.bl x)) m=.ok x m:=rfl
theorem K6(i j:Int):j9 .LtE (.int i) (.int j)=Zz (decide (i<=j)):=rfl
theorem IV(i j:Int):j9 .Gt (.int i) (.int j)=Zz (decide (j<i)):=rfl
theorem GS(i j:Int):uD .Add (.int i) (.int j)=Zz (.int (i+j)):=rfl
theorem uU{a b:List T}(h:a.length+b.length<=lim):uD .Add (.lst a) (.lst b)=Zz (.lst (a++b)):=Yn h
theorem zd(h:lg i j=true):uD .Mult (.int i) (.int j)=Zz (.int (i*j)):=Yn h
theorem IU(h:0<j/\j<1073741824):uD .FloorDiv (.int i) (.int j)=Zz (.int (i / j)):=Yn h
theorem GN(h:0<j):uD .Mod (.int i) (.int j)=Zz (.int (i%j)):=Yn h
theorem GD(h:cs.length<=lim):iR .len [.str cs]=Zz (.int cs.length):=Yn h
theorem GK(ts:List T):iR .len [.lst ts]=Zz (.int ts.length):=rfl
theorem Jj(ts:List T):iR .len [.tup ts]=Zz (.int ts.length):=rfl
theorem Jn(h:cE ts=Zz bs):iR .all [.lst ts]=Zz (.bl (bs.all id)):=by
 show(cE ts).map _=_;rw[h];rfl
theorem JN(h:cE ts=Zz bs):iR .any [.lst ts]=Zz (.bl (bs.any id)):=by
 show(cE ts).map _=_;rw[h];rfl
theorem zP(h:i<2^62/\-(2^62)<=i):iR .iV [.int i]=Zz (.lst (rangeT 0 i.toNat)):=Yn h
end
end Mi
namespace My
open Mi
noncomputable def lK:List (Tk×Ik):=[("rule",.nm 0),("borne",.nm 1),("quiet",.nm 2),("time",.non),("offers",.lst),("lefts",.lst),("ends",.lst),("rows",.lst)]
noncomputable def gT:E:=(.emit (.cmp .In (.var 0) (.gl 0)))
noncomputable def g6:E:=(.comp 1 [] (.var 0) (.nm 0) .nil gT)
noncomputable def cN:S:=(.ret (.and (.cmp .Gt (.blt .len (.cons (.var 0) .nil)) (.con (.int 0))) (.and (.cmp .NotIn (.var 0) (.gl 2)) (.blt .all (.cons g6 .nil)))) .done)
noncomputable def j0:S:=(.ret (.and (.rO (.var 0) .str) (.and (.cmp .LtE (.blt .len (.cons (.var 0) .nil)) (.gl 1)) (.call 0 (.cons (.var 0) .nil)))) .done)
noncomputable def iC:S:=(.ret (.and (.rO (.var 0) .int) (.not (.rO (.var 0) .bool))) .done)
noncomputable def fO:S:=(.ret (.and (.call 2 (.cons (.var 0) .nil)) (.GQ .LtE .LtE (.con (.int 0)) (.var 0) (.gl 3))) .done)
noncomputable def jy:S:=(.ret (.call 3 (.cons (.var 0) .nil)) .done)
noncomputable def vQ:E:=(.emit (.cmp .Lt (.ix (.var 1) (.bin .Sub (.var 0) (.con (.int 1)))) (.ix (.var 1) (.var 0))))
noncomputable def wh:E:=(.comp 1 [0] (.blt .nU (.cons (.con (.int 1)) (.cons (.blt .len (.cons (.var 0) .nil)) .nil))) (.nm 0) .nil vQ)
noncomputable def uW:S:=(.ret (.blt .all (.cons wh .nil)) .done)
noncomputable def ku:E:=(.emit (.call 1 (.cons (.var 0) .nil)))
noncomputable def ky:E:=(.comp 1 [] (.var 0) (.nm 0) .nil ku)
noncomputable def fU:S:=(.dv (.or (.not (.rO (.var 0) .tuple)) (.cmp .Gt (.blt .len (.cons (.var 0) .nil)) (.gl 4))) (.ret (.con (.bl false)) .done) .done (.ret (.and (.blt .all (.cons ky .nil)) (.call 5 (.cons (.var 0) .nil))) .done))
noncomputable def ju:S:=(.ret (.and (.rO (.var 0) .tuple) (.and (.cmp .Eq (.blt .len (.cons (.var 0) .nil)) (.con (.int 2))) (.and (.call 1 (.cons (.ix (.var 0) (.con (.int 0))) .nil)) (.call 3 (.cons (.ix (.var 0) (.con (.int 1))) .nil))))) .done)
noncomputable def kA:E:=(.emit (.ix (.var 0) (.con (.int 0))))
noncomputable def kE:E:=(.comp 1 [] (.var 0) (.nm 0) .nil kA)
noncomputable def kq:E:=(.emit (.call 7 (.cons (.var 0) .nil)))
noncomputable def kt:E:=(.comp 1 [] (.var 0) (.nm 0) .nil kq)
noncomputable def f8:S:=(.dv (.or (.not (.rO (.var 0) .tuple)) (.cmp .Gt (.blt .len (.cons (.var 0) .nil)) (.gl 5))) (.ret (.con (.bl false)) .done) .done (.ret (.and (.blt .all (.cons kt .nil)) (.call 5 (.cons kE .nil))) .done))
noncomputable def jv:S:=(.dv (.or (.not (.rO (.var 0) .tuple)) (.cmp .NotEq (.blt .len (.cons (.var 0) .nil)) (.con (.int 4)))) (.ret (.con (.bl false)) .done) .done (.ret (.and (.call 1 (.cons (.ix (.var 0) (.con (.int 0))) .nil)) (.and (.call 1 (.cons (.ix (.var 0) (.con (.int 1))) .nil)) (.and (.call 6 (.cons (.ix (.var 0) (.con (.int 2))) .nil)) (.call 8 (.cons (.ix (.var 0) (.con (.int 3))) .nil))))) .done))
noncomputable def f9:S:=(.ret (.and (.rO (.var 0) .str) (.cmp .In (.var 0) (.var 1))) .done)
noncomputable def aV:S:=(.dv (.not (.rO (.var 0) .tuple)) (.ret (.con (.bl false)) .done) .done (.dv (.cmp .Eq (.blt .len (.cons (.var 0) .nil)) (.con (.int 1))) (.ret (.call 10 (.cons (.ix (.var 0) (.con (.int 0))) (.cons (.tup (.cons (.con (.str [97,110,121])) .nil)) .nil))) .done) .done (.dv (.cmp .Eq (.blt .len (.cons (.var 0) .nil)) (.con (.int 2))) (.ret (.and (.call 10 (.cons (.ix (.var 0) (.con (.int 0))) (.cons (.tup (.cons (.con (.str [105,115])) (.cons (.con (.str [98,121])) .nil))) .nil))) (.call 1 (.cons (.ix (.var 0) (.con (.int 1))) .nil))) .done) .done (.dv (.cmp .Eq (.blt .len (.cons (.var 0) .nil)) (.con (.int 3))) (.ret (.and (.call 10 (.cons (.ix (.var 0) (.con (.int 0))) (.cons (.tup (.cons (.con (.str [108,101,97,115,116])) (.cons (.con (.str [109,111,115,116])) .nil))) .nil))) (.and (.call 1 (.cons (.ix (.var 0) (.con (.int 1))) .nil)) (.call 3 (.cons (.ix (.var 0) (.con (.int 2))) .nil)))) .done) .done (.ret (.con (.bl false)) .done)))))
noncomputable def fh:S:=(.ret (.and (.rO (.var 0) .tuple) (.GQ .LtE .LtE (.gl 8) (.blt .len (.cons (.var 0) .nil)) (.gl 9))) .done)
noncomputable def bv:S:=(.dv (.or (.not (.rO (.var 0) .tuple)) (.cmp .NotEq (.blt .len (.cons (.var 0) .nil)) (.con (.int 2)))) (.ret (.tup .nil) .done) .done (.dv (.call 10 (.cons (.ix (.var 0) (.con (.int 0))) (.cons (.tup (.cons (.con (.str [110,111,116])) .nil)) .nil))) (.ret (.tup (.cons (.ix (.var 0) (.con (.int 1))) .nil)) .done) .done (.dv (.and (.call 10 (.cons (.ix (.var 0) (.con (.int 0))) (.cons (.tup (.cons (.con (.str [97,110,100])) (.cons (.con (.str [111,114])) .nil))) .nil))) (.call 12 (.cons (.ix (.var 0) (.con (.int 1))) .nil))) (.ret (.ix (.var 0) (.con (.int 1))) .done) .done (.ret (.tup .nil) .done))))
noncomputable def fw:S:=(.ret (.or (.call 11 (.cons (.var 0) .nil)) (.cmp .Gt (.blt .len (.cons (.call 13 (.cons (.var 0) .nil)) .nil)) (.con (.int 0)))) .done)
noncomputable def ow:E:=(.more (.call 13 (.cons (.var 0) .nil)) (.nm 1) .nil (.emit (.var 1)))
noncomputable def oS:E:=(.comp 2 [] (.var 1) (.nm 0) .nil ow)
noncomputable def oo:E:=(.emit (.call 14 (.cons (.var 0) .nil)))
noncomputable def oK:E:=(.comp 1 [] (.var 1) (.nm 0) .nil oo)
noncomputable def oz:S:=(.aug 2 .Add (.blt .len (.cons (.var 1) .nil)) (.dv (.or (.cmp .Gt (.var 2) (.gl 7)) (.not (.blt .all (.cons oK .nil)))) (.ret (.con (.bl false)) .done) .done (.asg 1 oS .done)))
noncomputable def jB:S:=(.asg 1 (.lst (.cons (.var 0) .nil)) (.asg 2 (.con (.int 0)) (.lP (.nm 3) (.blt .iV (.cons (.gl 6) .nil)) oz (.ret (.cmp .Eq (.blt .len (.cons (.var 1) .nil)) (.con (.int 0))) .done))))
noncomputable def eZ:S:=(.ret (.and (.call 2 (.cons (.var 0) .nil)) (.GQ .LtE .LtE (.var 1) (.var 0) (.var 2))) .done)
noncomputable def iu:S:=(.dv (.or (.not (.rO (.var 0) .tuple)) (.cmp .NotEq (.blt .len (.cons (.var 0) .nil)) (.con (.int 7)))) (.ret (.con (.bl false)) .done) .done (.Bj [1,2,3,4,5,6,7] (.var 0) (.dv (.or (.not (.call 10 (.cons (.var 1) (.cons (.gl 10) .nil)))) (.or (.not (.call 9 (.cons (.var 2) .nil))) (.not (.call 15 (.cons (.var 3) .nil))))) (.ret (.con (.bl false)) .done) .done (.dv (.or (.not (.call 16 (.cons (.var 4) (.cons (.con (.int 1)) (.cons (.gl 11) .nil))))) (.not (.call 16 (.cons (.var 5) (.cons (.con (.int 1)) (.cons (.var 4) .nil)))))) (.ret (.con (.bl false)) .done) .done (.ret (.and (.call 16 (.cons (.var 6) (.cons (.con (.int 0)) (.cons (.gl 12) .nil)))) (.call 4 (.cons (.var 7) .nil))) .done)))))
noncomputable def jL:S:=(.ret (.ix (.ix (.var 0) (.con (.int 1))) (.con (.int 0))) .done)
noncomputable def jU:S:=(.ret (.ix (.ix (.var 0) (.con (.int 1))) (.con (.int 1))) .done)
noncomputable def c8:S:=(.ret (.cmp .Eq (.blt .yt (.cons (.var 0) .nil)) (.blt .len (.cons (.var 0) .nil))) .done)
noncomputable def oF:E:=(.emit (.call 10 (.cons (.var 0) (.cons (.gl 13) .nil))))
noncomputable def n9:E:=(.comp 1 [] (.var 0) (.nm 0) .nil oF)
noncomputable def jG:S:=(.dv (.or (.not (.rO (.var 0) .tuple)) (.cmp .Gt (.blt .len (.cons (.var 0) .nil)) (.gl 14))) (.ret (.con (.bl false)) .done) .done (.ret (.and (.blt .all (.cons n9 .nil)) (.call 20 (.cons (.var 0) .nil))) .done))
noncomputable def sH:E:=(.emit (.call 1 (.cons (.var 0) .nil)))
noncomputable def kB:E:=(.comp 1 [] (.var 0) (.nm 0) .nil sH)
noncomputable def gC:S:=(.dv (.or (.not (.rO (.var 0) .tuple)) (.cmp .Gt (.blt .len (.cons (.var 0) .nil)) (.gl 15))) (.ret (.con (.bl false)) .done) .done (.ret (.and (.blt .all (.cons kB .nil)) (.call 20 (.cons (.var 0) .nil))) .done))
noncomputable def uG:S:=(.Bj [2,3,4] (.var 1) (.dv (.cmp .Eq (.var 0) (.con (.str [104,101,97,118,121]))) (.ret (.neg (.ix (.var 3) (.con (.int 5)))) .done) .done (.dv (.cmp .Eq (.var 0) (.con (.str [103,114,101,97,116]))) (.ret (.neg (.var 4)) .done) .done (.dv (.cmp .Eq (.var 0) (.con (.str [115,109,97,108,108]))) (.ret (.var 4) .done) .done (.ret (.ix (.var 3) (.con (.int 6))) .done)))))
noncomputable def s9:E:=(.emit (.call 23 (.cons (.var 0) (.cons (.var 1) .nil))))
noncomputable def sQ:E:=(.comp 1 [1] (.var 0) (.nm 0) .nil s9)
noncomputable def pf:S:=(.ret (.bin .Add sQ (.lst (.cons (.ix (.var 1) (.con (.int 0))) .nil))) .done)
noncomputable def p9:E:=(.emit (.var 0))
noncomputable def qY:E:=(.comp 3 [] (.var 2) (.tp [0,1,2]) .nil p9)
noncomputable def il:E:=(.call 24 (.cons (.var 1) (.cons (.var 0) .nil)))
noncomputable def l7:S:=(.asg 2 (.qP [0] (.var 1) il) (.ret qY .done))
noncomputable def ly:E:=(.emit (.var 0))
noncomputable def lL:E:=(.comp 3 [0] (.var 1) (.tp [0,1,2]) (.cons (.cmp .Eq (.ix (.var 1) (.con (.int 0))) (.var 3)) .nil) ly)
noncomputable def lh:E:=(.emit lL)
noncomputable def lw:E:=(.comp 1 [2] (.gl 10) (.nm 0) .nil lh)
noncomputable def la:E:=(.emit (.var 0))
noncomputable def mF:E:=(.comp 1 [0] (.var 1) (.nm 0) (.cons (.cmp .Eq (.call 19 (.cons (.ix (.var 0) (.con (.int 1))) .nil)) (.var 1)) .nil) la)
noncomputable def iD:S:=(.asg 2 mF (.ret lw .done))
noncomputable def og:E:=(.emit (.call 19 (.cons (.ix (.var 0) (.con (.int 1))) .nil)))
noncomputable def oH:E:=(.comp 1 [] (.var 1) (.nm 0) .nil og)
noncomputable def wL:E:=(.more (.var 3) (.nm 2) .nil (.emit (.tup (.cons (.var 0) (.cons (.var 1) (.cons (.var 2) .nil))))))
noncomputable def vP:E:=(.comp 3 [6] (.var 7) (.tp [0,1]) .nil wL)
noncomputable def wk:E:=(.more (.var 2) (.nm 1) .nil (.emit (.tup (.cons (.var 0) (.cons (.var 1) .nil)))))
noncomputable def oq:E:=(.comp 2 [5] (.var 4) (.nm 0) .nil wk)
noncomputable def nZ:S:=(.BL [4,5,6] (.call 26 (.cons (.var 3) (.cons (.var 1) .nil))) (.asg 7 oq (.dv (.cmp .In (.var 3) (.var 0)) (.expr (.vo .extend (.var 2) (.cons vP .nil)) .done) (.expr (.vo .extend (.var 2) (.cons (.var 7) .nil)) .done) .done)))
noncomputable def j3:S:=(.asg 2 (.rI .nil) (.lP (.nm 3) (.blt .u3 (.cons oH .nil)) nZ (.ret (.blt .vy (.cons (.var 2) .nil)) .done)))
noncomputable def jg:E:=(.comp 3 [] (.var 0) (.tp [0,1,2]) .nil (.ji (.var 0) (.tup (.cons (.var 1) (.cons (.var 2) .nil)))))
noncomputable def fj:S:=(.ret (.blt .Ab (.cons jg .nil)) .done)
noncomputable def mf:E:=(.emit (.blt .wD (.cons (.var 1) (.cons (.var 0) .nil))))
noncomputable def lQ:E:=(.comp 1 [1] (.var 0) (.nm 0) .nil mf)
noncomputable def mD:E:=(.blt .wu (.cons lQ .nil))
noncomputable def f7:E:=(.comp 2 [] (.blt .enum (.cons (.tr (.call 25 (.cons (.var 0) (.cons (.var 2) .nil)))) .nil)) (.tp [0,1]) .nil (.ji (.var 1) (.var 0)))
noncomputable def cB:S:=(.asg 3 (.call 28 (.cons (.var 2) .nil)) (.asg 4 (.blt .Ab (.cons f7 .nil)) (.asg 5 (.qP [4] (.call 27 (.cons (.var 1) (.cons (.var 2) .nil))) mD) (.lP (.nm 6) (.var 5) .pL (.ret (.con .non) .done)))))
noncomputable def ck:S:=(.dv (.or (.not (.rO (.var 0) .tuple)) (.cmp .NotEq (.blt .len (.cons (.var 0) .nil)) (.con (.int 2)))) (.ret (.con (.bl false)) .done) .done (.ret (.and (.call 4 (.cons (.ix (.var 0) (.con (.int 0))) .nil)) (.and (.call 4 (.cons (.ix (.var 0) (.con (.int 1))) .nil)) (.cmp .Lt (.ix (.var 0) (.con (.int 0))) (.ix (.var 0) (.con (.int 1)))))) .done))
noncomputable def ko:E:=(.emit (.cmp .Lt (.ix (.ix (.var 1) (.bin .Sub (.var 0) (.con (.int 1)))) (.con (.int 1))) (.ix (.ix (.var 1) (.var 0)) (.con (.int 0)))))
noncomputable def kj:E:=(.comp 1 [0] (.blt .nU (.cons (.con (.int 1)) (.cons (.blt .len (.cons (.var 0) .nil)) .nil))) (.nm 0) .nil ko)
noncomputable def ki:E:=(.emit (.call 30 (.cons (.var 0) .nil)))
noncomputable def kH:E:=(.comp 1 [] (.var 0) (.nm 0) .nil ki)
noncomputable def gA:S:=(.dv (.or (.not (.rO (.var 0) .tuple)) (.or (.cmp .Gt (.blt .len (.cons (.var 0) .nil)) (.gl 16)) (.not (.blt .all (.cons kH .nil))))) (.ret (.con (.bl false)) .done) .done (.ret (.blt .all (.cons kj .nil)) .done))
noncomputable def iL:E:=(.emit (.GQ .LtE .Lt (.var 0) (.var 2) (.var 1)))
noncomputable def iP:E:=(.comp 2 [1] (.var 0) (.tp [0,1]) .nil iL)
noncomputable def dZ:S:=(.ret (.blt .any (.cons iP .nil)) .done)
noncomputable def dJ:S:=(.dv (.not (.call 17 (.cons (.var 0) .nil))) .pL .done .done)
noncomputable def eY:S:=(.dv (.cmp .LtE (.var 0) (.var 1)) .pL .done .done)
noncomputable def bA:E:=(.or (.not (.call 21 (.cons (.var 1) .nil))) (.or (.not (.call 22 (.cons (.var 2) .nil))) (.not (.call 31 (.cons (.var 3) .nil)))))
noncomputable def bw:S:=.pL
noncomputable def dB:S:=(.dv bA bw .done .done)
noncomputable def fq:S:=(.expr (.call 33 (.cons (.var 2) .nil)) (.expr (.aZ 631 (.var 0) "reach" 52 (.cons (.var 1) .nil)) (.dv (.cmp .IsNot (.aZ 631 (.var 0) "place" 48 (.cons (.call 18 (.cons (.var 2) .nil)) .nil)) (.con .non)) .pL .done (.expr (.call 34 (.cons (.ix (.var 2) (.con (.int 6))) (.cons (.var 1) .nil))) (.dv (.cmp .GtE (.blt .len (.cons (.aZ 631 (.var 0) "waiters" 45 .nil) .nil)) (.gl 17)) .pL .done (.ret (.aZ 631 (.var 0) "take_in" 50 (.cons (.con (.str [99,111,109,101])) (.cons (.var 2) .nil))) .done))))))
noncomputable def cG:S:=(.expr (.aZ 631 (.var 0) "reach" 52 (.cons (.var 1) .nil)) (.set (.fld 631 (.var 0) "ends") (.aZ 631 (.var 0) "known" 49 (.cons (.var 2) .nil)) (.tup (.cons (.con (.str [111,102,102])) (.cons (.var 1) .nil))) (.expr (.aZ 631 (.var 0) "write" 51 (.cons (.tup (.cons (.con (.str [111,102,102])) (.cons (.var 1) (.cons (.var 2) .nil)))) .nil)) .done)))
noncomputable def cg:S:=(.expr (.aZ 631 (.var 0) "reach" 52 (.cons (.var 1) .nil)) .done)
noncomputable def fM:S:=(.ret (.fld 631 (.var 0) "time") .done)
noncomputable def fX:S:=(.ret (.call 25 (.cons (.fld 631 (.var 0) "rule") (.cons (.aZ 631 (.var 0) "waiters" 45 .nil) .nil))) .done)
noncomputable def fk:S:=(.expr (.aZ 631 (.var 0) "check_number" 47 (.cons (.var 1) .nil)) (.ret (.ix (.fld 631 (.var 0) "lefts") (.var 1)) .done))
noncomputable def dU:S:=(.expr (.aZ 631 (.var 0) "check_number" 47 (.cons (.var 1) .nil)) (.ret (.ix (.fld 631 (.var 0) "offers") (.var 1)) .done))
noncomputable def gF:S:=(.expr (.aZ 631 (.var 0) "check_number" 47 (.cons (.var 1) .nil)) (.ret (.ix (.fld 631 (.var 0) "ends") (.var 1)) .done))
noncomputable def fx:E:=(.emit (.tup (.cons (.ix (.var 0) (.con (.int 1))) (.cons (.ix (.var 0) (.con (.int 2))) (.cons (.ix (.var 0) (.con (.int 3))) .nil)))))
noncomputable def fE:E:=(.comp 1 [] (.fld 631 (.var 0) "rows") (.nm 0) (.cons (.cmp .Eq (.ix (.var 0) (.con (.int 0))) (.con (.str [109,101,101,116]))) .nil) fx)
noncomputable def bL:S:=(.ret fE .done)
noncomputable def fN:E:=(.emit (.tup (.cons (.var 0) (.cons (.ix (.fld 631 (.var 1) "offers") (.var 0)) (.cons (.ix (.fld 631 (.var 1) "lefts") (.var 0)) .nil)))))
noncomputable def fR:E:=(.comp 1 [0] (.var 1) (.nm 0) .nil fN)
noncomputable def gb:E:=(.emit (.var 0))
noncomputable def fT:E:=(.comp 2 [] (.enc (.cons (.fld 631 (.var 0) "ends") .nil)) (.tp [0,1]) (.cons (.cmp .Is (.var 1) (.con .non)) .nil) gb)
noncomputable def b8:S:=(.asg 1 fT (.ret fR .done))
noncomputable def fg:S:=(.ret (.blt .list (.cons (.fld 631 (.var 0) "rows") .nil)) .done)
noncomputable def bf:S:=(.dv (.not (.call 16 (.cons (.var 1) (.cons (.con (.int 0)) (.cons (.bin .Sub (.blt .len (.cons (.fld 631 (.var 0) "offers") .nil)) (.con (.int 1))) .nil))))) .pL .done .done)
noncomputable def iO:S:=(.dv (.cmp .Eq (.call 18 (.cons (.var 3) .nil)) (.var 1)) (.ret (.var 2) .done) .done .done)
noncomputable def dG:S:=(.dv (.rO (.var 1) .str) (.lP (.tp [2,3,4]) (.aZ 631 (.var 0) "waiters" 45 .nil) iO .done) .done (.ret (.con .non) .done))
noncomputable def bD:S:=(.asg 2 (.aZ 631 (.var 0) "place" 48 (.cons (.var 1) .nil)) (.dv (.cmp .Is (.var 2) (.con .non)) (.Ku 176 [] (.cons (.con (.str [110,111,32,119,97,105,116,105,110,103,32,111,110,101,32,104,97,115,32,116,104,105,115,32,110,97,109,101])) .nil) .done) .done (.ret (.var 2) .done)))
noncomputable def cr:S:=(.asg 3 (.blt .len (.cons (.fld 631 (.var 0) "offers") .nil)) (.expr (.vo .append (.fld 631 (.var 0) "offers") (.cons (.var 2) .nil)) (.expr (.vo .append (.fld 631 (.var 0) "lefts") (.cons (.ix (.var 2) (.con (.int 3))) .nil)) (.expr (.vo .append (.fld 631 (.var 0) "ends") (.cons (.con .non) .nil)) (.expr (.aZ 631 (.var 0) "write" 51 (.cons (.tup (.cons (.var 1) (.cons (.fld 631 (.var 0) "time") (.cons (.var 2) (.cons (.var 3) .nil))))) .nil)) (.ret (.var 3) .done))))))
noncomputable def dR:S:=(.expr (.vo .append (.fld 631 (.var 0) "rows") (.cons (.var 1) .nil)) (.expr (.aZ 631 (.var 0) "settle" 55 .nil) .done))
noncomputable def eE:S:=(.GR 631 (.var 0) "time" (.var 2) (.expr (.aZ 631 (.var 0) "let_out" 54 .nil) (.expr (.aZ 631 (.var 0) "settle" 55 .nil) (.asg 2 (.aZ 631 (.var 0) "next_moment" 53 (.cons (.var 1) .nil)) .done))))
noncomputable def dY:S:=(.dv (.or (.not (.call 4 (.cons (.var 1) .nil))) (.and (.cmp .IsNot (.fld 631 (.var 0) "time") (.con .non)) (.cmp .Lt (.var 1) (.fld 631 (.var 0) "time")))) .pL .done (.asg 2 (.aZ 631 (.var 0) "next_moment" 53 (.cons (.var 1) .nil)) (.ye (.cmp .IsNot (.var 2) (.con .non)) eE (.GR 631 (.var 0) "time" (.var 1) .done))))
noncomputable def dq:E:=(.emit (.var 0))
noncomputable def dg:E:=(.comp 1 [1] (.var 4) (.nm 0) (.cons (.cmp .LtE (.var 0) (.var 1)) .nil) dq)
noncomputable def dw:E:=(.emit (.var 0))
noncomputable def dk:E:=(.comp 1 [0] (.bin .Add (.var 2) (.var 3)) (.nm 0) (.cons (.or (.cmp .Is (.fld 631 (.var 1) "time") (.con .non)) (.cmp .Gt (.var 0) (.fld 631 (.var 1) "time"))) .nil) dw)
noncomputable def di:E:=(.emit (.var 1))
noncomputable def dh:E:=(.comp 2 [] (.fld 631 (.var 0) "quiet") (.tp [0,1]) .nil di)
noncomputable def du:E:=(.emit (.ix (.var 1) (.con (.int 6))))
noncomputable def dm:E:=(.comp 3 [] (.aZ 631 (.var 0) "waiters" 45 .nil) (.tp [0,1,2]) .nil du)
noncomputable def bo:S:=(.asg 2 dm (.asg 3 dh (.asg 4 dk (.ret (.blt .Ix (.cons dg .nil)) .done))))
noncomputable def fV:S:=(.dv (.cmp .Eq (.ix (.var 2) (.con (.int 6))) (.fld 631 (.var 0) "time")) (.set (.fld 631 (.var 0) "ends") (.var 1) (.tup (.cons (.con (.str [111,117,116])) (.cons (.fld 631 (.var 0) "time") .nil))) (.expr (.vo .append (.fld 631 (.var 0) "rows") (.cons (.tup (.cons (.con (.str [111,117,116])) (.cons (.fld 631 (.var 0) "time") (.cons (.var 1) .nil)))) .nil)) .done)) .done .done)
noncomputable def cx:S:=(.lP (.tp [1,2,3]) (.aZ 631 (.var 0) "waiters" 45 .nil) fV .done)
noncomputable def cU:S:=(.dv (.call 32 (.cons (.fld 631 (.var 0) "quiet") (.cons (.fld 631 (.var 0) "time") .nil))) (.DO .done) .done (.asg 1 (.call 29 (.cons (.fld 631 (.var 0) "rule") (.cons (.fld 631 (.var 0) "borne") (.cons (.aZ 631 (.var 0) "waiters" 45 .nil) .nil)))) (.ye (.cmp .IsNot (.var 1) (.con .non)) .pL .done)))
noncomputable def iE:S:=(.dv (.cmp .Lt (.var 1) (.blt .len (.cons (.var 0) .nil))) (.ret (.ix (.var 0) (.var 1)) .done) .done (.ret (.con (.int 0)) .done))
noncomputable def pK:S:=(.ret (.rI (.cons (.bin .Mult (.var 0) (.blt .int (.cons (.cmp .GtE (.var 0) (.bin .Pow (.con (.int 10)) (.con (.int 18)))) .nil))) (.cons (.bin .Mod (.var 0) (.con (.int 2147483647))) (.cons (.con (.int 0)) .nil)))) .done)
noncomputable def pG:S:=(.dv (.cmp .Gt (.ix (.var 0) (.con (.int 0))) (.con (.int 0))) (.asg 2 (.bin .Mod (.ix (.var 0) (.con (.int 0))) (.var 1)) (.set (.var 0) (.con (.int 0)) (.bin .FloorDiv (.ix (.var 0) (.con (.int 0))) (.var 1)) (.ret (.var 2) .done))) .done (.set (.var 0) (.con (.int 2)) (.bin .Add (.ix (.var 0) (.con (.int 2))) (.con (.int 1))) (.asg 3 (.bin .Mod (.bin .Mult (.bin .Add (.bin .Add (.ix (.var 0) (.con (.int 1))) (.bin .Mult (.con (.int 7919)) (.ix (.var 0) (.con (.int 2))))) (.con (.int 1))) (.con (.int 48271))) (.con (.int 2147483647))) (.asg 3 (.bin .Mod (.bin .Mult (.var 3) (.bin .Add (.bin .FloorDiv (.var 3) (.con (.int 1009))) (.con (.int 69621)))) (.con (.int 2147483647))) (.ret (.bin .Mod (.bin .Mod (.bin .Mult (.var 3) (.bin .Add (.bin .FloorDiv (.var 3) (.con (.int 2003))) (.con (.int 40692)))) (.con (.int 2147483399))) (.var 1)) .done)))))
noncomputable def pW:S:=(.ret (.ix (.var 1) (.call 58 (.cons (.var 0) (.cons (.blt .len (.cons (.var 1) .nil)) .nil)))) .done)
noncomputable def pH:S:=(.asg 1 (.lst (.cons (.con (.str [97])) (.cons (.con (.str [97,98])) (.cons (.con (.str [98])) (.cons (.con (.str [97,110,121,97])) (.cons (.con (.str [105,115,108,97,110,100])) (.cons (.con (.str [97,98,99])) (.cons (.con (.str [122])) (.cons (.con (.str [98,121,98,121,101])) (.cons (.con (.str [111,114,100,101,114])) (.cons (.con (.str [110,111,116,101,115])) (.cons (.con (.str [99])) (.cons (.con (.str [122,122,122,122,122,122,122,122])) .nil))))))))))))) (.ret (.ix (.var 1) (.bin .Mod (.var 0) (.con (.int 12)))) .done))
noncomputable def jR:S:=(.ret (.ix (.lst (.cons (.call 58 (.cons (.var 0) (.cons (.con (.int 6)) .nil))) (.cons (.call 58 (.cons (.var 0) (.cons (.con (.int 6)) .nil))) (.cons (.bin .Sub (.bin .Pow (.con (.int 10)) (.con (.int 9))) (.call 58 (.cons (.var 0) (.cons (.con (.int 3)) .nil)))) .nil)))) (.call 58 (.cons (.var 0) (.cons (.con (.int 3)) .nil)))) .done)
noncomputable def tA:E:=(.emit (.tup (.cons (.var 0) (.cons (.call 61 (.cons (.var 1) .nil)) .nil))))
noncomputable def sW:E:=(.comp 1 [0] (.lst (.cons (.con (.str [112,114,105,99,101])) (.cons (.con (.str [119,105,100,101])) .nil))) (.nm 0) (.cons (.cmp .Eq (.call 58 (.cons (.var 1) (.cons (.con (.int 2)) .nil))) (.con (.int 1))) .nil) tA)
noncomputable def sU:E:=(.emit (.var 0))
noncomputable def s8:E:=(.comp 1 [0] (.lst (.cons (.con (.str [102,114,101,115,104])) (.cons (.con (.str [111,108,100])) (.cons (.con (.str [111,108,100,115])) .nil)))) (.nm 0) (.cons (.cmp .Eq (.call 58 (.cons (.var 1) (.cons (.con (.int 2)) .nil))) (.con (.int 1))) .nil) sU)
noncomputable def pB:S:=(.asg 3 (.blt .tuple (.cons s8 .nil)) (.asg 4 (.blt .tuple (.cons sW .nil)) (.ret (.tup (.cons (.var 1) (.cons (.var 2) (.cons (.var 3) (.cons (.var 4) .nil))))) .done)))
noncomputable def sP:E:=(.emit (.call 63 (.cons (.var 1) (.cons (.bin .Sub (.var 2) (.con (.int 1))) .nil))))
noncomputable def sT:E:=(.comp 1 [0,1] (.blt .iV (.cons (.var 3) .nil)) (.nm 0) .nil sP)
noncomputable def pM:S:=(.asg 2 (.call 58 (.cons (.var 0) (.cons (.bin .Add (.con (.int 6)) (.bin .Mult (.con (.int 3)) (.blt .int (.cons (.cmp .Gt (.var 1) (.con (.int 0))) .nil)))) .nil))) (.dv (.cmp .Lt (.var 2) (.con (.int 2))) (.ret (.tup (.cons (.con (.str [97,110,121])) .nil)) .done) .done (.dv (.cmp .Eq (.var 2) (.con (.int 2))) (.ret (.tup (.cons (.con (.str [105,115])) (.cons (.call 59 (.cons (.var 0) (.cons (.lst (.cons (.con (.str [102,114,101,115,104])) (.cons (.con (.str [111,108,100])) (.cons (.con (.str [111,108,100,115])) (.cons (.con (.str [110,101,119])) .nil))))) .nil))) .nil))) .done) .done (.dv (.cmp .Eq (.var 2) (.con (.int 3))) (.ret (.tup (.cons (.con (.str [98,121])) (.cons (.call 60 (.cons (.call 58 (.cons (.var 0) (.cons (.con (.int 12)) .nil))) .nil)) .nil))) .done) .done (.dv (.cmp .Lt (.var 2) (.con (.int 6))) (.ret (.tup (.cons (.ix (.lst (.cons (.con (.str [108,101,97,115,116])) (.cons (.con (.str [109,111,115,116])) .nil))) (.bin .Sub (.var 2) (.con (.int 4)))) (.cons (.call 59 (.cons (.var 0) (.cons (.lst (.cons (.con (.str [112,114,105,99,101])) (.cons (.con (.str [119,105,100,101])) (.cons (.con (.str [102,97,114])) .nil)))) .nil))) (.cons (.call 61 (.cons (.var 0) .nil)) .nil)))) .done) .done (.dv (.cmp .Eq (.var 2) (.con (.int 6))) (.ret (.tup (.cons (.con (.str [110,111,116])) (.cons (.call 63 (.cons (.var 0) (.cons (.bin .Sub (.var 1) (.con (.int 1))) .nil))) .nil))) .done) .done (.asg 3 (.bin .Add (.con (.int 2)) (.call 58 (.cons (.var 0) (.cons (.con (.int 2)) .nil)))) (.ret (.tup (.cons (.ix (.lst (.cons (.con (.str [97,110,100])) (.cons (.con (.str [111,114])) .nil))) (.bin .Sub (.var 2) (.con (.int 7)))) (.cons (.blt .tuple (.cons sT .nil)) .nil))) .done))))))))
noncomputable def me:S:=(.asg 5 (.ix (.lst (.cons (.bin .Add (.con (.int 1)) (.call 58 (.cons (.var 0) (.cons (.con (.int 9)) .nil)))) (.cons (.bin .Add (.con (.int 1)) (.call 58 (.cons (.var 0) (.cons (.con (.int 9)) .nil)))) (.cons (.bin .Add (.con (.int 1)) (.call 58 (.cons (.var 0) (.cons (.bin .Pow (.con (.int 10)) (.con (.int 6))) .nil)))) .nil)))) (.call 58 (.cons (.var 0) (.cons (.con (.int 3)) .nil)))) (.asg 6 (.ix (.lst (.cons (.con (.int 1)) (.cons (.bin .Add (.con (.int 1)) (.call 58 (.cons (.var 0) (.cons (.var 5) .nil)))) (.cons (.var 5) .nil)))) (.call 58 (.cons (.var 0) (.cons (.con (.int 3)) .nil)))) (.asg 7 (.ix (.lst (.cons (.tup (.cons (.con (.str [97,110,121])) .nil)) (.cons (.call 63 (.cons (.var 0) (.cons (.con (.int 2)) .nil))) .nil))) (.call 58 (.cons (.var 0) (.cons (.con (.int 2)) .nil)))) (.asg 8 (.ix (.lst (.cons (.call 58 (.cons (.var 0) (.cons (.con (.int 3)) .nil))) (.cons (.call 58 (.cons (.var 0) (.cons (.con (.int 1001)) .nil))) .nil))) (.call 58 (.cons (.var 0) (.cons (.con (.int 2)) .nil)))) (.ret (.tup (.cons (.var 1) (.cons (.call 62 (.cons (.var 0) (.cons (.var 2) (.cons (.var 3) .nil)))) (.cons (.var 7) (.cons (.var 5) (.cons (.var 6) (.cons (.var 8) (.cons (.var 4) .nil)))))))) .done)))))
noncomputable def sZ:S:=(.expr (.vo .append (.var 2) (.cons (.vo .mn (.var 1) (.cons (.call 58 (.cons (.var 0) (.cons (.blt .len (.cons (.var 1) .nil)) .nil))) .nil)) .nil)) .done)
noncomputable def pR:S:=(.asg 1 (.rI (.cons (.con (.str [104,101,97,118,121])) (.cons (.con (.str [103,114,101,97,116])) (.cons (.con (.str [115,109,97,108,108])) (.cons (.con (.str [115,111,111,110])) .nil))))) (.asg 2 (.rI .nil) (.lP (.nm 3) (.blt .iV (.cons (.ix (.lst (.cons (.con (.int 0)) (.cons (.con (.int 1)) (.cons (.con (.int 1)) (.cons (.con (.int 2)) (.cons (.con (.int 3)) .nil)))))) (.call 58 (.cons (.var 0) (.cons (.con (.int 5)) .nil)))) .nil)) sZ (.ret (.blt .tuple (.cons (.var 2) .nil)) .done))))
noncomputable def qt:S:=(.asg 4 (.bin .Add (.bin .Add (.var 2) (.con (.int 1))) (.call 58 (.cons (.var 0) (.cons (.con (.int 9)) .nil)))) (.asg 2 (.bin .Add (.bin .Add (.var 4) (.con (.int 1))) (.call 58 (.cons (.var 0) (.cons (.con (.int 9)) .nil)))) (.expr (.vo .append (.var 1) (.cons (.tup (.cons (.var 4) (.cons (.var 2) .nil))) .nil)) .done)))
noncomputable def lx:S:=(.asg 1 (.rI .nil) (.asg 2 (.neg (.con (.int 1))) (.lP (.nm 3) (.blt .iV (.cons (.ix (.lst (.cons (.con (.int 0)) (.cons (.con (.int 0)) (.cons (.con (.int 1)) (.cons (.con (.int 2)) (.cons (.con (.int 3)) (.cons (.con (.int 8)) .nil))))))) (.call 58 (.cons (.var 0) (.cons (.con (.int 6)) .nil)))) .nil)) qt (.ret (.blt .tuple (.cons (.var 1) .nil)) .done))))
noncomputable def lT:S:=(.asg 3 (.con (.bl true)) .done)
noncomputable def mB:S:=(.expr (.aZ 631 (.var 0) "off" 37 (.cons (.var 1) (.cons (.var 2) .nil))) .done)
noncomputable def iq:S:=(.asg 3 (.con (.bl false)) (.tri mB [176] Zy lT (.ret (.var 3) .done)))
noncomputable def qg:E:=(.emit (.var 0))
noncomputable def qF:E:=(.comp 3 [] (.var 8) (.tp [0,1,2]) .nil qg)
noncomputable def rj:E:=(.emit (.tup (.cons (.var 0) (.cons (.var 1) (.cons (.ix (.var 1) (.con (.int 3))) .nil)))))
noncomputable def qy:E:=(.comp 2 [2] (.enc (.cons (.var 1) .nil)) (.tp [0,1]) (.cons (.cmp .Gt (.ix (.var 1) (.con (.int 6))) (.var 2)) .nil) rj)
noncomputable def qK:E:=(.emit (.tup (.cons (.con (.str [111,117,116])) (.cons (.var 0) (.cons (.var 1) .nil)))))
noncomputable def qC:E:=(.comp 2 [] (.blt .vy (.cons (.var 3) .nil)) (.tp [0,1]) .nil qK)
noncomputable def q9:S:=(.asg 6 (.con .non) (.dv (.cmp .LtE (.ix (.var 5) (.con (.int 6))) (.var 2)) (.asg 6 (.tup (.cons (.con (.str [111,117,116])) (.cons (.ix (.var 5) (.con (.int 6))) .nil))) (.expr (.vo .append (.var 3) (.cons (.tup (.cons (.ix (.var 5) (.con (.int 6))) (.cons (.var 4) .nil))) .nil)) .done)) .done (.dv (.or (.cmp .NotEq (.aZ 631 (.var 0) "end" 43 (.cons (.var 4) .nil)) (.var 6)) (.or (.cmp .NotEq (.aZ 631 (.var 0) "left" 41 (.cons (.var 4) .nil)) (.ix (.var 5) (.con (.int 3)))) (.cmp .NotEq (.aZ 631 (.var 0) "offer" 42 (.cons (.var 4) .nil)) (.var 5)))) (.ret (.con (.bl false)) .done) .done .done)))
noncomputable def lA:S:=(.asg 3 (.rI .nil) (.lP (.tp [4,5]) (.enc (.cons (.var 1) .nil)) q9 (.asg 7 qC (.dv (.or (.cmp .NotEq (.GZ (.aZ 631 (.var 0) "book" 46 .nil) (.blt .len (.cons (.var 1) .nil)) .hole) (.var 7)) (.or (.cmp .NotEq (.aZ 631 (.var 0) "now" 39 .nil) (.var 2)) (.cmp .NotEq (.aZ 631 (.var 0) "meetings" 44 .nil) (.lst .nil)))) (.ret (.con (.bl false)) .done) .done (.asg 8 qy (.ret (.and (.cmp .Eq (.aZ 631 (.var 0) "waiters" 45 .nil) (.var 8)) (.cmp .Eq (.blt .wu (.cons (.aZ 631 (.var 0) "row" 40 .nil) .nil)) qF)) .done))))))
noncomputable def zY:E:=(.emit (.ix (.ix (.var 0) (.con (.int 1))) (.con (.int 0))))
noncomputable def ze:E:=(.comp 1 [3] (.var 4) (.nm 0) (.cons (.cmp .LtE (.ix (.var 0) (.con (.int 6))) (.var 1)) .nil) zY)
noncomputable def Ae:E:=(.emit (.ix (.var 0) (.con (.int 6))))
noncomputable def zS:E:=(.comp 1 [3] (.var 4) (.nm 0) (.cons (.cmp .Gt (.ix (.var 0) (.con (.int 6))) (.var 1)) .nil) Ae)
noncomputable def tR:S:=(.asg 1 (.call 57 (.cons (.var 7) .nil)) (.asg 8 (.bin .Add zS (.lst (.cons (.bin .Add (.var 3) (.con (.int 7))) .nil))) (.asg 6 (.ix (.lst (.cons (.blt .Gd (.cons (.var 8) .nil)) (.cons (.call 59 (.cons (.var 1) (.cons (.var 8) .nil))) .nil))) (.call 58 (.cons (.var 1) (.cons (.con (.int 2)) .nil)))) (.asg 3 (.blt .min2 (.cons (.bin .Pow (.con (.int 10)) (.con (.int 9))) (.cons (.blt .max2 (.cons (.var 3) (.cons (.bin .Add (.var 6) (.ix (.lst (.cons (.neg (.con (.int 1))) (.cons (.con (.int 0)) (.cons (.con (.int 0)) (.cons (.call 58 (.cons (.var 1) (.cons (.con (.int 5)) .nil))) .nil))))) (.call 58 (.cons (.var 1) (.cons (.con (.int 4)) .nil))))) .nil))) .nil))) (.dv (.or (.cmp .IsNot (.aZ 631 (.var 2) "come_to" 38 (.cons (.var 3) .nil)) (.con .non)) (.not (.call 68 (.cons (.var 2) (.cons (.var 4) (.cons (.var 3) .nil)))))) (.ret (.con (.bl false)) .done) .done (.asg 9 ze (.dv (.and (.cmp .NotEq (.var 9) (.lst .nil)) (.not (.call 67 (.cons (.var 2) (.cons (.var 3) (.cons (.call 59 (.cons (.var 1) (.cons (.var 9) .nil))) .nil)))))) (.ret (.con (.bl false)) .done) .done .done)))))))
noncomputable def uJ:S:=(.asg 6 (.blt .min2 (.cons (.bin .Pow (.con (.int 10)) (.con (.int 9))) (.cons (.bin .Add (.bin .Add (.var 3) (.con (.int 1))) (.ix (.lst (.cons (.call 58 (.cons (.var 1) (.cons (.con (.int 6)) .nil))) (.cons (.call 58 (.cons (.var 1) (.cons (.con (.int 40)) .nil))) .nil))) (.call 58 (.cons (.var 1) (.cons (.con (.int 2)) .nil))))) .nil))) (.expr (.vo .append (.var 4) (.cons (.call 64 (.cons (.var 1) (.cons (.con (.str [116,97,107,101])) (.cons (.call 60 (.cons (.var 5) .nil)) (.cons (.con (.str [114,121,101])) (.cons (.var 6) .nil)))))) .nil)) (.expr (.aZ 631 (.var 2) "come" 36 (.cons (.var 3) (.cons (.ix (.var 4) (.neg (.con (.int 1)))) .nil))) .done)))
noncomputable def zc:S:=(.asg 1 (.call 57 (.cons (.call 56 (.cons (.var 0) (.cons (.con (.int 0)) .nil))) .nil)) (.asg 2 (.make 631 35 lK (.cons (.call 65 (.cons (.var 1) .nil)) (.cons (.tup .nil) (.cons (.call 66 (.cons (.var 1) .nil)) .nil)))) (.asg 3 (.bin .Add (.ix (.lst (.cons (.con (.int 0)) (.cons (.bin .Sub (.bin .Pow (.con (.int 10)) (.con (.int 9))) (.con (.int 45))) (.cons (.bin .Sub (.bin .Pow (.con (.int 10)) (.con (.int 9))) (.con (.int 9))) .nil)))) (.call 58 (.cons (.var 1) (.cons (.con (.int 3)) .nil)))) (.call 58 (.cons (.var 1) (.cons (.con (.int 5)) .nil)))) (.asg 4 (.rI .nil) (.lP (.nm 5) (.blt .iV (.cons (.bin .Add (.con (.int 1)) (.call 58 (.cons (.var 1) (.cons (.con (.int 12)) .nil)))) .nil)) uJ (.dv (.not (.call 68 (.cons (.var 2) (.cons (.var 4) (.cons (.var 3) .nil))))) (.ret (.con (.bl false)) .done) .done (.lP (.nm 7) (.bin .Add (.lst (.cons (.call 56 (.cons (.var 0) (.cons (.con (.int 1)) .nil))) .nil)) (.GZ (.var 0) (.con (.int 2)) (.con (.int 16)))) tR (.ret (.con (.bl true)) .done))))))))
noncomputable def fns:List Fn:=[⟨1,1,cN,false⟩,⟨1,1,j0,false⟩,⟨1,1,iC,false⟩,⟨1,1,fO,false⟩,⟨1,1,jy,false⟩,⟨1,1,uW,false⟩,⟨1,1,fU,false⟩,⟨1,1,ju,false⟩,⟨1,1,f8,false⟩,⟨1,1,jv,false⟩,⟨2,2,f9,false⟩,⟨1,1,aV,false⟩,⟨1,1,fh,false⟩,⟨1,1,bv,false⟩,⟨1,1,fw,false⟩,⟨1,4,jB,false⟩,⟨3,3,eZ,false⟩,⟨1,8,iu,false⟩,⟨1,1,jL,false⟩,⟨1,1,jU,false⟩,⟨1,1,c8,false⟩,⟨1,1,jG,false⟩,⟨1,1,gC,false⟩,⟨2,5,uG,false⟩,⟨2,2,pf,false⟩,⟨2,3,l7,false⟩,⟨2,3,iD,false⟩,⟨2,8,j3,false⟩,⟨1,1,fj,false⟩,⟨3,8,cB,false⟩,⟨1,1,ck,false⟩,⟨1,1,gA,false⟩,⟨2,2,dZ,false⟩,⟨1,1,dJ,false⟩,⟨2,2,eY,false⟩,⟨4,4,dB,false⟩,⟨3,3,fq,false⟩,⟨3,3,cG,false⟩,⟨2,2,cg,false⟩,⟨1,1,fM,false⟩,⟨1,1,fX,false⟩,⟨2,2,fk,false⟩,⟨2,2,dU,false⟩,⟨2,2,gF,false⟩,⟨1,1,bL,false⟩,⟨1,2,b8,false⟩,⟨1,1,fg,false⟩,⟨2,2,bf,false⟩,⟨2,5,dG,false⟩,⟨2,3,bD,false⟩,⟨3,4,cr,false⟩,⟨2,2,dR,false⟩,⟨2,3,dY,false⟩,⟨2,5,bo,false⟩,⟨1,4,cx,false⟩,⟨1,2,cU,false⟩,⟨2,2,iE,false⟩,⟨1,1,pK,true⟩,⟨2,4,pG,false⟩,⟨2,2,pW,false⟩,⟨1,2,pH,false⟩,⟨1,1,jR,false⟩,⟨3,5,pB,false⟩,⟨2,4,pM,false⟩,⟨5,9,me,false⟩,⟨1,4,pR,false⟩,⟨1,5,lx,false⟩,⟨3,4,iq,false⟩,⟨3,9,lA,false⟩,⟨1,10,zc,false⟩]
noncomputable def gv:List T:=[(.str [97,98,99,100,101,102,103,104,105,106,107,108,109,110,111,112,113,114,115,116,117,118,119,120,121,122]),(.int 8),(.tup [(.str [97,110,121]),(.str [105,115]),(.str [98,121]),(.str [110,111,116]),(.str [97,110,100]),(.str [111,114])]),(.int 1000000000),(.int 6),(.int 6),(.int 6),(.int 40),(.int 2),(.int 6),(.tup [(.str [103,105,118,101]),(.str [116,97,107,101]),(.str [98,101,97,114])]),(.int 1000000),(.int 1000),(.tup [(.str [104,101,97,118,121]),(.str [103,114,101,97,116]),(.str [115,109,97,108,108]),(.str [115,111,111,110])]),(.int 3),(.int 4),(.int 8),(.int 30)]
noncomputable abbrev cf:=az fns gv
abbrev CF(k:Nat)(b:S)(p q:Nat)(c:Bool):Prop:=∀(n:Nat) (ws:List W) (m:Mem),cf (n+1) k ws m=if ws.length=p then(ex (cf n) gv b (ws.map Zz++RE (q-p) Zy) m).bind λfl m'=>fin m.length c fl m' else .stuck
theorem o7:CF 0 cN 1 1 false:=λ_ _ _=>rfl
theorem x8:CF 1 j0 1 1 false:=λ_ _ _=>rfl
theorem vq:CF 2 iC 1 1 false:=λ_ _ _=>rfl
theorem tI:CF 3 fO 1 1 false:=λ_ _ _=>rfl
theorem xI:CF 4 jy 1 1 false:=λ_ _ _=>rfl
theorem F4:CF 5 uW 1 1 false:=λ_ _ _=>rfl
theorem uz:CF 6 fU 1 1 false:=λ_ _ _=>rfl
theorem yR:CF 7 ju 1 1 false:=λ_ _ _=>rfl
theorem vn:CF 8 f8 1 1 false:=λ_ _ _=>rfl
theorem yV:CF 9 jv 1 1 false:=λ_ _ _=>rfl
theorem ug:CF 10 f9 2 2 false:=λ_ _ _=>rfl
theorem bP:CF 11 aV 1 1 false:=λ_ _ _=>rfl
theorem r9:CF 12 fh 1 1 false:=λ_ _ _=>rfl
theorem cO:CF 13 bv 1 1 false:=λ_ _ _=>rfl
theorem oI:CF 14 fw 1 1 false:=λ_ _ _=>rfl
theorem yo:CF 15 jB 1 4 false:=λ_ _ _=>rfl
theorem rS:CF 16 eZ 3 3 false:=λ_ _ _=>rfl
theorem vA:CF 17 iu 1 8 false:=λ_ _ _=>rfl
theorem xH:CF 18 jL 1 1 false:=λ_ _ _=>rfl
theorem w9:CF 19 jU 1 1 false:=λ_ _ _=>rfl
theorem kL:CF 20 c8 1 1 false:=λ_ _ _=>rfl
theorem w8:CF 21 jG 1 1 false:=λ_ _ _=>rfl
theorem tY:CF 22 gC 1 1 false:=λ_ _ _=>rfl
theorem EV:CF 23 uG 2 5 false:=λ_ _ _=>rfl
theorem BC:CF 24 pf 2 2 false:=λ_ _ _=>rfl
theorem A4:CF 25 l7 2 3 false:=λ_ _ _=>rfl
theorem wA:CF 26 iD 2 3 false:=λ_ _ _=>rfl
theorem yw:CF 27 j3 2 8 false:=λ_ _ _=>rfl
theorem sE:CF 28 fj 1 1 false:=λ_ _ _=>rfl
theorem ny:CF 29 cB 3 8 false:=λ_ _ _=>rfl
theorem m9:CF 30 ck 1 1 false:=λ_ _ _=>rfl
theorem u5:CF 31 gA 1 1 false:=λ_ _ _=>rfl
theorem qT:CF 32 dZ 2 2 false:=λ_ _ _=>rfl
theorem rF:CF 33 dJ 1 1 false:=λ_ _ _=>rfl
theorem r8:CF 34 eY 2 2 false:=λ_ _ _=>rfl
theorem mG:CF 35 dB 4 4 false:=λ_ _ _=>rfl
theorem sw:CF 36 fq 3 3 false:=λ_ _ _=>rfl
theorem uP:CF 37 cG 3 3 false:=λ_ _ _=>rfl
theorem mU:CF 38 cg 2 2 false:=λ_ _ _=>rfl
theorem vm:CF 39 fM 1 1 false:=λ_ _ _=>rfl
theorem ul:CF 40 fX 1 1 false:=λ_ _ _=>rfl
theorem rP:CF 41 fk 2 2 false:=λ_ _ _=>rfl
theorem rd:CF 42 dU 2 2 false:=λ_ _ _=>rfl
theorem uQ:CF 43 gF 2 2 false:=λ_ _ _=>rfl
theorem lb:CF 44 bL 1 1 false:=λ_ _ _=>rfl
theorem ng:CF 45 b8 1 2 false:=λ_ _ _=>rfl
theorem sp:CF 46 fg 1 1 false:=λ_ _ _=>rfl
theorem iT:CF 47 bf 2 2 false:=λ_ _ _=>rfl
theorem qZ:CF 48 dG 2 5 false:=λ_ _ _=>rfl
theorem rm:CF 49 bD 2 3 false:=λ_ _ _=>rfl
theorem nK:CF 50 cr 3 4 false:=λ_ _ _=>rfl
theorem qk:CF 51 dR 2 2 false:=λ_ _ _=>rfl
theorem rH:CF 52 dY 2 3 false:=λ_ _ _=>rfl
theorem jh:CF 53 bo 2 5 false:=λ_ _ _=>rfl
theorem nW:CF 54 cx 1 4 false:=λ_ _ _=>rfl
theorem oY:CF 55 cU 1 2 false:=λ_ _ _=>rfl
theorem wC:CF 56 iE 2 2 false:=λ_ _ _=>rfl
theorem CW:CF 57 pK 1 1 true:=λ_ _ _=>rfl
theorem Ev:CF 58 pG 2 4 false:=λ_ _ _=>rfl
theorem C3:CF 59 pW 2 2 false:=λ_ _ _=>rfl
theorem Dd:CF 60 pH 1 2 false:=λ_ _ _=>rfl
theorem xA:CF 61 jR 1 1 false:=λ_ _ _=>rfl
theorem Er:CF 62 pB 3 5 false:=λ_ _ _=>rfl
theorem C2:CF 63 pM 2 4 false:=λ_ _ _=>rfl
theorem Ap:CF 64 me 5 9 false:=λ_ _ _=>rfl
theorem DE:CF 65 pR 1 4 false:=λ_ _ _=>rfl
theorem By:CF 66 lx 1 5 false:=λ_ _ _=>rfl
theorem vx:CF 67 iq 3 4 false:=λ_ _ _=>rfl
theorem AE:CF 68 lA 3 9 false:=λ_ _ _=>rfl
theorem H7:CF 69 zc 1 10 false:=λ_ _ _=>rfl
inductive aj {α:Type}(Q:α->Mem->Prop):Res α->Prop where
 |ok {x:α}{m:Mem}:Q x m->aj Q (.ok x m)
section
variable{α β:Type}{Q P:α->Mem->Prop}{R:β->Mem->Prop}{r:Res α}{m:Mem}{x:α}
theorem aj.imp(h:aj P r)(i:∀x m,P x m->Q x m):aj Q r:=by
 cases h with|ok h=>exact .ok (i _ _ h)
theorem aj.get(h:aj Q r):∃x m,r=.ok x m/\Q x m:=by
 cases h with|ok h=>exact⟨_,_,rfl,h⟩
theorem af{f:α->Mem->Res β}(h:aj (λx m=>aj R (f x m)) r):aj R (r.bind f):=by
 cases h with|ok h=>exact h
theorem iy{z:Exc}{f:α->Mem->Res β}(h:aj (λx m'=>f x m'=.exc z m) r):r.bind f=.exc z m:=by
 cases h with|ok h=>exact h
theorem tS(h:aj Q r):aj Q r.only:=by
 cases h with|ok h=>exact .ok h
theorem ar(h:r=.ok x m)(q:Q x m):aj Q r:=h▸.ok q
theorem aj.eq(h:aj (λy m'=>y=x/\m'=m) r):r=.ok x m:=by
 cases h with|ok h=>rw[h.1,h.2]
theorem bS{k:Bool}{a b:Res α}(h:k=true)(q:aj Q a):aj Q (if k=true then a else b):=by rw[Yn h];exact q
theorem bi{k:Bool}{a b:Res α}(h:k=false)(q:aj Q b):aj Q (if k=true then a else b):=by rw[h];exact q
end
section
variable{call:Nat->List W->Mem->Res W}{gv:List T}{env env':Env}{m:Mem}{a b c e o v i inner it:E}{es cs:Es}{w:W}{t:T}{ts:List T}{Q:W->Mem->Prop}{k s s':S}{P:Flow->Mem->Prop}{op op':PySem.CmpOp}{bp:PySem.Operator}{n j:Nat}{L:List W->Mem->Prop}{U:List T->Mem->Prop}
theorem ag{o:Option T}(h:o=Zz t)(q:Q (.t t) m):aj Q (eC o m):=by rw[h];exact .ok q
theorem Gw(q:Q (.t t) m):aj Q (ev call gv (.con t) env m):=by rw[nH];exact .ok q
theorem sO(h:env[n]?=Zz (Zz w))(q:Q w m):aj Q (ev call gv (.var n) env m):=by rw[tX,h];exact .ok q
theorem K3(h:gv[n]?=Zz t)(q:Q (.t t) m):aj Q (ev call gv (.gl n) env m):=by rw[GV,h];exact .ok q
theorem Kr(h:aj (λx m=>aj Q ((ev call gv b env m).bind λy m=>eC ((view x m).bind λx=>(view y m).bind λy=>uD bp x y) m)) (ev call gv a env m)):aj Q (ev call gv (.bin bp a b) env m):=by rw[Cs];exact af h
theorem Kk(h:aj (λx m=>aj Q ((ev call gv b env m).bind λy m=>eC (((view x m).bind λx=>(view y m).bind λy=>j9 op x y).map .bl) m)) (ev call gv a env m)):aj Q (ev call gv (.cmp op a b) env m):=by rw[xG];exact af h
theorem y_neg'(h:aj (λx m=>∃i,x=.t (.int i)/\Q (.t (.int (-i))) m) (ev call gv a env m)):aj Q (ev call gv (.neg a) env m):=by rw[Cb];exact af (h.imp λ_ _ ⟨i,e,q⟩=>by rw[e];exact .ok q)
theorem Kf(h:aj (λx m=>∃k,x=.t (.bl k)/\Q (.t (.bl !k)) m) (ev call gv a env m)):aj Q (ev call gv (.not a) env m):=by rw[xR];exact af (h.imp λ_ _ ⟨i,e,q⟩=>by rw[e];exact .ok q)
theorem I9(h:aj (λx m=>∃k,x=.t (.bl k)/\aj Q (if k=true then ev call gv b env m else .ok (.t (.bl false)) m)) (ev call gv a env m)):aj Q (ev call gv (.and a b) env m):=by rw[xO];exact af (h.imp λ_ _ ⟨i,e,q⟩=>by rw[e];exact q)
theorem KV(h:aj (λx m=>∃k,x=.t (.bl k)/\aj Q (if k=true then .ok (.t (.bl true)) m else ev call gv b env m)) (ev call gv a env m)):aj Q (ev call gv (.or a b) env m):=by rw[Ex];exact af (h.imp λ_ _ ⟨i,e,q⟩=>by rw[e];exact q)
theorem Ko(h:aj (λx m=>aj Q ((ev call gv b env m).bind λy m=>eC ((view x m).bind λx=>(view y m).bind λy=>G2 x y) m)) (ev call gv a env m)):aj Q (ev call gv (.ix a b) env m):=by rw[GJ];exact af h
theorem Jy(q:L [] m):aj L (evs call gv .nil env m):=by rw[mI];exact .ok q
theorem IZ(h:aj (λw m=>aj L ((evs call gv es env m).bind λws m=>.ok (w::ws) m)) (ev call gv e env m)):aj L (evs call gv (.cons e es) env m):=by rw[jb];exact af h
theorem JG(q:U [] m):aj U (db [] m):=.ok q
theorem Kb{ws:List W}(h:aj U ((db ws m).bind λts m=>.ok (t::ts) m)):aj U (db (.t t::ws) m):=h
theorem JO(h:aj (λws m=>aj (λts m=>ts.length<=lim/\Q (.t (.tup ts)) m) (db ws m)) (evs call gv es env m)):aj Q (ev call gv (.tup es) env m):=by rw[CL];exact af (h.imp λ_ _ h=>af (h.imp λ_ _ h=>by rw[Yn h.1];exact .ok h.2))
theorem Jg(h:aj (λws m=>aj (λts m=>ts.length<=lim/\Q (.t (.lst ts)) m) (db ws m)) (evs call gv es env m)):aj Q (ev call gv (.lst es) env m):=by rw[BV];exact af (h.imp λ_ _ h=>af (h.imp λ_ _ h=>by rw[Yn h.1];exact .ok h.2))
theorem JE(h:aj (λws m=>aj (λts m=>ts.length<=lim/\Q (.c m.length) (m++[Zz (.l false ts)])) (db ws m)) (evs call gv es env m)):aj Q (ev call gv (.rI es) env m):=by rw[xJ];exact af (h.imp λ_ _ h=>af (h.imp λ_ _ h=>by rw[Yn h.1];exact .ok h.2))
theorem y_call(h:aj (λws m=>aj Q (call n ws m)) (evs call gv es env m)):aj Q (ev call gv (.call n es) env m):=by rw[zF];exact af h
theorem Kg{bb:B}(h:aj (λws m=>∃ts,views ws m=Zz ts/\aj Q (eC (iR bb ts) m)) (evs call gv es env m)):aj Q (ev call gv (.blt bb es) env m):=by rw[fA];exact af (h.imp λ_ _ ⟨ts,e,q⟩=>by rw[e];exact q)
theorem JL{mt:Mt}(h:aj (λx m=>GU mt x m=true/\aj (λws m=>aj Q (xy mt x ws m)) (evs call gv es env m)) (ev call gv o env m)):aj Q (ev call gv (.vo mt o es) env m):=by rw[uI];exact af (h.imp λ_ _ h=>by rw[Yn h.1];exact af h.2)
theorem Ka{ty:Ty}(h:aj (λx m=>aj Q (eC ((view x m).map λx=>.bl (JR x ty)) m)) (ev call gv a env m)):aj Q (ev call gv (.rO a ty) env m):=by rw[Eh];exact af h
theorem H4(h:aj (λx m=>aj (λt m=>Q (.t (.lst [t])) m) (w4 x m)) (ev call gv a env m)):aj Q (ev call gv (.emit a) env m):=by rw[va];exact af (h.imp λ_ _ h=>af (h.imp λ_ _ h=>.ok h))
theorem JS{R:T->Mem->Prop}(q:R t m):aj R (w4 (.t t) m):=.ok q
theorem Jh{C:Nat}{nm:Tk}(h:aj (λx m=>∃w,((kb C x m).bind λp=>p.2.lookup nm)=Zz w/\Q w m) (ev call gv a env m)):aj Q (ev call gv (.fld C a nm) env m):=by rw[B4];exact af (h.imp λ_ _ ⟨w,e,q⟩=>by rw[e];exact .ok q)
theorem Hi{C f:Nat}{nm:Tk}(h:aj (λx m=>((kb C x m).map λp=>(p.2.lookup nm).isSome)=Zz false/\aj (λws m=>aj Q (call f (x::ws) m)) (evs call gv es env m)) (ev call gv a env m)):aj Q (ev call gv (.aZ C a nm f es) env m):=by rw[lW];exact af (h.imp λ_ _ ⟨e,q⟩=>by rw[e];exact af q)
theorem Jw(h:aj (λws m=>∃i,ws=[.c i]/\Q (.e i) m) (evs call gv es env m)):aj Q (ev call gv (.enc es) env m):=by rw[D5];exact af (h.imp λ_ _ ⟨i,e,q⟩=>by rw[e];exact .ok q)
theorem KT(h:aj (λx m=>∃t,x=.t t/\Q (.t t) m) (ev call gv a env m)):aj Q (ev call gv (.tr a) env m):=by rw[C8];exact af (h.imp λ_ _ ⟨i,e,q⟩=>by rw[e];exact .ok q)
theorem Jl(h:aj (λx m=>aj (λy m=>∃k,((view x m).bind λx=>(view y m).bind λy=>j9 op x y)=Zz k/\aj Q (if k=true then(ev call gv c env m).bind λz m=>eC (((view y m).bind λy=>(view z m).bind λz=>j9 op' y z).map .bl) m else .ok (.t (.bl false)) m)) (ev call gv b env m)) (ev call gv a env m)):aj Q (ev call gv (.GQ op op' a b c) env m):=by rw[DQ];exact af (h.imp λ_ _ h=>af (h.imp λ_ _ ⟨k,e,q⟩=>by rw[e];cases k<;>exact q))
theorem aC{own:Nat}{keep:List Nat}{tg:Tg}(h:aj (λx m0=>aj (λts m=>aj (λout m=>out.length<=lim/\Q (.t (.lst out)) (giveBack x m0 m)) (bC (qR call gv cs inner) tg ts (RE own Zy++keep.map λi=>(env[i]?).join) m)) (aL x m0)) (ev call gv it env m)):aj Q (ev call gv (.comp own keep it tg cs inner) env m):=by
 rw[pU];exact af (tS (h.imp λ_ _ h=>af (h.imp λ_ _ h=>af (tS (h.imp λ_ _ h=>by rw[Yn h.1];exact .ok h.2)))))
theorem Iu{tg:Tg}(h:aj (λx m0=>aj (λts m=>aj (λout m=>Q (.t (.lst out)) (giveBack x m0 m)) (bC (qR call gv cs inner) tg ts env m)) (aL x m0)) (ev call gv it env m)):aj Q (ev call gv (.more it tg cs inner) env m):=by
 rw[zu];exact af (h.imp λ_ _ h=>af (h.imp λ_ _ h=>af (h.imp λ_ _ h=>.ok h)))
theorem aM{x:T}(h:vk x=Zz ts)(q:U ts m):aj U (aL (.t x) m):=by show aj U (match vk x with|some ts=>.ok ts m|none=>.stuck);rw[h];exact .ok q
theorem Hp(h:aj (λw m=>∃ts,w=.t (.lst ts)/\U ts m) (ev call gv inner env m)):aj U (qR call gv .nil inner env m):=by
 unfold qR;rw[nI,qX,Yn rfl];exact af (h.imp λ_ _ ⟨i,e,q⟩=>by rw[e];exact .ok q)
theorem La(h:aj (λx m=>∃k,x=.t (.bl k)/\aj U (if k=true then(ev call gv inner env m).bind ja else .ok [] m)) (ev call gv e env m)):aj U (qR call gv (.cons e .nil) inner env m):=by
 unfold qR;rw[qm];exact af (af (h.imp λx m h=>by
  obtain⟨k,rfl,q⟩:=h;rw[CK,qX];cases k
  ·exact .ok q
  ·show aj _ (tests call gv .nil env m)
   rw[nI];exact .ok q))
theorem Ad{keep:List Nat}(h:aj (λx m=>∃ts,view x m=Zz (.lst ts)/\aj (λks m=>aj Q (eC (jf ks ts) m)) (fP (λenv m=>ev call gv b env m) (keep.map λi=>(env[i]?).join) ts m)) (ev call gv a env m)):aj Q (ev call gv (.qP keep a b) env m):=by
 rw[v7];exact af (h.imp λ_ _ ⟨ts,e,q⟩=>by rw[e];exact af (tS q))
theorem zx(h:aj (λx m=>aj (λy m=>∃t,x=.t t/\(uH t).isSome=true/\aj (λu m=>Q (.t (.lst [t,u])) m) (w4 y m)) (ev call gv b env m)) (ev call gv a env m)):aj Q (ev call gv (.ji a b) env m):=by
 rw[vp];exact af (h.imp λ_ _ h=>af (h.imp λ_ _ ⟨t,e,f,q⟩=>by rw[e];dsimp only;rw[Yn f];exact af (q.imp λ_ _ q=>.ok q)))
theorem Jc(q:U ts m):aj U (ja (.t (.lst ts)) m):=.ok q
theorem y_done(q:P (.next env) m):aj P (ex call gv .done env m):=by rw[mr];exact .ok q
theorem JI(h:aj (λw m=>aj P (ex call gv k (env.set n (Zz w)) m)) (ev call gv e env m)):aj P (ex call gv (.asg n e k) env m):=by rw[uj];exact af h
theorem Hx{is:List Nat}(h:aj (λw m=>∃t,w=.t t/\∃env',bz (.tp is) t env=Zz env'/\aj P (ex call gv k env' m)) (ev call gv e env m)):aj P (ex call gv (.Bj is e k) env m):=by rw[zf];exact af (h.imp λ_ _ ⟨t,e,_,f,q⟩=>by rw[e];dsimp only;rw[f];exact q)
theorem Ho{is:List Nat}(h:aj (λw m=>∃ts,w=.t (.lst ts)/\∃env',bz (.tp is) (.tup ts) env=Zz env'/\aj P (ex call gv k env' m)) (ev call gv e env m)):aj P (ex call gv (.BL is e k) env m):=by rw[zG];exact af (h.imp λ_ _ ⟨t,e,_,f,q⟩=>by rw[e];dsimp only;rw[f];exact q)
theorem JH(h:aj (λz m=>aj (λx m=>aj (λy m=>aj (λ_ m=>aj P (ex call gv k env m)) (setM x y z m)) (ev call gv i env m)) (ev call gv o env m)) (ev call gv v env m)):aj P (ex call gv (.set o i v k) env m):=by
 rw[yn];exact af (h.imp λ_ _ h=>af (h.imp λ_ _ h=>af (h.imp λ_ _ h=>af h)))
theorem xK{d:Nat}{xs:List T}{j:Int}{q:Nat}{V:Unit->Mem->Prop}(h:m[d]?=Zz (Zz (.l false xs)))(h2:gM xs.length j=Zz q)(r:V () (m.set d (Zz (.l false (xs.set q t))))):aj V (setM (.c d) (.t (.int j)) (.t t) m):=by
 unfold setM;dsimp only[w4,Res.bind];rw[h];dsimp only;rw[h2];exact .ok r
theorem Jf(h:aj (λx m=>aj (λy m=>∃i,y=.t (.int i)/\aj Q (eC ((view x m).bind λx=>IQ x (Zz i) Zy) m)) (ev call gv b env m)) (ev call gv a env m))(hh:jc b=false:=by rfl):aj Q (ev call gv (.GZ a b .hole) env m):=by
 rw[w3,hh];refine af (h.imp λx m h=>?_);show aj Q (((ev call gv b env m).bind rM).bind _);refine af (af (h.imp λy m h=>?_));obtain⟨i,rfl,q⟩:=h;exact .ok q
theorem Jr(h:aj (λx m=>aj (λy m=>∃i,y=.t (.int i)/\aj (λz m=>∃j,z=.t (.int j)/\aj Q (eC ((view x m).bind λx=>IQ x (Zz i) (Zz j)) m)) (ev call gv c env m)) (ev call gv b env m)) (ev call gv a env m))(hh:jc b=false:=by rfl)(hg:jc c=false:=by rfl):aj Q (ev call gv (.GZ a b c) env m):=by
 rw[w3,hh,hg];refine af (h.imp λx m h=>?_);show aj Q (((ev call gv b env m).bind rM).bind _);refine af (af (h.imp λy m h=>?_));obtain⟨i,rfl,h⟩:=h;refine .ok ?_;show aj Q (((ev call gv c env m).bind rM).bind _);refine af (af (h.imp λz m h=>?_));obtain⟨j,rfl,q⟩:=h;exact .ok q
theorem HA{C f:Nat}{ks:List (Tk×Ik)}(h:aj (λws m=>aj (λ_ m'=>aj Q (IP C ks ws m.length m')) (call f (.c (m.length+1)::ws) (m++[Zy,Zy]))) (evs call gv es env m)):aj Q (ev call gv (.make C f ks es) env m):=by
 rw[zM];exact af (h.imp λ_ _ h=>af h)
theorem J5{yes:List Nat}{z:Exc}{M:Mem}(hb:ex call gv s env m=.exc z M)(hx:z.cls∈yes)(h:aj (λfl m=>∃e2,fl=.next e2/\aj P (ex call gv k e2 m)) (ex call gv s' (RE env.length Zy) M)):aj P (ex call gv (.tri s yes Zy s' k) env m):=by
 rw[Ck,hb];dsimp only;rw[Yn hx];exact af (tS (h.imp λfl m ⟨e2,e,q⟩=>by rw[e];exact q))
theorem JQ{C:Nat}{nm:Tk}(h:aj (λw m=>∃t,w=.t t/\aj (λx m=>∃i fs,kb C x m=Zz (i,fs)/\fs.length<1000/\aj P (ex call gv k env (m.set i (Zz (.o C (j8 nm (.t t) fs)))))) (ev call gv o env m)) (ev call gv v env m)):aj P (ex call gv (.GR C o nm v k) env m):=by
 rw[Cr];exact af (h.imp λ_ _ ⟨t,e,h⟩=>af (h.imp λ_ _ ⟨i,fs,f,g,q⟩=>by rw[f,e];dsimp only;rw[Yn g];exact q))
theorem JV{x:W}(h0:env[n]?=Zz (Zz x))(h:aj (λy m=>aj (λz m=>aj P (ex call gv k (env.set n (Zz z)) m)) (eC ((view x m).bind λx=>(view y m).bind λy=>Fk bp x y) m)) (ev call gv e env m)):aj P (ex call gv (.aug n bp e k) env m):=by rw[Cg,h0];exact af (h.imp λ_ _ h=>af h)
noncomputable def J6(call:Nat->List W->Mem->Res W)(gv:List T)(k:S)(fl:Flow)(m:Mem):Res Flow:=match fl with
 |.next env=>ex call gv k env m
 |fl=>.ok fl m
theorem Ki{c:Nat}{k:Int}{xs:List T}{f:Bool}(h:env[c]?=Zz (Zz (.c j)))(hm:m[j]?=Zz (Zz (.l f xs)))(hx:atT xs k=Zz t)(q:Q (.t t) m):aj Q (ev call gv (.ix (.var c) (.con (.int k))) env m):=by
 refine Ko (sO h (af (Gw (ag (t:=t) ?_ q))));rw[show view (.c j) m=Zz (.lst xs) by show(match m[j]? with|some (Zz (.l _ ts))=>Zz (T.lst ts)|_=>Zy)=_;rw[hm]];exact hx
theorem G1(h:aj P (ex call gv k env m)):aj P (J6 call gv k (.next env) m):=h
theorem H1(h:P (.ret w) m):aj P (J6 call gv k (.ret w) m):=.ok h
theorem G8:(λ(fl:Flow) m=>match fl with|.next env=>ex call gv k env m|fl=>Res.ok fl m)=J6 call gv k:=by funext fl m;cases fl<;>rfl
theorem Kn(h:aj (λx m=>∃k',x=.t (.bl k')/\aj P ((if k'=true then ex call gv s env m else ex call gv s' env m).bind (J6 call gv k))) (ev call gv c env m)):aj P (ex call gv (.dv c s s' k) env m):=by
 rw[qW,<-G8]at *;exact af (h.imp λ_ _ ⟨i,e,q⟩=>by rw[e];exact q)
theorem HR(h:aj (λ_ m=>aj P (ex call gv k env m)) (ev call gv e env m)):aj P (ex call gv (.expr e k) env m):=by rw[pO];exact af h
theorem y_ret(h:aj (λw m=>P (.ret w) m) (ev call gv e env m)):aj P (ex call gv (.ret e k) env m):=by rw[B6];exact af (h.imp λ_ _ h=>.ok h)
theorem Hy(h:P (.ret (.t .non)) m):aj P (ex call gv (.DO k) env m):=by rw[Ac];exact .ok h
theorem kD{tg:Tg}(h:aj (λx m0=>aj (λts m=>aj (λfl m=>match fl with
  |.next env=>aj P (ex call gv k env (giveBack x m0 m))
  |.ret w=>P (.ret w) (giveBack x m0 m)
  |_=>False) (iW (ex call gv s) tg ts env m)) (aL x m0)) (ev call gv it env m)):aj P (ex call gv (.lP tg it s k) env m):=by
 rw[y9];refine af (h.imp λ_ _ h=>af (h.imp λ_ _ h=>af (h.imp λfl m h=>?_)));cases fl with
 |next env=>exact h
 |ret w=>exact .ok h
 |_=>exact h.elim
theorem dH{F:Env->Mem->Res Flow}{tg:Tg}{I:List T->Env->Mem->Prop}(st:∀t ts env m,I (t::ts) env m->∃env',bz tg t env=Zz env'/\aj (λfl m=>∃env2,fl=.next env2/\I ts env2 m) (F env' m)):
  ∀(ts:List T) (env:Env) (m:Mem),I ts env m->(∀env m,I [] env m->P (.next env) m)->aj P (iW F tg ts env m)
 |[],env,m,h,q=>.ok (q _ _ h)
 |t::ts,env,m,h,q=>by
  obtain⟨env',e,y⟩:=st t ts env m h;rw[iW,e];exact af (y.imp λfl m ⟨e2,f,i⟩=>by rw[f];exact dH st ts e2 m i q)
theorem lS{F:Env->Mem->Res (List T)}{tg:Tg}{I:List T->List T->Mem->Prop}(st:∀t ts out m,I (t::ts) out m->∃env',bz tg t env=Zz env'/\aj (λxs m=>I ts (out++xs) m) (F env' m)):
  ∀(ts out:List T) (m:Mem),I ts out m->aj (λxs m=>I [] (out++xs) m) (bC F tg ts env m)
 |[],out,m,h=>by rw[bC];exact .ok (by rw[Rh];exact h)
 |t::ts,out,m,h=>by
  obtain⟨env',e,y⟩:=st t ts out m h;rw[bC,e];exact af (y.imp λxs m i=>af ((lS st ts _ m i).imp λys m h=>.ok (by rw[<-S9];exact h)))
theorem aT{A:Type}{F:Env->Mem->Res (List T)}{tg:Tg}{em:A->T}{g:A->List T}:∀(as:List A),(∀a∈as,∃env',bz tg (em a) env=Zz env'/\aj (λxs m'=>xs=g a/\m'=m) (F env' m))->U (as.flatMap g) m->aj U (bC F tg (as.map em) env m)
 |as,h,q=>by
  refine ar (x:=as.flatMap g) (m:=m) ?_ q;clear q
  induction as with
  |nil=>rfl
  |cons a as ih =>
   obtain⟨env',e,y⟩:=h a R9;rw[Rf,bC,e];show(F env' m).bind _=_;rw[y.eq,qX,ih λb hb=>h b (R4 _ hb)];rfl
end
theorem Dq{call:Nat->List W->Mem->Res W}{gv:List T}{c:E}{s k:S}{P:Flow->Mem->Prop}{I:Nat->Env->Mem->Prop}(st:∀j env m,I j env m->aj (λx m'=>(x=.t (.bl true)/\aj (λfl m2=>∃env2,fl=.next env2/\∃i,i<j/\I i env2 m2) (ex call gv s env m'))∨(x=.t (.bl false)/\aj P (ex call gv k env m'))) (ev call gv c env m)){j:Nat}{env:Env}{m:Mem}(hj:j<1000000)(i:I j env m):aj P (ex call gv (.ye c s k) env m):=by
 have key:∀(f j:Nat) (env:Env) (m:Mem),j<f->I j env m->aj (λfl m=>aj P (J6 call gv k fl m)) (jm (λenv m=>(ev call gv c env m).bind bq) (ex call gv s) f env m):=by
  intro f
  induction f with
  |zero=>intro j env m h;exact Ys h (XB _)
  |succ f ih =>
   intro j env m h i;rw[jm];refine af (af ((st j env m i).imp λx m' h'=>?_));rcases h' with⟨rfl,h'⟩|⟨rfl,h'⟩
   ·refine .ok (bS rfl ?_)
    refine af (h'.imp λfl m2 h2=>?_);obtain⟨env2,rfl,i,hi,h3⟩:=h2;exact ih i env2 m2 (by omega) h3
   ·exact .ok (bi rfl (.ok h'))
 rw[yZ];exact af ((key turns j env m hj i).imp λfl m h=>by cases fl<;>exact h)
theorem ay{gv:List T}{fns:List Fn}{body:S}{n d:Nat}{ws:List W}{m:Mem}{z:Bool}{env:Env}{Q:W->Mem->Prop}{X:Res W}(hX:X=if ws.length=d then(ex (az fns gv n) gv body env m).bind λfl m'=>fin m.length z fl m' else .stuck)(hl:ws.length=d)(h:aj (λfl m'=>aj Q (fin m.length z fl m')) (ex (az fns gv n) gv body env m)):aj Q X:=by
 rw[hX,Yn hl];exact af h
theorem cI{n:Nat}{z:Bool}{t:T}{m:Mem}{Q:W->Mem->Prop}(h:m.take n=m')(q:Q (.t t) m'):aj Q (fin n z (.ret (.t t)) m):=by
 show aj Q (.ok (.t t) (m.take n));rw[h];exact .ok q
theorem ir{n:Nat}{z:Bool}{env:Env}{m:Mem}{Q:W->Mem->Prop}(h:m.take n=m')(q:Q (.t .non) m'):aj Q (fin n z (.next env) m):=by
 show aj Q (.ok (.t .non) (m.take n));rw[h];exact .ok q
theorem am{n:Nat}{z:Bool}{t:T}{m:Mem}{Q:W->Mem->Prop}(h:m.length=n)(q:Q (.t t) m):aj Q (fin n z (.ret (.t t)) m):=cI (by rw[<-h];exact Vp) q
theorem HX{ts:List T}{m:Mem}{Q:W->Mem->Prop}(q:Q (.c m.length) (m++[Zz (.l false ts)])):aj Q (fin m.length true (.ret (.c m.length)) (m++[Zz (.l false ts)])):=by
 refine ar ?_ q;unfold fin;dsimp only;rw[Yo (S7 _),RV (RO _),Vf,VE rfl];rfl
theorem zI:∀k,cE (RE k (T.bl true))=Zz (RE k true)
 |0=>rfl
 |k+1=>by rw[Sp,cE,zI k];rfl
theorem eh(k:Nat):iR .all [.lst (RE k (.bl true))]=Zz (.bl true):=by
 rw[Jn (zI k)]
 congr 2
 induction k with
 |zero=>rfl
 |succ k ih=>rw[Sp,Wh,ih];rfl
theorem oR{F:Env->Mem->Res (List T)}{tg:Tg}{env:Env}{m:Mem}{U:List T->Mem->Prop}:∀{ts:List T},(∀t∈ts,∃env',bz tg t env=Zz env'/\aj (λxs m'=>xs=[.bl true]/\m'=m) (F env' m))->U (RE ts.length (.bl true)) m->aj U (bC F tg ts env m)
 |ts,h,q=>by
  refine ar (x:=RE ts.length (.bl true)) (m:=m) ?_ q;clear q
  induction ts with
  |nil=>rfl
  |cons a as ih =>
   obtain⟨env',e,y⟩:=h a R9;rw[bC,e];show(F env' m).bind _=_;rw[y.eq,qX,ih λb hb=>h b (R4 _ hb)];rfl
theorem aF{ts:List T}(h:ts.length<=1000:=by exact U5 rfl):ts.length<=lim:=Rg h (by decide)
set_option hygiene false
local macro_rules
 | `(tactic| tm_at "f")=>`(tactic| first | exact IE | exact Gb | exact EE | exact It | exact Dw | exact EW | exact IK | exact HV)
 | `(tactic| tm_at "s")=>`(tactic| first | ((with_reducible apply KG); (focus tm_at "f"); (focus rfl)) | ((with_reducible apply K4); (focus rfl); (focus rfl)) | ((with_reducible apply Js); (focus rfl); (focus rfl)) | with_reducible apply af | ((with_reducible apply Ki); (focus rfl); (focus first | assumption | exact hp _); (focus rfl)) | ((with_reducible apply sO); (focus rfl)) | with_reducible apply Gw | with_reducible apply IZ | with_reducible apply Jy | with_reducible apply Ko | with_reducible apply Kr | with_reducible apply Kk | with_reducible apply y_call | with_reducible apply Kg | ((with_reducible apply K3); (focus rfl)) | with_reducible apply aj.ok | with_reducible apply Kb | with_reducible apply JG | (refine WG aF ?_) | with_reducible apply JO | with_reducible apply Jg | with_reducible apply JE | with_reducible apply Kf | with_reducible apply I9 | with_reducible apply KV | with_reducible apply y_neg' | with_reducible apply Ka | with_reducible apply Jl | with_reducible apply H4 | with_reducible apply JS | with_reducible apply Jc | with_reducible apply Hp | with_reducible apply La | with_reducible apply JL | with_reducible apply KT | with_reducible apply Jw | ((with_reducible apply bS); (focus rfl)) | ((with_reducible apply bi); (focus rfl)) | with_reducible apply JI | with_reducible apply y_ret | with_reducible apply Hx | with_reducible apply Ho | with_reducible apply Kn | with_reducible apply HR | with_reducible apply H1 | with_reducible apply G1 | with_reducible apply y_done | with_reducible apply JH | with_reducible apply Hy | (refine Vg _ (WG rfl ?_)))
 | `(tactic| tm_at "v")=>`(tactic| repeat tm_at "s")
 | `(tactic| tm_at "w")=>`(tactic| repeat (first | tm_at "s" | ((with_reducible apply ag); (focus rfl))))
theorem K7{i j:Int}(h:0<=i)(h':i<4294967296):lg i j=true:=by
 have:i.natAbs<2^64:=by omega
 simp[lg,small,this]
theorem Kq{i j:Int}(h:0<=j)(h':j<4294967296):lg i j=true:=by
 have:j.natAbs<2^64:=by omega
 simp[lg,small,this]
def Dr(m:Mem)(i:Nat)(m':Mem):Prop:=i<m.length/\∃a b c:Int,m'=m.set i (Zz (.l false [.int a,.int b,.int c]))
theorem Dr.len{m m1:Mem}{i:Nat}(d:Dr m i m1):m1.length=m.length:=by
 obtain⟨_,a,b,c,rfl⟩:=d;exact SI
section
variable{n i:Nat}{m m1:Mem}
theorem Hs{many:Int}(h1:0<many)(h2:many<1073741824)(d:Dr m i m1):aj (λw m2=>Dr m i m2/\∃r,w=.t (.int r)/\0<=r/\r<many) (cf (n+1) 58 [.c i,.t (.int many)] m1):=by
 have dl:=d.len;obtain⟨hi,a,b,c,rfl⟩:=d;have hp:∀x,(m.set i x)[i]?=Zz x:=λx=>Ri hi
 have h6:∀x y,lg (x%2147483647) y=true:=λx y=>K7 (XE _ (by decide)) (by have:=WU x (b:=2147483647) (by decide);omega)
 refine ay (Ev _ _ _) rfl ?_;unfold pG
 tm_at "w"
 by_cases ha:0<a
 ·refine bS (Yq ha) ?_
  tm_at "w"
  refine ag (GN h1) ?_
  tm_at "w"
  refine ag (IU ⟨h1,h2⟩) ?_
  tm_at "w"
  refine xK (hp _) rfl ?_
  tm_at "w"
  exact am (by rw[SI]) ⟨⟨hi,_,b,c,XA _⟩,_,rfl,XE _ (by omega),WU _ h1⟩
 ·refine bi (Yp ha) ?_
  tm_at "w"
  refine xK (hp _) (q:=2) rfl ?_;rw[XA];show aj _ (ex _ _ _ _ (m.set i (Zz (.l false [.int a,.int b,.int (c+1)]))))
  tm_at "w"
  refine ag (zd (Kq (by decide) (by decide))) ?_
  tm_at "w"
  refine ag (zd (h6 _ _)) ?_
  tm_at "w"
  refine ag (zd (h6 _ _)) ?_
  tm_at "w"
  refine ag (GN h1) ?_;exact am (by rw[SI,SI]) ⟨⟨hi,a,b,c+1,rfl⟩,_,rfl,XE _ (by omega),WU _ h1⟩
theorem aO{many:Int}{Q:W->Mem->Prop}(h1:0<many)(h2:many<1073741824)(d:Dr m i m1)(q:∀(r:Int) (m2:Mem),Dr m i m2->0<=r->r<many->Q (.t (.int r)) m2):aj Q (cf (n+1) 58 [.c i,.t (.int many)] m1):=
 (Hs h1 h2 d).imp λw m2 ⟨d,r,e,a,b⟩=>e▸q r m2 d a b
theorem Em{x:Int}{Q:W->Mem->Prop}(q:∀a b:Int,Q (.c m.length) (m++[Zz (.l false [.int a,.int b,.int 0])])):aj Q (cf (n+1) 57 [.t (.int x)] m):=by
 refine ay (CW _ _ _) rfl ?_;unfold pK
 tm_at "w"
 refine ag (zd (Kq (?_:0<=b2i _) ?_)) ?_
 ·unfold b2i;split<;>decide
 ·unfold b2i;split<;>decide
 tm_at "w"
 exact HX (q _ _)
theorem DK{ns:List Int}{k:Int}(hk:0<=k):aj (λw m'=>m'=m/\∃v,w=.t (.int v)) (cf (n+1) 56 [.t (.fH ns),.t (.int k)] m):=by
 refine ay (wC _ _ _) rfl ?_;unfold iE
 tm_at "w"
 by_cases h:k<ns.length
 ·obtain⟨v,hv,_⟩:=pA (xs:=ns) hk h
  refine bS (Yq h) ?_
  tm_at "w"
  refine ag (t:=.int v) (by show(atT ns k).map T.int=_;rw[hv];rfl) ?_
  tm_at "w"
  exact am rfl ⟨rfl,v,rfl⟩
 ·refine bi (Yp h) ?_
  tm_at "w"
  exact am rfl ⟨rfl,_,rfl⟩
theorem ya{xs:List T}(h0:0<xs.length)(h1:xs.length<1000)(d:Dr m i m1):aj (λw m2=>Dr m i m2/\∃x∈xs,w=.t x) (cf (n+2) 59 [.c i,.t (.lst xs)] m1):=by
 refine ay (C3 _ _ _) rfl ?_;unfold pW
 tm_at "w"
 refine aO (many:=(xs.length:Int)) (by omega) (by omega) d λr m2 d2 r0 r1=>?_
 obtain⟨x,hx,hm⟩:=pA r0 r1
 tm_at "w"
 refine ag hx ?_;exact am (d2.len.trans d.len.symm) ⟨d2,x,hm,rfl⟩
theorem gU{xs:List T}{P:T->Prop}{k:Int}(h0:0<=k)(h1:k<xs.length)(h:∀x∈xs,P x):∃x,atT xs k=Zz x/\P x:=by
 obtain⟨x,hx,hm⟩:=pA h0 h1;exact⟨x,hx,h x hm⟩
theorem vH(d:Dr m i m1):aj (λw m2=>Dr m i m2/\∃v,w=.t (.int v)/\0<=v/\v<=1000000000) (cf (n+2) 61 [.c i] m1):=by
 refine ay (xA _ _ _) rfl ?_;unfold jR
 tm_at "w"
 refine aO (by decide) (by decide) d λa m2 d2 a0 a1=>?_
 tm_at "w"
 refine aO (by decide) (by decide) d2 λb m3 d3 b0 b1=>?_
 tm_at "w"
 refine aO (by decide) (by decide) d3 λc m4 d4 c0 c1=>?_
 tm_at "w"
 refine aO (by decide) (by decide) d4 λk m5 d5 k0 k1=>?_
 obtain⟨x,hx,v,rfl,hv⟩:=gU (P:=λx=>∃v,x=T.int v/\0<=v/\v<=1000000000) (xs:=[T.int a,.int b,.int (10^9-c)]) k0 k1 (by
  simp only[R6,RG,or_false,forall_eq_or_imp,forall_eq];exact⟨⟨_,rfl,by omega⟩,⟨_,rfl,by omega⟩,_,rfl,by omega⟩)
 tm_at "w"
 refine ag hx ?_;exact am (d5.len.trans d.len.symm) ⟨d5,v,rfl,hv⟩
end
theorem in_words(w:List Nat)(mk:List (List Nat)):j9 .In (.str w) (.tup (mk.map .str))=Zz (mk.any λa=>a==w):=by
 have h1:vY (.str w) (.tup (mk.map .str))=Zz (mk.any λa=>a==w):=by
  have ha:(mk.map T.str).all flat=true:=by simp[flat]
  have hb:((mk.map T.str).any λt=>eqT t (.str w))=mk.any λa=>a==w:=by
   induction mk with
   |nil=>rfl
   |cons a mk ih=>show((a==w) || ((mk.map T.str).any λt=>eqT t (.str w)))=((a==w) || _);rw[ih (by simp[flat])]
  unfold vY;dsimp only;rw[ha,hb];rfl
 rw[<-h1];rcases w with _|⟨c,_|⟨d,r⟩⟩<;>rfl
noncomputable def six:List (List Nat):=[[97,110,121],[105,115],[98,121],[110,111,116],[97,110,100],[111,114]]
noncomputable def gY(cs:List Nat):Bool:=decide (cs.length<=8)&&(decide (0<cs.length)&&(!(six.any λa=>a==cs)&&cs.all λc=>decide (c∈(SX 26).map (97+·))))
section
variable{n:Nat}{m:Mem}
theorem wP{i:Int}:cf (n+1) 2 [.t (.int i)] m=.ok (.t (.bl true)) m:=by
 refine(ay (vq _ _ _) rfl ?_).eq;unfold iC
 tm_at "w"
 exact am rfl ⟨rfl,rfl⟩
theorem mZ{i:Int}(h0:0<=i)(h1:i<=1000000000):cf (n+2) 3 [.t (.int i)] m=.ok (.t (.bl true)) m:=by
 refine(ay (tI _ _ _) rfl ?_).eq;unfold fO
 tm_at "w"
 refine ar wP ?_
 tm_at "w"
 refine bS (Yq h0) ?_
 tm_at "w"
 exact am rfl ⟨by rw[<-Yq h1],rfl⟩
theorem pN{i:Int}(h0:0<=i)(h1:i<=1000000000):cf (n+3) 4 [.t (.int i)] m=.ok (.t (.bl true)) m:=by
 refine(ay (xI _ _ _) rfl ?_).eq;unfold jy
 tm_at "w"
 refine ar (mZ h0 h1) ?_;exact am rfl ⟨rfl,rfl⟩
theorem ig{i a b:Int}(h0:a<=i)(h1:i<=b):cf (n+2) 16 [.t (.int i),.t (.int a),.t (.int b)] m=.ok (.t (.bl true)) m:=by
 refine(ay (rS _ _ _) rfl ?_).eq;unfold eZ
 tm_at "w"
 refine ar wP ?_
 tm_at "w"
 refine bS (Yq h0) ?_
 tm_at "w"
 exact am rfl ⟨by rw[<-Yq h1],rfl⟩
theorem jX{cs:List Nat}(h:gY cs=true):cf (n+2) 1 [.t (.str cs)] m=.ok (.t (.bl true)) m:=by
 simp only[gY,RJ,decide_eq_true_eq,SC]at h;obtain⟨h1,h2,h3,h4⟩:=h;have hl:cs.length<=lim:=Rg h1 (by decide);refine(ay (x8 _ _ _) rfl ?_).eq;unfold j0
 tm_at "w"
 refine ag (GD hl) ?_
 tm_at "w"
 refine bS (Yq (by omega)) ?_
 tm_at "w"
 refine ay (o7 _ _ _) rfl ?_;unfold cN
 tm_at "w"
 refine ag (GD hl) ?_
 tm_at "w"
 refine bS (Yq (by omega)) ?_
 tm_at "w"
 refine ag (congrArg (Sr T.bl) (congrArg (Sr (!·)) (in_words cs six))) ?_
 tm_at "w"
 refine bS h3 ?_
 tm_at "w"
 unfold g6;refine aC ?_
 tm_at "w"
 refine aM (Yn hl) ?_;refine oR (λt ht=>?_) ?_
 ·obtain⟨c,hc,rfl⟩:=RX.mp ht
  refine⟨_,rfl,?_⟩;unfold gT
  tm_at "w"
  exact⟨by rw[<-Yq (h4 c hc)];rfl,rfl⟩
 ·refine⟨by rw[Rx,R2];exact hl,?_⟩
  tm_at "w"
  refine ag (eh _) ?_
  tm_at "w"
  refine am rfl ?_;exact am rfl ⟨rfl,rfl⟩
theorem fC{w:List Nat}(ws:List (List Nat)):cf (n+1) 10 [.t (.str w),.t (.tup (ws.map .str))] m=.ok (.t (.bl (ws.any λa=>a==w))) m:=by
 refine(ay (ug _ _ _) rfl ?_).eq;unfold f9
 tm_at "w"
 refine ag (congrArg (Sr T.bl) (in_words w ws)) ?_;exact am rfl ⟨rfl,rfl⟩
theorem Dx{i j:Int}(h:(i<2^62/\-(2^62)<=i)/\j<2^62/\-(2^62)<=j):iR .nU [.int i,.int j]=Zz (.lst (rangeT i (j-i).toNat)):=Yn h
theorem zC{ws:List (List Nat)}{x:T}(hx:x=.tup (ws.map .str)∨x=.lst (ws.map .str))(h:ws.Pairwise λa b=>gN a b=true)(hl:ws.length<=100):cf (n+1) 5 [.t x] m=.ok (.t (.bl true)) m:=by
 have g:∀(k:Nat) (_:k<ws.length),G2 x (.int k)=Zz (.str ws[k]):=λk hk=>by
  have:atT (ws.map T.str) k=Zz (.str ws[k]):=by
   unfold atT gM;rw[Yn (by omega),Yn (by rw[R2];omega)];show(ws.map T.str)[k]?=_;rw[RR,RC hk];rfl
  rcases hx with rfl|rfl<;>exact this
 have e:iR .len [x]=Zz (.int ws.length):=by rcases hx with rfl|rfl<;>exact congrArg (λz:Nat=>Zz (T.int z)) (R2 _)
 refine(ay (F4 _ _ _) rfl ?_).eq;unfold uW
 tm_at "w"
 unfold wh;refine aC ?_
 tm_at "w"
 refine ag e ?_
 tm_at "v"
 refine ag (Dx ⟨⟨by decide,by decide⟩,Ub (b:=100) (by omega) (by decide),Vh (b:=0) (by decide) (by omega)⟩) ?_;refine aM rfl ?_;refine oR (λt ht=>?_) ?_
 ·obtain⟨k,hk,rfl⟩:=RX.mp ht
  have hk:=Ur.mp hk;refine⟨_,rfl,?_⟩;unfold vQ
  tm_at "w"
  refine ag (t:=.str (ws[k]'(by omega))) ?_ ?_
  ·rw[<-g k (by omega)]
   show G2 x (.int (1+(k:Int)-1))=_;rw[show(1+(k:Int)-1)=k by omega]
  tm_at "w"
  refine ag (t:=.str (ws[k+1]'(by omega))) ?_ ?_
  ·rw[<-g (k+1) (by omega)]
   show G2 x (.int (1+(k:Int)))=_;rw[show(1+(k:Int))=((k+1:Nat):Int) by omega]
  tm_at "w"
  exact⟨by rw[<-TW.mp h k (k+1) (by omega) (by omega) (by omega)],rfl⟩
 ·refine⟨by simp only[Rx,R2,rangeT,T7];unfold lim;omega,?_⟩
  tm_at "w"
  refine ag (eh _) ?_;exact am rfl ⟨rfl,rfl⟩
def EB(mk:List (List Nat)):Prop:=mk.length<=6/\(∀w∈mk,gY w=true)/\mk.Pairwise λa b=>gN a b=true
noncomputable def qr(p:List Nat×Int):T:=.tup [.str p.1,.int p.2]
def Sz(sz:List (List Nat×Int)):Prop:=EB (sz.map (·.1))/\∀p∈sz,0<=p.2/\p.2<=1000000000
theorem DX{mk:List (List Nat)}(h:EB mk):cf (n+3) 6 [.t (.tup (mk.map .str))] m=.ok (.t (.bl true)) m:=by
 have hl:=h.1;refine(ay (uz _ _ _) rfl ?_).eq;unfold fU
 tm_at "w"
 refine bi (Yp (by rw[R2];omega)) ?_
 tm_at "w"
 unfold ky;refine aC ?_
 tm_at "w"
 refine aM rfl ?_;refine oR (λt ht=>?_) ?_
 ·obtain⟨w,hw,rfl⟩:=RX.mp ht
  refine⟨_,rfl,?_⟩;unfold ku
  tm_at "w"
  refine ar (jX (h.2.1 w hw)) ?_
  tm_at "w"
  exact⟨rfl,rfl⟩
 ·refine⟨aF (by simp only[Rx,R2];omega),?_⟩
  tm_at "w"
  refine ag (eh _) ?_
  tm_at "w"
  refine ar (zC (.inl rfl) h.2.2 (by omega)) ?_;exact am rfl ⟨rfl,rfl⟩
theorem Fx{p:List Nat×Int}(h:gY p.1=true)(h2:0<=p.2/\p.2<=1000000000):cf (n+3) 7 [.t (qr p)] m=.ok (.t (.bl true)) m:=by
 refine(ay (yR _ _ _) rfl ?_).eq;unfold ju qr
 tm_at "w"
 refine ar (jX h) ?_
 tm_at "w"
 refine ar (mZ h2.1 h2.2) ?_;exact am rfl ⟨rfl,rfl⟩
theorem BZ{sz:List (List Nat×Int)}(h:Sz sz):cf (n+4) 8 [.t (.tup (sz.map qr))] m=.ok (.t (.bl true)) m:=by
 obtain⟨⟨hl,hw,hr⟩,hn⟩:=h;rw[R2]at hl;refine(ay (vn _ _ _) rfl ?_).eq;unfold f8
 tm_at "w"
 refine bi (Yp (by rw[R2];omega)) ?_
 tm_at "w"
 unfold kt;refine aC ?_
 tm_at "w"
 refine aM rfl ?_;refine oR (λt ht=>?_) ?_
 ·obtain⟨p,hp,rfl⟩:=RX.mp ht
  refine⟨_,rfl,?_⟩;unfold kq
  tm_at "w"
  refine ar (Fx (hw _ (RX.mpr ⟨p,hp,rfl⟩)) (hn p hp)) ?_
  tm_at "w"
  exact⟨rfl,rfl⟩
 ·refine⟨aF (by simp only[Rx,R2];omega),?_⟩
  tm_at "w"
  refine ag (eh _) ?_
  tm_at "w"
  unfold kE;refine aC ?_
  tm_at "w"
  refine aM rfl ?_;refine aT (g:=λp=>[.str p.1]) sz (λp hp=>⟨_,rfl,?_⟩) ?_
  ·unfold kA qr
   tm_at "w"
   exact⟨rfl,rfl⟩
  ·have e:(sz.flatMap λp=>[T.str p.1])=(sz.map (·.1)).map .str:=by rw[Ru,SD];rfl
   rw[e];refine⟨aF (by simp only[R2];omega),?_⟩
   tm_at "w"
   refine ar (zC (.inr rfl) hr (by rw[R2];omega)) ?_;exact am rfl ⟨rfl,rfl⟩
noncomputable def p6(nm kd:List Nat)(mk:List (List Nat))(sz:List (List Nat×Int)):T:=.tup [.str nm,.str kd,.tup (mk.map .str),.tup (sz.map qr)]
theorem EK{nm kd:List Nat}{mk:List (List Nat)}{sz:List (List Nat×Int)}(h1:gY nm=true)(h2:gY kd=true)(h3:EB mk)(h4:Sz sz):cf (n+5) 9 [.t (p6 nm kd mk sz)] m=.ok (.t (.bl true)) m:=by
 refine(ay (yV _ _ _) rfl ?_).eq;unfold jv p6
 tm_at "w"
 refine ar (jX h1) ?_
 tm_at "w"
 refine ar (jX h2) ?_
 tm_at "w"
 refine ar (DX h3) ?_
 tm_at "w"
 refine ar (BZ h4) ?_;exact am rfl ⟨rfl,rfl⟩
end
noncomputable def FO:List Nat:=[97,110,121]
noncomputable def HU:List Nat:=[105,115]
noncomputable def IH:List Nat:=[98,121]
noncomputable def notS:List Nat:=[110,111,116]
noncomputable def vW:List Nat:=[97,110,100]
noncomputable def Gz:List Nat:=[111,114]
noncomputable def nQ:List Nat:=[108,101,97,115,116]
noncomputable def tv:List Nat:=[109,111,115,116]
inductive GW:Nat->T->Prop where
 |any {d}:GW d (.tup [.str FO])
 |w1 {d a w}(ha:a=HU∨a=IH) (hw:gY w=true):GW d (.tup [.str a,.str w])
 |w2 {d a w v}(ha:a=nQ∨a=tv) (hw:gY w=true) (h0:0<=v) (h1:v<=1000000000):GW d (.tup [.str a,.str w,.int v])
 |nt {d x}(h:GW d x):GW (d+1) (.tup [.str notS,x])
 |jn {d a ts}(ha:a=vW∨a=Gz) (h2:2<=ts.length) (h3:ts.length<=3) (h:∀t∈ts,GW d t):GW (d+1) (.tup [.str a,.tup ts])
section
variable{n:Nat}{m:Mem}
theorem xd{a w:List Nat}(ha:a=HU∨a=IH)(hw:gY w=true):cf (n+3) 11 [.t (.tup [.str a,.str w])] m=.ok (.t (.bl true)) m:=by
 refine(ay (bP _ _ _) rfl ?_).eq;unfold aV
 tm_at "w"
 refine ar (fC [HU,IH]) ?_;rw[show([HU,IH].any λb=>b==a)=true by rcases ha with rfl|rfl<;>rfl]
 tm_at "w"
 refine ar (jX hw) ?_
 tm_at "w"
 exact am rfl ⟨rfl,rfl⟩
theorem xQ{a w:List Nat}{v:Int}(ha:a=nQ∨a=tv)(hw:gY w=true)(h0:0<=v)(h1:v<=1000000000):cf (n+3) 11 [.t (.tup [.str a,.str w,.int v])] m=.ok (.t (.bl true)) m:=by
 refine(ay (bP _ _ _) rfl ?_).eq;unfold aV
 tm_at "w"
 refine ar (fC [nQ,tv]) ?_;rw[show([nQ,tv].any λb=>b==a)=true by rcases ha with rfl|rfl<;>rfl]
 tm_at "w"
 refine ar (jX hw) ?_
 tm_at "w"
 refine ar (mZ h0 h1) ?_
 tm_at "w"
 exact am rfl ⟨rfl,rfl⟩
theorem plain_any:cf (n+3) 11 [.t (.tup [.str FO])] m=.ok (.t (.bl true)) m:=by
 refine(ay (bP _ _ _) rfl ?_).eq;unfold aV
 tm_at "w"
 refine ar (fC [FO]) ?_
 tm_at "w"
 exact am rfl ⟨rfl,rfl⟩
theorem v4{a:List Nat}{x:T}(ha:a=notS∨a=vW∨a=Gz):cf (n+3) 11 [.t (.tup [.str a,x])] m=.ok (.t (.bl false)) m:=by
 refine(ay (bP _ _ _) rfl ?_).eq;unfold aV
 tm_at "w"
 refine ar (fC [HU,IH]) ?_;rw[show([HU,IH].any λb=>b==a)=false by rcases ha with rfl|rfl|rfl<;>rfl]
 tm_at "w"
 exact am rfl ⟨rfl,rfl⟩
theorem zX{d:Nat}{t:T}(g:GW d t):∃ks:List T,(∀n m,cf (n+2) 13 [.t t] m=.ok (.t (.tup ks)) m)/\ks.length<=3/\(∀k∈ks,∃e,d=e+1/\GW e k)/\∀n m,cf (n+4) 14 [.t t] m=.ok (.t (.bl true)) m:=by
 have plain:∀{t:T},(∀n m,cf (n+3) 11 [.t t] m=.ok (.t (.bl true)) m)->∀n m,cf (n+4) 14 [.t t] m=.ok (.t (.bl true)) m:=λh n m=>by
  refine(ay (oI _ _ _) rfl ?_).eq;unfold fw
  tm_at "w"
  refine ar (h _ _) ?_
  tm_at "w"
  exact am rfl ⟨rfl,rfl⟩
 have join:∀{t:T}{ks:List T},(∀n m,cf (n+3) 11 [.t t] m=.ok (.t (.bl false)) m)->(∀n m,cf (n+2) 13 [.t t] m=.ok (.t (.tup ks)) m)->0<ks.length->∀n m,cf (n+4) 14 [.t t] m=.ok (.t (.bl true)) m:=λ{t ks} h h' hk n m=>by
  refine(ay (oI _ _ _) rfl ?_).eq;unfold fw
  tm_at "w"
  refine ar (h _ _) ?_
  tm_at "w"
  refine ar (h' _ _) ?_
  tm_at "w"
  exact am rfl ⟨by rw[<-Yq (show(0:Int)<(ks.length:Int) by omega)],rfl⟩
 have no:∀{a w:List Nat},(a=HU∨a=IH)->∀n m,cf (n+2) 13 [.t (.tup [.str a,.str w])] m=.ok (.t (.tup [])) m:=λ{a w} ha n m=>by
  refine(ay (cO _ _ _) rfl ?_).eq;unfold bv
  tm_at "w"
  refine ar (fC [notS]) ?_;rw[show([notS].any λb=>b==a)=false by rcases ha with rfl|rfl<;>rfl]
  tm_at "w"
  refine ar (fC [vW,Gz]) ?_;rw[show([vW,Gz].any λb=>b==a)=false by rcases ha with rfl|rfl<;>rfl]
  tm_at "w"
  exact am rfl ⟨rfl,rfl⟩
 cases g with
 |any=>exact⟨[],λn m=>(ay (cO _ _ _) rfl (by unfold bv;tm_at "w";exact am rfl ⟨rfl,rfl⟩)).eq,by decide,λk hk=>Ys hk RG,plain λ_ _=>plain_any⟩
 |w1 ha hw=>exact⟨[],no ha,by decide,λk hk=>Ys hk RG,plain λ_ _=>xd ha hw⟩
 |w2 ha hw h0 h1=>exact⟨[],λn m=>(ay (cO _ _ _) rfl (by unfold bv;tm_at "w";exact am rfl ⟨rfl,rfl⟩)).eq,by decide,λk hk=>Ys hk RG,plain λ_ _=>xQ ha hw h0 h1⟩
 |@nt d x g =>
  have h:∀n m,cf (n+2) 13 [.t (.tup [.str notS,x])] m=.ok (.t (.tup [x])) m:=λn m=>by
   refine(ay (cO _ _ _) rfl ?_).eq;unfold bv
   tm_at "w"
   refine ar (fC [notS]) ?_
   tm_at "w"
   exact am rfl ⟨rfl,rfl⟩
  exact⟨[x],h,U5 rfl,λk hk=>⟨d,rfl,by cases RH.mp hk;exact g⟩,join (λ_ _=>v4 (.inl rfl)) h (Nat.lt_of_sub_eq_succ rfl)⟩
 |@jn d a ts ha h2 h3 g =>
  have h:∀n m,cf (n+2) 13 [.t (.tup [.str a,.tup ts])] m=.ok (.t (.tup ts)) m:=λn m=>by
   refine(ay (cO _ _ _) rfl ?_).eq;unfold bv
   tm_at "w"
   refine ar (fC [notS]) ?_;rw[show([notS].any λb=>b==a)=false by rcases ha with rfl|rfl<;>rfl]
   tm_at "w"
   refine ar (fC [vW,Gz]) ?_;rw[show([vW,Gz].any λb=>b==a)=true by rcases ha with rfl|rfl<;>rfl]
   tm_at "w"
   refine ay (r9 _ _ _) rfl ?_;unfold fh
   tm_at "w"
   refine bS (Yq (by omega)) ?_
   tm_at "w"
   refine am rfl ?_
   tm_at "w"
   refine bS (Yq (show(ts.length:Int)<=6 by omega)) ?_
   tm_at "w"
   exact am rfl ⟨rfl,rfl⟩
  exact⟨ts,h,h3,λk hk=>⟨d,rfl,g k hk⟩,join (λ_ _=>v4 (.inr ha)) h (by omega)⟩
noncomputable def below:Nat->Nat
 |0=>1
 |d+1=>1+3*below d
theorem EH{t:T}(g:GW 2 t):cf (n+5) 15 [.t t] m=.ok (.t (.bl true)) m:=by
 refine(ay (yo _ _ _) rfl ?_).eq;unfold jB
 tm_at "w"
 refine kD ?_
 tm_at "w"
 refine aM rfl ?_;refine dH (I:=λts env m'=>m'=m/\∃(l:List T) (d q:Nat) (z:Option W),env=[Zz (.t t),Zz (.t (.lst l)),Zz (.t (.int q)),z]/\(∀x∈l,GW d x)/\q+l.length*below d<=40/\(d<ts.length∨l=[])) ?_ _ _ _ ⟨rfl,[t],2,0,Zy,rfl,λx hx=>by cases RH.mp hx;exact g,U5 rfl,.inl (U5 rfl)⟩ ?_
 ·rintro u ts _ _ ⟨rfl,l,d,q,z,rfl,hl,hq,hd⟩
  have hb:l.length<=l.length*below d:=Nat.le_mul_of_pos_right _ (by cases d<;>unfold below<;>omega);refine⟨_,rfl,?_⟩;unfold oz;refine JV rfl ?_
  tm_at "w"
  refine bi (Yp (by omega)) ?_
  tm_at "w"
  unfold oK;refine aC ?_
  tm_at "w"
  refine aM rfl ?_;refine oR (λt ht=>?_) ?_
  ·obtain⟨_,_,_,_,hf⟩:=zX (hl t ht)
   refine⟨_,rfl,?_⟩;unfold oo
   tm_at "w"
   refine ar (hf _ _) ?_
   tm_at "w"
   exact⟨rfl,rfl⟩
  ·refine⟨aF (by rw[Rx];omega),?_⟩
   tm_at "w"
   refine ag (eh _) ?_
   tm_at "w"
   unfold oS;refine aC ?_
   tm_at "w"
   refine aM rfl ?_;refine(lS (I:=λts out m'=>m'=_/\(∀t∈ts,GW d t)/\(∀k∈out,∃e,d=e+1/\GW e k)/\out.length+3*ts.length<=3*l.length) ?_ l [] _ ⟨rfl,hl,λk hk=>Ys hk RG,UD (Ua _)⟩).imp ?_
   ·rintro t ts out _ ⟨rfl,ht,ho,hn⟩
    obtain⟨ks,h1,h2,h3,_⟩:=zX (ht t R9);refine⟨_,rfl,?_⟩;unfold ow;refine Hp ?_;refine Iu ?_
    tm_at "w"
    refine ar (h1 _ _) ?_;refine aM rfl ?_;refine ar (k7 (g:=λx=>[x]) ks λp hp=>⟨_,rfl,?_⟩) ?_
    ·refine aj.eq ?_
     tm_at "w"
     exact⟨rfl,rfl⟩
    ·rw[List.flatMap_singleton']
     refine⟨ks,rfl,rfl,λk hk=>ht k (R4 _ hk),λk hk=>?_,?_⟩
     ·rcases SM.mp hk with hk|hk
      ·exact ho k hk
      ·exact h3 k hk
     ·rw[RD];rw[Rr]at hn;omega
   ·rintro out _ ⟨rfl,_,ho,hn⟩
    rw[Uf]at ho hn;have hn:out.length<=3*l.length:=hn;refine⟨Rg (m:=120) (by omega) (by decide),?_⟩
    tm_at "w"
    rw[Rr]at hd;cases d with
    |zero =>
     have e:out=[]:=by
      cases out with
      |nil=>rfl
      |cons a _=>obtain⟨e,h,_⟩:=ho a R9;cases h
     subst e;exact⟨rfl,[],0,q+l.length,_,rfl,λx hx=>Ys hx RG,by unfold below at hq;show _+0*_<=40;omega,.inr rfl⟩
    |succ d =>
     refine⟨rfl,out,d,q+l.length,_,rfl,λx hx=>?_,?_,?_⟩
     ·obtain⟨e,h,g⟩:=ho x hx
      cases h;exact g
     ·rw[below,Nat.mul_add,Nat.mul_one,<-Nat.mul_assoc]at hq
      have:=Nat.mul_le_mul_right (below d) hn;rw[Nat.mul_comm 3]at this;omega
     ·rcases hd with hd|rfl
      ·exact .inl (by omega)
      ·exact .inr (RY.mp (Nat.le_zero.mp hn))
 ·rintro _ _ ⟨rfl,l,d,q,z,rfl,hl,hq,hd⟩
  have e:l=[]:=hd.resolve_left (XB _);subst e;show aj _ (ex _ _ _ _ _)
  tm_at "w"
  exact am rfl ⟨rfl,rfl⟩
end
section
variable{n i:Nat}{m m1:Mem}
noncomputable def names:List (List Nat):=[[97],[97,98],[98],[97,110,121,97],[105,115,108,97,110,100],[97,98,99],[122],[98,121,98,121,101],[111,114,100,101,114],[110,111,116,101,115],[99],[122,122,122,122,122,122,122,122]]
theorem lI:∀w∈names,gY w=true:=by decide +kernel
theorem CY{k:Int}:∃w∈names,cf (n+1) 60 [.t (.int k)] m=.ok (.t (.str w)) m/\(0<=k->k<12->names[k.toNat]?=Zz w):=by
 have h0:0<=k%12:=by omega
 have h1:k%12<names.length:=by show _<((12:Nat):Int);omega
 obtain⟨w,hw,hm⟩:=pA h0 h1;refine⟨w,hm,(ay (Dd _ _ _) rfl ?_).eq,λa b=>?_⟩
 ·unfold pH
  tm_at "w"
  refine ag (t:=.str w) ?_ ?_
  ·show atT (names.map T.str) (k%12)=_
   unfold atT gM at hw ⊢;rw[R2];rw[Yn h0,Yn h1]at hw ⊢;exact(RR ..).trans (congrArg (Sr T.str) hw)
  exact am rfl ⟨rfl,rfl⟩
 ·rw[Int.emod_eq_of_lt a b]at hw h1
  unfold atT gM at hw;rw[Yn a,Yn h1]at hw;exact hw
theorem G0{ws:List (List Nat)}(h0:0<ws.length)(h1:ws.length<1000)(d:Dr m i m1):aj (λw m2=>Dr m i m2/\∃x∈ws,w=.t (.str x)) (cf (n+2) 59 [.c i,.t (.lst (ws.map .str))] m1):=
 (ya (by rw[R2];exact h0) (by rw[R2];exact h1) d).imp λw m2 ⟨d,x,hx,e⟩=>by
  obtain⟨w,hw,rfl⟩:=RX.mp hx;exact⟨d,w,hw,e⟩
noncomputable def zp:List (List Nat):=[[102,114,101,115,104],[111,108,100],[111,108,100,115]]
noncomputable def zh:List (List Nat):=[[112,114,105,99,101],[119,105,100,101]]
theorem EB.sub{a b:List (List Nat)}(h:a.Sublist b)(g:EB b):EB a:=⟨Rg h.length_le g.1,λw hw=>g.2.1 w (h.subset hw),g.2.2.sublist h⟩
theorem De:EB zp:=⟨by decide,by decide +kernel,by decide +kernel⟩
theorem CZ:EB zh:=⟨by decide,by decide +kernel,by decide +kernel⟩
theorem H6{nm kd:List Nat}(d:Dr m i m1):aj (λw m2=>Dr m i m2/\∃mk sz,w=.t (p6 nm kd mk sz)/\EB mk/\Sz sz) (cf (n+3) 62 [.c i,.t (.str nm),.t (.str kd)] m1):=by
 refine ay (Er _ _ _) rfl ?_;unfold pB
 tm_at "w"
 unfold s8;refine aC ?_
 tm_at "w"
 refine aM rfl ?_;refine(lS (I:=λts out m2=>Dr m i m2/\∃mk ws,ts=ws.map T.str/\out=mk.map T.str/\(mk++ws).Sublist zp) ?_ _ [] _ ⟨d,[],zp,rfl,rfl,List.Sublist.refl _⟩).imp ?_
 ·rintro t ts out m2 ⟨d2,mk,ws,e,rfl,hs⟩
  rcases ws with _|⟨w,ws⟩
  ·cases e
  obtain⟨rfl,rfl⟩:=UN e;refine⟨_,rfl,?_⟩
  tm_at "w"
  refine aO (by decide) (by decide) d2 λr m3 d3 r0 r1=>?_
  tm_at "w"
  have hs':(mk++ws).Sublist zp:=(List.Sublist.append_left (List.sublist_cons_self w ws) mk).trans hs;cases q:r==1 with
  |true =>
   refine bS q ?_;unfold sU
   tm_at "w"
   exact⟨d3,mk++[w],ws,rfl,by rw[SL];rfl,by rw[S9];exact hs⟩
  |false =>
   refine bi q ?_;exact .ok ⟨d3,mk,ws,rfl,Rh _,hs'⟩
 ·rintro out m2 ⟨d2,mk,ws,e,rfl,hs⟩
  cases V6.mp e.symm;rw[Rh]at hs;have hk:=De.sub hs;refine⟨aF (by have:=hk.1;show(mk.map T.str).length<=_;rw[R2];omega),?_⟩
  tm_at "w"
  unfold sW;refine aC ?_
  tm_at "w"
  refine aM rfl ?_;refine(lS (I:=λts out m2=>Dr m i m2/\∃(sz:List (List Nat×Int)) (ws:List (List Nat)),ts=ws.map T.str/\out=sz.map qr/\(sz.map (·.1)++ws).Sublist zh/\∀p∈sz,0<=p.2/\p.2<=1000000000) ?_ _ [] _ ⟨d2,[],zh,rfl,rfl,List.Sublist.refl _,λp hp=>Ys hp RG⟩).imp ?_
  ·rintro t ts out m2 ⟨d2,mk,ws,e,rfl,hs,hn⟩
   rcases ws with _|⟨w,ws⟩
   ·cases e
   obtain⟨rfl,rfl⟩:=UN e;refine⟨_,rfl,?_⟩
   tm_at "w"
   refine aO (by decide) (by decide) d2 λr m3 d3 r0 r1=>?_
   tm_at "w"
   have hs':(mk.map (·.1)++ws).Sublist zh:=(List.Sublist.append_left (List.sublist_cons_self w ws) _).trans hs;cases q:r==1 with
   |true =>
    refine bS q ?_;unfold tA
    tm_at "w"
    refine(vH d3).imp ?_;rintro _ m4 ⟨d4,v,rfl,hv⟩
    tm_at "w"
    exact⟨d4,mk++[(w,v)],ws,rfl,by rw[SL];rfl,by rw[SL,S9];exact hs,λp hp=>by
     rcases SM.mp hp with hp|hp
     ·exact hn p hp
     ·cases RH.mp hp;exact hv⟩
   |false =>
    refine bi q ?_;exact .ok ⟨d3,mk,ws,rfl,Rh _,hs',hn⟩
  ·rintro out m3 ⟨d3,sz,ws,e,rfl,hs,hn⟩
   cases V6.mp e.symm;rw[Rh]at hs;have hz:=CZ.sub hs;refine⟨aF (by have:=hz.1;rw[R2]at this;show(sz.map qr).length<=_;rw[R2];omega),?_⟩
   tm_at "w"
   exact am (d3.len.trans d.len.symm) ⟨d3,mk,sz,rfl,hk,hz,hn⟩
theorem zr{e n:Nat}{m1:Mem}(ih:∀f,e=f+1->∀{m1:Mem},Dr m i m1->aj (λw m2=>Dr m i m2/\∃t,w=.t t/\GW f t) (cf (n+(e+3)) 63 [.c i,.t (.int f)] m1))(d:Dr m i m1):aj (λw m2=>Dr m i m2/\∃t,w=.t t/\GW e t) (cf (n+(e+4)) 63 [.c i,.t (.int e)] m1):=by
 refine ay (C2 _ _ _) rfl ?_;unfold pM
 tm_at "w"
 refine aO (by unfold b2i;split<;>decide) (by unfold b2i;split<;>decide) d λr m2 d2 r0 r1=>?_
 tm_at "w"
 by_cases h:r<2
 ·refine bS (Yq h) ?_
  tm_at "w"
  exact am (d2.len.trans d.len.symm) ⟨d2,_,rfl,.any⟩
 refine bi (Yp h) ?_
 tm_at "w"
 by_cases h2:r=2
 ·subst h2
  tm_at "w"
  refine(G0 (ws:=[[102,114,101,115,104],[111,108,100],[111,108,100,115],[110,101,119]]) (by decide) (by decide) d2).imp ?_;rintro _ m3 ⟨d3,x,hx,rfl⟩
  tm_at "w"
  refine am (d3.len.trans d.len.symm) ⟨d3,_,rfl,.w1 (.inl rfl) ?_⟩;revert x;decide +kernel
 refine bi (beq_false_of_ne h2) ?_
 tm_at "w"
 by_cases h3:r=3
 ·subst h3
  tm_at "w"
  refine aO (by decide) (by decide) d2 λk m3 d3 k0 k1=>?_
  tm_at "w"
  obtain⟨w,hw,e,_⟩:=CY (n:=n+(e+2)) (m:=m3) (k:=k);refine ar e ?_
  tm_at "w"
  exact am (d3.len.trans d.len.symm) ⟨d3,_,rfl,.w1 (.inr rfl) (lI w hw)⟩
 refine bi (beq_false_of_ne h3) ?_
 tm_at "w"
 by_cases h6:r<6
 ·refine bS (Yq h6) ?_
  tm_at "w"
  obtain⟨a,ha,a',rfl,hc⟩:=gU (P:=λx=>∃a,x=T.str a/\(a=nQ∨a=tv)) (xs:=[T.str nQ,.str tv]) (k:=r-4) (by omega) (by show r-4<2;omega) (by
   simp only[R6,RG,or_false,forall_eq_or_imp,forall_eq];exact⟨⟨_,rfl,.inl rfl⟩,_,rfl,.inr rfl⟩)
  refine ag ha ?_
  tm_at "w"
  refine(G0 (ws:=[[112,114,105,99,101],[119,105,100,101],[102,97,114]]) (by decide) (by decide) d2).imp ?_;rintro _ m3 ⟨d3,x,hx,rfl⟩
  tm_at "w"
  refine(vH d3).imp ?_;rintro _ m4 ⟨d4,v,rfl,v0,v1⟩
  tm_at "w"
  refine am (d4.len.trans d.len.symm) ⟨d4,_,rfl,.w2 hc ?_ v0 v1⟩;clear ha hc;revert x;decide +kernel
 refine bi (Yp h6) ?_
 tm_at "w"
 rcases e with _|e
 ·exact Ys r1 (by show ¬r<6;exact h6)
 rw[show(λi j:Int=>decide (j<i)) ((e+1:Nat):Int) 0=true from Yq (by omega)]at r1;have r1:r<9:=r1;have ih:=λ{m1:Mem}=>ih e rfl (m1:=m1)
 have ee:((e+1:Nat):Int)-1=e:=by omega
 by_cases h7:r=6
 ·subst h7
  tm_at "w"
  rw[ee];refine(ih d2).imp ?_;rintro _ m3 ⟨d3,t,rfl,g⟩
  tm_at "w"
  exact am (d3.len.trans d.len.symm) ⟨d3,_,rfl,.nt g⟩
 refine bi (beq_false_of_ne h7) ?_
 tm_at "w"
 refine aO (by decide) (by decide) d2 λk m3 d3 k0 k1=>?_
 tm_at "w"
 obtain⟨a,ha,a',rfl,hc⟩:=gU (P:=λx=>∃a,x=T.str a/\(a=vW∨a=Gz)) (xs:=[T.str vW,.str Gz]) (k:=r-7) (by omega) (by show r-7<2;omega) (by
  simp only[R6,RG,or_false,forall_eq_or_imp,forall_eq];exact⟨⟨_,rfl,.inl rfl⟩,_,rfl,.inr rfl⟩)
 refine ag ha ?_
 tm_at "w"
 unfold sT;refine aC ?_
 tm_at "v"
 refine ag (zP ⟨Int.lt_trans (b:=9) (by omega) (by decide),Vh (b:=0) (by decide) (by omega)⟩) ?_;refine aM rfl ?_;refine(lS (I:=λts out m2=>Dr m i m2/\(∀x∈out,GW e x)/\out.length+ts.length=(2+k).toNat) ?_ _ [] _ ⟨d3,λp hp=>Ys hp RG,by unfold rangeT;rw[R2,T7];exact Ua _⟩).imp ?_
 ·rintro t ts out m2 ⟨d2,ho,hn⟩
  refine⟨_,rfl,?_⟩;unfold sP
  tm_at "w"
  rw[ee];refine(ih d2).imp ?_;rintro _ m3 ⟨d3,t,rfl,g⟩
  tm_at "w"
  refine⟨d3,λx hx=>?_,by rw[RD];rw[Rr]at hn;show out.length+1+_=_;omega⟩;rcases SM.mp hx with hx|hx
  ·exact ho x hx
  ·cases RH.mp hx;exact g
 ·rintro out m4 ⟨d4,ho,hn⟩
  have hn:out.length=(2+k).toNat:=hn;refine⟨aF (by omega),?_⟩
  tm_at "w"
  exact am (d4.len.trans d.len.symm) ⟨d4,_,rfl,.jn hc (by omega) (by omega) ho⟩
theorem D8:∀(e:Nat) {n:Nat}{m1:Mem},Dr m i m1->aj (λw m2=>Dr m i m2/\∃t,w=.t t/\GW e t) (cf (n+(e+4)) 63 [.c i,.t (.int e)] m1)
 |0,n,m1,d=>zr (λf h=>by cases h) d
 |e+1,n,m1,d=>zr (λf h m1 d=>by cases h;exact D8 e d) d
noncomputable def oh:List Nat:=[116,97,107,101]
noncomputable def iG:List Nat:=[114,121,101]
structure O where
 nm:List Nat
 ks:List (List Nat)
 zs:List (List Nat×Int)
 w:T
 many:Int
 least:Int
 wt:Int
 al:Int
noncomputable def O.t(o:O):T:=.tup [.str oh,p6 o.nm iG o.ks o.zs,o.w,.int o.many,.int o.least,.int o.wt,.int o.al]
structure O.Ok (o:O):Prop where
 nm:o.nm∈names
 ks:EB o.ks
 zs:Sz o.zs
 w:GW 2 o.w
 many:1<=o.many/\o.many<=1000000
 least:1<=o.least/\o.least<=o.many
 wt:0<=o.wt/\o.wt<=1000
 al:0<=o.al/\o.al<=1000000000
theorem E4{nm:List Nat}{al:Int}(hn:nm∈names)(ht:0<=al/\al<=1000000000)(d:Dr m i m1):aj (λw m2=>Dr m i m2/\∃o:O,w=.t o.t/\o.Ok/\o.nm=nm/\o.al=al) (cf (n+7) 64 [.c i,.t (.str oh),.t (.str nm),.t (.str iG),.t (.int al)] m1):=by
 refine ay (Ap _ _ _) rfl ?_;unfold me
 tm_at "w"
 refine aO (by decide) (by decide) d λa m2 d2 a0 a1=>?_
 tm_at "w"
 refine aO (by decide) (by decide) d2 λb m2 d2 b0 b1=>?_
 tm_at "w"
 refine aO (by decide) (by decide) d2 λc m2 d2 c0 c1=>?_
 tm_at "w"
 refine aO (by decide) (by decide) d2 λk m2 d2 k0 k1=>?_
 have c1:c<1000000:=c1;obtain⟨x,hx,many,rfl,hm⟩:=gU (P:=λx=>∃v,x=T.int v/\1<=v/\v<=1000000) (xs:=[T.int (1+a),.int (1+b),.int (1+c)]) k0 k1 (by
  simp only[R6,RG,or_false,forall_eq_or_imp,forall_eq];exact⟨⟨_,rfl,by omega⟩,⟨_,rfl,by omega⟩,_,rfl,by omega⟩)
 tm_at "w"
 refine ag hx ?_;clear hx
 tm_at "w"
 refine aO (by omega) (by omega) d2 λb m2 d2 b0 b1=>?_
 tm_at "w"
 refine aO (by decide) (by decide) d2 λk m2 d2 k0 k1=>?_
 obtain⟨x,hx,least,rfl,hl⟩:=gU (P:=λx=>∃v,x=T.int v/\1<=v/\v<=many) (xs:=[T.int 1,.int (1+b),.int many]) k0 k1 (by
  simp only[R6,RG,or_false,forall_eq_or_imp,forall_eq];exact⟨⟨_,rfl,by omega⟩,⟨_,rfl,by omega⟩,_,rfl,by omega⟩)
 tm_at "w"
 refine ag hx ?_;clear hx
 tm_at "w"
 refine(D8 2 (n:=n) d2).imp ?_;rintro _ m2 ⟨d2,w,rfl,gw⟩
 tm_at "w"
 refine aO (by decide) (by decide) d2 λk m2 d2 k0 k1=>?_
 obtain⟨x,hx,gx⟩:=gU (P:=GW 2) (xs:=[T.tup [T.str FO],w]) k0 k1 (by
  simp only[R6,RG,or_false,forall_eq_or_imp,forall_eq];exact⟨.any,gw⟩)
 tm_at "w"
 refine ag hx ?_;clear hx
 tm_at "w"
 refine aO (by decide) (by decide) d2 λb m2 d2 b0 b1=>?_
 tm_at "w"
 refine aO (by decide) (by decide) d2 λc m2 d2 c0 c1=>?_
 tm_at "w"
 refine aO (by decide) (by decide) d2 λk m2 d2 k0 k1=>?_
 obtain⟨y,hx,wt,rfl,hw⟩:=gU (P:=λx=>∃v,x=T.int v/\0<=v/\v<=1000) (xs:=[T.int b,.int c]) k0 k1 (by
  simp only[R6,RG,or_false,forall_eq_or_imp,forall_eq];exact⟨⟨_,rfl,by omega⟩,_,rfl,by omega⟩)
 tm_at "w"
 refine ag hx ?_;clear hx
 tm_at "w"
 refine(H6 d2).imp ?_;rintro _ m2 ⟨d2,mk,sz,rfl,hk,hz⟩
 tm_at "w"
 exact am (d2.len.trans d.len.symm) ⟨d2,⟨nm,mk,sz,x,many,least,wt,al⟩,rfl,⟨hn,hk,hz,gx,hm,hl,hw,ht⟩,rfl,rfl⟩
theorem D3{o:O}(h:o.Ok):cf (n+6) 17 [.t o.t] m=.ok (.t (.bl true)) m:=by
 refine(ay (vA _ _ _) rfl ?_).eq;unfold iu O.t
 tm_at "w"
 refine ar (fC [[103,105,118,101],oh,[98,101,97,114]]) ?_
 tm_at "w"
 refine ar (EK (lI _ h.nm) (by decide +kernel) h.ks h.zs) ?_
 tm_at "w"
 refine ar (EH h.w) ?_
 tm_at "w"
 refine ar (ig h.many.1 h.many.2) ?_
 tm_at "w"
 refine ar (ig h.least.1 h.least.2) ?_
 tm_at "w"
 refine ar (ig h.wt.1 h.wt.2) ?_
 tm_at "w"
 refine ar (pN h.al.1 h.al.2) ?_;exact am rfl ⟨rfl,rfl⟩
end
section
variable{i:Nat}{m L x M:Mem}
theorem Dr.self(d:Dr m i L):Dr (L++x) i (L++x):=by
 obtain⟨hi,a,b,c,rfl⟩:=d;refine⟨by rw[RD,SI];omega,a,b,c,?_⟩;rw[Uw _ _ (by rw[SI];exact hi),XA]
theorem Dr.out(d:Dr m i L)(e:Dr (L++x) i M):∃L',Dr m i L'/\M=L'++x:=by
 obtain⟨hi,a,b,c,rfl⟩:=d;obtain⟨_,a',b',c',rfl⟩:=e;exact⟨_,⟨hi,a',b',c',rfl⟩,by rw[Uw _ _ (by rw[SI];exact hi),XA]⟩
theorem sd{k:Nat}{a:Option Cl}(h:L.length=k):(L++a::x)[k]?=Zz a:=by
 subst h;rw[RV (RO _),Vf];rfl
theorem HM{k:Nat}{a b:Option Cl}(h:L.length=k):(L++a::b::x)[k+1]?=Zz b:=by
 subst h;rw[RV (by omega),Nat.add_sub_cancel_left];rfl
theorem FL{k:Nat}{a b:Option Cl}(h:L.length=k):(L++a::x).set k b=L++b::x:=by
 subst h;rw[List.set_append_right _ _ (RO _),Vf];rfl
theorem KB{k:Nat}{a b c:Option Cl}(h:L.length=k):(L++a::b::x).set (k+1) c=L++a::c::x:=by
 subst h;rw[List.set_append_right _ _ (by omega),Nat.add_sub_cancel_left];rfl
end
section
variable{m:Mem}{j:Nat}{xs ys:List T}{t:T}{Q:W->Mem->Prop}
theorem kg{mt:Mt}{ts:List T}{ws:List W}(hb:mt=.append∨mt=.mn∨mt=.extend)(h1:db ws m=.ok ts m)(hm:m[j]?=Zz (Zz (.l false xs)))(h2:AZ mt xs ts=Zz (t,ys))(q:Q (.t t) (m.set j (Zz (.l false ys)))):aj Q (xy mt (.c j) ws m):=by
 refine ar ?_ q;rcases hb with rfl|rfl|rfl<;>(show((db ws m).bind _)=_;rw[h1];show(match m[j]? with|some (Zz (.l false xs))=>_|_=>_)=_;rw[hm];dsimp only;rw[h2])
theorem oJ(h:xs.length<1000):AZ .append xs [t]=Zz (.non,xs++[t]):=Yn (SO h (by decide))
theorem Bf{mt:Mt}(hb:mt=.append∨mt=.mn∨mt=.extend){f:Bool}(hm:m[j]?=Zz (Zz (.l f xs))):GU mt (.c j) m=true:=by
 rcases hb with rfl|rfl|rfl<;>(show(match m[j]? with|some (Zz (.l _ _))=>true|_=>false)=_;rw[hm])
theorem KZ{f:Bool}(hm:m[j]?=Zz (Zz (.l f xs))):view (.c j) m=Zz (.lst xs):=by
 show(match m[j]? with|some (Zz (.l _ ts))=>Zz (T.lst ts)|_=>Zy)=_;rw[hm]
theorem vV{f:Bool}(hm:m[j]?=Zz (Zz (.l f xs))):views [.c j] m=Zz [.lst xs]:=by
 show(view (.c j) m).bind _=_;rw[KZ hm];rfl
end
noncomputable def four:List (List Nat):=[[104,101,97,118,121],[103,114,101,97,116],[115,109,97,108,108],[115,111,111,110]]
theorem tE{α β:Type}(f:α->β):∀(l:List α) (k:Nat),(l.map f).eraseIdx k=(l.eraseIdx k).map f
 |[],k=>by cases k<;>rfl
 |a::l,0=>rfl
 |a::l,k+1=>by simp[tE f l k]
theorem oO{α:Type}:∀{A:List α}{k:Nat}{w:α},A[k]?=Zz w->(w::A.eraseIdx k).Perm A
 |[],_,_,h=>by simp at h
 |a::A,0,w,h=>by
  have:a=w:=by simpa using h
  subst this;exact List.Perm.refl _
 |a::A,k+1,w,h=>by
  have h':A[k]?=Zz w:=by simpa using h
  exact(List.Perm.swap a w _).trans ((oO h').cons a)
theorem zg(ws:List (List Nat)):strs? (ws.map T.str)=Zz ws:=(strs_map id ws).trans (congrArg Zz (List.map_id ws))
section
variable{n i:Nat}{m m1:Mem}
theorem Iw(d:Dr m i m1):aj (λw m2=>Dr m i m2/\∃ws A:List (List Nat),w=.t (.tup (ws.map .str))/\ws.length<=3/\(ws++A).Perm four) (cf (n+2) 65 [.c i] m1):=by
 have l1:=d.len;refine ay (DE _ _ _) rfl ?_;unfold pR
 tm_at "w"
 refine kD ?_;rw[S9]
 tm_at "w"
 refine aO (by decide) (by decide) d.self λr M d2 r0 r1=>?_
 obtain⟨L,d3,rfl⟩:=d.out d2;obtain⟨x,hx,k,rfl,k0,k1⟩:=gU (P:=λx=>∃v:Int,x=T.int v/\0<=v/\v<=3) (xs:=[T.int 0,.int 1,.int 1,.int 2,.int 3]) r0 r1 (by
  simp only[R6,RG,or_false,forall_eq_or_imp,forall_eq];exact⟨⟨_,rfl,by decide⟩,⟨_,rfl,by decide⟩,⟨_,rfl,by decide⟩,⟨_,rfl,by decide⟩,_,rfl,by decide⟩)
 tm_at "v"
 refine ag hx ?_
 tm_at "v"
 refine ag (zP ⟨Ub (b:=3) k1 (by decide),Vh (b:=0) (by decide) k0⟩) ?_;refine aM rfl ?_;rw[RD];refine dH (I:=λts env M=>∃(L:Mem) (A F:List (List Nat)) (z:Option W),env=[Zz (.c i),Zz (.c m1.length),Zz (.c (m1.length+1)),z]/\Dr m i L/\M=L++[Zz (.l false (A.map T.str)),Zz (.l false (F.map T.str))]/\F.length+ts.length<=3/\(F++A).Perm four) ?_ _ _ _ ⟨L,four,[],Zy,rfl,d3,rfl,by unfold rangeT;rw[R2,T7];show 0+_<=3;omega,.refl _⟩ ?_
 ·rintro t ts _ _ ⟨L,A,F,z,rfl,dL,rfl,hn,hp⟩
  have l2:=dL.len.trans l1.symm;refine⟨_,rfl,?_⟩;unfold sZ;rw[Rr]at hn;have hA:F.length+A.length=4:=by rw[<-RD,hp.length_eq];rfl
  tm_at "w"
  refine⟨Bf (.inl rfl) (HM l2),?_⟩
  tm_at "w"
  refine⟨Bf (.inr (.inl rfl)) (sd l2),?_⟩
  tm_at "v"
  refine Vg _ ⟨vV (sd l2),?_⟩;refine ag (GK _) ?_
  tm_at "w"
  rw[R2];refine aO (many:=(A.length:Int)) (by omega) (by omega) dL.self λr M d2 r0 r1=>?_
  obtain⟨L',d3,rfl⟩:=dL.out d2;have l3:=d3.len.trans l1.symm;have hr:r.toNat<A.length:=by omega
  tm_at "w"
  refine kg (.inr (.inl rfl)) rfl (sd l3) (t:=.str A[r.toNat]) (ys:=(A.eraseIdx r.toNat).map T.str) ?_ ?_
  ·show(match gM (A.map T.str).length r with|some k=>((A.map T.str)[k]?).map λt=>(t,(A.map T.str).eraseIdx k)|none=>Zy)=_
   rw[R2];unfold gM;rw[Yn r0,Yn r1];dsimp only;rw[RR,RC hr,tE];rfl
  rw[FL l3]
  tm_at "w"
  refine kg (.inl rfl) rfl (HM l3) (oJ (by rw[R2];omega)) ?_;rw[KB l3]
  tm_at "w"
  refine⟨L',A.eraseIdx r.toNat,F++[A[r.toNat]],_,rfl,d3,by rw[SL];rfl,by rw[RD];show F.length+1+_<=3;omega,?_⟩;rw[S9];exact(List.Perm.append_left F (oO (RC hr))).trans hp
 ·rintro _ _ ⟨L,A,F,z,rfl,dL,rfl,hn,hp⟩
  have l2:=dL.len.trans l1.symm;show aj _ (ex _ _ _ _ (L++_))
  tm_at "v"
  refine Vg _ ⟨vV (HM l2),?_⟩
  tm_at "w"
  exact cI (VE l2) ⟨dL,F,A,rfl,hn,hp⟩
theorem uL:∀a∈four,∀b∈four,∀c∈four,(aK [a]).length=1/\(a≠b->(aK [a,b]).length=2)/\(a≠b->a≠c->b≠c->(aK [a,b,c]).length=3):=by decide +kernel
theorem Go{ws A:List (List Nat)}(hl:ws.length<=3)(hp:(ws++A).Perm four):cf (n+3) 21 [.t (.tup (ws.map .str))] m=.ok (.t (.bl true)) m:=by
 have hm:∀w∈ws,w∈four:=λw hw=>hp.mem_iff.mp (TG _ hw)
 have nd:ws.Nodup:=(WX.mp (hp.nodup_iff.mpr (by decide))).1;refine(ay (w8 _ _ _) rfl ?_).eq;unfold jG
 tm_at "w"
 refine bi (Yp (by rw[R2];omega)) ?_
 tm_at "w"
 unfold n9;refine aC ?_
 tm_at "w"
 refine aM rfl ?_;refine oR (λt ht=>?_) ?_
 ·obtain⟨w,hw,rfl⟩:=RX.mp ht
  refine⟨_,rfl,?_⟩;unfold oF
  tm_at "w"
  refine ar (fC four) ?_
  tm_at "w"
  exact⟨by rw[show(four.any λa=>a==w)=true from V1.mpr ⟨w,hm w hw,beq_self_eq_true w⟩],rfl⟩
 ·refine⟨aF (by rw[Rx,R2];omega),?_⟩
  tm_at "w"
  refine ag (eh _) ?_
  tm_at "w"
  refine ay (kL _ _ _) rfl ?_;unfold c8
  tm_at "w"
  have e:(aK ws).length=ws.length:=by
   rcases ws with _|⟨a,_|⟨b,_|⟨c,_|⟨d,r⟩⟩⟩⟩
   ·rfl
   ·exact(uL a (hm _ (by simp)) a (hm _ (by simp)) a (hm _ (by simp))).1
   ·exact(uL a (hm _ (by simp)) b (hm _ (by simp)) b (hm _ (by simp))).2.1 (by simpa using nd)
   ·obtain⟨h1,h2,h3⟩:a≠b/\a≠c/\b≠c:=by simpa[and_assoc]using nd
    exact(uL a (hm _ (by simp)) b (hm _ (by simp)) c (hm _ (by simp))).2.2 h1 h2 h3
   ·exact Ys hl (by simp)
  refine ag (t:=.int ws.length) ?_ ?_
  ·show(strs? (ws.map T.str)).bind (λxs=>if xs.length<64 then Zz (T.int ((aK xs).length:Int))else Zy)=_
   rw[zg,<-e];exact Yn (by omega)
  tm_at "w"
  refine am rfl ?_;exact am rfl ⟨by show W.t (.bl ((ws.length:Int)==((ws.map T.str).length:Int)))=_;rw[R2,beq_self_eq_true],rfl⟩
noncomputable def pq(q:Int×Int):T:=.tup [.int q.1,.int q.2]
def Qt(qs:List (Int×Int))(t:Int):Prop:=(∀q∈qs,0<=q.1/\q.1<q.2/\q.2<=t)/\qs.Pairwise λa b=>a.2<b.1
theorem FU(d:Dr m i m1):aj (λw m2=>Dr m i m2/\∃qs,w=.t (.tup (qs.map pq))/\qs.length<=8/\Qt qs 1000) (cf (n+2) 66 [.c i] m1):=by
 have l1:=d.len;refine ay (By _ _ _) rfl ?_;unfold lx
 tm_at "w"
 refine kD ?_
 tm_at "w"
 refine aO (by decide) (by decide) d.self λr M d2 r0 r1=>?_
 obtain⟨L,d3,rfl⟩:=d.out d2;obtain⟨x,hx,k,rfl,k0,k1⟩:=gU (P:=λx=>∃v:Int,x=T.int v/\0<=v/\v<=8) (xs:=[T.int 0,.int 0,.int 1,.int 2,.int 3,.int 8]) r0 r1 (by
  simp only[R6,RG,or_false,forall_eq_or_imp,forall_eq];exact⟨⟨_,rfl,by decide⟩,⟨_,rfl,by decide⟩,⟨_,rfl,by decide⟩,⟨_,rfl,by decide⟩,⟨_,rfl,by decide⟩,_,rfl,by decide⟩)
 tm_at "v"
 refine ag hx ?_
 tm_at "v"
 refine ag (zP ⟨Ub (b:=8) k1 (by decide),Vh (b:=0) (by decide) k0⟩) ?_;refine aM rfl ?_;refine dH (I:=λts env M=>∃(L:Mem) (qs:List (Int×Int)) (t:Int) (z z':Option W),env=[Zz (.c i),Zz (.c m1.length),Zz (.t (.int t)),z,z']/\Dr m i L/\M=L++[Zz (.l false (qs.map pq))]/\qs.length+ts.length<=8/\Qt qs t/\-1<=t/\t<=20*(qs.length:Int)) ?_ _ _ _ ⟨L,[],-1,Zy,Zy,rfl,d3,rfl,by unfold rangeT;rw[R2,T7];show 0+_<=8;omega,⟨λq h=>Ys h RG,.nil⟩,Wf _,by decide⟩ ?_
 ·rintro t ts _ _ ⟨L,qs,t,z,z',rfl,dL,rfl,hn,hq,t0,t1⟩
  refine⟨_,rfl,?_⟩;unfold qt;rw[Rr]at hn
  tm_at "w"
  refine aO (by decide) (by decide) dL.self λa M d2 a0 a1=>?_
  obtain⟨L1,dL1,rfl⟩:=dL.out d2
  tm_at "w"
  refine aO (by decide) (by decide) dL1.self λb M d2 b0 b1=>?_
  obtain⟨L2,dL2,rfl⟩:=dL1.out d2;have l2:=dL2.len.trans l1.symm
  tm_at "w"
  refine⟨Bf (.inl rfl) (sd l2),?_⟩
  tm_at "w"
  refine kg (.inl rfl) rfl (sd l2) (oJ (by rw[R2];omega)) ?_;rw[FL l2]
  tm_at "w"
  refine⟨L2,qs++[(t+1+a,t+1+a+1+b)],_,_,_,rfl,dL2,by rw[SL];rfl,by rw[RD];show qs.length+1+_<=8;omega,⟨λq h=>?_,?_⟩,by omega,by rw[RD];show _<=20*((qs.length+1:Nat):Int);omega⟩
  ·rcases SM.mp h with h|h
   ·have:=hq.1 q h;omega
   ·cases RH.mp h;dsimp only;omega
  ·refine W0.mpr ⟨hq.2,TE _ _,λa ha b hb=>?_⟩
   cases RH.mp hb;have:=hq.1 a ha;dsimp only;omega
 ·rintro _ _ ⟨L,qs,t,z,z',rfl,dL,rfl,hn,hq,t0,t1⟩
  have l2:=dL.len.trans l1.symm;have hn:qs.length<=8:=hn;show aj _ (ex _ _ _ _ (L++_))
  tm_at "v"
  refine Vg _ ⟨vV (sd l2),?_⟩
  tm_at "w"
  exact cI (VE l2) ⟨dL,qs,rfl,hn,⟨λq h=>by have:=hq.1 q h;omega,hq.2⟩⟩
theorem Cu{qs:List (Int×Int)}(hl:qs.length<=8)(hq:Qt qs 1000):cf (n+5) 31 [.t (.tup (qs.map pq))] m=.ok (.t (.bl true)) m:=by
 have g:∀(k:Nat) (_:k<qs.length),atT (qs.map pq) k=Zz (pq qs[k]):=λk hk=>by
  unfold atT gM;rw[Yn (by omega),Yn (by rw[R2];omega)];show(qs.map pq)[k]?=_;rw[RR,RC hk];rfl
 refine(ay (u5 _ _ _) rfl ?_).eq;unfold gA
 tm_at "w"
 refine bi (Yp (by rw[R2];omega)) ?_
 tm_at "w"
 unfold kH;refine aC ?_
 tm_at "w"
 refine aM rfl ?_;refine oR (λt ht=>?_) ?_
 ·obtain⟨q,hm,rfl⟩:=RX.mp ht
  obtain⟨h0,h1,h2⟩:=hq.1 q hm;refine⟨_,rfl,?_⟩;unfold ki pq
  tm_at "w"
  refine ay (m9 _ _ _) rfl ?_;unfold ck
  tm_at "w"
  refine ar (pN h0 (by omega)) ?_
  tm_at "w"
  refine ar (pN (by omega) (by omega)) ?_
  tm_at "w"
  refine am rfl ?_
  tm_at "w"
  exact⟨by rw[<-Yq h1],rfl⟩
 ·refine⟨aF (by rw[Rx,R2];omega),?_⟩
  tm_at "w"
  refine ag (eh _) ?_
  tm_at "w"
  unfold kj;refine aC ?_
  tm_at "v"
  refine ag (Jj _) ?_
  tm_at "v"
  refine ag (Dx ⟨⟨by decide,by decide⟩,Ub (b:=8) (by rw[R2];omega) (by decide),Vh (b:=0) (by decide) (by omega)⟩) ?_;refine aM rfl ?_;refine oR (λt ht=>?_) ?_
  ·obtain⟨k,hk,rfl⟩:=RX.mp ht
   have hk:=Ur.mp hk;rw[R2]at hk;refine⟨_,rfl,?_⟩;unfold ko
   tm_at "v"
   refine ag rfl ?_
   tm_at "v"
   refine ag (t:=pq (qs[k]'(by omega))) ?_ ?_
   ·rw[<-g k (by omega)]
    show atT _ (1+(k:Int)-1)=_;rw[show(1+(k:Int)-1)=k by omega]
   tm_at "w"
   refine ag (t:=pq (qs[k+1]'(by omega))) ?_ ?_
   ·rw[<-g (k+1) (by omega)]
    show atT _ (1+(k:Int))=_;rw[show(1+(k:Int))=((k+1:Nat):Int) by omega]
   tm_at "w"
   exact⟨by rw[<-Yq (TW.mp hq.2 k (k+1) (by omega) (by omega) (by omega))],rfl⟩
  ·refine⟨aF (by simp only[Rx,R2,rangeT,T7];omega),?_⟩
   tm_at "w"
   refine ag (eh _) ?_;exact am rfl ⟨rfl,rfl⟩
end
noncomputable def fl(ru qu tm:T):List (Tk×W):=[("rule",.t ru),("borne",.t (.tup [])),("quiet",.t qu),("time",.t tm),("offers",.c 3),("lefts",.c 4),("ends",.c 5),("rows",.c 6)]
noncomputable def hm(c:Option Cl)(ru qu tm:T)(os ls es rs:List T)(r:Mem):Mem:=c::Zz .d::Zz (.o 631 (fl ru qu tm))::Zz (.l false os)::Zz (.l false ls)::Zz (.l false es)::Zz (.l false rs)::r
section
variable{ru qu tm t:T}
theorem IE:(fl ru qu tm).lookup ("rule" : Tk)=Zz (.t ru):=rfl
theorem Gb:(fl ru qu tm).lookup ("borne" : Tk)=Zz (.t (.tup [])):=rfl
theorem EE:(fl ru qu tm).lookup ("quiet" : Tk)=Zz (.t qu):=rfl
theorem It:(fl ru qu tm).lookup ("time" : Tk)=Zz (.t tm):=rfl
theorem Dw:(fl ru qu tm).lookup ("offers" : Tk)=Zz (.c 3):=rfl
theorem EW:(fl ru qu tm).lookup ("lefts" : Tk)=Zz (.c 4):=rfl
theorem IK:(fl ru qu tm).lookup ("ends" : Tk)=Zz (.c 5):=rfl
theorem HV:(fl ru qu tm).lookup ("rows" : Tk)=Zz (.c 6):=rfl
theorem Km:j8 "time" (.t t) (fl ru qu tm)=fl ru qu t:=rfl
end
section
variable{call:Nat->List W->Mem->Res W}{gv:List T}{env:Env}{m r:Mem}{ru qu tm t:T}{os ls es rs:List T}{c:Option Cl}{n j f:Nat}{w:W}{nm:Tk}{Q:W->Mem->Prop}{P:Flow->Mem->Prop}{k:S}{as:Es}
theorem KG(h:(fl ru qu tm).lookup nm=Zz w)(e:env[n]?=Zz (Zz (.c 2)))(q:Q w (hm c ru qu tm os ls es rs r)):aj Q (ev call gv (.fld 631 (.var n) nm) env (hm c ru qu tm os ls es rs r)):=Jh (sO e ⟨w,h,q⟩)
theorem K4(h:((fl ru qu tm).lookup nm).isSome=false)(e:env[n]?=Zz (Zz (.c 2)))(q:aj (λws m=>aj Q (call f (.c 2::ws) m)) (evs call gv as env (hm c ru qu tm os ls es rs r))):aj Q (ev call gv (.aZ 631 (.var n) nm f as) env (hm c ru qu tm os ls es rs r)):=Hi (sO e ⟨congrArg Zz h,q⟩)
theorem Js(e:env[n]?=Zz (Zz (.c 2)))(e2:env[j]?=Zz (Zz (.t t)))(q:aj P (ex call gv k env (hm c ru qu t os ls es rs r))):aj P (ex call gv (.GR 631 (.var n) "time" (.var j) k) env (hm c ru qu tm os ls es rs r)):=JQ (sO e2 ⟨t,rfl,sO e ⟨2,fl ru qu tm,rfl,U5 (n:=9) rfl,by rw[Km];exact q⟩⟩)
theorem y_row{x:T}(h:rs.length<1000)(q:Q (.t .non) (hm c ru qu tm os ls es (rs++[x]) r)):aj Q (xy .append (.c 6) [.t x] (hm c ru qu tm os ls es rs r)):=kg (.inl rfl) rfl rfl (oJ h) q
theorem JW{x:T}(h:es.length<1000)(q:Q (.t .non) (hm c ru qu tm os ls (es++[x]) rs r)):aj Q (xy .append (.c 5) [.t x] (hm c ru qu tm os ls es rs r)):=kg (.inl rfl) rfl rfl (oJ h) q
theorem HH{x:T}(h:ls.length<1000)(q:Q (.t .non) (hm c ru qu tm os (ls++[x]) es rs r)):aj Q (xy .append (.c 4) [.t x] (hm c ru qu tm os ls es rs r)):=kg (.inl rfl) rfl rfl (oJ h) q
theorem IY{x:T}(h:os.length<1000)(q:Q (.t .non) (hm c ru qu tm (os++[x]) ls es rs r)):aj Q (xy .append (.c 3) [.t x] (hm c ru qu tm os ls es rs r)):=kg (.inl rfl) rfl rfl (oJ h) q
theorem II{x:T}{i:Int}{q:Nat}{U:Unit->Mem->Prop}(h:gM es.length i=Zz q)(u:U () (hm c ru qu tm os ls (es.set q x) rs r)):aj U (setM (.c 5) (.t (.int i)) (.t x) (hm c ru qu tm os ls es rs r)):=xK rfl h u
end
theorem y7{c c':Option Cl}{ru qu tm tm' ru' qu':T}{os ls es rs os' ls' es' rs':List T}{r x:Mem}:(hm c ru qu tm os ls es rs (r++x)).take (hm c' ru' qu' tm' os' ls' es' rs' r).length=hm c ru qu tm os ls es rs r:=by
 have:(r++x).take r.length=r:=VE rfl;show(hm c ru qu tm os ls es rs ((r++x).take r.length))=_;rw[this]
theorem aI{c c':Option Cl}{ru qu tm tm' ru' qu':T}{os ls es rs os' ls' es' rs':List T}{r:Mem}:(hm c ru qu tm os ls es rs r).take (hm c' ru' qu' tm' os' ls' es' rs' r).length=hm c ru qu tm os ls es rs r:=by
 have h:=y7 (c:=c) (c':=c') (ru:=ru) (qu:=qu) (tm:=tm) (tm':=tm') (ru':=ru') (qu':=qu') (os:=os) (ls:=ls) (es:=es) (rs:=rs) (os':=os') (ls':=ls') (es':=es') (rs':=rs') (r:=r) (x:=[]);rw[Rh]at h;exact h
noncomputable def AV:List Nat:=[111,117,116]
noncomputable def endOf(e:Int)(o:O):T:=if o.al<=e then .tup [.str AV,.int o.al]else .non
noncomputable def ws(e:Int)(os:List O):List (O×Nat):=os.zipIdx.filter λp=>decide (e<p.1.al)
noncomputable def wT(p:O×Nat):T:=.tup [.int p.2,p.1.t,.int p.1.many]
noncomputable def lf(o:O):T:=.int o.many
theorem lp{α:Type}(f:α->T)(xs:List α):kK (xs.map f)=xs.zipIdx.map λp=>.tup [.int p.2,f p.1]:=by
 unfold kK;apply VV;intro k;rw[R2,Vj,RR,RR,List.getElem?_zipIdx];by_cases h:k<xs.length
 ·rw[List.getElem?_range h,RC h,Ua];rfl
 ·rw[Uk (WI.mp h)]
  cases(SX xs.length)[k]?<;>rfl
theorem bH{α β:Type}(p:α->Bool)(F:α->β):∀l:List α,(l.flatMap λa=>if p a then[F a]else[])=(l.filter p).map F
 |[]=>rfl
 |a::l=>by
  rw[Wg,bH p F l,Vq];cases p a<;>rfl
section
variable{n:Nat}{r:Mem}{ru qu tm:T}{os:List O}{rs:List T}{c:Option Cl}{e:Int}
theorem i9:(ws e os).length<=os.length:=Rg (SR ..) (by rw[U2];exact RO _)
theorem oP{p:O×Nat}(h:p∈ws e os):os[p.2]?=Zz p.1/\e<p.1.al:=by
 obtain⟨h1,h2⟩:=SN.mp h;exact⟨Sl.mp h1,Yt h2⟩
theorem rh{α:Type}{xs:List α}{k:Nat}{x:α}(h:xs[k]?=Zz x):atT xs k=Zz x:=by
 obtain⟨hk,_⟩:=R8.mp h;unfold atT gM;rw[Yn (by omega),Yn (by omega)];exact h
theorem cD(hl:os.length<=12):cf (n+1) 45 [.c 2] (hm c ru qu tm (os.map O.t) (os.map lf) (os.map (endOf e)) rs r)=.ok (.t (.lst ((ws e os).map wT))) (hm c ru qu tm (os.map O.t) (os.map lf) (os.map (endOf e)) rs r):=by
 refine(ay (ng _ _ _) rfl ?_).eq;unfold b8
 tm_at "w"
 unfold fT;refine aC ?_
 tm_at "w"
 refine ar rfl ?_;rw[lp];refine aT (g:=λp=>if decide (e<p.1.al)then[.int p.2]else[]) _ (λp hp=>⟨_,rfl,?_⟩) ?_
 ·unfold endOf gb
  by_cases h:p.1.al<=e
  ·rw[Yn h,Yp (by omega)]
   tm_at "w"
   exact⟨rfl,rfl⟩
  ·rw[Yo h,Yq (by omega)]
   tm_at "w"
   exact⟨rfl,rfl⟩
 ·rw[bH]
  have h12:=Rg (i9 (e:=e)) hl;refine⟨aF (by rw[R2];show(ws e os).length<=_;omega),?_⟩;show aj _ (ex _ _ _ _ (hm c ru qu tm (os.map O.t) (os.map lf) (os.map (endOf e)) rs r))
  tm_at "w"
  unfold fR;refine aC ?_
  tm_at "w"
  refine aM rfl ?_;refine aT (g:=λp=>[wT p]) (ws e os) (λp hp=>⟨_,rfl,?_⟩) ?_
  ·unfold fN
   have h:=(oP hp).1
   tm_at "w"
   refine ag (t:=p.1.t) (rh (by rw[RR,h];rfl)) ?_
   tm_at "w"
   refine ag (t:=lf p.1) (rh (by rw[RR,h];rfl)) ?_
   tm_at "w"
   exact⟨rfl,rfl⟩
  ·rw[show((ws e os).flatMap λp=>[wT p])=(ws e os).map wT from SD.symm]
   refine⟨aF (by rw[R2];omega),?_⟩;exact cI aI ⟨rfl,rfl⟩
end
noncomputable def DN:List Nat:=[104,101,97,118,121]
noncomputable def Ey:List Nat:=[103,114,101,97,116]
noncomputable def CG:List Nat:=[115,109,97,108,108]
noncomputable def rk(w:List Nat)(p:O×Nat):Int:=if(w==DN)=true then -p.1.wt else if(w==Ey)=true then -p.1.many else if(w==CG)=true then p.1.many else p.1.al
noncomputable def rks(ru:List (List Nat))(p:O×Nat):List Int:=ru.map (rk · p)++[(p.2:Int)]
noncomputable def no(p:O×Nat):T:=.int p.2
theorem jF:∀ns:List Int,eG (ns.map T.int)=Zz ns
 |[]=>rfl
 |n::ns=>by rw[Rf,eG,jF ns];rfl
theorem we{α β γ:Type}(f:α->β)(g:α->γ):∀l:List α,(l.map f).zip (l.map g)=l.map λa=>(f a,g a)
 |[]=>rfl
 |a::l=>by rw[Rf,Rf,UZ,we f g l];rfl
theorem v9{α β γ:Type}{f:α->β}{g:α->γ}{l:List α}(h:(l.map f).Nodup)(i:∀a b,g a=g b->f a=f b):(l.map g).Nodup:=SA.mpr ((SA.mp h).imp λh z=>h (i _ _ z))
section
variable{n:Nat}{m:Mem}{ru:List (List Nat)}{p:O×Nat}{L:List (O×Nat)}
theorem Fd{w:List Nat}:cf (n+1) 23 [.t (.str w),.t (wT p)] m=.ok (.t (.int (rk w p))) m:=by
 refine(ay (EV _ _ _) rfl ?_).eq;unfold uG rk
 tm_at "w"
 cases h:w==DN with
 |true =>
  refine bS h ?_
  tm_at "w"
  exact am rfl ⟨rfl,rfl⟩
 |false =>
  refine bi h ?_;rw[Yo RK]
  tm_at "w"
  cases h:w==Ey with
  |true =>
   refine bS h ?_
   tm_at "w"
   exact am rfl ⟨rfl,rfl⟩
  |false =>
   refine bi h ?_;rw[Yo RK]
   tm_at "w"
   cases h:w==CG with
   |true =>
    refine bS h ?_
    tm_at "w"
    exact am rfl ⟨rfl,rfl⟩
   |false =>
    refine bi h ?_;rw[Yo RK]
    tm_at "w"
    exact am rfl ⟨rfl,rfl⟩
theorem D7(hr:ru.length<=3):cf (n+2) 24 [.t (.tup (ru.map .str)),.t (wT p)] m=.ok (.t (.lst ((rks ru p).map .int))) m:=by
 refine(ay (BC _ _ _) rfl ?_).eq;unfold pf
 tm_at "w"
 unfold sQ;refine aC ?_
 tm_at "w"
 refine aM rfl ?_;refine aT (g:=λw=>[.int (rk w p)]) ru (λw hw=>⟨_,rfl,?_⟩) ?_
 ·unfold s9
  tm_at "w"
  refine ar Fd ?_
  tm_at "w"
  exact⟨rfl,rfl⟩
 ·rw[show(ru.flatMap λw=>[T.int (rk w p)])=ru.map λw=>.int (rk w p)from SD.symm]
  refine⟨aF (by rw[R2];omega),?_⟩;unfold wT
  tm_at "w"
  refine ag (uU (by rw[R2];show _+1<=lim;exact Rg (m:=4) (by omega) (by decide))) ?_;exact am rfl ⟨by unfold rks;rw[SL,Ru];rfl,rfl⟩
theorem zb(hr:ru.length<=3):∀L:List (O×Nat),fP (λenv m=>ev (cf (n+2)) gv il env m) [Zz (.t (.tup (ru.map .str)))] (L.map wT) m=.ok (L.map (rks ru)) m
 |[]=>rfl
 |p::L=>by
  have h:ev (cf (n+2)) gv il [Zz (.t (wT p)),Zz (.t (.tup (ru.map .str)))] m=.ok (.t (.lst ((rks ru p).map .int))) m:=by
   refine aj.eq ?_;unfold il
   tm_at "w"
   exact ar (D7 hr) ⟨rfl,rfl⟩
  rw[Rf,fP,h,qX,show Dy (.t (.lst ((rks ru p).map .int)))=Zz (rks ru p)from jF _];show(fP _ _ (L.map wT) m).bind _=_;rw[zb hr L];rfl
theorem Ez(hr:ru.length<=3)(hl:L.length<=12)(hn:(L.map (·.2)).Nodup):∃K:List (O×Nat),K.Perm L/\∀n m,cf (n+3) 25 [.t (.tup (ru.map .str)),.t (.lst (L.map wT))] m=.ok (.t (.lst (K.map no))) m:=by
 have hk:(L.map (rks ru)).Nodup:=v9 hn λa b h=>by
  have:=(List.append_inj' h rfl).2;have:(a.2:Int)=b.2:=List.head_eq_of_cons_eq this;omega
 have hp:((oC ((L.map (rks ru)).zip (L.map wT))).map (·.2)).Perm (L.map wT):=by
  refine((iK _).map _).trans ?_;rw[we,Ru];exact .refl _
 obtain⟨K,hK,e⟩:=sK wT hp L rfl;refine⟨K,hK,λn m=>(ay (A4 _ _ _) rfl ?_).eq⟩;unfold l7
 tm_at "w"
 refine Ad ?_
 tm_at "w"
 refine ar (zb hr L) ?_;refine ag (t:=.lst (K.map wT)) ?_ ?_
 ·unfold jf
  rw[Yn ⟨hk,by rw[R2];omega⟩,e]
 tm_at "w"
 unfold qY;refine aC ?_
 tm_at "w"
 refine aM rfl ?_;refine aT (g:=λp=>[no p]) K (λp hp=>⟨_,rfl,?_⟩) ?_
 ·unfold p9
  tm_at "w"
  exact⟨rfl,rfl⟩
 ·rw[show(K.flatMap λp=>[no p])=K.map no from SD.symm]
  refine⟨aF (by rw[R2,hK.length_eq];omega),?_⟩;exact am rfl ⟨rfl,rfl⟩
theorem qB{α β:Type}{f g:α->β}:∀l:List α,(l.flatMap λa=>[f a,g a]).length=2*l.length
 |[]=>rfl
 |a::l=>by rw[Wg,RD,qB l];show 2+2*l.length=2*(l.length+1);omega
theorem zU{α:Type}{kf:α->Int}{vf:α->T}{l:List α}(hn:(l.map kf).Nodup)(hl:l.length<=1000):∃d,qd (l.flatMap λa=>[.int (kf a),vf a])=Zz d:=by
 have h:∀l:List α,nB (l.flatMap λa=>[T.int (kf a),vf a])=Zz (l.map λa=>.inl (kf a),l.map vf):=λl=>by
  induction l with
  |nil=>rfl
  |cons a l ih =>
   rw[Wg];show((uH (.int (kf a))).bind λkk=>(nB (l.flatMap λa=>[T.int (kf a),vf a])).map λp=>(kk::p.1,vf a::p.2))=_;rw[ih];rfl
 refine⟨.dct (l.map λa=>.inl (kf a)) (l.map vf),?_⟩;unfold qd;rw[h];exact Yn ⟨v9 hn λa b h=>Sum.inl.inj h,by rw[R2];exact hl⟩
theorem zB:cf (n+1) 19 [.t p.1.t] m=.ok (.t (.str iG)) m:=by
 refine(ay (w9 _ _ _) rfl ?_).eq;unfold jU O.t p6
 tm_at "w"
 exact am rfl ⟨rfl,rfl⟩
theorem B1(hl:L.length<=12):cf (n+2) 26 [.t (.str iG),.t (.lst (L.map wT))] m=.ok (.t (.lst [.lst [],.lst (L.map no),.lst []])) m:=by
 refine(ay (wA _ _ _) rfl ?_).eq;unfold iD
 tm_at "w"
 unfold mF;refine aC ?_
 tm_at "w"
 refine aM rfl ?_;refine aT (g:=λp=>[wT p]) L (λp hp=>⟨_,rfl,?_⟩) ?_
 ·unfold la
  tm_at "w"
  refine ar (zB (p:=p)) ?_
  tm_at "w"
  exact⟨rfl,rfl⟩
 rw[show(L.flatMap λp=>[wT p])=L.map wT from SD.symm];refine⟨aF (by rw[R2];omega),?_⟩
 tm_at "w"
 unfold lw;refine aC ?_
 tm_at "w"
 refine aM rfl ?_;refine aT (em:=T.str) (g:=λs=>[.lst (L.flatMap λp=>if s==oh then[no p]else[])]) [[103,105,118,101],oh,[98,101,97,114]] (λs hs=>⟨_,rfl,?_⟩) ?_
 ·unfold lh
  tm_at "w"
  unfold lL;refine aC ?_
  tm_at "w"
  refine aM rfl ?_;refine aT (g:=λp=>if s==oh then[no p]else[]) L (λp hp=>⟨_,rfl,?_⟩) ?_
  ·unfold ly wT O.t
   tm_at "w"
   cases h:s==oh with
   |true =>
    refine bS (by rw[<-h];exact BEq.comm) ?_
    tm_at "w"
    exact⟨rfl,rfl⟩
   |false =>
    refine bi (by rw[<-h];exact BEq.comm) ?_;exact .ok ⟨rfl,rfl⟩
  ·refine⟨aF ?_,?_⟩
   ·cases s==oh
    ·rw[show(L.flatMap λ_=>if false=true then[no _]else[])=[]from VR.mpr λ_ _=>rfl];decide
    ·rw[show(L.flatMap λp=>if true=true then[no p]else[])=L.map no from SD.symm,R2];omega
   ·tm_at "w"
    exact⟨rfl,rfl⟩
 ·refine⟨aF,?_⟩
  refine am rfl ⟨?_,rfl⟩;show W.t (.lst [.lst (L.flatMap λ_=>[]),.lst (L.flatMap λp=>[no p]),.lst (L.flatMap λ_=>[])])=_;rw[SD,show(L.flatMap λ_=>([]:List T))=[]from VR.mpr λ_ _=>rfl]
theorem Cm:∀(k:Nat),∀w∈aK (RE k iG),w=iG:=by
 have h:∀k,aK (RE k iG)=[]∨aK (RE k iG)=[iG]:=λk=>by
  induction k with
  |zero=>exact .inl rfl
  |succ k ih =>
   rw[Sp];show sC iG (aK (RE k iG))=_∨sC iG (aK (RE k iG))=_;rcases ih with e|e<;>rw[e]<;>exact .inr rfl
 intro k w hw;rcases h k with e|e<;>rw[e]at hw
 ·cases hw
 ·exact RH.mp hw
theorem Gh(hl:L.length<=12):cf (n+3) 27 [.t (.tup []),.t (.lst (L.map wT))] m=.ok (.t (.lst [])) m:=by
 refine(ay (yw _ _ _) rfl ?_).eq;unfold j3
 tm_at "w"
 refine kD ?_
 tm_at "w"
 unfold oH;refine aC ?_
 tm_at "w"
 refine aM rfl ?_;refine aT (g:=λp=>[.str iG]) L (λp hp=>⟨_,rfl,?_⟩) ?_
 ·unfold og
  tm_at "w"
  refine ar (zB (p:=p)) ?_
  tm_at "w"
  exact⟨rfl,rfl⟩
 rw[show(L.flatMap λp=>[T.str iG])=(RE L.length iG).map T.str by rw[<-SD,List.map_const',List.map_replicate]];refine⟨aF (by rw[R2,Rx];omega),?_⟩
 tm_at "v"
 refine ag (t:=.lst ((aK (RE L.length iG)).map .str)) ?_ ?_
 ·show(strs? _).bind _=_
  rw[zg];exact Yn (by rw[Rx];omega)
 refine aM rfl ?_;refine dH (I:=λts env M=>(∀t∈ts,t=.str iG)/\M=m++[Zz (.l false [])]/\∃e3 e4 e5 e6 e7,env=[Zz (.t (.tup [])),Zz (.t (.lst (L.map wT))),Zz (.c m.length),e3,e4,e5,e6,e7]) ?_ _ _ _ ⟨λt ht=>by obtain⟨w,hw,rfl⟩:=RX.mp ht;rw[Cm _ w hw],rfl,_,_,_,_,_,rfl⟩ ?_
 ·rintro t ts _ _ ⟨ht,rfl,e3,e4,e5,e6,e7,rfl⟩
  cases ht t R9;refine⟨_,rfl,?_⟩;unfold nZ
  tm_at "w"
  refine ar (B1 hl) ?_
  tm_at "w"
  unfold oq;refine aC ?_
  tm_at "w"
  refine aM rfl (.ok ⟨aF,?_⟩)
  tm_at "w"
  refine⟨Bf (.inr (.inr rfl)) (sd rfl),?_⟩
  tm_at "w"
  refine kg (.inr (.inr rfl)) rfl (sd rfl) rfl ?_;show aj _ (ex _ _ _ _ ((m++[Zz (Cl.l false [])]:Mem).set m.length _));rw[FL rfl]
  tm_at "w"
  exact⟨λt h=>ht t (R4 _ h),rfl,_,_,_,_,_,rfl⟩
 ·rintro _ _ ⟨_,rfl,e3,e4,e5,e6,e7,rfl⟩
  show aj _ (ex _ _ _ _ (m++_))
  tm_at "v"
  refine Vg _ ⟨vV (sd rfl),?_⟩
  tm_at "w"
  exact cI (VE rfl) ⟨rfl,rfl⟩
theorem FY(hr:ru.length<=3)(hl:L.length<=12)(hn:(L.map (·.2)).Nodup):cf (n+4) 29 [.t (.tup (ru.map .str)),.t (.tup []),.t (.lst (L.map wT))] m=.ok (.t .non) m:=by
 refine(ay (ny _ _ _) rfl ?_).eq;unfold cB
 tm_at "w"
 refine ay (sE _ _ _) rfl ?_;unfold fj
 tm_at "w"
 unfold jg;refine aC ?_
 tm_at "w"
 refine aM rfl ?_;refine aT (g:=λp=>[no p,.tup [p.1.t,.int p.1.many]]) L (λp hp=>⟨_,rfl,?_⟩) ?_
 ·tm_at "w"
  refine zx ?_
  tm_at "w"
  refine⟨rfl,?_⟩
  tm_at "w"
  exact⟨rfl,rfl⟩
 obtain⟨d1,h1⟩:=zU (kf:=λp:O×Nat=>(p.2:Int)) (vf:=λp=>.tup [p.1.t,.int p.1.many]) (l:=L) (v9 hn λa b h=>by omega) (by omega);refine⟨aF (by rw[qB];omega),?_⟩
 tm_at "w"
 refine ag h1 ?_;refine am rfl ?_
 tm_at "w"
 unfold f7;refine aC ?_
 tm_at "w"
 obtain⟨K,hK,hrow⟩:=Ez hr hl hn;refine ar (hrow _ _) ?_
 tm_at "v"
 have kl:K.length<=12:=by rw[hK.length_eq];exact hl
 refine ag (Yn (aF (by rw[R2];omega))) ?_;refine aM rfl ?_;rw[lp];refine aT (g:=λq=>[no q.1,.int q.2]) K.zipIdx (λq hq=>⟨_,rfl,?_⟩) ?_
 ·refine Hp (zx ?_)
  tm_at "w"
  refine⟨rfl,?_⟩
  tm_at "w"
  exact⟨rfl,rfl⟩
 obtain⟨d2,h2⟩:=zU (kf:=λq:(O×Nat)×Nat=>(q.1.2:Int)) (vf:=λq=>.int q.2) (l:=K.zipIdx) (by
  refine v9 (f:=λq:(O×Nat)×Nat=>q.1.2) ?_ λa b h=>by omega
  rw[show(K.zipIdx.map λq=>q.1.2)=K.map (·.2) by rw[<-List.zipIdx_map_fst 0 K,Ru,List.zipIdx_map_fst];rfl];exact(hK.map _).nodup_iff.mpr hn) (by rw[U2];omega)
 refine⟨aF (by rw[qB,U2];omega),?_⟩
 tm_at "w"
 refine ag h2 ?_
 tm_at "w"
 refine Ad ?_
 tm_at "w"
 refine ar (Gh hl) ?_
 tm_at "w"
 refine ar rfl ?_
 tm_at "w"
 refine kD ?_
 tm_at "w"
 refine aM rfl (ar rfl ?_);show aj _ (ex _ _ _ _ _)
 tm_at "w"
 exact am rfl ⟨rfl,rfl⟩
theorem xV{qs:List (Int×Int)}{t:Int}(hl:qs.length<=8):∃b,∀n m,cf (n+1) 32 [.t (.tup (qs.map pq)),.t (.int t)] m=.ok (.t (.bl b)) m:=by
 refine⟨(qs.map λq=>decide (q.1<=t)&&decide (t<q.2)).any id,λn m=>(ay (qT _ _ _) rfl ?_).eq⟩;unfold dZ
 tm_at "w"
 unfold iP;refine aC ?_
 tm_at "w"
 refine aM rfl ?_;refine aT (g:=λq=>[.bl (decide (q.1<=t)&&decide (t<q.2))]) qs (λq hq=>⟨_,rfl,?_⟩) ?_
 ·unfold iL
  tm_at "w"
  cases h:decide (q.1<=t)with
  |true =>
   tm_at "w"
   exact⟨rfl,rfl⟩
  |false =>
   tm_at "w"
   exact⟨rfl,rfl⟩
 ·rw[show(qs.flatMap λq=>[T.bl (decide (q.1<=t)&&decide (t<q.2))])=qs.map λq=>.bl (decide (q.1<=t)&&decide (t<q.2))from SD.symm]
  refine⟨aF (by rw[R2];omega),?_⟩
  tm_at "v"
  refine ag (JN (th _ _)) ?_;exact am rfl ⟨rfl,rfl⟩
end
noncomputable abbrev H(c:Option Cl)(ru:List (List Nat))(qs:List (Int×Int))(tm:T)(os:List O)(e:Int)(rs:List T)(r:Mem):Mem:=hm c (.tup (ru.map .str)) (.tup (qs.map pq)) tm (os.map O.t) (os.map lf) (os.map (endOf e)) rs r
theorem zH{e:Int}{os:List O}:(ws e os).Pairwise λa b=>a.2<b.2:=by
 refine List.Pairwise.sublist WC ?_;have h:(os.zipIdx.map (·.2)).Pairwise (·<·):=by rw[List.zipIdx_map_snd];exact List.pairwise_lt_range'
 exact SA.mp h
theorem Gx{e:Int}{os:List O}:((ws e os).map (·.2)).Nodup:=SA.mpr (zH.imp λh=>Rd h)
noncomputable def AB(p:O×Nat):T:=.tup [.str AV,.int p.1.al,.int p.2]
section
variable{n:Nat}{c:Option Cl}{ru:List (List Nat)}{qs:List (Int×Int)}{tm:T}{os:List O}{e t mo:Int}{rs:List T}{r:Mem}
theorem sV(hr:ru.length<=3)(hq:qs.length<=8)(hl:os.length<=12):cf (n+5) 55 [.c 2] (H c ru qs (.int t) os e rs r)=.ok (.t .non) (H c ru qs (.int t) os e rs r):=by
 refine(ay (oY _ _ _) rfl ?_).eq;unfold cU
 tm_at "w"
 obtain⟨b,hb⟩:=xV (t:=t) hq;refine ar (hb _ _) ?_
 tm_at "w"
 cases b with
 |true =>
  tm_at "w"
  exact cI aI ⟨rfl,rfl⟩
 |false =>
  tm_at "w"
  refine ar (cD hl) ?_
  tm_at "w"
  refine ar (FY hr (Rg i9 hl) Gx) ?_
  tm_at "w"
  refine Dq (I:=λj env m=>env=[Zz (.c 2),Zz (.t .non)]/\m=H c ru qs (.int t) os e rs r) ?_ (j:=0) (by decide) ⟨rfl,rfl⟩;rintro j _ _ ⟨rfl,rfl⟩
  tm_at "w"
  refine .inr ⟨rfl,?_⟩
  tm_at "w"
  exact ir aI ⟨rfl,rfl⟩
theorem DV(hl:os.length<=12)(hn:rs.length<=100)(he:e<mo)(hw:∀p∈ws e os,mo<=p.1.al):cf (n+2) 54 [.c 2] (H c ru qs (.int mo) os e rs r)=.ok (.t .non) (H c ru qs (.int mo) os mo (rs++((ws e os).filter λp=>p.1.al==mo).map AB) r):=by
 have h0:∀(j:Nat) (o:O),os[j]?=Zz o->(o,j)∉ws e os->endOf e o=endOf mo o:=λj o h q=>by
  have:o.al<=e:=YF.mp λz=>q (SN.mpr ⟨Sl.mpr h,Yq z⟩)
  unfold endOf;rw[Yn this,Yn (by omega)]
 refine(ay (nW _ _ _) rfl ?_).eq;unfold cx;refine kD ?_
 tm_at "w"
 refine ar (cD hl) ?_;refine aM rfl ?_;refine dH (I:=λts env M=>∃(D l:List (O×Nat)) (E:List T) (a b d:Option W),ts=l.map wT/\D++l=ws e os/\E.length=os.length/\(∀j o,os[j]?=Zz o->((o,j)∈l->E[j]?=Zz (endOf e o))/\((o,j)∉l->E[j]?=Zz (endOf mo o)))/\env=[Zz (.c 2),a,b,d]/\M=hm c (.tup (ru.map .str)) (.tup (qs.map pq)) (.int mo) (os.map O.t) (os.map lf) E (rs++(D.filter λp=>p.1.al==mo).map AB) r) ?_ _ _ _ ⟨[],ws e os,os.map (endOf e),Zy,Zy,Zy,rfl,rfl,R2 _,λj o h=>⟨λ_=>by rw[RR,h];rfl,λq=>by rw[RR,h];exact congrArg Zz (h0 j o h q)⟩,rfl,by rw[List.filter_nil,X3,Rh]⟩ ?_
 ·rintro t ts _ _ ⟨D,l,E,a,b,d,e1,hD,hE,hj,rfl,rfl⟩
  rcases l with _|⟨⟨o,k⟩,l⟩
  ·cases e1
  obtain⟨rfl,rfl⟩:=UN e1;have hm':(o,k)∈ws e os:=by rw[<-hD];exact U4 _ R9
  have h1:os[k]?=Zz o:=(oP hm').1;have h2:e<o.al:=(oP hm').2;have h3:mo<=o.al:=hw _ hm';have hk:k<E.length:=by rw[hE];exact(R8.mp h1).1
  have nl:∀{x:O},(x,k)∉l:=λhx=>by
   have:=zH (e:=e) (os:=os);rw[<-hD]at this;have:=(SQ.mp (W0.mp this).2.1).1 _ hx;exact S7 _ this
  have hd:D.length<=12:=by
   have:=congrArg Vz hD;rw[RD]at this;have:=i9 (e:=e) (os:=os);omega
  refine⟨_,rfl,?_⟩;unfold fV O.t
  tm_at "w"
  have hf:(D++[(o,k)]).filter (λp=>p.1.al==mo)=D.filter (λp=>p.1.al==mo)++if(o.al==mo)=true then[(o,k)]else[]:=by rw[VH,Vq];rfl
  cases q:o.al==mo with
  |true =>
   refine bS q ?_;have q':o.al=mo:=by simpa using q
   tm_at "w"
   refine II (q:=k) ?_ ?_
   ·unfold gM;rw[Yn (by omega),Yn (by omega)];rfl
   tm_at "w"
   refine⟨rfl,?_⟩
   tm_at "w"
   refine y_row (by rw[RD,R2];have:=SR (λp:O×Nat=>p.1.al==mo) D;omega) ?_
   tm_at "w"
   refine⟨D++[(o,k)],l,E.set k (.tup [.str AV,.int mo]),_,_,_,rfl,by rw[S9];exact hD,by rw[SI];exact hE,λj x hx=>?_,rfl,?_⟩
   ·by_cases hkj:k=j
    ·subst hkj
     rw[h1]at hx;cases hx;refine⟨λz=>Ys z nl,λ_=>?_⟩;rw[Ri hk];unfold endOf;rw[Yn (by omega),q']
    ·rw[Rc hkj]
     refine⟨λz=>(hj j x hx).1 (R4 _ z),λz=>(hj j x hx).2 λz'=>?_⟩;rcases R6.mp z' with z'|z'
     ·cases z';exact hkj rfl
     ·exact z z'
   ·rw[hf,q,Yn rfl,SL,<-S9]
    unfold AB;rw[Rf,q'];rfl
  |false =>
   refine bi q ?_;have q':o.al≠mo:=by simpa using q
   tm_at "w"
   refine⟨D++[(o,k)],l,_,_,_,_,rfl,by rw[S9];exact hD,hE,λj x hx=>?_,rfl,by rw[hf,q,Yo RK,Rh]⟩;refine⟨λz=>(hj j x hx).1 (R4 _ z),λz=>?_⟩;by_cases hkj:k=j
   ·subst hkj
    rw[h1]at hx;cases hx;rw[(hj k o h1).1 R9];unfold endOf;rw[Yo (by omega),Yo (by omega)]
   ·exact(hj j x hx).2 λz'=>by
     rcases R6.mp z' with z'|z'
     ·cases z';exact hkj rfl
     ·exact z z'
 ·rintro _ _ ⟨D,l,E,a,b,d,e1,hD,hE,hj,rfl,rfl⟩
  cases V6.mp e1.symm;rw[Rh]at hD;subst hD;have e2:E=os.map (endOf mo):=by
   apply VV;intro j;rw[RR];cases h:os[j]? with
   |none=>rw[Uk (by rw[hE];exact V5.mp h)];rfl
   |some o=>exact(hj j o h).2 RG
  subst e2;show aj _ (ex _ _ _ _ (H c ru qs (.int mo) os mo _ r))
  tm_at "w"
  exact ir aI ⟨rfl,rfl⟩
noncomputable def ahead(tm:T)(e:Int)(os:List O)(qs:List (Int×Int)):List Int:=((ws e os).map (·.1.al)++qs.map (·.2)).filter λx=>match tm with
 |.int s=>decide (s<x)
 |_=>true
noncomputable def gR(tm:T)(t e:Int)(os:List O)(qs:List (Int×Int)):List Int:=(ahead tm e os qs).filter λx=>decide (x<=t)
noncomputable def Kt:List Int->T
 |[]=>.non
 |n::r=>.int (eU n r)
theorem zD(htm:tm=.non∨∃s,tm=.int s)(hq:qs.length<=8)(hl:os.length<=12):cf (n+2) 53 [.c 2,.t (.int t)] (H c ru qs tm os e rs r)=.ok (.t (Kt (gR tm t e os qs))) (H c ru qs tm os e rs r):=by
 have hw:=Rg (i9 (e:=e)) hl;refine(ay (jh _ _ _) rfl ?_).eq;unfold bo
 tm_at "w"
 unfold dm;refine aC ?_
 tm_at "w"
 refine ar (cD hl) ?_;refine aM rfl ?_;refine aT (g:=λp=>[.int p.1.al]) (ws e os) (λp hp=>⟨_,rfl,?_⟩) ?_
 ·unfold du O.t
  tm_at "w"
  exact⟨rfl,rfl⟩
 rw[show((ws e os).flatMap λp=>[T.int p.1.al])=((ws e os).map (·.1.al)).map .int by rw[<-SD,Ru];rfl];refine⟨aF (by rw[R2,R2];omega),?_⟩
 tm_at "w"
 unfold dh;refine aC ?_;show aj _ (ev _ _ _ _ (H c ru qs tm os e rs r))
 tm_at "w"
 refine aM rfl ?_;refine aT (g:=λq=>[.int q.2]) qs (λp hp=>⟨_,rfl,?_⟩) ?_
 ·unfold di
  tm_at "w"
  exact⟨rfl,rfl⟩
 rw[show(qs.flatMap λp=>[T.int p.2])=(qs.map (·.2)).map .int by rw[<-SD,Ru];rfl];refine⟨aF (by rw[R2,R2];omega),?_⟩
 tm_at "w"
 unfold dk;refine aC ?_
 tm_at "w"
 refine ag (uU (by simp only[R2];exact Rg (m:=20) (by omega) (by decide))) ?_;refine aM rfl ?_;rw[<-SL];refine aT (g:=λx=>if(match tm with|.int s=>decide (s<x)|_=>true)=true then[.int x]else[]) _ (λx hx=>⟨_,rfl,?_⟩) ?_
 ·unfold dw
  show aj _ (qR _ _ _ _ _ (H c ru qs tm os e rs r));rcases htm with rfl|⟨s,rfl⟩
  ·tm_at "w"
   exact⟨rfl,rfl⟩
  ·tm_at "w"
   cases h:decide (s<x)with
   |true =>
    refine bS h ?_
    tm_at "w"
    exact⟨(Yn h).symm,rfl⟩
   |false =>
    refine bi h ?_;exact .ok ⟨(Yo (VW.mp h)).symm,rfl⟩
 rw[bH];have hA:(ahead tm e os qs).length<=20:=by
  refine Rg (SR _ _) ?_;rw[RD,R2,R2];omega
 show((ahead tm e os qs).map T.int).length<=lim/\_;refine⟨aF (by rw[R2];omega),?_⟩
 tm_at "w"
 unfold dg;refine aC ?_
 tm_at "w"
 refine aM rfl ?_;refine aT (g:=λx=>if decide (x<=t)then[.int x]else[]) (ahead tm e os qs) (λx hx=>⟨_,rfl,?_⟩) ?_
 ·unfold dq
  tm_at "w"
  cases h:decide (x<=t)with
  |true =>
   tm_at "w"
   exact⟨rfl,rfl⟩
  |false =>
   tm_at "w"
   exact⟨rfl,rfl⟩
 rw[bH];show((gR tm t e os qs).map T.int).length<=lim/\_;have hB:(gR tm t e os qs).length<=20:=Rg (SR _ _) hA;refine⟨aF (by rw[R2];omega),?_⟩
 tm_at "v"
 refine ag (t:=Kt (gR tm t e os qs)) ?_ ?_
 ·show(eG ((gR tm t e os qs).map T.int)).bind _=_
  rw[jF];cases gR tm t e os qs<;>rfl
 exact cI aI ⟨rfl,rfl⟩
end
noncomputable def key(p:O×Nat):List Int:=[p.1.al,p.2]
noncomputable def kZ(e:Int)(os:List O):List (List Int):=(os.zipIdx.filter λp=>decide (p.1.al<=e)).map key
noncomputable def CT(k:List Int):T:=.tup (.str AV::k.map .int)
noncomputable def outs(e:Int)(os:List O):List T:=(sortI (kZ e os)).map CT
theorem jZ:∀(ns:List Int) (n:Int),(∀x∈n::ns,eU n ns<=x)/\eU n ns∈n::ns
 |[],n=>⟨λx hx=>by cases RH.mp hx;exact Wf _,R9⟩
 |a::r,n=>by
  have e:eU n (a::r)=eU (if a<n then a else n) r:=rfl;obtain⟨h1,h2⟩:=jZ r (if a<n then a else n);rw[e];have h0:=h1 _ R9;refine⟨λx hx=>?_,?_⟩
  ·rcases R6.mp hx with rfl|hx
   ·split at h0<;>split<;>omega
   ·rcases R6.mp hx with rfl|hx
    ·split at h0<;>split<;>omega
    ·exact h1 x (R4 _ hx)
  ·rcases R6.mp h2 with h|h
   ·rw[h]
    split
    ·exact R4 _ R9
    ·exact R9
   ·exact R4 _ (R4 _ h)
section
variable{os:List O}{e mo:Int}
theorem AJ(he:e<mo)(hw:∀p∈ws e os,mo<=p.1.al):outs mo os=outs e os++((ws e os).filter λp=>p.1.al==mo).map AB:=by
 have hz:∀p∈os.zipIdx,e<p.1.al->mo<=p.1.al:=λp hp h=>hw p (SN.mpr ⟨hp,Yq h⟩)
 have e1:(os.zipIdx.filter λp=>decide (p.1.al<=e))=(os.zipIdx.filter λp=>decide (p.1.al<=mo)).filter λp=>decide (p.1.al<=e):=by
  rw[Uc];refine UG λp hp=>?_
  rw[W6,RJ,decide_eq_true_eq,decide_eq_true_eq];omega
 have e2:((ws e os).filter λp=>p.1.al==mo)=(os.zipIdx.filter λp=>decide (p.1.al<=mo)).filter λp=>!decide (p.1.al<=e):=by
  unfold ws;rw[Uc,Uc];refine UG λp hp=>?_
  have:=hz p hp;rw[W6,RJ,RJ,Vb,decide_eq_false_iff_not,decide_eq_true_eq,decide_eq_true_eq,beq_iff_eq];omega
 have e3:(((ws e os).filter λp=>p.1.al==mo).map AB)=(((ws e os).filter λp=>p.1.al==mo).map key).map CT:=by rw[Ru];rfl
 unfold outs;rw[e3,<-SL];refine congrArg (Yj CT) (lJ ?_ ?_).symm
 ·refine((sortI_perm _).append_right _).trans ?_
  unfold kZ;rw[e1,e2,<-SL];exact(List.filter_append_perm _ _).map _
 ·refine W0.mpr ⟨rf _,?_,λa ha b hb=>?_⟩
  ·refine SA.mpr ?_
   have h1:((ws e os).filter λp=>p.1.al==mo).Pairwise λa b=>a.2<b.2:=zH.sublist WC
   have h2:∀p∈((ws e os).filter λp=>p.1.al==mo),p.1.al=mo:=λp hp=>by simpa using(SN.mp hp).2
   refine h1.imp_of_mem λ{a b} ha hb h=>?_
   show(if b.1.al=a.1.al then bj [(b.2:Int)] [(a.2:Int)]else decide (b.1.al<a.1.al))=false;rw[Yn (by rw[h2 a ha,h2 b hb])];show(if(b.2:Int)=a.2 then false else decide ((b.2:Int)<a.2))=false;rw[Yo (by omega),Yp (by omega)]
  ·obtain⟨p,hp,rfl⟩:=RX.mp ((sortI_perm _).mem_iff.mp ha)
   obtain⟨q,hq,rfl⟩:=RX.mp hb;have h1:p.1.al<=e:=by simpa using(SN.mp hp).2
   have h2:q.1.al=mo:=by simpa using(SN.mp hq).2
   show(if q.1.al=p.1.al then bj [(q.2:Int)] [(p.2:Int)]else decide (q.1.al<p.1.al))=false;rw[Yo (by omega),Yp (by omega)]
theorem BY(h:e<=mo)(hw:∀p∈ws e os,mo<p.1.al):outs mo os=outs e os/\os.map (endOf mo)=os.map (endOf e):=by
 have hz:∀p∈os.zipIdx,(p.1.al<=mo↔p.1.al<=e):=λp hp=>⟨λz=>YF.mp λy=>by have:=hw p (SN.mpr ⟨hp,Yq y⟩);omega,λz=>by omega⟩
 refine⟨?_,?_⟩
 ·unfold outs kZ
  rw[UG λp hp=>decide_eq_decide.mpr (hz p hp)]
 ·refine UO λo ho=>?_
  obtain⟨k,hk⟩:=W1 ho;have:o.al<=mo↔o.al<=e:=hz (o,k) (Sl.mpr hk);unfold endOf;by_cases y:o.al<=e
  ·rw[Yn y,Yn (this.mpr y)]
  ·rw[Yo y,Yo (mt this.mp y)]
end
def At(tm:T)(e:Int)(os:List O):Prop:=tm=.int e∨(tm=.non/\os=[])
section
variable{n:Nat}{c:Option Cl}{ru:List (List Nat)}{qs:List (Int×Int)}{tm:T}{os:List O}{e t mo:Int}{cs rs:List T}{r:Mem}
theorem AK{ns:List Int}{x:Int}(ha:At tm e os)(h:gR tm t e os qs=x::ns):mo=eU x ns->(tm=.int e->e<mo)/\mo<=t/\(∀p∈ws e os,mo<=p.1.al)/\(gR (.int mo) t mo os qs).length<(gR tm t e os qs).length:=by
 rintro rfl;obtain⟨h1,h2⟩:=jZ ns x;rw[<-h]at h1 h2;generalize eU x ns=mo at h1 h2;have h3:=SN.mp h2;have ht:mo<=t:=Yt h3.2;have h4:=SN.mp h3.1;have h5:∀s,tm=.int s->s<mo:=λs q=>by have:=h4.2;rw[q]at this;exact Yt this
 have hw:∀p∈ws e os,mo<=p.1.al:=λp hp=>by
  rcases ha with ha|⟨_,ha⟩
  ·refine YF.mp λz=>?_
   have:=h1 p.1.al (SN.mpr ⟨SN.mpr ⟨TG _ (RX.mpr ⟨p,hp,rfl⟩),by rw[ha];exact Yq (oP hp).2⟩,Yq (by omega)⟩);omega
  ·subst ha;cases hp
 refine⟨h5 e,ht,hw,?_⟩;have e1:gR (.int mo) t mo os qs=(gR tm t e os qs).filter λx=>decide (mo<x):=by
  rcases ha with rfl|⟨rfl,rfl⟩
  ·have:=h5 e rfl
   unfold gR ahead ws;simp only[VH,Uc,List.filter_map];refine congr (congrArg _ (congrArg _ (UG λp hp=>?_))) (congrArg _ (UG λp hp=>?_))<;>(rw[W6];simp only[Function.comp,RJ,decide_eq_true_eq];omega)
  ·unfold gR ahead ws
   simp only[VH,Uc,List.filter_map];refine congrArg _ (congrArg _ (UG λp hp=>?_));show(decide (p.2<=t)&&decide (mo<p.2))=(decide (mo<p.2)&&(decide (p.2<=t)&&true))
   rw[Bool.and_true,Bool.and_comm]
 rw[e1];exact List.length_filter_lt_length_iff_exists.mpr ⟨mo,h2,by simp⟩
theorem A5(ha:At tm e os)(h:gR tm t e os qs=[]):∀p∈ws e os,t<p.1.al:=λp hp=>by
 rcases ha with ha|⟨_,ha⟩
 ·refine Int.not_le.mp λz=>?_
  have:p.1.al∈gR tm t e os qs:=SN.mpr ⟨SN.mpr ⟨TG _ (RX.mpr ⟨p,hp,rfl⟩),by rw[ha];exact Yq (oP hp).2⟩,Yq z⟩;rw[h]at this;cases this
 ·subst ha;cases hp
theorem Cn(hq:qs.length<=8)(hl:os.length<=12):(gR tm t e os qs).length<=20:=by
 refine Rg (SR _ _) (Rg (SR _ _) ?_);rw[RD,R2,R2];have:=i9 (e:=e) (os:=os);omega
theorem wc:(outs e os).length<=os.length:=by
 unfold outs kZ;rw[R2,(sortI_perm _).length_eq,R2];exact Rg (SR ..) (by rw[U2];exact RO _)
theorem qL(hr:ru.length<=3)(hq:qs.length<=8)(hl:os.length<=12)(hc:cs.length<=12)(h0:0<=t)(h1:t<=1000000000)(ha:At tm e os)(ht:tm=.int e->e<=t):
  cf (n+6) 52 [.c 2,.t (.int t)] (H c ru qs tm os e (cs++outs e os) r)=.ok (.t .non) (H c ru qs (.int t) os t (cs++outs t os) r):=by
 have hat:∀{tm e},At tm e os->tm=.non∨∃s,tm=.int s:=λh=>by
  rcases h with h|⟨h,_⟩
  ·exact .inr ⟨_,h⟩
  ·exact .inl h
 refine(ay (rH _ _ _) rfl ?_).eq;unfold dY
 tm_at "w"
 refine ar (pN h0 h1) ?_
 tm_at "w"
 have start:aj (λfl m'=>aj (λy m'=>y=.t .non/\m'=H c ru qs (.int t) os t (cs++outs t os) r) (fin (H c ru qs tm os e (cs++outs e os) r).length false fl m')) (ex (cf (n+5)) gv (.asg 2 (.aZ 631 (.var 0) "next_moment" 53 (.cons (.var 1) .nil)) (.ye (.cmp .IsNot (.var 2) (.con .non)) eE (.GR 631 (.var 0) "time" (.var 1) .done))) [Zz (.c 2),Zz (.t (.int t)),Zy] (H c ru qs tm os e (cs++outs e os) r)):=by
  tm_at "w"
  refine ar (zD (hat ha) hq hl) ?_;refine Dq (I:=λj env M=>∃tm e,At tm e os/\(tm=.int e->e<=t)/\env=[Zz (.c 2),Zz (.t (.int t)),Zz (.t (Kt (gR tm t e os qs)))]/\M=H c ru qs tm os e (cs++outs e os) r/\j=(gR tm t e os qs).length) ?_ (j:=(gR tm t e os qs).length) (Si (Cn hq hl) (by decide)) ⟨tm,e,ha,ht,rfl,rfl,rfl⟩;rintro j _ _ ⟨tm,e,ha,ht,rfl,rfl,rfl⟩
  tm_at "v"
  cases h:gR tm t e os qs with
  |nil =>
   have h2:=A5 ha h;refine ag rfl (.inr ⟨rfl,?_⟩)
   tm_at "w"
   refine ir aI ⟨rfl,?_⟩;rcases ha with ha|⟨_,ha⟩
   ·obtain⟨e1,e2⟩:=BY (ht ha) h2
    show hm ..=hm ..;rw[e1,e2]
   ·subst ha;rfl
  |cons x ns =>
   obtain⟨g1,g2,g3,g4⟩:=AK ha h rfl;generalize hmo:eU x ns=mo at g1 g2 g3 g4;have e1:outs mo os=outs e os++((ws e os).filter λp=>p.1.al==mo).map AB:=by
    rcases ha with ha|⟨_,ha⟩
    ·exact AJ (g1 ha) g3
    ·subst ha;rfl
   have e2:cf (n+5) 54 [.c 2] (H c ru qs (.int mo) os e (cs++outs e os) r)=.ok (.t .non) (H c ru qs (.int mo) os mo (cs++outs mo os) r):=by
    rw[e1,<-S9];have:(cs++outs e os).length<=100:=by rw[RD];have:=wc (e:=e) (os:=os);omega
    rcases ha with ha|⟨_,ha⟩
    ·exact DV hl this (g1 ha) g3
    ·subst ha
     exact DV (e:=mo-1) hl this (by omega) λp hp=>by cases hp
   refine ag rfl (.inl ⟨rfl,?_⟩);unfold eE;rw[show Kt (x::ns)=.int mo from congrArg T.int hmo]
   tm_at "w"
   refine ar e2 ?_
   tm_at "w"
   refine ar (sV hr hq hl) ?_
   tm_at "w"
   refine ar (zD (.inr ⟨mo,rfl⟩) hq hl) ?_
   tm_at "w"
   exact⟨_,(by rw[h]at g4;exact g4),_,_,.inl rfl,λ_=>g2,rfl,rfl,rfl⟩
 rcases ha with rfl|⟨rfl,_⟩
 ·tm_at "w"
  exact bi (Yp (by have:=ht rfl;omega)) (y_done (G1 start))
 ·refine ag (t:=.bl false) rfl ?_
  iterate 5 tm_at "s"
  exact start
end
def Dp(d:Nat)(t:T):Prop:=∀n,d<=n->aW n t=true
theorem kT{n:Nat}:∀{ts:List T},bE n ts=true↔∀t∈ts,aW n t=true
 |[]=>⟨λ_ _ h=>(RG h).elim,λ_=>rfl⟩
 |t::ts=>by
  show(aW n t&&bE n ts)=true↔_;rw[RJ,kT (ts:=ts)];exact(Rn (p:=λx=>aW n x=true)).symm
theorem cT{d:Nat}{ts:List T}(h:∀x∈ts,Dp d x):Dp (d+1) (.tup ts):=λn hn=>by
 obtain⟨m,rfl⟩:∃m,n=m+1:=⟨n-1,by omega⟩
 exact kT.mpr λx hx=>h x hx m (by omega)
theorem rg{d:Nat}{ts:List T}(h:∀x∈ts,Dp d x):Dp (d+1) (.lst ts):=λn hn=>by
 obtain⟨m,rfl⟩:∃m,n=m+1:=⟨n-1,by omega⟩
 exact kT.mpr λx hx=>h x hx m (by omega)
theorem c6{d:Nat}{i:Int}:Dp d (.int i):=λn _=>by cases n<;>rfl
theorem Hd{d:Nat}:Dp d .non:=λn _=>by cases n<;>rfl
theorem gJ{d:Nat}{cs:List Nat}(h:(cs.all λc=>decide (c<1114112))=true):Dp d (.str cs):=λn _=>by
 have:PySem.PyData.strOk ⟨cs.toArray⟩=true:=by rw[<-h];exact List.all_toArray ..
 cases n<;>exact this
theorem jK{d:Nat}{cs:List Nat}(h:gY cs=true):Dp d (.str cs):=gJ (by
 simp only[gY,RJ,SC]at h ⊢;intro c hc;have h1:=h.2.2.2 c hc;rw[decide_eq_true_eq]at h1;obtain⟨k,hk,rfl⟩:=RX.mp h1;have:=Ur.mp hk;exact Yq (by omega))
theorem bQ{d e:Nat}{t:T}(h:Dp d t)(he:d<=e):Dp e t:=λn hn=>h n (Rg he hn)
theorem Fi{d:Nat}{t:T}(g:GW d t):Dp (2*d+1) t:=by
 induction g with
 |any=>exact bQ (d:=1) (cT (d:=0) λx hx=>by cases RH.mp hx;exact gJ (by decide)) (by omega)
 |w1 ha hw =>
  refine bQ (d:=1) (cT (d:=0) ?_) (by omega);simp only[R6,RG,or_false,forall_eq_or_imp,forall_eq];exact⟨by rcases ha with rfl|rfl<;>exact gJ (by decide),jK hw⟩
 |w2 ha hw h0 h1 =>
  refine bQ (d:=1) (cT (d:=0) ?_) (by omega);simp only[R6,RG,or_false,forall_eq_or_imp,forall_eq];exact⟨by rcases ha with rfl|rfl<;>exact gJ (by decide),jK hw,c6⟩
 |nt h ih =>
  refine bQ (cT (d:=2*_+1) ?_) (Tf _);simp only[R6,RG,or_false,forall_eq_or_imp,forall_eq];exact⟨gJ (by decide),ih⟩
 |jn ha h2 h3 h ih =>
  refine cT (d:=2*_+1+1) ?_;simp only[R6,RG,or_false,forall_eq_or_imp,forall_eq];exact⟨by rcases ha with rfl|rfl<;>exact gJ (by decide),cT ih⟩
theorem vB{o:O}(h:o.Ok):Dp 6 o.t:=by
 refine cT ?_;simp only[R6,RG,or_false,forall_eq_or_imp,forall_eq];refine⟨gJ (by decide),bQ (cT (d:=2) ?_) (by decide),Fi h.w,c6,c6,c6,c6⟩;simp only[R6,RG,or_false,forall_eq_or_imp,forall_eq];refine⟨jK (lI _ h.nm),gJ (by decide),bQ (cT (d:=0) λx hx=>?_) (by decide),cT λx hx=>?_⟩
 ·obtain⟨w,hw,rfl⟩:=RX.mp hx
  exact jK (h.ks.2.1 w hw)
 ·obtain⟨p,hp,rfl⟩:=RX.mp hx
  have hw:=h.zs.1.2.1 _ (RX.mpr ⟨p,hp,rfl⟩);refine cT (d:=0) λy hy=>?_
  rcases R6.mp hy with rfl|hy
  ·exact jK hw
  ·cases RH.mp hy;exact c6
theorem wH:∀(n:Nat) (t:T),aW n t=true->eqT t t=true:=by
 intro n
 induction n with
 |zero =>
  intro t h;cases t with
  |bl b=>exact beq_self_eq_true b
  |int i=>exact beq_self_eq_true i
  |str s=>exact beq_self_eq_true s
  |non=>rfl
  |_=>exact(RK h).elim
 |succ n ih =>
  have hl:∀ts:List T,bE n ts=true->wY ts ts=true:=by
   intro ts
   induction ts with
   |nil=>intro _;rfl
   |cons t ts iht =>
    intro h;have h:=(RJ _ _).mp h;show(eqT t t&&wY ts ts)=true;rw[ih t h.1,iht h.2];rfl
  intro t h;cases t with
  |tup ts=>exact hl ts h
  |lst ts=>exact hl ts h
  |bl b=>exact beq_self_eq_true b
  |int i=>exact beq_self_eq_true i
  |str s=>exact beq_self_eq_true s
  |non=>rfl
  |_=>exact(RK h).elim
theorem jJ{t:T}(h:Dp 50 t):j9 .NotEq t t=Zz false:=by
 have h:=h 60 (by decide);show(if(tG t t || (aW 60 t&&aW 60 t))=true then Zz (!eqT t t)else Zy)=_;rw[h,Bool.true_and,Xs,Yn rfl,wH 60 t h];rfl
theorem eq_self{t:T}(h:Dp 50 t):j9 .Eq t t=Zz true:=by
 have h:=h 60 (by decide);show(if(tG t t || (aW 60 t&&aW 60 t))=true then Zz (eqT t t)else Zy)=_;rw[h,Bool.true_and,Xs,Yn rfl,wH 60 t h]
noncomputable def GY:List Nat:=[99,111,109,101]
noncomputable def HN(t:Int)(o:O)(k:Nat):T:=.tup [.str GY,.int t,o.t,.int k]
section
variable{n:Nat}{c:Option Cl}{ru:List (List Nat)}{qs:List (Int×Int)}{tm:T}{os:List O}{e t:Int}{cs rs:List T}{r:Mem}{o:O}
theorem p5{m:Mem}:cf (n+1) 18 [.t o.t] m=.ok (.t (.str o.nm)) m:=by
 refine(ay (xH _ _ _) rfl ?_).eq;unfold jL O.t p6
 tm_at "w"
 exact am rfl ⟨rfl,rfl⟩
theorem vE{nm:List Nat}(hl:os.length<=12)(h:∀p∈ws e os,p.1.nm≠nm):cf (n+2) 48 [.c 2,.t (.str nm)] (H c ru qs tm os e rs r)=.ok (.t .non) (H c ru qs tm os e rs r):=by
 refine(ay (qZ _ _ _) rfl ?_).eq;unfold dG
 tm_at "w"
 refine kD ?_
 tm_at "w"
 refine ar (cD hl) ?_;refine aM rfl ?_;refine dH (I:=λts env M=>M=H c ru qs tm os e rs r/\∃(l:List (O×Nat)) (a b d:Option W),ts=l.map wT/\(∀p∈l,p∈ws e os)/\env=[Zz (.c 2),Zz (.t (.str nm)),a,b,d]) ?_ _ _ _ ⟨rfl,ws e os,Zy,Zy,Zy,rfl,λp h=>h,rfl⟩ ?_
 ·rintro t ts _ _ ⟨rfl,l,a,b,d,e1,hp,rfl⟩
  rcases l with _|⟨p,l⟩
  ·cases e1
  obtain⟨rfl,rfl⟩:=UN e1;refine⟨_,rfl,?_⟩;unfold iO
  tm_at "w"
  refine ar (p5 (o:=p.1)) ?_
  tm_at "w"
  refine bi (beq_false_of_ne (h p (hp p R9))) ?_
  tm_at "w"
  exact⟨rfl,l,_,_,_,rfl,λq hq=>hp q (R4 _ hq),rfl⟩
 ·rintro _ _ ⟨rfl,l,a,b,d,e1,hp,rfl⟩
  show aj _ (ex _ _ _ _ (H c ru qs tm os e rs r))
  tm_at "w"
  exact cI aI ⟨rfl,rfl⟩
theorem Fb(hr:ru.length<=3)(hq:qs.length<=8)(hl:os.length<12)(hc:cs.length=os.length)(h0:0<=t)(h1:t<=1000000000)(ha:At tm t os)(hw:∀x∈os,t<x.al)(ho:o.Ok)(ht:t<o.al)(hn:∀x∈os,x.nm≠o.nm):
  aj (λ_ m'=>m'=H c ru qs (.int t) (os++[o]) t (cs++[HN t o os.length]) r) (cf (n+8) 36 [.c 2,.t (.int t),.t o.t] (H c ru qs tm os t cs r)):=by
 have hos:outs t os=[]:=by
  unfold outs kZ;rw[List.filter_eq_nil_iff.mpr λp hp=>by
   have:=hw p.1 (Rj (Sl.mp hp));rw[decide_eq_true_eq];omega]
  rfl
 refine ay (sw _ _ _) rfl ?_;unfold fq
 tm_at "w"
 refine ay (rF _ _ _) rfl ?_;unfold dJ
 tm_at "w"
 refine ar (D3 ho) ?_
 tm_at "w"
 refine ir aI ?_
 tm_at "w"
 have hre:=qL (n:=n+1) (c:=c) (r:=r) (cs:=cs) (e:=t) hr hq (Sb hl) (by omega) h0 h1 ha λ_=>Wf _
 rw[hos,Rh]at hre;refine ar hre ?_
 tm_at "w"
 refine ar p5 ?_
 tm_at "w"
 refine ar (vE (Sb hl) λp hp=>hn p.1 (Rj (oP hp).1)) ?_
 tm_at "w"
 refine ay (r8 _ _ _) rfl ?_;unfold eY
 tm_at "w"
 refine bi (Yp (by omega)) ?_
 tm_at "w"
 refine ir aI ?_
 tm_at "w"
 refine ar (cD (Sb hl)) ?_
 tm_at "w"
 refine bi (Yp (by rw[R2];have:=i9 (e:=t) (os:=os);omega)) ?_
 tm_at "w"
 refine ay (nK _ _ _) rfl ?_;unfold cr
 tm_at "w"
 refine⟨rfl,?_⟩
 tm_at "w"
 refine IY (by rw[R2];omega) ?_
 tm_at "w"
 refine⟨rfl,?_⟩
 tm_at "w"
 refine HH (by rw[R2];omega) ?_
 tm_at "w"
 refine⟨rfl,?_⟩
 tm_at "w"
 refine JW (by rw[R2];omega) ?_
 tm_at "w"
 refine ay (qk _ _ _) rfl ?_;unfold dR
 tm_at "w"
 refine⟨rfl,?_⟩
 tm_at "w"
 refine y_row (by omega) ?_;have e1:hm c (.tup (ru.map .str)) (.tup (qs.map pq)) (.int t) (os.map O.t++[o.t]) (os.map lf++[.int o.many]) (os.map (endOf t)++[.non]) (cs++[.tup [.str [99,111,109,101],.int t,o.t,.int (os.map O.t).length]]) r=H c ru qs (.int t) (os++[o]) t (cs++[HN t o os.length]) r:=by
  have:endOf t o=.non:=Yo (by omega);simp only[H,SL,Rf,X3,this,R2];rfl
 tm_at "w"
 rw[e1];refine ar (sV hr hq (by rw[RD];show _+1<=12;omega)) ?_
 tm_at "w"
 refine ir aI ?_
 tm_at "w"
 refine cI aI ?_;refine cI aI rfl
theorem Eo{nm:List Nat}(hl:os.length<=12)(h:∀p∈ws e os,p.1.nm≠nm):cf (n+3) 49 [.c 2,.t (.str nm)] (H c ru qs tm os e rs r)=.exc ⟨176,[],[]⟩ (H c ru qs tm os e rs r):=by
 rw[rm];show(ex (cf (n+2)) gv bD [Zz (.c 2),Zz (.t (.str nm)),Zy] (H c ru qs tm os e rs r)).bind _=_;have key:ex (cf (n+2)) gv bD [Zz (.c 2),Zz (.t (.str nm)),Zy] (H c ru qs tm os e rs r)=.exc ⟨176,[],[]⟩ (H c ru qs tm os e rs r):=by
  unfold bD;rw[uj];refine iy ?_
  tm_at "w"
  refine ar (vE hl h) ?_;rw[qW];refine iy ?_
  tm_at "w"
  rfl
 rw[key];rfl
theorem Ij{nm:List Nat}(hr:ru.length<=3)(hq:qs.length<=8)(hl:os.length<=12)(hc:cs.length<=12)(h0:0<=t)(h1:t<=1000000000)(h:∀p∈ws t os,p.1.nm≠nm):cf (n+7) 37 [.c 2,.t (.int t),.t (.str nm)] (H c ru qs (.int t) os t (cs++outs t os) r)=.exc ⟨176,[],[]⟩ (H c ru qs (.int t) os t (cs++outs t os) r):=by
 rw[uP];show(ex (cf (n+6)) gv cG [Zz (.c 2),Zz (.t (.int t)),Zz (.t (.str nm))] (H c ru qs (.int t) os t (cs++outs t os) r)).bind _=_;have kn:ev (cf (n+6)) gv (.aZ 631 (.var 0) "known" 49 (.cons (.var 2) .nil)) [Zz (.c 2),Zz (.t (.int t)),Zz (.t (.str nm))] (H c ru qs (.int t) os t (cs++outs t os) r)=.exc ⟨176,[],[]⟩ (H c ru qs (.int t) os t (cs++outs t os) r):=by
  rw[lW];refine iy ?_
  tm_at "w"
  show(evs _ _ _ _ _).bind _=_;refine iy ?_
  tm_at "w"
  exact Eo hl h
 have key:ex (cf (n+6)) gv cG [Zz (.c 2),Zz (.t (.int t)),Zz (.t (.str nm))] (H c ru qs (.int t) os t (cs++outs t os) r)=.exc ⟨176,[],[]⟩ (H c ru qs (.int t) os t (cs++outs t os) r):=by
  unfold cG;rw[pO];refine iy ?_
  tm_at "w"
  refine ar (qL hr hq hl hc h0 h1 (.inl rfl) λ_=>Wf _) ?_;rw[yn];refine iy ?_
  tm_at "w"
  refine iy ?_
  tm_at "w"
  rw[kn];rfl
 rw[key];rfl
theorem xx{nm:List Nat}(hr:ru.length<=3)(hq:qs.length<=8)(hl:os.length<=12)(hc:cs.length<=12)(h0:0<=t)(h1:t<=1000000000)(h:∀p∈ws t os,p.1.nm≠nm):cf (n+8) 67 [.c 2,.t (.int t),.t (.str nm)] (H c ru qs (.int t) os t (cs++outs t os) r)=.ok (.t (.bl true)) (H c ru qs (.int t) os t (cs++outs t os) r):=by
 refine(ay (vx _ _ _) rfl ?_).eq;unfold iq
 tm_at "w"
 refine J5 (z:=⟨176,[],[]⟩) (M:=H c ru qs (.int t) os t (cs++outs t os) r) ?_ (by decide) ?_
 ·unfold mB
  rw[pO];have e:ev (cf (n+7)) gv (.aZ 631 (.var 0) "off" 37 (.cons (.var 1) (.cons (.var 2) .nil))) [Zz (.c 2),Zz (.t (.int t)),Zz (.t (.str nm)),Zz (.t (.bl false))] (H c ru qs (.int t) os t (cs++outs t os) r)=.exc ⟨176,[],[]⟩ (H c ru qs (.int t) os t (cs++outs t os) r):=by
   rw[lW];refine iy ?_
   tm_at "w"
   show(evs _ _ _ _ _).bind _=_;refine iy ?_
   tm_at "w"
   exact Ij hr hq hl hc h0 h1 h
  show(ev (cf (n+7)) gv _ [Zz (.c 2),Zz (.t (.int t)),Zz (.t (.str nm)),Zz (.t (.bl false))] _).bind _=_;rw[e];rfl
 ·unfold lT
  tm_at "w"
  exact cI aI ⟨rfl,rfl⟩
theorem nM{k:Nat}(hl:os.length<=12)(hk:k<os.length):cf (n+3) 47 [.c 2,.t (.int k)] (H c ru qs tm os e rs r)=.ok (.t .non) (H c ru qs tm os e rs r):=by
 refine(ay (iT _ _ _) rfl ?_).eq;unfold bf
 tm_at "w"
 refine ar (ig (by omega) (by rw[R2];omega)) ?_
 tm_at "w"
 exact ir aI ⟨rfl,rfl⟩
theorem H8{k:Nat}(hl:os.length<=12)(hk:os[k]?=Zz o):cf (n+4) 43 [.c 2,.t (.int k)] (H c ru qs tm os e rs r)=.ok (.t (endOf e o)) (H c ru qs tm os e rs r):=by
 refine(ay (uQ _ _ _) rfl ?_).eq;unfold gF
 tm_at "w"
 refine ar (nM hl (R8.mp hk).1) ?_
 tm_at "w"
 refine ag (t:=endOf e o) (rh (by rw[RR,hk];rfl)) ?_;exact cI aI ⟨rfl,rfl⟩
theorem Fa{k:Nat}(hl:os.length<=12)(hk:os[k]?=Zz o):cf (n+4) 41 [.c 2,.t (.int k)] (H c ru qs tm os e rs r)=.ok (.t (.int o.many)) (H c ru qs tm os e rs r):=by
 refine(ay (rP _ _ _) rfl ?_).eq;unfold fk
 tm_at "w"
 refine ar (nM hl (R8.mp hk).1) ?_
 tm_at "w"
 refine ag (t:=lf o) (rh (by rw[RR,hk];rfl)) ?_;exact cI aI ⟨rfl,rfl⟩
theorem DT{k:Nat}(hl:os.length<=12)(hk:os[k]?=Zz o):cf (n+4) 42 [.c 2,.t (.int k)] (H c ru qs tm os e rs r)=.ok (.t o.t) (H c ru qs tm os e rs r):=by
 refine(ay (rd _ _ _) rfl ?_).eq;unfold dU
 tm_at "w"
 refine ar (nM hl (R8.mp hk).1) ?_
 tm_at "w"
 refine ag (t:=o.t) (rh (by rw[RR,hk];rfl)) ?_;exact cI aI ⟨rfl,rfl⟩
end
noncomputable def J4:List Nat:=[109,101,101,116]
def Rows(rs:List T):Prop:=∀x∈rs,∃s l,x=.tup (.str s::l)/\(s==J4)=false
section
variable{n:Nat}{c:Option Cl}{ru:List (List Nat)}{qs:List (Int×Int)}{tm:T}{os:List O}{e t:Int}{cs rs:List T}{r:Mem}{o:O}
theorem G4:cf (n+1) 39 [.c 2] (H c ru qs tm os e rs r)=.ok (.t tm) (H c ru qs tm os e rs r):=by
 refine(ay (vm _ _ _) rfl ?_).eq;unfold fM
 tm_at "w"
 exact cI aI ⟨rfl,rfl⟩
theorem Gp:cf (n+1) 46 [.c 2] (H c ru qs tm os e rs r)=.ok (.t (.lst rs)) (H c ru qs tm os e rs r):=by
 refine(ay (sp _ _ _) rfl ?_).eq;unfold fg
 tm_at "w"
 exact cI aI ⟨rfl,rfl⟩
theorem at0{α:Type}(a:α)(r:List α):atT (a::r) 0=Zz a:=by simp[atT,gM]
theorem wo(h:Rows rs):cf (n+1) 44 [.c 2] (H c ru qs tm os e rs r)=.ok (.t (.lst [])) (H c ru qs tm os e rs r):=by
 refine(ay (lb _ _ _) rfl ?_).eq;unfold bL fE;refine y_ret (aC ?_)
 tm_at "w"
 refine ar rfl ?_;refine ar (k7 (g:=λ_=>[]) rs λx hx=>⟨_,rfl,?_⟩) ?_
 ·obtain⟨s,l,rfl,hs⟩:=h x hx
  refine aj.eq ?_;unfold fx
  tm_at "v"
  refine ag (at0 _ _) ?_
  tm_at "w"
  refine bi hs ?_;exact .ok ⟨rfl,rfl⟩
 ·rw[VR.mpr λ_ _=>rfl]
  refine⟨aF,?_⟩;exact cI (m:=H c ru qs tm os e rs r) aI ⟨rfl,rfl⟩
theorem E8(hr:ru.length<=3)(hl:os.length<=12):∃K:List (O×Nat),K.Perm (ws e os)/\∀n tm rs r,cf (n+4) 40 [.c 2] (H c ru qs tm os e rs r)=.ok (.t (.lst (K.map no))) (H c ru qs tm os e rs r):=by
 obtain⟨K,hK,h⟩:=Ez hr (Rg i9 hl) (Gx (e:=e) (os:=os));refine⟨K,hK,λn tm rs r=>(ay (ul _ _ _) rfl ?_).eq⟩;unfold fX
 tm_at "w"
 refine ar (cD hl) ?_
 tm_at "w"
 refine ar (h _ _) ?_;exact cI aI ⟨rfl,rfl⟩
theorem AP{K L:List (O×Nat)}(hK:K.Perm L)(hL:L.Pairwise λa b=>a.2<b.2)(hl:L.length<=12):xe (K.map no)=Zz (.lst (L.map no)):=by
 have e1:∀l:List (O×Nat),l.map no=(l.map λp=>(p.2:Int)).map .int:=λl=>by rw[Ru];rfl
 have nd:(L.map λp=>(p.2:Int)).Nodup:=SA.mpr (hL.imp λh=>by omega);unfold xe;rw[e1,jF];show(if(K.map λp=>(p.2:Int)).Nodup/\(K.map λp=>(p.2:Int)).length<64 then _ else _)=_;rw[Yn ⟨(hK.map _).nodup_iff.mpr nd,by rw[R2,hK.length_eq];omega⟩];have e2:(L.map λp=>[(p.2:Int)])=sortI ((K.map λp=>(p.2:Int)).map λn=>[n]):=by
  refine lJ ?_ ?_
  ·rw[Ru]
   exact hK.symm.map _
  ·refine SA.mpr (hL.imp λ{a b} h=>?_)
   show(if(b.2:Int)=a.2 then false else decide ((b.2:Int)<a.2))=false;rw[Yo (by omega),Yp (by omega)]
 rw[<-e2,Ru];rfl
noncomputable def sJ(p:O×Nat):T:=.tup [.int p.1.al,.int p.2]
theorem zE:∀ks:List (List Int),kM (ks.map kQ)=Zz ks
 |[]=>rfl
 |k::ks=>by
  rw[Rf,kM,zE ks,show D2 (kQ k)=Zz k from jF k];rfl
theorem Gn:(kZ t os).Nodup:=by
 have h:(os.zipIdx.map (·.2)).Nodup:=by rw[List.zipIdx_map_snd];exact List.nodup_range'
 have h2:((os.zipIdx.filter λp=>decide (p.1.al<=t)).map (·.2)).Nodup:=h.sublist (WC.map _);exact v9 h2 λa b z=>by
  have:(a.2:Int)=b.2:=by simpa using(UN (UN z).2).1
  omega
theorem Cp:(kZ t os).length<=os.length:=by
 unfold kZ;rw[R2];exact Rg (SR ..) (by rw[U2];exact RO _)
theorem zV{k:List Int}(h:k∈sortI (kZ t os)):∃p,k=key p:=by
 obtain⟨p,_,rfl⟩:=RX.mp ((sortI_perm _).mem_iff.mp h);exact⟨p,rfl⟩
theorem yb(hl:os.length<=12):xq ((os.zipIdx.filter λp=>decide (p.1.al<=t)).map sJ)=Zz (.lst ((sortI (kZ t os)).map kQ)):=by
 have e:(os.zipIdx.filter λp=>decide (p.1.al<=t)).map sJ=(kZ t os).map kQ:=by unfold kZ;rw[Ru];rfl
 unfold xq;rw[e,zE];refine Yn ⟨Gn,Si Cp (by omega),SC.mpr λk hk=>?_⟩;obtain⟨p,_,rfl⟩:=RX.mp hk;rfl
theorem IG:Dp 50 (.lst (outs t os)):=bQ (rg (d:=1) λx hx=>by
 obtain⟨k,hk,rfl⟩:=RX.mp hx;obtain⟨p,rfl⟩:=zV hk;refine cT (d:=0) ?_;simp only[key,Rf,X3,R6,RG,or_false,forall_eq_or_imp,forall_eq];exact⟨gJ (by decide),c6,c6⟩) (by decide)
theorem ED(ho:∀o∈os,o.Ok):Dp 50 (.lst ((ws e os).map wT)):=bQ (rg (d:=7) λx hx=>by
 obtain⟨p,hp,rfl⟩:=RX.mp hx;refine cT (d:=6) ?_;simp only[R6,RG,or_false,forall_eq_or_imp,forall_eq];exact⟨c6,vB (ho _ (Rj (oP hp).1)),c6⟩) (by decide)
theorem HW:Dp 50 (endOf e o):=by
 unfold endOf;split
 ·refine bQ (cT (d:=0) ?_) (by decide)
  simp only[R6,RG,or_false,forall_eq_or_imp,forall_eq];exact⟨gJ (by decide),c6⟩
 ·exact Hd
theorem DU{α:Type}(a b:List α){k:Nat}(h:a.length=k):cut (a++b) (Zz (k:Int)) Zy=b:=by
 unfold cut ax;dsimp only;rw[Yo (by omega),TM,RD,h,Nat.min_eq_left (by omega),<-h,List.drop_left' rfl];exact List.take_of_length_le (by omega)
theorem xz{a b d:T}{p q u v:List T}{x y:Option Cl}:(hm c a b d p q u v (x::(r++[y])))[r.length+8]?=Zz y:=by
 show(r++[y])[r.length]?=_;exact sd rfl
theorem xW{a b d:T}{p q u v:List T}{x y z:Option Cl}:(hm c a b d p q u v (x::(r++[y]))).set (r.length+8) z=hm c a b d p q u v (x::(r++[z])):=by
 show hm c a b d p q u v (x::((r++[y]).set r.length z))=_;rw[FL rfl]
theorem ww(hr:ru.length<=3)(hl:os.length<=12)(hc:cs.length=os.length)(hR:Rows cs)(ho:∀o∈os,o.Ok):cf (n+5) 68 [.c 2,.c 7,.t (.int t)] (H c ru qs (.int t) os t (cs++outs t os) (Zz (.l false (os.map O.t))::r))=.ok (.t (.bl true)) (H c ru qs (.int t) os t (cs++outs t os) (Zz (.l false (os.map O.t))::r)):=by
 have hR2:Rows (cs++outs t os):=λx hx=>by
  rcases SM.mp hx with hx|hx
  ·exact hR x hx
  ·obtain⟨k,_,rfl⟩:=RX.mp hx
   exact⟨AV,_,rfl,rfl⟩
 have hw:=Rg (i9 (e:=t)) hl;refine(ay (AE _ _ _) rfl ?_).eq;unfold lA
 tm_at "w"
 refine kD ?_
 tm_at "w"
 refine ar rfl ?_;rw[lp];refine dH (I:=λts env M=>∃(D l:List (O×Nat)) (a b d:Option W),ts=l.map (λp=>.tup [.int p.2,p.1.t])/\D++l=os.zipIdx/\env=[Zz (.c 2),Zz (.c 7),Zz (.t (.int t)),Zz (.c (r.length+8)),a,b,d,Zy,Zy]/\M=H c ru qs (.int t) os t (cs++outs t os) (Zz (.l true (os.map O.t))::(r++[Zz (.l false ((D.filter λp=>decide (p.1.al<=t)).map sJ))]))) ?_ _ _ _ ⟨[],os.zipIdx,Zy,Zy,Zy,rfl,rfl,rfl,rfl⟩ ?_
 ·rintro x ts _ _ ⟨D,l,a,b,d,e1,hD,rfl,rfl⟩
  rcases l with _|⟨⟨o,k⟩,l⟩
  ·cases e1
  obtain⟨rfl,rfl⟩:=UN e1;have hk:os[k]?=Zz o:=Sl.mp (show(o,k)∈os.zipIdx by rw[<-hD];exact U4 _ R9);have hD2:(D++[(o,k)])++l=os.zipIdx:=by rw[S9];exact hD
  have hd:D.length<=12:=by
   have:=congrArg Vz hD;rw[RD,U2]at this;omega
  have tail:∀{X:Mem}{P:Flow->Mem->Prop},P (.next [Zz (.c 2),Zz (.c 7),Zz (.t (.int t)),Zz (.c (r.length+8)),Zz (.t (.int k)),Zz (.t o.t),Zz (.t (endOf t o)),Zy,Zy]) (H c ru qs (.int t) os t (cs++outs t os) X)->aj P (ex (cf (n+4)) gv (.dv (.or (.cmp .NotEq (.aZ 631 (.var 0) "end" 43 (.cons (.var 4) .nil)) (.var 6)) (.or (.cmp .NotEq (.aZ 631 (.var 0) "left" 41 (.cons (.var 4) .nil)) (.ix (.var 5) (.con (.int 3)))) (.cmp .NotEq (.aZ 631 (.var 0) "offer" 42 (.cons (.var 4) .nil)) (.var 5)))) (.ret (.con (.bl false)) .done) .done .done) [Zz (.c 2),Zz (.c 7),Zz (.t (.int t)),Zz (.c (r.length+8)),Zz (.t (.int k)),Zz (.t o.t),Zz (.t (endOf t o)),Zy,Zy] (H c ru qs (.int t) os t (cs++outs t os) X)):=λh=>by
   tm_at "v"
   refine ar (H8 hl hk) ?_
   tm_at "v"
   refine ag (congrArg (Sr T.bl) (jJ HW)) ?_
   tm_at "v"
   refine ar (Fa hl hk) ?_
   tm_at "v"
   refine ag (t:=.int o.many) rfl ?_
   tm_at "v"
   refine ag (congrArg (Sr T.bl) (jJ c6)) ?_
   tm_at "v"
   refine ar (DT hl hk) ?_
   tm_at "v"
   refine ag (congrArg (Sr T.bl) (jJ (bQ (vB (ho o (Rj hk))) (by decide)))) ?_
   tm_at "v"
   exact h
  refine⟨_,rfl,?_⟩;unfold q9
  tm_at "v"
  refine ag (t:=.int o.al) rfl ?_
  tm_at "w"
  have hf:(D++[(o,k)]).filter (λp=>decide (p.1.al<=t))=D.filter (λp=>decide (p.1.al<=t))++if decide (o.al<=t)=true then[(o,k)]else[]:=by rw[VH,Vq];rfl
  by_cases q:o.al<=t
  ·refine bS (Yq q) ?_
   tm_at "w"
   refine⟨Bf (.inl rfl) xz,?_⟩
   tm_at "v"
   refine ag (t:=.int o.al) rfl ?_
   tm_at "v"
   refine kg (.inl rfl) rfl xz (oJ (by rw[R2];have:=SR (λp:O×Nat=>decide (p.1.al<=t)) D;omega)) ?_;rw[xW]
   iterate 2 tm_at "s"
   have ee:endOf t o=.tup [.str AV,.int o.al]:=Yn q;rw[ee]at tail;refine tail ?_;refine⟨_,rfl,D++[(o,k)],l,_,_,_,rfl,hD2,rfl,?_⟩;rw[hf,Yq q,Yn rfl,SL];rfl
  ·refine bi (Yp q) ?_
   iterate 2 tm_at "s"
   have ee:endOf t o=.non:=Yo q;rw[ee]at tail;refine tail ?_;refine⟨_,rfl,D++[(o,k)],l,_,_,_,rfl,hD2,rfl,?_⟩;rw[hf,Yp q,Yo RK,Rh]
 ·rintro _ _ ⟨D,l,a,b,d,e1,hD,rfl,rfl⟩
  cases V6.mp e1.symm;rw[Rh]at hD;subst hD;show aj _ (ex _ _ _ _ (H c ru qs (.int t) os t (cs++outs t os) (Zz (.l false (os.map O.t))::(r++[Zz (.l false ((os.zipIdx.filter λp=>decide (p.1.al<=t)).map sJ))]))))
  tm_at "v"
  unfold qC;refine aC ?_
  tm_at "v"
  refine Vg _ ⟨vV xz,?_⟩;refine ag (yb hl) ?_;refine aM rfl ?_;refine aT (g:=λk=>[CT k]) (sortI (kZ t os)) (λk hk=>?_) ?_
  ·obtain⟨p,rfl⟩:=zV hk
   refine⟨_,rfl,?_⟩;unfold qK
   tm_at "w"
   exact⟨rfl,rfl⟩
  rw[show((sortI (kZ t os)).flatMap λk=>[CT k])=outs t os from SD.symm];refine⟨aF (by have:=wc (e:=t) (os:=os);omega),?_⟩;show aj _ (ex _ _ _ _ (H c ru qs (.int t) os t (cs++outs t os) (Zz (.l false (os.map O.t))::(r++[Zz (.l false ((os.zipIdx.filter λp=>decide (p.1.al<=t)).map sJ))]))))
  tm_at "v"
  refine Jf ?_
  tm_at "v"
  refine ar Gp ?_
  tm_at "v"
  refine ag (GK _) ?_
  tm_at "v"
  refine ag (t:=.lst (outs t os)) (congrArg (λl=>Zz (T.lst l)) (DU _ _ (by rw[R2];exact hc))) ?_
  tm_at "v"
  refine ag (congrArg (Sr T.bl) (jJ IG)) ?_
  tm_at "v"
  refine ar G4 ?_
  tm_at "v"
  refine ag (congrArg (Sr T.bl) (jJ c6)) ?_
  tm_at "v"
  refine ar (wo hR2) ?_
  tm_at "v"
  refine ag (congrArg (Sr T.bl) (jJ (bQ (rg (d:=0) λx hx=>Ys hx RG) (by decide)))) ?_
  tm_at "v"
  unfold qy;refine aC ?_
  tm_at "v"
  refine ar rfl ?_;rw[lp];refine aT (g:=λp=>if decide (t<p.1.al)then[wT p]else[]) os.zipIdx (λp hp=>⟨_,rfl,?_⟩) ?_
  ·unfold rj
   tm_at "v"
   refine ag (t:=.int p.1.al) rfl ?_
   tm_at "v"
   refine ag (congrArg (Sr T.bl) (IV _ _)) ?_
   tm_at "v"
   cases h:decide (t<p.1.al)with
   |true =>
    tm_at "v"
    refine ag (t:=.int p.1.many) rfl ?_
    tm_at "v"
    exact⟨rfl,rfl⟩
   |false =>
    tm_at "v"
    exact⟨rfl,rfl⟩
  rw[bH];refine⟨aF (by rw[R2];show(ws t os).length<=_;omega),?_⟩;show aj _ (ex _ _ _ (List.set _ _ (Zz (.t (.lst ((ws t os).map wT))))) (H c ru qs (.int t) os t (cs++outs t os) (Zz (.l false (os.map O.t))::(r++[Zz (.l false ((os.zipIdx.filter λp=>decide (p.1.al<=t)).map sJ))]))))
  tm_at "v"
  refine ar (cD hl) ?_
  tm_at "v"
  refine ag (congrArg (Sr T.bl) (eq_self (ED ho))) ?_
  tm_at "v"
  obtain⟨K,hK,hrow⟩:=E8 (c:=c) (qs:=qs) (e:=t) hr hl;refine ar (hrow _ _ _ _) ?_
  tm_at "v"
  refine ag (AP hK zH hw) ?_
  tm_at "v"
  unfold qF;refine aC ?_
  tm_at "v"
  refine aM rfl ?_;refine aT (g:=λp=>[no p]) (ws t os) (λp hp=>⟨_,rfl,?_⟩) ?_
  ·unfold qg
   tm_at "v"
   exact⟨rfl,rfl⟩
  rw[show((ws t os).flatMap λp=>[no p])=(ws t os).map no from SD.symm];refine⟨aF (by rw[R2];omega),?_⟩
  tm_at "v"
  refine ag (congrArg (Sr T.bl) (eq_self (bQ (rg (d:=0) λx hx=>by obtain⟨p,_,rfl⟩:=RX.mp hx;exact c6) (by decide)))) ?_;exact cI (y7 (r:=Zz (.l false (os.map O.t))::r)) ⟨rfl,rfl⟩
end
theorem B8:names.Nodup:=by decide +kernel
structure yy (t:Int) (os:List O):Prop where
 ok:∀o∈os,o.Ok/\t<o.al
 nm:∀(j:Nat) (o:O),os[j]?=Zz o->names[j]?=Zz o.nm
theorem yy.inj{t:Int}{os:List O}(h:yy t os){i j:Nat}{x y:O}(hi:os[i]?=Zz x)(hj:os[j]?=Zz y)(e:x.nm=y.nm):i=j:=by
 obtain⟨hi,h1⟩:=R8.mp (h.nm i x hi);obtain⟨hj,h2⟩:=R8.mp (h.nm j y hj);have hh:=TW.mp B8;rcases Nat.lt_trichotomy i j with q|q|q
 ·exact Ys (h1.trans (e.trans h2.symm)) (hh i j hi hj q)
 ·exact q
 ·exact Ys (h2.trans (e.symm.trans h1.symm)) (hh j i hj hi q)
theorem EQ{α:Type}(xs:List α)(x:α):atT (xs++[x]) (-1)=Zz x:=by
 unfold atT gM;rw[Yo (by decide),RD,Yn (by show -((xs.length+1:Nat):Int)<=-1;omega)];show(xs++[x])[(-1+((xs.length+1:Nat):Int)).toNat]?=_;rw[show(-1+((xs.length+1:Nat):Int)).toNat=xs.length by omega];rw[RV (RO _),Vf];rfl
section
variable{n:Nat}{c:Option Cl}{ru:List (List Nat)}{qs:List (Int×Int)}{tm:T}{os:List O}{e t:Int}{cs rs:List T}{r r':Mem}{o:O}
theorem Gm{A:List (List Nat)}{m:Mem}{i:Nat}(hr:ru.length<=3)(hp:(ru++A).Perm four)(hl:qs.length<=8)(hq:Qt qs 1000):cf (n+6) 35 [.c i,.t (.tup (ru.map .str)),.t (.tup []),.t (.tup (qs.map pq))] m=.ok (.t .non) m:=by
 refine(ay (mG _ _ _) rfl ?_).eq;unfold dB bA
 tm_at "w"
 refine ar (Go hr hp) ?_
 tm_at "w"
 refine ay (tY _ _ _) rfl ?_;unfold gC
 tm_at "w"
 unfold kB;refine aC ?_
 tm_at "w"
 refine aM rfl (.ok ⟨aF,?_⟩)
 tm_at "w"
 refine ay (kL _ _ _) rfl ?_;unfold c8
 tm_at "w"
 refine am rfl ?_;refine am rfl ?_
 tm_at "w"
 refine ar (Cu hl hq) ?_
 tm_at "w"
 exact ir Vp ⟨rfl,rfl⟩
theorem Au(h:∀o∈os,t<o.al):outs t os=[]:=by
 unfold outs kZ;rw[List.filter_eq_nil_iff.mpr λp hp=>by
  have:=h p.1 (Rj (Sl.mp hp));rw[decide_eq_true_eq];omega]
 rfl
theorem GC{a b d:T}{p q u v:List T}{M:Mem}(h:Dr (hm c a b d p q u v r) 0 M):∃x y z:Int,M=hm (Zz (.l false [.int x,.int y,.int z])) a b d p q u v r:=let⟨_,x,y,z,e⟩:=h;⟨x,y,z,e⟩
theorem Gv{a b d:T}{p q u v:List T}{x y z:Int}:Dr (hm Zy a b d p q u v r) 0 (hm (Zz (.l false [.int x,.int y,.int z])) a b d p q u v r):=⟨Nat.zero_lt_succ _,x,y,z,rfl⟩
theorem nJ{a b d:T}{p q u v:List T}{x y z many:Int}{Q:W->Mem->Prop}(h1:0<many)(h2:many<1073741824)(k:∀r i j l:Int,0<=r->r<many->Q (.t (.int r)) (hm (Zz (.l false [.int i,.int j,.int l])) a b d p q u v r')):aj Q (cf (n+1) 58 [.c 0,.t (.int many)] (hm (Zz (.l false [.int x,.int y,.int z])) a b d p q u v r')):=
 aO h1 h2 Gv λr m2 D r0 r1=>let⟨_,_,_,e⟩:=GC D;e▸k r _ _ _ r0 r1
theorem zQ{i j:Int}:(if i<j then i else j)<=j:=by split<;>omega
theorem wZ{a b d t0:Int}{x:W}{e6 e7 e8 e9:Option W}{Q:Flow->Mem->Prop}(hr:ru.length<=3)(hq:qs.length<=8)(hl:os.length<12)(hc:cs.length=os.length)(h0:0<=t0)(h1:t0<=999999999)(ha:At tm t0 os)(hC:yy t0 os)(K:∀(a b d:Int) (o:O) (e5 e6:Option W),yy t0 (os++[o])->Q (.next [Zz x,Zz (.c 0),Zz (.c 2),Zz (.t (.int t0)),Zz (.c 7),e5,e6,e7,e8,e9]) (H (Zz (.l false [.int a,.int b,.int d])) ru qs (.int t0) (os++[o]) t0 (cs++[HN t0 o os.length]) [Zz (.l false ((os++[o]).map O.t))])):
  aj Q (ex (cf (n+9)) gv uJ [Zz x,Zz (.c 0),Zz (.c 2),Zz (.t (.int t0)),Zz (.c 7),Zz (.t (.int os.length)),e6,e7,e8,e9] (H (Zz (.l false [.int a,.int b,.int d])) ru qs tm os t0 cs [Zz (.l false (os.map O.t))])):=by
 unfold uJ
 tm_at "w"
 refine nJ (by decide) (by decide) λu a b d u0 u1=>?_
 tm_at "w"
 refine nJ (by decide) (by decide) λv a b d v0 v1=>?_
 tm_at "w"
 refine nJ (by decide) (by decide) λw a b d w0 w1=>?_
 obtain⟨y,hy,z,rfl,z0⟩:=gU (P:=λx=>∃v:Int,x=T.int v/\0<=v) (xs:=[T.int u,.int v]) w0 w1 (by
  simp only[R6,RG,or_false,forall_eq_or_imp,forall_eq];exact⟨⟨_,rfl,u0⟩,_,rfl,v0⟩)
 tm_at "v"
 refine ag hy ?_
 tm_at "w"
 have ht:t0<(if t0+1+z<10^Tu 9 then t0+1+z else 10^Tu 9)/\(if t0+1+z<10^Tu 9 then t0+1+z else 10^Tu 9)<=1000000000:=by
  rw[show(10:Int)^Tu 9=1000000000 from rfl];exact⟨by split<;>omega,zQ⟩
 generalize (if t0+1+z<10^Tu 9 then t0+1+z else 10^Tu 9)=al at ht;refine⟨Bf (.inl rfl) (xs:=os.map O.t) (f:=false) rfl,?_⟩
 tm_at "w"
 obtain⟨nm,hm1,hnm,hat⟩:=CY (n:=n+8) (m:=H (Zz (.l false [.int a,.int b,.int d])) ru qs tm os t0 cs [Zz (.l false (os.map O.t))]) (k:=(os.length:Int));refine ar hnm ?_
 tm_at "w"
 refine(E4 hm1 ⟨by omega,ht.2⟩ Gv).imp ?_;rintro _ _ ⟨D,o,rfl,ho,hnm2,htl⟩;obtain⟨a,b,d,rfl⟩:=GC D
 tm_at "w"
 refine kg (.inl rfl) rfl (xs:=os.map O.t) rfl (oJ (by rw[R2];omega)) ?_;have e1:os.map O.t++[o.t]=(os++[o]).map O.t:=by rw[SL];rfl
 rw[e1];show aj _ (ex _ _ _ _ (H (Zz (.l false [.int a,.int b,.int d])) ru qs tm os t0 cs [Zz (.l false ((os++[o]).map O.t))]))
 tm_at "w"
 refine ag (t:=o.t) (by rw[<-e1];exact EQ _ _) ?_;have h9:=hat (by omega) (by omega);rw[TM]at h9;have hC2:yy t0 (os++[o]):=⟨λx hx=>by
  rcases SM.mp hx with hx|hx
  ·exact hC.ok x hx
  ·cases RH.mp hx;exact⟨ho,by omega⟩,λj x hj=>by
  by_cases q:j<os.length
  ·rw[RQ q]at hj
   exact hC.nm j x hj
  ·have hj2:=(R8.mp hj).1
   rw[RD]at hj2;have:j=os.length:=by have:j<os.length+1:=hj2;omega
   subst this;rw[RV (RO _),Vf]at hj;cases hj;rw[hnm2];exact h9⟩
 tm_at "w"
 refine(Fb (n:=n+1) hr hq hl hc h0 (by omega) ha (λx hx=>(hC.ok x hx).2) ho (by omega) λx hx e=>?_).imp ?_
 ·obtain⟨j,hj⟩:=W1 hx
  have hlt:=(R8.mp hj).1;have:=hC2.inj (i:=j) (j:=os.length) (by rw[RQ hlt];exact hj) (by rw[RV (RO _),Vf];rfl) e;omega
 ·rintro _ _ rfl
  tm_at "w"
  exact K _ _ _ o _ _ hC2
theorem HJ{x:T}{ts:List T}(h:Dp 50 (.lst (x::ts))):j9 .NotEq (.lst (x::ts)) (.lst [])=Zz true:=by
 have h:=h 60 (by decide);show(if(tG (.lst (x::ts)) (.lst []) || (aW 60 (.lst (x::ts))&&aW 60 (.lst [])))=true then Zz (!eqT (.lst (x::ts)) (.lst []))else Zy)=_;rw[h];rfl
theorem yA{a b d:T}{p q u v:List T}{y w:Option Cl}{M:Mem}(h:Dr (hm c a b d p q u v (y::(r++[w]))) (r.length+8) M):∃i j k:Int,M=hm c a b d p q u v (y::(r++[Zz (.l false [.int i,.int j,.int k])])):=by
 obtain⟨_,i,j,k,e⟩:=h;exact⟨i,j,k,by rw[e,xW]⟩
theorem yK{a b d:T}{p q u v:List T}{y:Option Cl}{i j k:Int}:Dr (hm c a b d p q u v (y::(r++[Zy]))) (r.length+8) (hm c a b d p q u v (y::(r++[Zz (.l false [.int i,.int j,.int k])]))):=by
 refine⟨?_,i,j,k,xW.symm⟩;show r.length+8<(r++[Zy]).length+1+7;rw[RD];exact TY _
theorem yJ{a b d:T}{p q u v:List T}{f:Option Cl}{x y z many:Int}{Q:W->Mem->Prop}(h1:0<many)(h2:many<1073741824)(k:∀s i j l:Int,0<=s->s<many->Q (.t (.int s)) (hm c a b d p q u v (f::(r++[Zz (.l false [.int i,.int j,.int l])])))):aj Q (cf (n+1) 58 [.c (r.length+8),.t (.int many)] (hm c a b d p q u v (f::(r++[Zz (.l false [.int x,.int y,.int z])])))):=
 aO h1 h2 yK λs m2 D r0 r1=>let⟨_,_,_,e⟩:=yA D;e▸k s _ _ _ r0 r1
theorem Fl{a b d:T}{p q u v:List T}{x:Int}{y:Option Cl}{Q:W->Mem->Prop}(h:∀i j k:Int,Q (.c (r.length+8)) (hm c a b d p q u v (y::(r++[Zz (.l false [.int i,.int j,.int k])])))):aj Q (cf (n+1) 57 [.t (.int x)] (hm c a b d p q u v (y::r))):=Em λi j=>h i j 0
theorem JU{s:Int}(hr:ru.length<=3)(hq:qs.length<=8)(hl:os.length<=12)(hc:cs.length=os.length)(h0:0<=t)(h1:t<=1000000000)(hs:s<=t):cf (n+7) 38 [.c 2,.t (.int t)] (H c ru qs (.int s) os s (cs++outs s os) r)=.ok (.t .non) (H c ru qs (.int t) os t (cs++outs t os) r):=by
 refine(ay (mU _ _ _) rfl ?_).eq;unfold cg
 tm_at "w"
 refine ar (qL hr hq hl (by omega) h0 h1 (.inl rfl) λ_=>hs) ?_
 tm_at "w"
 exact ir aI ⟨rfl,rfl⟩
inductive L2 (x:W) (c:Option Cl) (ru:List (List Nat)) (qs:List (Int×Int)) (cs:List T) (os:List O):Env->Mem->Prop where
 |mk (t2:Int) (r2:Mem) (e1 e5 e6 e7 e8 e9:Option W):0<=t2->t2<=1000000000->L2 x c ru qs cs os [Zz x,e1,Zz (.c 2),Zz (.t (.int t2)),Zz (.c 7),e5,e6,e7,e8,e9] (H c ru qs (.int t2) os t2 (cs++outs t2 os) (Zz (.l false (os.map O.t))::r2))
theorem law_turn{v t0:Int}{x:W}{e1 e5 e6 e8 e9:Option W}{Q:Flow->Mem->Prop}(hr:ru.length<=3)(hq:qs.length<=8)(hl:os.length<=12)(hc:cs.length=os.length)(hR:Rows cs)(h0:0<=t)(h1:t<=1000000000)(hC:yy t0 os)(K:∀env m,L2 x c ru qs cs os env m->Q (.next env) m):
  aj Q (ex (cf (n+9)) gv tR [Zz x,e1,Zz (.c 2),Zz (.t (.int t)),Zz (.c 7),e5,e6,Zz (.t (.int v)),e8,e9] (H c ru qs (.int t) os t (cs++outs t os) (Zz (.l false (os.map O.t))::r))):=by
 have ho:∀o∈os,o.Ok:=λo h=>(hC.ok o h).1
 unfold tR
 tm_at "w"
 refine Fl λa b d=>?_
 tm_at "w"
 unfold zS;refine aC ?_
 tm_at "w"
 refine ar rfl ?_;refine aT (g:=λo=>if decide (t<o.al)then[.int o.al]else[]) os (λo _=>⟨_,rfl,?_⟩) ?_
 ·unfold Ae
  tm_at "v"
  refine ag (t:=.int o.al) rfl ?_
  tm_at "v"
  refine ag (congrArg (Sr T.bl) (IV _ _)) ?_
  tm_at "v"
  cases h:decide (t<o.al)with
  |true =>
   tm_at "v"
   refine ag (t:=.int o.al) rfl ?_
   tm_at "v"
   exact⟨rfl,rfl⟩
  |false =>
   tm_at "v"
   exact⟨rfl,rfl⟩
 rw[bH];have fl:=λp:O->Bool=>SR p os
 refine⟨aF (by rw[R2];have:=fl λo=>decide (t<o.al);omega),?_⟩;show aj _ ((ev _ _ _ _ (H c ru qs (.int t) os t (cs++outs t os) (Zz (.l false (os.map O.t))::(r++[Zz (.l false [.int a,.int b,.int d])])))).bind _)
 tm_at "v"
 refine ag (GS _ _) ?_
 tm_at "v"
 refine ag (uU (by rw[R2];have:=fl λo=>decide (t<o.al);show _+1<=lim;exact Rg (m:=13) (by omega) (by decide))) ?_;obtain⟨Z,zl,hZ⟩:∃Z:List Int,(1<=Z.length/\Z.length<=13)/\(os.filter λo=>decide (t<o.al)).map (λo=>T.int o.al)++[T.int (t+7)]=Z.map .int:=by
  refine⟨(os.filter λo=>decide (t<o.al)).map (·.al)++[t+7],?_,by rw[SL,Ru];rfl⟩;rw[RD,R2];have:=fl λo=>decide (t<o.al)
  exact⟨W2 _ _,Wu (by omega)⟩
 rw[hZ];rcases Z with _|⟨z,zs⟩
 ·exact Ys zl.1 (by decide)
 tm_at "v"
 refine ag (t:=.int (eU z zs)) ?_ ?_
 ·show(eG ((z::zs).map T.int)).bind _=_
  rw[jF];exact Yn (by have:zs.length+1<=13:=zl.2;omega)
 tm_at "v"
 refine(ya (xs:=(z::zs).map T.int) (by rw[R2];exact zl.1) (by rw[R2];omega) yK).imp ?_;rintro _ _ ⟨D,y,hy,rfl⟩;obtain⟨a,b,d,rfl⟩:=yA D;obtain⟨w,_,rfl⟩:=RX.mp hy
 tm_at "v"
 refine yJ (by decide) (by decide) λk a b d k0 k1=>?_
 obtain⟨y,hy,u,rfl⟩:=gU (P:=λx=>∃v:Int,x=T.int v) (xs:=[T.int (eU z zs),.int w]) k0 k1 (by
  simp only[R6,RG,or_false,forall_eq_or_imp,forall_eq];exact⟨⟨_,rfl⟩,_,rfl⟩)
 tm_at "v"
 refine ag hy ?_
 tm_at "w"
 refine yJ (by decide) (by decide) λl a b d l0 l1=>?_
 tm_at "v"
 refine yJ (by decide) (by decide) λk a b d k0 k1=>?_
 obtain⟨y,hy,g,rfl⟩:=gU (P:=λx=>∃v:Int,x=T.int v) (xs:=[T.int (-1),.int 0,.int 0,.int l]) k0 k1 (by
  simp only[R6,RG,or_false,forall_eq_or_imp,forall_eq];exact⟨⟨_,rfl⟩,⟨_,rfl⟩,⟨_,rfl⟩,_,rfl⟩)
 tm_at "v"
 refine ag hy ?_
 tm_at "w"
 have ht:t<=(if(if u+g>t then u+g else t)<10^Tu 9 then(if u+g>t then u+g else t)else 10^Tu 9)/\(if(if u+g>t then u+g else t)<10^Tu 9 then(if u+g>t then u+g else t)else 10^Tu 9)<=1000000000:=by
  rw[show(10:Int)^Tu 9=1000000000 from rfl];exact⟨by split<;>split<;>omega,zQ⟩
 generalize (if(if u+g>t then u+g else t)<10^Tu 9 then(if u+g>t then u+g else t)else 10^Tu 9)=t2 at ht;obtain⟨ht,h2⟩:=ht;have h3:0<=t2:=by omega
 refine ar (JU hr hq hl hc h3 h2 ht) ?_
 tm_at "w"
 refine ar (ww hr hl hc hR ho) ?_
 tm_at "w"
 unfold ze;refine aC ?_
 tm_at "w"
 refine ar rfl ?_;refine aT (g:=λo=>if decide (o.al<=t2)then[.str o.nm]else[]) os (λo _=>⟨_,rfl,?_⟩) ?_
 ·unfold zY
  tm_at "v"
  refine ag (t:=.int o.al) rfl ?_
  tm_at "v"
  refine ag (congrArg (Sr T.bl) (K6 _ _)) ?_
  tm_at "v"
  cases h:decide (o.al<=t2)with
  |true =>
   tm_at "v"
   refine ag (t:=p6 o.nm iG o.ks o.zs) rfl ?_
   tm_at "v"
   refine ag (t:=.str o.nm) rfl ?_
   tm_at "v"
   exact⟨rfl,rfl⟩
  |false =>
   tm_at "v"
   exact⟨rfl,rfl⟩
 rw[bH];have gl:=fl λo=>decide (o.al<=t2)
 refine⟨aF (by rw[R2];omega),?_⟩;have gm:∀o∈os.filter (λo=>decide (o.al<=t2)),∀p∈ws t2 os,p.1.nm≠o.nm:=λo hm p hp e=>by
  obtain⟨hm,hlt⟩:=SN.mp hm;obtain⟨j,hj⟩:=W1 hm;obtain⟨hk,hgt⟩:=oP hp;have:=hC.inj hk hj e;rw[<-this,hk]at hj;have e2:=SY hj;rw[e2]at hgt;have:=Yt hlt;omega
 have gok:∀o∈os.filter (λo=>decide (o.al<=t2)),o.Ok:=λo hm=>ho o (SN.mp hm).1
 generalize os.filter (λo=>decide (o.al<=t2))=G at gm gl gok;show aj _ (ex _ _ _ (List.set _ _ (Zz (.t (.lst (G.map λo=>.str o.nm))))) (H c ru qs (.int t2) os t2 (cs++outs t2 os) (Zz (.l false (os.map O.t))::(r++[Zz (.l false [.int a,.int b,.int d])]))))
 tm_at "v"
 rcases G with _|⟨o,G⟩
 ·refine ag (t:=.bl false) rfl ?_
  tm_at "v"
  exact K _ _ (.mk _ _ _ _ _ _ _ _ h3 h2)
 ·have dd:Dp 50 (.lst ((o::G).map λo=>.str o.nm)):=bQ (rg (d:=0) λx hx=>by
   obtain⟨y,hy,rfl⟩:=RX.mp hx;exact jK (lI _ (gok y hy).nm)) (by decide)
  refine ag (congrArg (Sr T.bl) (HJ dd)) ?_
  tm_at "v"
  have lG:((o::G).map λo=>T.str o.nm).length<1000:=by rw[R2];exact Si gl (Si hl (by decide))
  refine(ya (by rw[R2];exact Xu _) lG yK).imp ?_;rintro _ _ ⟨D,y,hy,rfl⟩;obtain⟨a,b,d,rfl⟩:=yA D;obtain⟨z,hz,rfl⟩:=RX.mp hy
  tm_at "v"
  refine ar (xx hr hq hl (by omega) h3 h2 (gm z hz)) ?_
  tm_at "v"
  exact K _ _ (.mk _ _ _ _ _ _ _ _ h3 h2)
end
inductive L1 (x:W) (ru:List (List Nat)) (qs:List (Int×Int)) (t:Int) (N:Nat) (ts:List T):Env->Mem->Prop where
 |mk (k:Nat) (os:List O) (cs:List T) (tm:T) (a b d:Int) (e1 e2:Option W):ts=(List.range' os.length k).map (λi:Nat=>T.int i)->os.length+k=N->cs.length=os.length->Rows cs->At tm t os->yy t os->L1 x ru qs t N ts [Zz x,Zz (.c 0),Zz (.c 2),Zz (.t (.int t)),Zz (.c 7),e1,e2,Zy,Zy,Zy] (H (Zz (.l false [.int a,.int b,.int d])) ru qs tm os t cs [Zz (.l false (os.map O.t))])
theorem law_n{n:Nat}{ns:List Int}(hl:ns.length<=63):aj (λw _=>w=.t (.bl true)) (cf (n+10) 69 [.t (.fH ns)] []):=by
 refine ay (H7 _ _ _) rfl ?_;unfold zc
 tm_at "w"
 refine(DK (by decide)).imp ?_;rintro _ _ ⟨rfl,v,rfl⟩
 tm_at "w"
 refine Em λa b=>?_
 tm_at "w"
 refine HA ?_
 tm_at "w"
 refine(Iw (m:=[Zy]) (i:=0) ⟨by decide,a,b,0,rfl⟩).imp ?_;rintro _ _ ⟨⟨_,a,b,d,rfl⟩,ru,A,rfl,hr,hp⟩
 tm_at "w"
 refine(FU (m:=[Zy]) (i:=0) ⟨by decide,a,b,d,rfl⟩).imp ?_;rintro _ _ ⟨⟨_,a,b,d,rfl⟩,qs,rfl,hq,hQ⟩
 tm_at "w"
 refine ar (Gm hr hp hq hQ) ?_;refine ar (x:=.c 2) (m:=H (Zz (.l false [.int a,.int b,.int d])) ru qs .non [] 0 [] []) rfl ?_
 tm_at "w"
 refine nJ (by decide) (by decide) λk a b d k0 k1=>?_
 obtain⟨y,hy,z,rfl,z0,z1⟩:=gU (P:=λx=>∃v:Int,x=T.int v/\0<=v/\v<=999999991) (xs:=[T.int 0,.int (10^9-45),.int (10^9-9)]) k0 k1 (by
  simp only[R6,RG,or_false,forall_eq_or_imp,forall_eq];exact⟨⟨_,rfl,by decide⟩,⟨_,rfl,by decide⟩,_,rfl,by decide⟩)
 tm_at "v"
 refine ag hy ?_
 tm_at "w"
 refine nJ (by decide) (by decide) λu a b d u0 u1=>?_
 tm_at "w"
 show aj _ (ex _ _ _ _ (H (Zz (.l false [.int a,.int b,.int d])) ru qs .non [] (z+u) [] [Zz (.l false (([]:List O).map O.t))]));have t0:0<=z+u:=by omega
 have t1:z+u<=999999999:=by omega
 refine kD ?_;generalize z+u=t at t0 t1
 tm_at "w"
 refine nJ (by decide) (by decide) λr a b d r0 r1=>?_
 tm_at "v"
 refine ag (GS _ _) ?_
 tm_at "v"
 refine ag (zP ⟨Ub (b:=12) (by omega) (by decide),Vh (b:=0) (by decide) (by omega)⟩) ?_;refine aM rfl ?_;obtain⟨N,hN,n0,n1⟩:∃N:Nat,(1+r).toNat=N/\1<=N/\N<=12:=⟨_,rfl,by omega,by omega⟩
 rw[hN,show rangeT 0 N=(List.range' 0 N).map λi:Nat=>T.int i by unfold rangeT;rw[List.range_eq_range'];exact UO λi _=>by rw[Int.zero_add]];refine dH (I:=L1 (.t (.fH ns)) ru qs t N) ?_ _ _ _ (.mk N [] [] .non a b d Zy Zy rfl (Ua _) rfl (λx hx=>Ys hx RG) (.inr ⟨rfl,rfl⟩) ⟨λo h=>Ys h RG,λj o h=>by cases h⟩) ?_
 ·rintro y ts _ _ ⟨k,os,cs,tm,a,b,d,e1,e2,hs,hk,hc,hR,ha,hC⟩
  rcases k with _|k
  ·cases hs
  rw[List.range'_succ,Rf]at hs;obtain⟨rfl,rfl⟩:=UN hs;refine⟨_,rfl,wZ hr hq (by omega) hc t0 t1 ha hC λa b d o e1 e2 hC2=>⟨_,rfl,.mk k (os++[o]) _ _ a b d e1 e2 (by rw[RD];rfl) (by rw[RD];show os.length+1+k=N;omega) (by rw[RD,RD,hc];rfl) (λx hx=>?_) (.inl rfl) hC2⟩⟩;rcases SM.mp hx with hx|hx
  ·exact hR x hx
  ·cases RH.mp hx;exact⟨GY,_,rfl,rfl⟩
 ·rintro _ _ ⟨k,os,cs,tm,a,b,d,e1,e2,hs,hk,hc,hR,ha,hC⟩
  have k0:k=0:=by
   cases k with
   |zero=>rfl
   |succ k=>cases hs
  subst k0;have hl12:os.length<=12:=by omega
  have ho:∀o∈os,o.Ok:=λo h=>(hC.ok o h).1
  have htm:tm=.int t:=by
   rcases ha with ha|⟨_,ha⟩
   ·exact ha
   ·subst ha;exact Ys hk (by show ¬0+0=N;omega)
  subst htm;show aj _ (ex _ _ _ _ (H (Zz (.l false [.int a,.int b,.int d])) ru qs (.int t) os t cs [Zz (.l false (os.map O.t))]));rw[show H (Zz (.l false [.int a,.int b,.int d])) ru qs (.int t) os t cs [Zz (.l false (os.map O.t))]=H (Zz (.l false [.int a,.int b,.int d])) ru qs (.int t) os t (cs++outs t os) [Zz (.l false (os.map O.t))] by rw[Au λo h=>(hC.ok o h).2,Rh]]
  tm_at "w"
  refine ar (ww hr hl12 hc hR ho) ?_
  tm_at "w"
  refine kD ?_
  tm_at "w"
  refine(DK (by decide)).imp ?_;rintro _ _ ⟨rfl,v,rfl⟩
  tm_at "w"
  refine Jr ?_
  tm_at "w"
  refine ag (uU ?_) ?_
  ·have:(cut ns (Zz 2) (Zz 16)).length<=ns.length:=by
    unfold cut;rw[Sm,Tc];omega
   rw[R2];show 1+_<=lim;exact Rg (m:=64) (by omega) (by decide)
  refine aM rfl ?_;refine dH (I:=λts env M=>(∀y∈ts,∃v:Int,y=.int v)/\L2 (.t (.fH ns)) _ ru qs cs os env M) ?_ _ _ _ ⟨λy hy=>?_,.mk t [] _ _ _ _ _ _ t0 (by omega)⟩ ?_
  ·rintro y ts _ _ ⟨hy,⟨t2,r2,e1,e5,e6,e7,e8,e9,h0,h1⟩⟩
   obtain⟨v,rfl⟩:=hy y R9;exact⟨_,rfl,law_turn hr hq hl12 hc hR h0 h1 hC λenv M h=>⟨_,rfl,λy h=>hy y (R4 _ h),h⟩⟩
  ·rcases R6.mp hy with rfl|hy
   ·exact⟨_,rfl⟩
   ·obtain⟨v,_,rfl⟩:=RX.mp hy
    exact⟨v,rfl⟩
  ·rintro _ _ ⟨_,⟨t2,r2,e1,e5,e6,e7,e8,e9,h0,h1⟩⟩
   show aj _ (ex _ _ _ _ _)
   tm_at "w"
   exact cI rfl rfl
theorem law_true(ns:List Int)(hl:ns.length<=63):∃m,az fns gv 91 69 [.t (.fH ns)] []=.ok (.t (.bl true)) m:=by
 obtain⟨w,m,e,rfl⟩:=(law_n (n:=81) hl).get;exact⟨m,e⟩
end My
section
set_option maxHeartbeats 1000000
namespace My
open PySem PySem.Spec PyProof.Rows Mi
noncomputable def top(i:Nat):S5:=PySem.Challenge.pw_matepoint_k54_out_at_just_the_till.main.body.getD i (.Pass ⟨0,0,0,0⟩)
noncomputable abbrev cS:S5:=top 8
noncomputable abbrev j6:S5:=top 9
noncomputable abbrev ij:S5:=top 10
noncomputable abbrev gj:S5:=top 11
noncomputable abbrev jD:S5:=top 12
noncomputable abbrev u9:S5:=top 13
noncomputable abbrev gt:S5:=top 14
noncomputable abbrev jz:S5:=top 15
noncomputable abbrev fQ:S5:=top 16
noncomputable abbrev jp:S5:=top 17
noncomputable abbrev gc:S5:=top 35
noncomputable abbrev cw:S5:=top 36
noncomputable abbrev fv:S5:=top 37
noncomputable abbrev gg:S5:=top 38
noncomputable abbrev iF:S5:=top 39
noncomputable abbrev js:S5:=top 40
noncomputable abbrev fe:S5:=top 47
noncomputable abbrev iH:S5:=top 48
noncomputable abbrev jM:S5:=top 49
noncomputable abbrev jC:S5:=top 50
noncomputable abbrev eJ:S5:=top 64
noncomputable abbrev jQ:S5:=top 65
noncomputable abbrev gG:S5:=top 66
noncomputable abbrev uf:S5:=top 67
noncomputable abbrev pY:S5:=top 68
noncomputable abbrev mJ:S5:=top 69
noncomputable abbrev iw:S5:=top 70
noncomputable abbrev jr:S5:=top 71
noncomputable abbrev eT:S5:=top 72
noncomputable abbrev cA:S5:=top 73
noncomputable abbrev bX:S5:=top 77
noncomputable abbrev f6:S5:=top 78
noncomputable abbrev dC:S5:=top 79
noncomputable abbrev dE:S5:=top 80
noncomputable abbrev eS:S5:=top 81
noncomputable abbrev aw:S5:=inBody (top 82) 0
noncomputable abbrev eP:S5:=inBody (top 82) 1
noncomputable abbrev gE:S5:=inBody (top 82) 2
noncomputable abbrev cq:S5:=inBody (top 82) 6
noncomputable abbrev gq:S5:=inBody (top 82) 7
noncomputable abbrev gi:S5:=inBody (top 82) 8
noncomputable abbrev eM:S5:=inBody (top 82) 9
noncomputable abbrev dM:S5:=inBody (top 82) 10
noncomputable abbrev fJ:S5:=inBody (top 82) 11
noncomputable abbrev bM:S5:=inBody (top 82) 12
noncomputable abbrev bZ:S5:=inBody (top 82) 13
noncomputable abbrev eO:S5:=inBody (top 82) 15
noncomputable abbrev ba:S5:=inBody (top 82) 17
noncomputable abbrev dO:S5:=inBody (top 82) 18
noncomputable abbrev dQ:S5:=inBody (top 82) 19
noncomputable abbrev b9:S5:=inBody (top 82) 20
noncomputable abbrev d7:S5:=inBody (top 82) 21
noncomputable abbrev d6:S5:=inBody (top 82) 22
noncomputable abbrev bk:S5:=inBody (top 82) 23
noncomputable abbrev cu:S5:=inBody (top 82) 24
noncomputable abbrev cV:S5:=inBody (top 82) 25
noncomputable abbrev ib:S5:=top 84
noncomputable abbrev py:S5:=top 85
noncomputable abbrev ph:S5:=top 86
noncomputable abbrev pV:S5:=top 87
noncomputable abbrev pd:S5:=top 88
noncomputable abbrev jW:S5:=top 89
noncomputable abbrev pb:S5:=top 90
noncomputable abbrev pJ:S5:=top 91
noncomputable abbrev l9:S5:=top 92
noncomputable abbrev pE:S5:=top 93
noncomputable abbrev mh:S5:=top 94
noncomputable abbrev hY:S5:=top 95
noncomputable abbrev lB:S5:=top 96
noncomputable abbrev oB:S5:=top 97
set_option hygiene false
local macro_rules
 | `(tactic| wtm_at $s:str)=>do
  let q ←`(?_)
  let mut r:Array (Lean.TSyntax `tactic):=#[]
  for c in s.getString.toList do
   let t ← match c with
    | '0'=>`(tactic| exact rfl)
    | '9'=>`(tactic| exact (fun _ _=>rfl))
    | 'b'=>`(tactic| exact (by kernel_rfl))
    | 'd'=>`(tactic| exact (by with_unfolding_all rfl))
    | 'e'=>`(tactic| exact (by decide))
    | 'g'=>`(tactic| exact ⟨rfl,rfl,rfl,by decide +kernel,rfl,by decide +kernel,by decide +kernel⟩)
    | 'h'=>`(tactic| refine ⟨?_⟩)
    | 'i'=>`(tactic| exact (fun _=>rfl))
    | 'k'=>`(tactic| intro B k f cdv A sk fs z T0 T1 hr)
    | 'l'=>`(tactic| exact (Fp (by decide +kernel)))
    | 's'=>`(tactic| intro _ _ _)
    | 'u'=>`(tactic| refine ⟨?_,?_,?_⟩)
    | 'v'=>`(tactic| refine .emit ?_ ?_)
    | 'N'=>`(tactic| exact (by decide +kernel))
    | 'Y'=>`(tactic| refine ⟨?_,?_⟩)
    | '('=>`(tactic| exact (.inl rfl))
    | '+'=>`(tactic| refine .cons (.mk ?_ rfl) ?_)
    | 'Í'=>`(tactic| intro B k f cdv A sk fs z T0 T1 hr hr2 hcd)
    | 'Î'=>`(tactic| exact (bx [0,1,2] rfl (show Ro (["number","offer","left"]:List Str) from by decide +kernel)))
    | 'Û'=>`(tactic| refine aN (N':=["size"]) ?_ ?_)
    | 'Ü'=>`(tactic| exact (au 0 (show Ro (["size"]:List Str) from by decide +kernel)))
    | 'Ý'=>`(tactic| refine aN (N':=["one"]) ?_ ?_)
    | 'Þ'=>`(tactic| exact (au 0 (show Ro (["one"]:List Str) from by decide +kernel)))
    | 'à'=>`(tactic| exact (bG rfl rfl T0.FF (by decide)))
    | 'á'=>`(tactic| exact (fun _=>bI.lam hr2))
    | 'â'=>`(tactic| exact (fun _ _ _ _ _=>rfl))
    | 'æ'=>`(tactic| refine ⟨?_,?_,?_,?_⟩)
    | 'ù'=>`(tactic| exact (au 0 (show Ro (["_law_offer_here","_law_time"]:List Str) from by decide +kernel)))
    |_=>match("13wB 20zZ 3v0 40FD 50hr 64Eg 7v1 81DW a3HB c0hr.units f0wz j0T0.wy m2ET nv2 o4Ga p4Fz q0X8 r1Kh t7wq w1E7 x0T1.pI y3Ff z2J2 Av3 B0T0.Jt C5Ft D2Fg E1E1 F2Aw G1FA H2HD I1PW.pt J0Hu Kv4 L5Ef M1H0 O1ID P6Gq Q0T0.tO R0T0.FN S4Fe T4Bc Us2 V0E5 W0T0.kG Xv5 Z1Fq !s3 #5BG $0q0.nd %5C0 &0T0.Jd )0BQ *2yq ,0T0.FZ -0T1.j5 .0T1.fK /s1 :0T0.B5 ;0T1.cy <v7 =3yM >v6 ?1Fy @0T0.kN [0T0.iM ]5xX ^s6 _v8 `0mQ.nd {5Gj |0kX.nd }0T1.eH ~0T1.jV Às4 Á0T0.vM Â4D9 Ã0T0.kC Ä0T0.Jo Å0T1.pC Æ0sY.nd Ç0nO.nd È0T0.Jv É0T0.JJ Ê0T1.gd Ë2EO Ì1E2 Ï0dz.nd Ð0T1.dP Ñ0T1.bh Ò0T0.jo Ó3AT Ô0eB.nd Õ0v8.nd Ö0T1.pZ Ø0n6.nd Ù2Dt Ú3xU ß3C4 ã2wU ä5w5 å6AR çs5 è5yX é0T1.dI ê0T1.dS ë0T0.kJ ì0T1.cQ í0iZ.nd î0T1.bn ï3yz ð5Ej ñ0T0.i7 ò5Cj ó0T1.j4 ôs8 õ3FG ö0T1.ik ø5El".splitOn " ").find? (λe=>e.toList.head?==some c) with
     |some e=>
      let d:=e.toList.tail.headD c
      let x:=String.ofList (e.toList.drop 2)
      if d=='v' then `(tactic| exact (vr $(Lean.quote x.toNat!)))
      else if d=='s' then `(tactic| refine sg (i:=$(Lean.quote x.toNat!)) ?_ ?_ ?_)
      else if d=='0' then `(tactic| exact $(Lean.mkIdent x.toName))
      else `(tactic| refine $(Lean.mkIdent x.toName) $((List.replicate (d.toNat-48) q).toArray)*)
     |_=>Lean.Macro.throwUnsupported
   r:=r.push t
  `(tactic| ($[$r:tactic];*))
theorem o6:ac ["text"] ["text"] (aa cS):=by
 wtm_at "g"
theorem yi:ac ["thing"] ["thing"] (aa j6):=by
 wtm_at "g"
theorem wx:ac ["thing"] ["thing"] (aa ij):=by
 wtm_at "g"
theorem tZ:ac ["thing"] ["thing"] (aa gj):=by
 wtm_at "g"
theorem xZ:ac ["thing"] ["thing"] (aa jD):=by
 wtm_at "g"
theorem F8:ac ["words"] ["words"] (aa u9):=by
 wtm_at "g"
theorem uv:ac ["thing"] ["thing"] (aa gt):=by
 wtm_at "g"
theorem xE:ac ["thing"] ["thing"] (aa jz):=by
 wtm_at "g"
theorem ub:ac ["thing"] ["thing"] (aa fQ):=by
 wtm_at "g"
theorem yG:ac ["thing"] ["thing"] (aa jp):=by
 wtm_at "g"
theorem ux:ac ["thing","texts"] ["thing","texts"] (aa gc):=by
 wtm_at "g"
theorem mW:ac ["thing"] ["thing"] (aa cw):=by
 wtm_at "g"
theorem si:ac ["thing"] ["thing"] (aa fv):=by
 wtm_at "g"
theorem uX:ac ["thing"] ["thing"] (aa gg):=by
 wtm_at "g"
theorem vG:ac ["thing"] ["thing"] (aa iF):=by
 wtm_at "g"
theorem kX:ac ["thing","layer","parts","depth"] ["thing"] (aa js):=by
 wtm_at "g"
theorem sj:ac ["thing","low","high"] ["thing","low","high"] (aa fe):=by
 wtm_at "g"
theorem nX:ac ["thing","side","card","wish","many","least","weight","till"] ["thing"] (aa iH):=by
 wtm_at "g"
theorem xB:ac ["offer"] ["offer"] (aa jM):=by
 wtm_at "g"
theorem yQ:ac ["offer"] ["offer"] (aa jC):=by
 wtm_at "g"
theorem sG:ac ["words"] ["words"] (aa eJ):=by
 wtm_at "g"
theorem xl:ac ["thing"] ["thing"] (aa jQ):=by
 wtm_at "g"
theorem uk:ac ["thing"] ["thing"] (aa gG):=by
 wtm_at "g"
theorem zT:ac ["word","waiter","number","offer","left"] ["word","waiter"] (aa uf):=by
 wtm_at "g"
theorem DI:ac ["rule","waiter"] ["rule","waiter"] (aa pY):=by
 wtm_at "g"
theorem sL:ac ["rule","waiters","by_rule"] ["rule","waiters"] (aa mJ):=by
 wtm_at "g"
theorem oG:ac ["kind","waiters","alike"] ["kind","waiters"] (aa iw):=by
 wtm_at "g"
theorem fD:ac ["borne","waiters","told","kind","givers","takers","bearers","pairs"] ["borne","waiters"] (aa jr):=by
 wtm_at "g"
theorem rR:ac ["waiters"] ["waiters"] (aa eT):=by
 wtm_at "g"
theorem dz:ac ["rule","borne","waiters","known","places","by_row","numbers","many"] ["rule","borne","waiters"] (aa cA):=by
 wtm_at "g"
theorem nz:ac ["thing"] ["thing"] (aa bX):=by
 wtm_at "g"
theorem uV:ac ["thing"] ["thing"] (aa f6):=by
 wtm_at "g"
theorem qb:ac ["quiet","time"] ["quiet","time"] (aa dC):=by
 wtm_at "g"
theorem qU:ac ["thing"] ["thing"] (aa dE):=by
 wtm_at "g"
theorem sB:ac ["till","time"] ["till","time"] (aa eS):=by
 wtm_at "g"
theorem lY:ac ["self","rule","borne","quiet"] ["self","rule","borne","quiet"] (aa aw):=by
 wtm_at "g"
theorem sI:ac ["self","time","offer"] ["self","time","offer"] (aa eP):=by
 wtm_at "g"
theorem tQ:ac ["self","time","name"] ["self","time","name"] (aa gE):=by
 wtm_at "g"
theorem nA:ac ["self","time"] ["self","time"] (aa cq):=by
 wtm_at "g"
theorem tW:ac ["self"] ["self"] (aa gq):=by
 wtm_at "g"
theorem uy:ac ["self"] ["self"] (aa gi):=by
 wtm_at "g"
theorem sv:ac ["self","number"] ["self","number"] (aa eM):=by
 wtm_at "g"
theorem rp:ac ["self","number"] ["self","number"] (aa dM):=by
 wtm_at "g"
theorem vg:ac ["self","number"] ["self","number"] (aa fJ):=by
 wtm_at "g"
theorem lZ:ac ["self"] ["self"] (aa bM):=by
 wtm_at "g"
theorem gW:ac ["self","waiting"] ["self"] (aa bZ):=by
 wtm_at "g"
theorem rZ:ac ["self"] ["self"] (aa eO):=by
 wtm_at "g"
theorem iQ:ac ["self","thing"] ["self","thing"] (aa ba):=by
 wtm_at "g"
theorem i6:ac ["self","name","number","offer","left"] ["self","name"] (aa dO):=by
 wtm_at "g"
theorem i0:ac ["self","name","number"] ["self","name"] (aa dQ):=by
 wtm_at "g"
theorem hV:ac ["self","word","offer","number"] ["self","word","offer"] (aa b9):=by
 wtm_at "g"
theorem qH:ac ["self","row"] ["self","row"] (aa d7):=by
 wtm_at "g"
theorem iZ:ac ["self","time","moment"] ["self","time"] (aa d6):=by
 wtm_at "g"
theorem eB:ac ["self","time","tills","ends","ahead"] ["self","time"] (aa bk):=by
 wtm_at "g"
theorem gX:ac ["self","number","offer","left"] ["self"] (aa cu):=by
 wtm_at "g"
theorem iN:ac ["self","meeting"] ["self"] (aa cV):=by
 wtm_at "g"
theorem wn:ac ["_law_script","_law_k"] ["_law_script","_law_k"] (aa ib):=by
 wtm_at "g"
theorem CS:ac ["_law_cell"] ["_law_cell"] (aa py):=by
 wtm_at "g"
theorem v8:ac ["_law_tape_here","_law_many","_law_found","_law_number_here"] ["_law_tape_here","_law_many"] (aa ph):=by
 wtm_at "g"
theorem BX:ac ["_law_tape_here","_law_some"] ["_law_tape_here","_law_some"] (aa pV):=by
 wtm_at "g"
theorem wv:ac ["_law_k","_law_some"] ["_law_k"] (aa pd):=by
 wtm_at "g"
theorem yS:ac ["_law_tape_here"] ["_law_tape_here"] (aa jW):=by
 wtm_at "g"
theorem qp:ac ["_law_tape_here","_law_name_here","_law_kind","_law_marks","_law_sizes"] ["_law_tape_here","_law_name_here","_law_kind"] (aa pb):=by
 wtm_at "g"
theorem qx:ac ["_law_tape_here","_law_deep","_law_way","_law_many"] ["_law_tape_here","_law_deep"] (aa pJ):=by
 wtm_at "g"
theorem sY:ac ["_law_tape_here","_law_side","_law_name_here","_law_kind","_law_till","_law_many","_law_least","_law_wish_here","_law_weight"] ["_law_tape_here","_law_side","_law_name_here","_law_kind","_law_till"] (aa l9):=by
 wtm_at "g"
theorem lD:ac ["_law_tape_here","_law_words","_law_found","_law_k"] ["_law_tape_here"] (aa pE):=by
 wtm_at "g"
theorem nO:ac ["_law_tape_here","_law_found","_law_time","_law_k","_law_begin"] ["_law_tape_here"] (aa mh):=by
 wtm_at "g"
theorem n6:ac ["_law_house","_law_time","_law_name_here","_law_found"] ["_law_house","_law_time","_law_name_here"] (aa hY):=by
 wtm_at "g"
theorem mQ:ac ["_law_house","_law_offers","_law_time","_law_outs","_law_k","_law_offer_here","_law_end","_law_rows","_law_waits"] ["_law_house","_law_offers","_law_time"] (aa lB):=by
 wtm_at "g"
theorem q0:ac ["_law_script","_law_tape_here","_law_house","_law_time","_law_offers","_law_k","_law_till","_law_cell","_law_tills","_law_gone"] ["_law_script"] (aa oB):=by
 wtm_at "g"
structure uN (B:Bs):Prop where
 Jd:B.mg "all" = Zy
 JB:B.mg "any" = Zy
 Hq:B.mg "bool" = Zy
 vM:B.mg "enumerate" = Zy
 JJ:B.mg "int" = Zy
 tO:B.mg "isinstance" = Zy
 Jt:B.mg "len" = Zy
 Iz:B.mg "list" = Zy
 Kp:B.mg "max" = Zy
 Jo:B.mg "min" = Zy
 FZ:B.mg "range" = Zy
 Jx:B.mg "set" = Zy
 B5:B.mg "sorted" = Zy
 Jv:B.mg "str" = Zy
 FN:B.mg "tuple" = Zy
 A6:a8 B "LETTERS" (.str [97,98,99,100,101,102,103,104,105,106,107,108,109,110,111,112,113,114,115,116,117,118,119,120,121,122])
 ri:a8 B "LONGEST_WORD" (.int 8)
 uA:a8 B "WISH_WORDS" (.tup [(.str [97,110,121]),(.str [105,115]),(.str [98,121]),(.str [110,111,116]),(.str [97,110,100]),(.str [111,114])])
 l6:a8 B "GREATEST_NUMBER" (.int 1000000000)
 u4:a8 B "MOST_MARKS" (.int 6)
 tJ:a8 B "MOST_SIZES" (.int 6)
 AN:a8 B "DEEPEST" (.int 6)
 ua:a8 B "MOST_PARTS" (.int 40)
 oX:a8 B "FEWEST_JOINED" (.int 2)
 sD:a8 B "MOST_JOINED" (.int 6)
 FF:a8 B "SIDES" (.tup [(.str [103,105,118,101]),(.str [116,97,107,101]),(.str [98,101,97,114])])
 o9:a8 B "GREATEST_MANY" (.int 1000000)
 mE:a8 B "GREATEST_WEIGHT" (.int 1000)
 uB:a8 B "RULE_WORDS" (.tup [(.str [104,101,97,118,121]),(.str [103,114,101,97,116]),(.str [115,109,97,108,108]),(.str [115,111,111,110])])
 my:a8 B "MOST_RULE_WORDS" (.int 3)
 tV:a8 B "MOST_BORNE" (.int 4)
 uo:a8 B "MOST_QUIET" (.int 8)
 rb:a8 B "MOST_WAITING" (.int 30)
 vI:B.mg "NoName" = Zz (.ref 176)
 EU:B.mg "House" = Zz (.ref 631)
 kC:cP B.K 631 "rows"
 kN:cP B.K 631 "ends"
 jo:cP B.K 631 "lefts"
 iM:cP B.K 631 "offers"
 kG:cP B.K 631 "time"
 i7:cP B.K 631 "quiet"
 je:cP B.K 631 "borne"
 kJ:cP B.K 631 "rule"
 wy:FI B.K 631
 Av:BD B.K 176
 ni:PySem.W.exmOne B.K (.ref 176) (.ref 176)=Zz true
 lam:wQ B
structure wM (B:Bs) (k:Nat):Prop where
 cX:df B fns gv k "is_long_word" 0
 j5:df B fns gv k "is_word" 1
 fF:df B fns gv k "is_whole" 2
 gd:df B fns gv k "is_number" 3
 jV:df B fns gv k "is_time" 4
 p8:df B fns gv k "rise" 5
 fZ:df B fns gv k "are_marks" 6
 jx:df B fns gv k "is_size" 7
 gh:df B fns gv k "are_sizes" 8
 jt:df B fns gv k "is_card" 9
 fK:df B fns gv k "is_one_of" 10
 bW:df B fns gv k "is_plain_wish" 11
 eI:df B fns gv k "are_joined" 12
 d9:df B fns gv k "things_in" 13
 iJ:df B fns gv k "has_form" 14
 jP:df B fns gv k "is_wish" 15
 eH:df B fns gv k "is_between" 16
 ip:df B fns gv k "is_offer" 17
 g9:df B fns gv k "name_of" 18
 hW:df B fns gv k "kind_of" 19
 cR:df B fns gv k "are_unlike" 20
 jE:df B fns gv k "is_rule" 21
 gr:df B fns gv k "are_borne" 22
 u8:df B fns gv k "rank" 23
 pP:df B fns gv k "ranks" 24
 jl:df B fns gv k "row_of" 25
 iI:df B fns gv k "sides_of" 26
 jS:df B fns gv k "sets_of" 27
 eR:df B fns gv k "by_numbers" 28
 bU:df B fns gv k "first_meeting" 29
 bV:df B fns gv k "is_quiet_time" 30
 gz:df B fns gv k "are_quiet" 31
 dX:df B fns gv k "is_quiet_at" 32
 dD:df B fns gv k "check_offer" 33
 eV:df B fns gv k "check_till" 34
 bK:JA B fns gv k 631 35 lK
 eK:oQ B fns gv k 631 "come" 36
 fL:oQ B fns gv k 631 "off" 37
 bY:oQ B fns gv k 631 "come_to" 38
 ge:oQ B fns gv k 631 "now" 39
 fS:oQ B fns gv k 631 "row" 40
 eX:oQ B fns gv k 631 "left" 41
 dW:oQ B fns gv k 631 "offer" 42
 gB:oQ B fns gv k 631 "end" 43
 bO:oQ B fns gv k 631 "meetings" 44
 cy:oQ B fns gv k 631 "waiters" 45
 eQ:oQ B fns gv k 631 "book" 46
 bh:oQ B fns gv k 631 "check_number" 47
 dI:oQ B fns gv k 631 "place" 48
 dK:oQ B fns gv k 631 "known" 49
 ci:oQ B fns gv k 631 "take_in" 50
 dS:oQ B fns gv k 631 "write" 51
 dP:oQ B fns gv k 631 "reach" 52
 bn:oQ B fns gv k 631 "next_moment" 53
 cC:oQ B fns gv k 631 "let_out" 54
 cQ:oQ B fns gv k 631 "settle" 55
 ik:df B fns gv k "_law_cell_at" 56
 lV:df B fns gv k "_law_tape" 57
 pI:df B fns gv k "_law_draw" 58
 pC:df B fns gv k "_law_pick" 59
 lm:df B fns gv k "_law_name" 60
 j4:df B fns gv k "_law_number" 61
 pr:df B fns gv k "_law_card" 62
 pZ:df B fns gv k "_law_wish" 63
 lq:df B fns gv k "_law_offer" 64
 pn:df B fns gv k "_law_rule" 65
 mx:df B fns gv k "_law_quiet" 66
 iB:df B fns gv k "_law_no_name" 67
 i8:df B fns gv k "_law_right" 68
 DH:df B fns gv k "law" 69
abbrev bR(ns:List Str)(x:Str)(st:S5)(b:S):Prop:=∀{B:Bs}{k:Nat}{f:RB}{cdv:R3}{A:SF}{sk:List SZ}{fs:List RB}{z:Nat},uN B->wM B k->bI k (A.deeper (envOfC x (aa st) z f cdv))->Bd (az fns gv k) gv (lF B ns x (aa st) f cdv A sk fs z) (aR st) b
abbrev Kw(ns:List Str)(x:Str)(st:S5)(b:S):Prop:=∀{B:Bs}{k:Nat}{f:RB}{cdv:R3}{A:SF}{sk:List SZ}{fs:List RB}{z:Nat},uN B->wM B k->bI k (A.deeper (envOfC x (aa st) z f cdv))->bI (k+1) A->codeIn B.K cdv x=true->Bd (az fns gv k) gv (lF B ns x (aa st) f cdv A sk fs z) (aR st) b
section
variable{B:Bs}{k:Nat}{f:RB}{cdv:R3}{A:SF}{sk:List SZ}{fs:List RB}{z:Nat}
theorem oV:bR ["text"] "is_long_word" cS cN:=by
 wtm_at "kh8DSC0B1320004dcDS3";exact(bG rfl rfl T0.uA (by decide));wtm_at "dcM%0&1";refine aN (N':=["sign"]) ?_ ?_;wtm_at "0tbbr3isu";exact(au 0 (show Ro (["sign"]:List Str)from by decide +kernel));wtm_at "qv0S3";exact(bG rfl rfl T0.A6 (by decide));wtm_at "dcee2000"
theorem yd:bR ["thing"] "is_word" j6 j0:=by
 wtm_at "kh8DP30Q0ÈNDSC0B132000";exact(bG rfl rfl T0.ri (by decide));wtm_at "dcM6";exact T1.cX;wtm_at "501320"
theorem wm:bR ["thing"] "is_whole" ij iC:=by
 wtm_at "kh8DP30Q0ÉNM";refine EG ?_;wtm_at "P30Q0";exact T0.Hq;wtm_at "N"
theorem ui:bR ["thing"] "is_number" gj fO:=by
 wtm_at "kh8D6";exact T1.fF;wtm_at "501320M{43";exact(bG rfl rfl T0.l6 (by decide));wtm_at "dc"
theorem wV:bR ["thing"] "is_time" jD jy:=by
 wtm_at "kh86Ê501320"
theorem E6:bR ["words"] "rise" u9 uW:=by
 wtm_at "kh8%0&1";refine aN (N':=["at","words"]) ?_ ?_;wtm_at "0tbbÚ0,141C0B132000200isu";exact(au 0 (show Ro (["at","words"]:List Str)from by decide +kernel));wtm_at "qv0Sa7m349a739dcee2000"
theorem vc:bR ["thing"] "are_marks" gt fU:=by
 wtm_at "khpIHEzP30Q0RNiOoC0B132000";exact(bG rfl rfl T0.u4 (by decide));wtm_at "dc8Jf8D%0&1";refine aN (N':=["mark"]) ?_ ?_;wtm_at "0tbbr3isu";exact(au 0 (show Ro (["mark"]:List Str)from by decide +kernel));wtm_at "qv06-501320ee2000M6";exact T1.p8;wtm_at "501320"
theorem wR:bR ["thing"] "is_size" jz ju:=by
 wtm_at "kh8DP30Q0RNDSC0B1320004dcD6-501a34920M6Ê501a34920"
theorem u7:bR ["thing"] "are_sizes" fQ f8:=by
 wtm_at "khpIHEzP30Q0RNiOoC0B132000";exact(bG rfl rfl T0.tJ (by decide));wtm_at "dc8Jf8D%0&1Û0tbbr3isuÜqv06";exact T1.jx;wtm_at "501320ee2000M6";exact T1.p8;wtm_at "501Û0tbbr3isuÜqv0a349ee20"
theorem yc:bR ["thing"] "is_card" jp jv:=by
 wtm_at "khpIHEzP30Q0RNiOoC0B1320004dc8Jf8D6-501a34920D6-501a34920D6";exact T1.fZ;wtm_at "501a34920M6";exact T1.gh;wtm_at "501a34920"
theorem uY:bR ["thing","texts"] "is_one_of" gc f9:=by
 wtm_at "kh8DP30Q0ÈNMS37dc"
theorem nh:bR ["thing"] "is_plain_wish" cw aV:=by
 wtm_at "khpEzP30Q0RNi8JfpoC0B1320004dc86.501a3491w1l20200fpoC0B1320004dc8D6.501a3491w1l1l200200M6-501a34920fpoC0B1320004dc8D6.501a3491w1l1l200200D6-501a34920M6Ê501a34920f8J"
theorem r7:bR ["thing"] "are_joined" fv fh:=by
 wtm_at "kh8DP30Q0RNM{";exact(bG rfl rfl T0.oX (by decide));wtm_at "C0B132000";exact(bG rfl rfl T0.sD (by decide));wtm_at "dc"
theorem u6:bR ["thing"] "things_in" gg bv:=by
 wtm_at "khpIHEzP30Q0RNiOoC0B1320004dc8w2fpz6.501a3491w1l20200i8w1a34920fpIËz6.501a3491w1l1l200200iÌz6";exact T1.eI;wtm_at "501a34920i8a349f8w2"
theorem wa:bR ["thing"] "has_form" iF fw:=by
 wtm_at "kh8";refine Iy ?_ ?_;wtm_at "6";exact T1.bW;wtm_at "501320MSC0B16";exact T1.d9;wtm_at "50132020004dc"
theorem yW:bR ["thing","layer","parts","depth"] "is_wish" js jB:=by
 wtm_at "kh/|G1320U|4#0=0,1";exact(bG rfl rfl T0.AN (by decide));wtm_at "20";exact(au 3 kX.nd);refine Du (i:=2) ?_ ?_ ?_;wtm_at "|C0B172000pIHon";exact(bG rfl rfl T0.ua (by decide));wtm_at "dcOEz%0&1Ý0tbbr7isuÞqv06";exact T1.iJ;wtm_at "501320ee2000i8Jf";refine cW (N':=["one","below"]) ?_ ?_ ?_ ?_ ?_ ?_;wtm_at "0tbbr7isu";exact(au 0 (show Ro (["one","below"]:List Str)from by decide +kernel));wtm_at "q";refine .more rfl ?_ (λ_=>rfl) ?_ ?_ (by decide) (show ∀i∈rJ (.nm 1)++fB (.emit (.var 1)),i<2 from by decide) ?_;wtm_at "r6";exact T1.d9;wtm_at "501320";exact(au 1 (show Ro (["one","below"]:List Str)from by decide +kernel));wtm_at "qv07ee|0(f8SC0B1720004dc"
theorem su:bR ["thing","low","high"] "is_between" fe eZ:=by
 wtm_at "kh8D6";exact T1.fF;wtm_at "501320M{73ndc"
theorem wg:bR ["thing","side","card","wish","many","least","weight","till"] "is_offer" iH iu:=by
 wtm_at "khpIHEzP30Q0RNiOoC0B1320004dc8Jfß3";exact(bx [1,2,3,4,5,6,7] rfl nX.nd);wtm_at "pIHEz6.50171à200iHEz6";exact T1.jt;wtm_at "501n20iOEz6";exact T1.jP;wtm_at "501A20i8JfpIHEz6}501K141";exact(bG rfl rfl T0.o9 (by decide));wtm_at "2000iOEz6}501X141K2000i8Jf8D6}501>141";exact(bG rfl rfl T0.mE (by decide));wtm_at "2000M6~501<20"
theorem yf:bR ["offer"] "name_of" jM jL:=by
 wtm_at "kh8aa34949"
theorem yu:bR ["offer"] "kind_of" jC jU:=by
 wtm_at "kh8aa34949"
theorem rY:bR ["words"] "are_unlike" eJ c8:=by
 wtm_at "kh8S";refine xj ?_ ?_ ?_ ?_ ?_ ?_;wtm_at "00B0";exact T0.Jx;wtm_at "1320C0B132000dc"
theorem yr:bR ["thing"] "is_rule" jQ jG:=by
 wtm_at "khpIHEzP30Q0RNiOoC0B132000";exact(bG rfl rfl T0.my (by decide));wtm_at "dc8Jf8D%0&1";refine aN (N':=["word"]) ?_ ?_;wtm_at "0tbbr3isu";exact(au 0 (show Ro (["word"]:List Str)from by decide +kernel));wtm_at "qv06.50131";exact(bG rfl rfl T0.uB (by decide));wtm_at "200ee2000M6";exact T1.cR;wtm_at "501320"
theorem tM:bR ["thing"] "are_borne" gG gC:=by
 wtm_at "khpIHEzP30Q0RNiOoC0B132000";exact(bG rfl rfl T0.tV (by decide));wtm_at "dc8Jf8D%0&1";refine aN (N':=["kind"]) ?_ ?_;wtm_at "0tbbr3isu";exact(au 0 (show Ro (["kind"]:List Str)from by decide +kernel));wtm_at "qv06-501320ee2000M6";exact T1.cR;wtm_at "501320"
theorem EN:bR ["word","waiter","number","offer","left"] "rank" uf uG:=by
 wtm_at "khß7";exact(bx [2,3,4] rfl zT.nd);wtm_at "po3ldc8?aA49fpo3ldc8?Kfpo3ldc8Kf8aA49"
theorem BU:bR ["rule","waiter"] "ranks" pY pf:=by
 wtm_at "kh8m";refine aN (N':=["word","waiter"]) ?_ ?_;wtm_at "0tbbr3isu";exact(au 0 (show Ro (["word","waiter"]:List Str)from by decide +kernel));wtm_at "qv06";exact T1.u8;wtm_at "501317200eeG1a74920"
theorem A1:Kw ["rule","waiters","by_rule"] "row_of" mJ l7:=by
 wtm_at "ÍhU";exact sL.nd;refine ta (k:=k) (y:="one") (N':=["rule"]) "row_of" ?_ ?_ ?_ ?_ ?_ ?_ ?_ ?_ ?_ ?_ ?_ ?_ ?_ ?_ ?_;wtm_at "5á";exact T0.lam;exact hcd;wtm_at ":bb00N0â07";intro _ _ _ _ _ hr;wtm_at "6";exact T1.pP;wtm_at "5017132008";refine aN (N':=["number","offer","left"]) ?_ ?_;wtm_at "0tbbrnisuÎqv03ee"
theorem vD:bR ["kind","waiters","alike"] "sides_of" iw iD:=by
 wtm_at "khU";exact oG.nd;refine aN (N':=["waiter","kind"]) ?_ ?_;wtm_at "0tbbr7isu";exact(au 0 (show Ro (["waiter","kind"]:List Str)from by decide +kernel));wtm_at "Yo6";exact T1.hW;wtm_at "501a349207dcqv03ee8";refine aN (N':=["side","alike"]) ?_ ?_;wtm_at "0tbbràisu";exact(au 0 (show Ro (["side","alike"]:List Str)from by decide +kernel));wtm_at "qv0";refine aN (N':=["number","offer","left","side"]) ?_ ?_;wtm_at "0tbbr7isu";exact(bx [0,1,2] rfl (show Ro (["number","offer","left","side"]:List Str)from by decide +kernel));wtm_at "Yoa749Adcqv03eeee"
theorem xh:bR ["borne","waiters","told","kind","givers","takers","bearers","pairs"] "sets_of" jr j3:=by
 wtm_at "khU";exact fD.nd;wtm_at "Z2#0r";refine uM (N':=["waiter"]) ?_ ?_ ?_ ?_;wtm_at "00:tbbr7isu";exact(au 0 (show Ro (["waiter"]:List Str)from by decide +kernel));wtm_at "qv06";exact T1.hW;wtm_at "501a34920ee";exact(au 3 fD.nd);refine AQ ?_ ?_ ?_;wtm_at "6";exact T1.iI;wtm_at "501A17200";exact(FP [4,5,6] rfl fD.nd);refine cW (N':=["giver","taker","takers"]) ?_ ?_ ?_ ?_ ?_ ?_;wtm_at "0tbbrKisu";exact(au 0 (show Ro (["giver","taker","takers"]:List Str)from by decide +kernel));wtm_at "q";refine .more rfl ?_ (λ_=>rfl) ?_ ?_ (by decide) (show ∀i∈rJ (.nm 1)++fB (.emit (.tup (.cons (.var 0) (.cons (.var 1) .nil)))),i<3 from by decide) ?_;wtm_at "rn";exact(au 1 (show Ro (["giver","taker","takers"]:List Str)from by decide +kernel));wtm_at "qv0w1317200ee";exact fD.nd;wtm_at "0(poA3dcFãn1";refine aN (N':=["giver","taker","bearer","bearers"]) ?_ ?_;wtm_at "0tbbr<isu";exact(bx [0,1] rfl (show Ro (["giver","taker","bearer","bearers"]:List Str)from by decide +kernel));wtm_at "q";refine .more rfl ?_ (λ_=>rfl) ?_ ?_ (by decide) (show ∀i∈rJ (.nm 2)++fB (.emit (.tup (.cons (.var 0) (.cons (.var 1) (.cons (.var 2) .nil))))),i<4 from by decide) ?_;wtm_at "rA";exact(au 2 (show Ro (["giver","taker","bearer","bearers"]:List Str)from by decide +kernel));wtm_at "qv0w13171n2000ee20fFãn1<20ff8ä0:1n2000"
theorem sx:bR ["waiters"] "by_numbers" eT fj:=by
 wtm_at "kh8";refine tD (N':=["number","offer","left"]) ?_ ?_;wtm_at "0åbbr3isæÎq3w171n200e"
theorem m8:Kw ["rule","borne","waiters","known","places","by_row","numbers","many"] "first_meeting" cA cB:=by
 wtm_at "Íh!Ï6";exact T1.eR;wtm_at "501n20ÀÏ";refine tD (N':=["place","number"]) ?_ ?_;wtm_at "0åbb";refine DD ?_ ?_ ?_;wtm_at "0Á1";refine PE.tree ?_;wtm_at "6";exact T1.jl;wtm_at "50131n20020isæ";exact(bx [0,1] rfl (show Ro (["place","number"]:List Str)from by decide +kernel));wtm_at "q73eçÏ";refine ta (k:=k) (y:="numbers") (N':=["places"]) "first_meeting" ?_ ?_ ?_ ?_ ?_ ?_ ?_ ?_ ?_ ?_ ?_ ?_ ?_ ?_ ?_;wtm_at "5á";exact T0.lam;exact hcd;wtm_at ":bb00N0â06";exact T1.jS;wtm_at "50171n200";intro _ _ _ _ _ hr;wtm_at "è0:1";refine aN (N':=["number","places"]) ?_ ?_;wtm_at "0tbbr3isu";exact(au 0 (show Ro (["number","places"]:List Str)from by decide +kernel));wtm_at "qv0";refine Ds ?_ ?_ ?_ ?_;wtm_at "739cee2000#0rX";exact(au 6 dz.nd);wtm_at ")8V"
theorem mP:bR ["thing"] "is_quiet_time" bX ck:=by
 wtm_at "khpIHEzP30Q0RNiOoC0B1320004dc8Jf8D6~501a34920D6~501a34920MSa349a349dc"
theorem tH:bR ["thing"] "are_quiet" f6 gA:=by
 wtm_at "khpIHEzP30Q0RNiHoC0B132000";exact(bG rfl rfl T0.uo (by decide));wtm_at "dcOEz%0&1Ý0tbbr3isuÞqv06";exact T1.bV;wtm_at "501320ee2000i8Jf8%0&1";refine aN (N':=["at","thing"]) ?_ ?_;wtm_at "0tbbÚ0,141C0B132000200isu";exact(au 0 (show Ro (["at","thing"]:List Str)from by decide +kernel));wtm_at "qv0Saa7m34949aa73949dcee2000"
theorem re:bR ["quiet","time"] "is_quiet_at" dC dZ:=by
 wtm_at "kh8";refine Dv ?_ ?_ ?_ ?_ ?_;wtm_at "0";exact T0.JB;wtm_at "1";refine aN (N':=["begin","end","time"]) ?_ ?_;wtm_at "0tbbr3isu";exact(bx [0,1] rfl (show Ro (["begin","end","time"]:List Str)from by decide +kernel));wtm_at "qv0{3n7dcee2000"
theorem p7:bR ["thing"] "check_offer" dE dJ:=by
 wtm_at "khpEz6";exact T1.ip;wtm_at "501320i)ff"
theorem sy:bR ["till","time"] "check_till" eS eY:=by
 wtm_at "khpo37dc)ff"
theorem lj(T0:uN B)(T1:wM B k)(hr:bI k (A.deeper (envOfC "House.__init__" (aa aw) z f cdv))):∃c sA p l,aR aw=.If c sA [] p::l/\PT (az fns gv k) gv (lF B ["self","rule","borne","quiet"] "House.__init__" (aa aw) f cdv A sk fs z) c bA/\fW (az fns gv k) gv (lF B ["self","rule","borne","quiet"] "House.__init__" (aa aw) f cdv A sk fs z) sA bw/\AM (az fns gv k) gv (lF B ["self","rule","borne","quiet"] "House.__init__" (aa aw) f cdv A sk fs z) "self" lK l/\∀p,PE (az fns gv k) gv (lF B ["self","rule","borne","quiet"] "House.__init__" (aa aw) f cdv A sk fs z) (.Name "self" p) (.var 0):=by
 refine⟨_,_,_,_,rfl,?_,?_,?_,λp=>vr 0⟩;wtm_at "IHEz6";exact T1.jE;wtm_at "501720iHEz6";exact T1.gr;wtm_at "501n20iOEz6";exact T1.gz;wtm_at "501A20i)+7+n+A+V+Z2+Z2+Z2+Z2";exact .nil
theorem rT:bR ["self","time","offer"] "House.come" eP fq:=by
 wtm_at "khF6";exact T1.dD;wtm_at "501n20FLjÐ531720poLjé5316";exact T1.g9;wtm_at "501n2020Vdc)fF6";exact T1.eV;wtm_at "501an4917200poC0B1Tj;532000";exact(bG rfl rfl T0.rb (by decide));wtm_at "dc)f8Lj";exact T1.ci;wtm_at "531l1n200"
theorem um:bR ["self","time","name"] "House.off" gE cG:=by
 wtm_at "khFLjÐ531720Âw1l17200yj@3Lj";exact T1.dK;wtm_at "531n20FLjê531w1l171n200020f"
theorem mV:bR ["self","time"] "House.come_to" cq cg:=by
 wtm_at "khFLjÐ531720f"
theorem ue:bR ["self"] "House.now" gq fM:=by
 wtm_at "kh8yjW3"
theorem tL:bR ["self"] "House.row" gi fX:=by
 wtm_at "kh86";exact T1.jl;wtm_at "501yjë31Tj;53200"
theorem rQ:bR ["self","number"] "House.left" eM fk:=by
 wtm_at "khFLjÑ5317208ayjÒ379"
theorem qc:bR ["self","number"] "House.offer" dM dU:=by
 wtm_at "khFLjÑ5317208ayj[379"
theorem tN:bR ["self","number"] "House.end" fJ gF:=by
 wtm_at "khFLjÑ5317208ayj@379"
theorem lH:bR ["self"] "House.meetings" bM bL:=by
 wtm_at "kh8";refine aN (N':=["row"]) ?_ ?_;wtm_at "0tbbryjÃ3isu";exact(au 0 (show Ro (["row"]:List Str)from by decide +kernel));wtm_at "Yoa349ldcqv0w1a3491a3491a3492000ee"
theorem nP:bR ["self","waiting"] "House.waiters" bZ b8:=by
 wtm_at "kh";refine cW (N':=["number","end"]) ?_ ?_ ?_ ?_ ?_ ?_;wtm_at "0tbbÓ0Á1yj@320isu";exact(bx [0,1] rfl (show Ro (["number","end"]:List Str)from by decide +kernel));wtm_at "Yo7Vdcqv03ee";exact gW.nd;wtm_at "0(8";refine aN (N':=["number","self"]) ?_ ?_;wtm_at "0tbbr7isu";exact(au 0 (show Ro (["number","self"]:List Str)from by decide +kernel));wtm_at "qv0w131ayj[7391ayjÒ7392000ee"
theorem sf:bR ["self"] "House.book" eO fg:=by
 wtm_at "kh8";refine Br ?_ ?_ ?_ ?_ ?_;wtm_at "0";exact T0.Iz;wtm_at "1yjÃ32000"
theorem iS:bR ["self","thing"] "House.check_number" ba bf:=by
 wtm_at "khpEz6}5017141mC0B1yj[3200042000i)ff"
theorem qE:bR ["self","name","number","offer","left"] "House.place" dO dG:=by
 wtm_at "khpzP70Q0ÈNi#0rTj;53";exact(bx [2,3,4] rfl i6.nd);wtm_at "po6";exact T1.g9;wtm_at "501A207dc8nffff8V"
theorem rC:bR ["self","name","number"] "House.known" dQ bD:=by
 wtm_at "khU";exact i0.nd;wtm_at "Ljé531720ponVdc";refine AU ?_ ?_ ?_ ?_ ?_;exact T0.Av;exact T0.vI;wtm_at "00lf8n"
theorem nu:bR ["self","word","offer","number"] "House.take_in" b9 cr:=by
 wtm_at "kh!";exact hV.nd;wtm_at "C0B1yj[32000F*yj[31n20F*yjÒ31an4920F*yj@31V20FLjê531w171yjW31n1A20000208A"
theorem qM:bR ["self","row"] "House.write" d7 dR:=by
 wtm_at "khF*yjÃ31720FTjì53f"
theorem qz:bR ["self","time","moment"] "House.reach" d6 dY:=by
 wtm_at "khpIHEz6~501720iOIËoyjW3VdcÌo7yjW3dc)fUíLjî531720ïonVdcðjWn3FTj";exact T1.cC;wtm_at "53FTjì53UíLjî531720fðjW73f"
theorem jd:bR ["self","time","tills","ends","ahead"] "House.next_moment" bk bo:=by
 wtm_at "kh";refine cW (N':=["number","offer","left"]) ?_ ?_ ?_ ?_ ?_ ?_;wtm_at "0tbbrTj;53isuÎqv0a749eeÔ0(";refine cW (N':=["begin","end"]) ?_ ?_ ?_ ?_ ?_ ?_;wtm_at "0tbbryjñ3isu";exact(bx [0,1] rfl (show Ro (["begin","end"]:List Str)from by decide +kernel));wtm_at "qv07eeÔ0(";refine cW (N':=["moment","self"]) ?_ ?_ ?_ ?_ ?_ ?_;wtm_at "0tbbrmnAisu";exact(au 0 (show Ro (["moment","self"]:List Str)from by decide +kernel));wtm_at "YIHoyjW7VdcOo3yjW7dcqv03eeÔ0(8";refine CO ?_ ?_ ?_;wtm_at "0Ä1";refine aN (N':=["moment","time"]) ?_ ?_;wtm_at "0tbbrKisu";exact(au 0 (show Ro (["moment","time"]:List Str)from by decide +kernel));wtm_at "Yo37dcqv03ee20"
theorem nE:bR ["self","number","offer","left"] "House.let_out" cu cx:=by
 wtm_at "kh#0rTj;53";exact(bx [1,2,3] rfl gX.nd);wtm_at "poan49yjW3dcÂw1l1yjW3200yj@37F*yjÃ31w1l1yjW317200020ffff"
theorem o0:bR ["self","meeting"] "House.settle" cV cU:=by
 wtm_at "khpz6";exact T1.dX;wtm_at "501yjñ31yjW3200i";exact AL;wtm_at "f/";exact iN.nd;wtm_at "6";exact T1.bU;wtm_at "501yjë31yj";exact T0.je;wtm_at "31Tj;532000ïo7Vdc)f"
theorem wK:bR ["_law_script","_law_k"] "_law_cell_at" ib iE:=by
 wtm_at "khpo7C0B132000dc8a379f84"
theorem C7:bR ["_law_cell"] "_law_tape" py pK:=by
 wtm_at "kh8Z1m3ò0É1S3m44dc20001m34142000"
theorem Ek:bR ["_law_tape_here","_law_many","_law_found","_law_number_here"] "_law_draw" ph pG:=by
 wtm_at "khpoa3494dcUÕma3497Âma3497348nfÂma349434!Õmmmma349m4a349444!ÕmmAmmA4448mmmAmmA4447"
theorem DJ:bR ["_law_tape_here","_law_some"] "_law_pick" pV pW:=by
 wtm_at "kh8a76x50131C0B1720002009"
theorem D4:bR ["_law_k","_law_some"] "_law_name" pd pH:=by
 wtm_at "kh/";exact wv.nd;wtm_at "G1l1l1l1l1l1l1l1l1l1l1l1l20000000000008a7m349"
theorem yE:bR ["_law_tape_here"] "_law_number" jW jR:=by
 wtm_at "kh8aG16x50131420016x5013142001mm446x50131420020006x5013142009"
theorem Dc:bR ["_law_tape_here","_law_name_here","_law_kind","_law_marks","_law_sizes"] "_law_card" pb pB:=by
 wtm_at "kh!";exact qp.nd;wtm_at "]0R1";refine aN (N':=["_law_mark","_law_tape_here"]) ?_ ?_;wtm_at "0tbbrG1l1l1l2000isu";exact(au 0 (show Ro (["_law_mark","_law_tape_here"]:List Str)from by decide +kernel));wtm_at "Yo6x5017142004dcqv03ee2000À";exact qp.nd;wtm_at "]0R1";refine aN (N':=["_law_word","_law_tape_here"]) ?_ ?_;wtm_at "0tbbrG1l1l200isu";exact(au 0 (show Ro (["_law_word","_law_tape_here"]:List Str)from by decide +kernel));wtm_at "Yo6x5017142004dcqv0w1316ó501720200ee20008w171n1A1K20000"
theorem DP:bR ["_law_tape_here","_law_deep","_law_way","_law_many"] "_law_wish" pJ pM:=by
 wtm_at "khU";exact qx.nd;wtm_at "6x50131m4m4ò0É1S74dc2000200pon4dc8w1l20fpon4dc8w1l16Å50131G1l1l1l1l20000200200fpon4dc8w1l16";exact T1.lm;wtm_at "5016x50131420020200fpon4dc8w1aG1l1l200mn4916Å50131G1l1l1l200020016ó5013202000fpon4dc8w1l16Ö50131m74200200f!";exact qx.nd;wtm_at "m46x5013142008w1aG1l1l200mn491]0R1";refine aN (N':=["_law_k","_law_tape_here","_law_deep"]) ?_ ?_;wtm_at "0tbb=0,1A20isu";exact(au 0 (show Ro (["_law_k","_law_tape_here","_law_deep"]:List Str)from by decide +kernel));wtm_at "qv06Ö50171mn4200ee2000200"
theorem Bx:bR ["_law_tape_here","_law_side","_law_name_here","_law_kind","_law_till","_law_many","_law_least","_law_wish_here","_law_weight"] "_law_offer" l9 me:=by
 wtm_at "khçÆaG1m46x5013142001m46x5013142001m46x50131m4420020006x5013142009^ÆaG141m46x50131X2001X20006x5013142009";refine sg (i:=7) ?_ ?_ ?_;wtm_at "ÆaG1w1l2016Ö5013142002006x5013142009ôÆaG16x50131420016x5013142002006x50131420098w1716";exact T1.pr;wtm_at "50131n1A20001<1X1>1_1K20000000"
theorem C6:bR ["_law_tape_here","_law_words","_law_found","_law_k"] "_law_rule" pE pR:=by
 wtm_at "kh/";exact lD.nd;wtm_at "Z1l1l1l1l20000U";exact lD.nd;wtm_at "Z2#0=0,1aG14141414142000006x501314200920";exact(au 3 lD.nd);wtm_at "F*n1";refine F3 ?_ ?_;wtm_at "716x50131C0B1720002002020f8]0R1n2000"
theorem Ao:bR ["_law_tape_here","_law_found","_law_time","_law_k","_law_begin"] "_law_quiet" mh lx:=by
 wtm_at "kh/ÇZ2UÇ?4#0=0,1aG14141414141420000006x501314200920";exact(au 3 nO.nd);wtm_at "ÀÇmmn46x501314200UÇmmK46x501314200F*71w1K1n20020f8]0R172000"
theorem wO:bR ["_law_house","_law_time","_law_name_here","_law_found"] "_law_no_name" hY iq:=by
 wtm_at "kh!ØJ";refine Ea (D:=176) ?_ ?_ ?_ ?_ ?_ ?_ ?_ ?_;wtm_at "Ø";exact trivial;wtm_at "0";exact T0.vI;exact(Rn.mpr ⟨T0.ni,(λ_ h=>Ys h RG)⟩);wtm_at "FLj";exact T1.fL;wtm_at "53171n200f";intro A2 hu2;wtm_at "!ØJf8A"
theorem AI:bR ["_law_house","_law_offers","_law_time","_law_outs","_law_k","_law_offer_here","_law_end","_law_rows","_law_waits"] "_law_right" lB lA:=by
 wtm_at "kh!`Z2#0Ó0Á1720";exact(bx [4,5] rfl mQ.nd);wtm_at "^`VpoaX49ndc^`w1l1aX49200F*A1w1aX491K20020ffpIHoLj";exact T1.gB;wtm_at "531K20>dcHoLj";exact T1.eX;wtm_at "531K20aX49dcOoLj";exact T1.dW;wtm_at "531K20Xdc8Jff";refine cW (N':=["_law_till","_law_k"]) ?_ ?_ ?_ ?_ ?_ ?_;wtm_at "0tbbrä0:1A2000isu";exact(bx [0,1] rfl (show Ro (["_law_till","_law_k"]:List Str)from by decide +kernel));wtm_at "qv0w1l13172000ee`0(pIHoõTj";exact T1.eQ;wtm_at "53ÙC0B1720000";exact CC;wtm_at "<dcHoTj";exact T1.ge;wtm_at "53ndcOoTj";exact T1.bO;wtm_at "53G2dc8Jf";refine cW (N':=["_law_k","_law_offer_here","_law_time"]) ?_ ?_ ?_ ?_ ?_ ?_;wtm_at "0tbbÓ0Á1720isu";exact(bx [0,1] rfl (show Ro (["_law_k","_law_offer_here","_law_time"]:List Str)from by decide +kernel));wtm_at "Yoa749ndcqv0w13171a7492000ee`0(8DSTj;53_dcMSè0:1Tj";exact T1.fS;wtm_at "532000";refine aN (N':=["_law_k","_law_offer_here","_law_left"]) ?_ ?_;wtm_at "0tbbr_isu";exact(bx [0,1,2] rfl (show Ro (["_law_k","_law_offer_here","_law_left"]:List Str)from by decide +kernel));wtm_at "qv03eedc"
theorem Dz:Kw ["_law_script","_law_tape_here","_law_house","_law_time","_law_offers","_law_k","_law_till","_law_cell","_law_tills","_law_gone"] "law" oB zc:=by
 wtm_at "Íh/$6";exact T1.lV;wtm_at "5016ö50131420020U$";refine CN ?_ ?_ ?_ ?_ ?_;exact T1.bK;exact(λus=>bI.new hr2 us);exact T0.EU;wtm_at "016";exact T1.pn;wtm_at "5017201w216";exact T1.mx;wtm_at "5017202000!$maG141mm4441mm44420006x50171420096x501714200À$Z2#0=0,1m46x50171420020";exact(au 5 q0.nd);wtm_at "^$ø0Ä1m441mmA4aG16x50171420016x5017142002006x501714200920000F*K16";exact T1.lq;wtm_at "50171l16";exact T1.lm;wtm_at "501X201l1>20000020FLj";exact T1.eK;wtm_at "5n1A1aK?49200fpEz6";exact T1.i8;wtm_at "501n1K1A2000i8Jf#0rmG16ö50131420020õ3Ù40Ù40";exact(au 7 q0.nd);wtm_at "/$6";exact T1.lV;wtm_at "501<20ô$m";refine aN (N':=["_law_offer_here","_law_time"]) ?_ ?_;wtm_at "0tbbrKisuùYoa3497dcqv0a349eeG1mA420^$aG1";refine Bq ?_ ?_ ?_ ?_ ?_;wtm_at "0Ä1_200016Å50171_2002006x5017142009!$ø0Ä1m441";refine Db ?_ ?_ ?_ ?_ ?_;wtm_at "0";exact T0.Kp;wtm_at "1A1m>aG1?4141416x501714200200006x50171420092000020000pIHoLj";exact T1.bY;wtm_at "5n1A20VdcOEz6";exact T1.i8;wtm_at "501n1K1A2000i8Jf";refine cW (N':=["_law_offer_here","_law_time"]) ?_ ?_ ?_ ?_ ?_ ?_;wtm_at "0tbbrKisuùYoa3497dcqv0aa34949ee$0(pIËo";exact(vr 9);wtm_at "G2dcÌEz6";exact T1.iB;wtm_at "501n1A16Å50171";exact(vr 9);wtm_at "2002000i8Jff8J"
end
abbrev FB(B:Bs)(x:Str)(st:S5)(ps:List Str):Prop:=∃f fd,AH B.K x x st f fd/\B.mg x=Zz (.ref f)/\Binds B.K fd ps []
abbrev FM(B:Bs)(C:RB)(x q:Str)(st:S5)(ps:List Str):Prop:=∃f fd,AH B.K x q st f fd/\Meth B.K C x f/\Binds B.K fd ps []
structure Im (B:Bs):Prop where
 cX:FB B "is_long_word" cS ["text"]
 j5:FB B "is_word" j6 ["thing"]
 fF:FB B "is_whole" ij ["thing"]
 gd:FB B "is_number" gj ["thing"]
 jV:FB B "is_time" jD ["thing"]
 p8:FB B "rise" u9 ["words"]
 fZ:FB B "are_marks" gt ["thing"]
 jx:FB B "is_size" jz ["thing"]
 gh:FB B "are_sizes" fQ ["thing"]
 jt:FB B "is_card" jp ["thing"]
 fK:FB B "is_one_of" gc ["thing","texts"]
 bW:FB B "is_plain_wish" cw ["thing"]
 eI:FB B "are_joined" fv ["thing"]
 d9:FB B "things_in" gg ["thing"]
 iJ:FB B "has_form" iF ["thing"]
 jP:FB B "is_wish" js ["thing"]
 eH:FB B "is_between" fe ["thing","low","high"]
 ip:FB B "is_offer" iH ["thing"]
 g9:FB B "name_of" jM ["offer"]
 hW:FB B "kind_of" jC ["offer"]
 cR:FB B "are_unlike" eJ ["words"]
 jE:FB B "is_rule" jQ ["thing"]
 gr:FB B "are_borne" gG ["thing"]
 u8:FB B "rank" uf ["word","waiter"]
 pP:FB B "ranks" pY ["rule","waiter"]
 jl:FB B "row_of" mJ ["rule","waiters"]
 iI:FB B "sides_of" iw ["kind","waiters"]
 jS:FB B "sets_of" jr ["borne","waiters"]
 eR:FB B "by_numbers" eT ["waiters"]
 bU:FB B "first_meeting" cA ["rule","borne","waiters"]
 bV:FB B "is_quiet_time" bX ["thing"]
 gz:FB B "are_quiet" f6 ["thing"]
 dX:FB B "is_quiet_at" dC ["quiet","time"]
 dD:FB B "check_offer" dE ["thing"]
 eV:FB B "check_till" eS ["till","time"]
 bK:∃f fd,AH B.K "__init__" "House.__init__" aw f fd/\Mk B.K 631 f/\Binds B.K fd ["self","rule","borne","quiet"] []
 eK:FM B 631 "come" "House.come" eP ["self","time","offer"]
 fL:FM B 631 "off" "House.off" gE ["self","time","name"]
 bY:FM B 631 "come_to" "House.come_to" cq ["self","time"]
 ge:FM B 631 "now" "House.now" gq ["self"]
 fS:FM B 631 "row" "House.row" gi ["self"]
 eX:FM B 631 "left" "House.left" eM ["self","number"]
 dW:FM B 631 "offer" "House.offer" dM ["self","number"]
 gB:FM B 631 "end" "House.end" fJ ["self","number"]
 bO:FM B 631 "meetings" "House.meetings" bM ["self"]
 cy:FM B 631 "waiters" "House.waiters" bZ ["self"]
 eQ:FM B 631 "book" "House.book" eO ["self"]
 bh:FM B 631 "check_number" "House.check_number" ba ["self","thing"]
 dI:FM B 631 "place" "House.place" dO ["self","name"]
 dK:FM B 631 "known" "House.known" dQ ["self","name"]
 ci:FM B 631 "take_in" "House.take_in" b9 ["self","word","offer"]
 dS:FM B 631 "write" "House.write" d7 ["self","row"]
 dP:FM B 631 "reach" "House.reach" d6 ["self","time"]
 bn:FM B 631 "next_moment" "House.next_moment" bk ["self","time"]
 cC:FM B 631 "let_out" "House.let_out" cu ["self"]
 cQ:FM B 631 "settle" "House.settle" cV ["self"]
 ik:FB B "_law_cell_at" ib ["_law_script","_law_k"]
 lV:FB B "_law_tape" py ["_law_cell"]
 pI:FB B "_law_draw" ph ["_law_tape_here","_law_many"]
 pC:FB B "_law_pick" pV ["_law_tape_here","_law_some"]
 lm:FB B "_law_name" pd ["_law_k"]
 j4:FB B "_law_number" jW ["_law_tape_here"]
 pr:FB B "_law_card" pb ["_law_tape_here","_law_name_here","_law_kind"]
 pZ:FB B "_law_wish" pJ ["_law_tape_here","_law_deep"]
 lq:FB B "_law_offer" l9 ["_law_tape_here","_law_side","_law_name_here","_law_kind","_law_till"]
 pn:FB B "_law_rule" pE ["_law_tape_here"]
 mx:FB B "_law_quiet" mh ["_law_tape_here"]
 iB:FB B "_law_no_name" hY ["_law_house","_law_time","_law_name_here"]
 i8:FB B "_law_right" lB ["_law_house","_law_offers","_law_time"]
 DH:FB B "law" oB ["_law_script"]
theorem mC{B:Bs}{k:Nat}(T0:uN B)(TF:Im B)(ih:wM B k):JA B fns gv (k+1) 631 35 lK:=by
 obtain⟨f,fd,F,m,b⟩:=TF.bK;exact BM (np:=4) (n:=4) (cell:=false) (ec:=bA) (sa:=bw) F lY b T0.wy rfl rfl rfl m (by decide +kernel) (Rn.mpr ⟨T0.kJ,(Rn.mpr ⟨T0.je,(Rn.mpr ⟨T0.i7,(Rn.mpr ⟨T0.kG,(Rn.mpr ⟨T0.iM,(Rn.mpr ⟨T0.jo,(Rn.mpr ⟨T0.kN,(Rn.mpr ⟨T0.kC,(λ_ h=>Ys h RG)⟩)⟩)⟩)⟩)⟩)⟩)⟩)⟩) (by decide) (λ_ _ _ _ h=>by rw[bw,Eb]at h;cases h) λ_ _ _ _ _ hr=>lj T0 ih hr
theorem aG{x:Str}{st:S5}{N ps:List Str}{fi np n:Nat}{b:S}{cell:Bool}(sc:ac N ps (aa st))(p:bR N x st b)(hd:fns[fi]?=Zz ⟨np,n,b,cell⟩)(hps:np=ps.length)(hn:N.length=n){B:Bs}{k:Nat}(T0:uN B)(ih:wM B k)(F:FB B x st ps):df B fns gv (k+1) x fi:=
 let⟨_,_,F,m,bb⟩:=F
 HL F m bb sc hd hps hn λ_ _ _ _ _ hr=>p T0 ih hr
theorem aA{x:Str}{st:S5}{ps:List Str}{i:Nat}{B:Bs}(F:FB B x st ps):df B fns gv 0 x i:=
 let⟨_,_,F,m,b⟩:=F
 E3 F m b
theorem Eu{x:Str}{st:S5}{N ps:List Str}{fi np n:Nat}{b:S}{cell:Bool}(sc:ac N ps (aa st))(p:Kw N x st b)(hd:fns[fi]?=Zz ⟨np,n,b,cell⟩)(hps:np=ps.length)(hn:N.length=n){B:Bs}{k:Nat}(T0:uN B)(ih:wM B k)(F:FB B x st ps):df B fns gv (k+1) x fi:=
 let⟨_,_,F,m,bb⟩:=F
 Gg F m bb sc hd hps hn λ_ hcd _ _ _ _ hr=>p T0 ih (hr.deeper _) hr hcd
theorem cJ{x q:Str}{st:S5}{N ps:List Str}{C fi np n:Nat}{b:S}{cell:Bool}(sc:ac N ps (aa st))(p:bR N q st b)(hd:fns[fi]?=Zz ⟨np,n,b,cell⟩)(hps:np=ps.length)(hn:N.length=n){B:Bs}{k:Nat}(T0:uN B)(ih:wM B k)(F:FM B C x q st ps):oQ B fns gv (k+1) C x fi:=
 let⟨_,_,F,m,bb⟩:=F
 Hm F m bb sc hd hps hn λ_ _ _ _ _ hr=>p T0 ih hr
theorem cK{x q:Str}{st:S5}{ps:List Str}{C i:Nat}{B:Bs}(F:FM B C x q st ps):oQ B fns gv 0 C x i:=
 let⟨_,_,F,m,b⟩:=F
 Dl m b
theorem D6{B:Bs}(T0:uN B)(TF:Im B):∀k:Nat,wM B k
 |0=>⟨aA TF.cX,aA TF.j5,aA TF.fF,aA TF.gd,aA TF.jV,aA TF.p8,aA TF.fZ,aA TF.jx,aA TF.gh,aA TF.jt,aA TF.fK,aA TF.bW,aA TF.eI,aA TF.d9,aA TF.iJ,aA TF.jP,aA TF.eH,aA TF.ip,aA TF.g9,aA TF.hW,aA TF.cR,aA TF.jE,aA TF.gr,aA TF.u8,aA TF.pP,aA TF.jl,aA TF.iI,aA TF.jS,aA TF.eR,aA TF.bU,aA TF.bV,aA TF.gz,aA TF.dX,aA TF.dD,aA TF.eV,(let⟨_,_,F,m,b⟩:=TF.bK;CJ m),cK TF.eK,cK TF.fL,cK TF.bY,cK TF.ge,cK TF.fS,cK TF.eX,cK TF.dW,cK TF.gB,cK TF.bO,cK TF.cy,cK TF.eQ,cK TF.bh,cK TF.dI,cK TF.dK,cK TF.ci,cK TF.dS,cK TF.dP,cK TF.bn,cK TF.cC,cK TF.cQ,aA TF.ik,aA TF.lV,aA TF.pI,aA TF.pC,aA TF.lm,aA TF.j4,aA TF.pr,aA TF.pZ,aA TF.lq,aA TF.pn,aA TF.mx,aA TF.iB,aA TF.i8,aA TF.DH⟩
 |k+1 =>
  have ih:=D6 T0 TF k
  ⟨aG o6 oV rfl rfl rfl T0 ih TF.cX,aG yi yd rfl rfl rfl T0 ih TF.j5,aG wx wm rfl rfl rfl T0 ih TF.fF,aG tZ ui rfl rfl rfl T0 ih TF.gd,aG xZ wV rfl rfl rfl T0 ih TF.jV,aG F8 E6 rfl rfl rfl T0 ih TF.p8,aG uv vc rfl rfl rfl T0 ih TF.fZ,aG xE wR rfl rfl rfl T0 ih TF.jx,aG ub u7 rfl rfl rfl T0 ih TF.gh,aG yG yc rfl rfl rfl T0 ih TF.jt,aG ux uY rfl rfl rfl T0 ih TF.fK,aG mW nh rfl rfl rfl T0 ih TF.bW,aG si r7 rfl rfl rfl T0 ih TF.eI,aG uX u6 rfl rfl rfl T0 ih TF.d9,aG vG wa rfl rfl rfl T0 ih TF.iJ,aG kX yW rfl rfl rfl T0 ih TF.jP,aG sj su rfl rfl rfl T0 ih TF.eH,aG nX wg rfl rfl rfl T0 ih TF.ip,aG xB yf rfl rfl rfl T0 ih TF.g9,aG yQ yu rfl rfl rfl T0 ih TF.hW,aG sG rY rfl rfl rfl T0 ih TF.cR,aG xl yr rfl rfl rfl T0 ih TF.jE,aG uk tM rfl rfl rfl T0 ih TF.gr,aG zT EN rfl rfl rfl T0 ih TF.u8,aG DI BU rfl rfl rfl T0 ih TF.pP,Eu sL A1 rfl rfl rfl T0 ih TF.jl,aG oG vD rfl rfl rfl T0 ih TF.iI,aG fD xh rfl rfl rfl T0 ih TF.jS,aG rR sx rfl rfl rfl T0 ih TF.eR,Eu dz m8 rfl rfl rfl T0 ih TF.bU,aG nz mP rfl rfl rfl T0 ih TF.bV,aG uV tH rfl rfl rfl T0 ih TF.gz,aG qb re rfl rfl rfl T0 ih TF.dX,aG qU p7 rfl rfl rfl T0 ih TF.dD,aG sB sy rfl rfl rfl T0 ih TF.eV,mC T0 TF ih,cJ sI rT rfl rfl rfl T0 ih TF.eK,cJ tQ um rfl rfl rfl T0 ih TF.fL,cJ nA mV rfl rfl rfl T0 ih TF.bY,cJ tW ue rfl rfl rfl T0 ih TF.ge,cJ uy tL rfl rfl rfl T0 ih TF.fS,cJ sv rQ rfl rfl rfl T0 ih TF.eX,cJ rp qc rfl rfl rfl T0 ih TF.dW,cJ vg tN rfl rfl rfl T0 ih TF.gB,cJ lZ lH rfl rfl rfl T0 ih TF.bO,cJ gW nP rfl rfl rfl T0 ih TF.cy,cJ rZ sf rfl rfl rfl T0 ih TF.eQ,cJ iQ iS rfl rfl rfl T0 ih TF.bh,cJ i6 qE rfl rfl rfl T0 ih TF.dI,cJ i0 rC rfl rfl rfl T0 ih TF.dK,cJ hV nu rfl rfl rfl T0 ih TF.ci,cJ qH qM rfl rfl rfl T0 ih TF.dS,cJ iZ qz rfl rfl rfl T0 ih TF.dP,cJ eB jd rfl rfl rfl T0 ih TF.bn,cJ gX nE rfl rfl rfl T0 ih TF.cC,cJ iN o0 rfl rfl rfl T0 ih TF.cQ,aG wn wK rfl rfl rfl T0 ih TF.ik,aG CS C7 rfl rfl rfl T0 ih TF.lV,aG v8 Ek rfl rfl rfl T0 ih TF.pI,aG BX DJ rfl rfl rfl T0 ih TF.pC,aG wv D4 rfl rfl rfl T0 ih TF.lm,aG yS yE rfl rfl rfl T0 ih TF.j4,aG qp Dc rfl rfl rfl T0 ih TF.pr,aG qx DP rfl rfl rfl T0 ih TF.pZ,aG sY Bx rfl rfl rfl T0 ih TF.lq,aG lD C6 rfl rfl rfl T0 ih TF.pn,aG nO Ao rfl rfl rfl T0 ih TF.mx,aG n6 wO rfl rfl rfl T0 ih TF.iB,aG mQ AI rfl rfl rfl T0 ih TF.i8,Eu q0 Dz rfl rfl rfl T0 ih TF.DH⟩
end My
namespace My
open PySem PySem.Spec PyProof.Rows Mi
theorem Kz{α:Type}{P:List α->Prop}{us:List α}(hl:us.length=1)(h:∀x0:α,P [x0]):P us:=by
 rcases us with _|⟨x0,us⟩
 ·simp at hl
 rcases us with _|⟨y,us⟩
 ·exact h x0
 ·simp at hl
theorem KP{α:Type}{P:List α->Prop}{us:List α}(hl:us.length=2)(h:∀x0 x1:α,P [x0,x1]):P us:=by
 rcases us with _|⟨x0,us⟩
 ·simp at hl
 rcases us with _|⟨x1,us⟩
 ·simp at hl
 rcases us with _|⟨y,us⟩
 ·exact h x0 x1
 ·simp at hl
theorem KQ{α:Type}{P:List α->Prop}{us:List α}(hl:us.length=3)(h:∀x0 x1 x2:α,P [x0,x1,x2]):P us:=by
 rcases us with _|⟨x0,us⟩
 ·simp at hl
 rcases us with _|⟨x1,us⟩
 ·simp at hl
 rcases us with _|⟨x2,us⟩
 ·simp at hl
 rcases us with _|⟨y,us⟩
 ·exact h x0 x1 x2
 ·simp at hl
theorem Ke{α:Type}{P:List α->Prop}{us:List α}(hl:us.length=4)(h:∀x0 x1 x2 x3:α,P [x0,x1,x2,x3]):P us:=by
 rcases us with _|⟨x0,us⟩
 ·simp at hl
 rcases us with _|⟨x1,us⟩
 ·simp at hl
 rcases us with _|⟨x2,us⟩
 ·simp at hl
 rcases us with _|⟨x3,us⟩
 ·simp at hl
 rcases us with _|⟨y,us⟩
 ·exact h x0 x1 x2 x3
 ·simp at hl
theorem KH{α:Type}{P:List α->Prop}{us:List α}(hl:us.length=5)(h:∀x0 x1 x2 x3 x4:α,P [x0,x1,x2,x3,x4]):P us:=by
 rcases us with _|⟨x0,us⟩
 ·simp at hl
 rcases us with _|⟨x1,us⟩
 ·simp at hl
 rcases us with _|⟨x2,us⟩
 ·simp at hl
 rcases us with _|⟨x3,us⟩
 ·simp at hl
 rcases us with _|⟨x4,us⟩
 ·simp at hl
 rcases us with _|⟨y,us⟩
 ·exact h x0 x1 x2 x3 x4
 ·simp at hl
abbrev FE(K:To)(x:Str)(st:S5):Prop:=∃(f:RB) (oc kV dc pm cd ct:R3) (od an:Option RB) (sl:Array (Option R3)),nsIn K RU x=Zz (Zz (.ref f))/\K.lookup f=Zz ⟨oc,od,.func (fnOf x x (b7 st) (aR st) (aa st) .none kV dc pm an cd ct),sl⟩/\codeIn K cd x=true
theorem aB{P:Ry}{w:SS}{K:To}{mg:Str->Option R3}{tbs:List RB}{base:Rm}(tT:∀P∈tbs,K.lookup P=Zz (tabObj #[])){h:Rm}{x:Str}{st:S5}{ps:List Str}(X:K.In h)(G:h.Ns RU mg)(e:FE K x st)(hb:∀(kV doc pm:R3) (an:Option RB) (cdv ct:R3) (us:List R3),us.length=ps.length->Sx (fnOf x x (b7 st) (aR st) (aa st) .none kV doc pm an cdv ct) ⟨us,[]⟩=pure (ps.zip us)):FB (En P w K mg tbs base) x st ps:=by
 obtain⟨f,oc,kV,dc,pm,cd,ct,od,an,sl,a,l,c⟩:=e;have F:=vh (st:=st) (i3 tT l (λz=>by cases z)) (pc tT c) (pQ tT l);exact⟨_,_,F,mg_of X G a,F.binds (ps:=ps) hb⟩
theorem fe_in{K:To}{x:Str}{st:S5}{f:RB}{oc kV dc pm cd ct:R3}{od an:Option RB}{sl:Array (Option R3)}(a:nsIn K RU x=Zz (Zz (.ref f)))(l:K.lookup f=Zz ⟨oc,od,.func (fnOf x x (b7 st) (aR st) (aa st) .none kV dc pm an cd ct),sl⟩)(c:codeIn K cd x=true):FE K x st:=
 ⟨_,_,_,_,_,_,_,_,_,_,a,l,c⟩
abbrev ME(tbs:List RB)(K:To)(C:RB)(x q:Str)(st:S5):Prop:=∃(f:RB) (oc kV dc pm cd ct:R3) (od an:Option RB) (sl:Array (Option R3)),findIn (aJ tbs K) (.ref C) x=Zz (Zz (.ref f))/\isFn (aJ tbs K) (.ref f)=true/\K.lookup f=Zz ⟨oc,od,.func (fnOf x q (b7 st) (aR st) (aa st) .none kV dc pm an cd ct),sl⟩/\codeIn K cd q=true
theorem cH{P:Ry}{w:SS}{K:To}{mg:Str->Option R3}{tbs:List RB}{base:Rm}(tT:∀P∈tbs,K.lookup P=Zz (tabObj #[])){C:RB}{x q:Str}{st:S5}{ps:List Str}(e:ME tbs K C x q st)(hb:∀(kV doc pm:R3) (an:Option RB) (cdv ct:R3) (us:List R3),us.length=ps.length->Sx (fnOf x q (b7 st) (aR st) (aa st) .none kV doc pm an cdv ct) ⟨us,[]⟩=pure (ps.zip us)):FM (En P w K mg tbs base) C x q st ps:=by
 obtain⟨f,oc,kV,dc,pm,cd,ct,od,an,sl,a,i,l,c⟩:=e;have F:=vh (st:=st) (i3 tT l (λz=>by cases z)) (pc tT c) (pQ tT l);exact⟨_,_,F,⟨a,i,F.kp⟩,F.binds (ps:=ps) hb⟩
theorem Ju{tbs:List RB}{K:To}{C:RB}{x q:Str}{st:S5}{f:RB}{oc kV dc pm cd ct:R3}{od an:Option RB}{sl:Array (Option R3)}(k:findIn K (.ref C) x=Zz (Zz (.ref f)))(a:findIn (aJ tbs K) (.ref C) x=Zz (Zz (.ref f)))(i:isFn (aJ tbs K) (.ref f)=true)(l:K.lookup f=Zz ⟨oc,od,.func (fnOf x q (b7 st) (aR st) (aa st) .none kV dc pm an cd ct),sl⟩)(c:codeIn K cd q=true):ME tbs K C x q st:=
 ⟨_,_,_,_,_,_,_,_,_,_,a,i,l,c⟩
theorem bB{fd:TX}{ps:List Str}(h:∀x0:R3,Sx fd ⟨[x0],[]⟩=pure (U3 ps [x0]))(us:List R3)(hl:us.length=1):Sx fd ⟨us,[]⟩=pure (U3 ps us):=Kz (P:=λus=>Sx fd ⟨us,[]⟩=pure (U3 ps us)) hl h
theorem fI{fd:TX}{ps:List Str}(h:∀x0 x1:R3,Sx fd ⟨[x0,x1],[]⟩=pure (U3 ps [x0,x1]))(us:List R3)(hl:us.length=2):Sx fd ⟨us,[]⟩=pure (U3 ps us):=KP (P:=λus=>Sx fd ⟨us,[]⟩=pure (U3 ps us)) hl h
theorem wp{fd:TX}{ps:List Str}(h:∀x0 x1 x2:R3,Sx fd ⟨[x0,x1,x2],[]⟩=pure (U3 ps [x0,x1,x2]))(us:List R3)(hl:us.length=3):Sx fd ⟨us,[]⟩=pure (U3 ps us):=KQ (P:=λus=>Sx fd ⟨us,[]⟩=pure (U3 ps us)) hl h
theorem LB{fd:TX}{ps:List Str}(h:∀x0 x1 x2 x3:R3,Sx fd ⟨[x0,x1,x2,x3],[]⟩=pure (U3 ps [x0,x1,x2,x3]))(us:List R3)(hl:us.length=4):Sx fd ⟨us,[]⟩=pure (U3 ps us):=Ke (P:=λus=>Sx fd ⟨us,[]⟩=pure (U3 ps us)) hl h
theorem KF{fd:TX}{ps:List Str}(h:∀x0 x1 x2 x3 x4:R3,Sx fd ⟨[x0,x1,x2,x3,x4],[]⟩=pure (U3 ps [x0,x1,x2,x3,x4]))(us:List R3)(hl:us.length=5):Sx fd ⟨us,[]⟩=pure (U3 ps us):=KH (P:=λus=>Sx fd ⟨us,[]⟩=pure (U3 ps us)) hl h
theorem all_mk{l:Xi}{w:SS}{K:To}{h:Rm}{mg:Str->Option R3}{fa:RB}(tT:∀P∈([384,404]:List RB),K.lookup P=Zz (tabObj #[]))(tB:AF ([384,404]:List RB) K=true)(X:K.In h)(G:h.Ns RU mg)(hfa:mg "law" = Zz (.ref fa)){f35:RB}{od35 an35:Option RB}{sl35:Array (Option R3)}{oc35 kV35 dc35 pm35 cd35 ct35:R3}(h0:FE K "is_long_word" cS)(h1:FE K "is_word" j6)(h2:FE K "is_whole" ij)(h3:FE K "is_number" gj)(h4:FE K "is_time" jD)(h5:FE K "rise" u9)(h6:FE K "are_marks" gt)(h7:FE K "is_size" jz)(h8:FE K "are_sizes" fQ)(h9:FE K "is_card" jp)(h10:FE K "is_one_of" gc)(h11:FE K "is_plain_wish" cw)(h12:FE K "are_joined" fv)(h13:FE K "things_in" gg)(h14:FE K "has_form" iF)(h15:FE K "is_wish" js)(h16:FE K "is_between" fe)(h17:FE K "is_offer" iH)(h18:FE K "name_of" jM)(h19:FE K "kind_of" jC)(h20:FE K "are_unlike" eJ)(h21:FE K "is_rule" jQ)(h22:FE K "are_borne" gG)(h23:FE K "rank" uf)(h24:FE K "ranks" pY)(h25:FE K "row_of" mJ)(h26:FE K "sides_of" iw)(h27:FE K "sets_of" jr)(h28:FE K "by_numbers" eT)(h29:FE K "first_meeting" cA)(h30:FE K "is_quiet_time" bX)(h31:FE K "are_quiet" f6)(h32:FE K "is_quiet_at" dC)(h33:FE K "check_offer" dE)(h34:FE K "check_till" eS)(ak35:findIn K (.ref 631) "__init__" = Zz (Zz (.ref f35)))(a35:findIn (aJ ([384,404]:List RB) K) (.ref 631) "__init__" = Zz (Zz (.ref f35)))(i35:isFn (aJ ([384,404]:List RB) K) (.ref f35)=true)(l35:K.lookup f35=Zz ⟨oc35,od35,.func (fnOf "__init__" "House.__init__" (b7 aw) (aR aw) (aa aw) .none kV35 dc35 pm35 an35 cd35 ct35),sl35⟩)(c35:codeIn K cd35 "House.__init__" = true)(mk35:makesIn (aJ ([384,404]:List RB) K) 631=true)(mp35:keepIn (aJ ([384,404]:List RB) K) (.ref 631)=true)(h36:ME ([384,404]:List RB) K 631 "come" "House.come" eP)(h37:ME ([384,404]:List RB) K 631 "off" "House.off" gE)(h38:ME ([384,404]:List RB) K 631 "come_to" "House.come_to" cq)(h39:ME ([384,404]:List RB) K 631 "now" "House.now" gq)(h40:ME ([384,404]:List RB) K 631 "row" "House.row" gi)(h41:ME ([384,404]:List RB) K 631 "left" "House.left" eM)(h42:ME ([384,404]:List RB) K 631 "offer" "House.offer" dM)(h43:ME ([384,404]:List RB) K 631 "end" "House.end" fJ)(h44:ME ([384,404]:List RB) K 631 "meetings" "House.meetings" bM)(h45:ME ([384,404]:List RB) K 631 "waiters" "House.waiters" bZ)(h46:ME ([384,404]:List RB) K 631 "book" "House.book" eO)(h47:ME ([384,404]:List RB) K 631 "check_number" "House.check_number" ba)(h48:ME ([384,404]:List RB) K 631 "place" "House.place" dO)(h49:ME ([384,404]:List RB) K 631 "known" "House.known" dQ)(h50:ME ([384,404]:List RB) K 631 "take_in" "House.take_in" b9)(h51:ME ([384,404]:List RB) K 631 "write" "House.write" d7)(h52:ME ([384,404]:List RB) K 631 "reach" "House.reach" d6)(h53:ME ([384,404]:List RB) K 631 "next_moment" "House.next_moment" bk)(h54:ME ([384,404]:List RB) K 631 "let_out" "House.let_out" cu)(h55:ME ([384,404]:List RB) K 631 "settle" "House.settle" cV)(h56:FE K "_law_cell_at" ib)(h57:FE K "_law_tape" py)(h58:FE K "_law_draw" ph)(h59:FE K "_law_pick" pV)(h60:FE K "_law_name" pd)(h61:FE K "_law_number" jW)(h62:FE K "_law_card" pb)(h63:FE K "_law_wish" pJ)(h64:FE K "_law_offer" l9)(h65:FE K "_law_rule" pE)(h66:FE K "_law_quiet" mh)(h67:FE K "_law_no_name" hY)(h68:FE K "_law_right" lB)(h69:FE K "law" oB){t0:Tok}(gv0:nsIn K RU "LETTERS" = Zz (Zz (.str "abcdefghijklmnopqrstuvwxyz" t0))){t1:Tok}(gv1:nsIn K RU "LONGEST_WORD" = Zz (Zz (.int 8 t1))){ga2:RB}{its2:Array R3}{gn2:Nat}{gsl2:Array (Option R3)}(gv2:nsIn K RU "WISH_WORDS" = Zz (Zz (.ref ga2)))(gl2:K.lookup ga2=Zz ⟨.type "tuple",Zy,.seq its2 gn2,gsl2⟩)(gz2:its2.size<=Rq)(gs2:mH [[97,110,121],[105,115],[98,121],[110,111,116],[97,110,100],[111,114]] its2.toList){t3:Tok}(gv3:nsIn K RU "GREATEST_NUMBER" = Zz (Zz (.int 1000000000 t3))){t4:Tok}(gv4:nsIn K RU "MOST_MARKS" = Zz (Zz (.int 6 t4))){t5:Tok}(gv5:nsIn K RU "MOST_SIZES" = Zz (Zz (.int 6 t5))){t6:Tok}(gv6:nsIn K RU "DEEPEST" = Zz (Zz (.int 6 t6))){t7:Tok}(gv7:nsIn K RU "MOST_PARTS" = Zz (Zz (.int 40 t7))){t8:Tok}(gv8:nsIn K RU "FEWEST_JOINED" = Zz (Zz (.int 2 t8))){t9:Tok}(gv9:nsIn K RU "MOST_JOINED" = Zz (Zz (.int 6 t9))){ga10:RB}{its10:Array R3}{gn10:Nat}{gsl10:Array (Option R3)}(gv10:nsIn K RU "SIDES" = Zz (Zz (.ref ga10)))(gl10:K.lookup ga10=Zz ⟨.type "tuple",Zy,.seq its10 gn10,gsl10⟩)(gz10:its10.size<=Rq)(gs10:mH [[103,105,118,101],[116,97,107,101],[98,101,97,114]] its10.toList){t11:Tok}(gv11:nsIn K RU "GREATEST_MANY" = Zz (Zz (.int 1000000 t11))){t12:Tok}(gv12:nsIn K RU "GREATEST_WEIGHT" = Zz (Zz (.int 1000 t12))){ga13:RB}{its13:Array R3}{gn13:Nat}{gsl13:Array (Option R3)}(gv13:nsIn K RU "RULE_WORDS" = Zz (Zz (.ref ga13)))(gl13:K.lookup ga13=Zz ⟨.type "tuple",Zy,.seq its13 gn13,gsl13⟩)(gz13:its13.size<=Rq)(gs13:mH [[104,101,97,118,121],[103,114,101,97,116],[115,109,97,108,108],[115,111,111,110]] its13.toList){t14:Tok}(gv14:nsIn K RU "MOST_RULE_WORDS" = Zz (Zz (.int 3 t14))){t15:Tok}(gv15:nsIn K RU "MOST_BORNE" = Zz (Zz (.int 4 t15))){t16:Tok}(gv16:nsIn K RU "MOST_QUIET" = Zz (Zz (.int 8 t16))){t17:Tok}(gv17:nsIn K RU "MOST_WAITING" = Zz (Zz (.int 30 t17)))(z0:nsIn K RU "all" = Zz Zy)(z1:nsIn K RU "any" = Zz Zy)(z2:nsIn K RU "bool" = Zz Zy)(z3:nsIn K RU "enumerate" = Zz Zy)(z4:nsIn K RU "int" = Zz Zy)(z5:nsIn K RU "isinstance" = Zz Zy)(z6:nsIn K RU "len" = Zz Zy)(z7:nsIn K RU "list" = Zz Zy)(z8:nsIn K RU "max" = Zz Zy)(z9:nsIn K RU "min" = Zz Zy)(z10:nsIn K RU "range" = Zz Zy)(z11:nsIn K RU "set" = Zz Zy)(z12:nsIn K RU "sorted" = Zz Zy)(z13:nsIn K RU "str" = Zz Zy)(z14:nsIn K RU "tuple" = Zz Zy)(cx0:nsIn K RU "NoName" = Zz (Zz (.ref 176)))(cx1:nsIn K RU "House" = Zz (Zz (.ref 631)))(q0a:findIn (aJ ([384,404]:List RB) K) (.ref 631) "rows" = Zz Zy)(q1a:findIn (aJ ([384,404]:List RB) K) (.ref 631) "ends" = Zz Zy)(q2a:findIn (aJ ([384,404]:List RB) K) (.ref 631) "lefts" = Zz Zy)(q3a:findIn (aJ ([384,404]:List RB) K) (.ref 631) "offers" = Zz Zy)(q4a:findIn (aJ ([384,404]:List RB) K) (.ref 631) "time" = Zz Zy)(q5a:findIn (aJ ([384,404]:List RB) K) (.ref 631) "quiet" = Zz Zy)(q6a:findIn (aJ ([384,404]:List RB) K) (.ref 631) "borne" = Zz Zy)(q7a:findIn (aJ ([384,404]:List RB) K) (.ref 631) "rule" = Zz Zy)(q8a:Xt (aJ ([384,404]:List RB) K) 631 Str.empty=true)(q8b:Ww (aJ ([384,404]:List RB) K) 631=true)(q8c:YO (aJ ([384,404]:List RB) K) 631=true)(q8d:findIn (aJ ([384,404]:List RB) K) (.ref 631) "__setattr__" = Zz (Zz (.builtin "object.__setattr__")))(q9a:AG (aJ ([384,404]:List RB) K) 176=true)(q9b:keepIn (aJ ([384,404]:List RB) K) (.ref 176)=true)(q9c:PySem.W.excIn (aJ ([384,404]:List RB) K) 176 IB "ValueError.__new__" = true)(q10:PySem.W.exmOne (aJ ([384,404]:List RB) K) (.ref 176) (.ref 176)=Zz true): ∃fd:TX,(∀(s:RA) (v:R3),Xr s fd ⟨[v],[]⟩ [("_law_script",v)])/\∀base:Rm,(aJ ([384,404]:List RB) K).In base->xD (En l.prog w K mg ([384,404]:List RB) base) (az fns gv 91 69) 91 fa fd ["_law_script"]:=by
 have F35:=vh (st:=aw) (i3 tT l35 (λz=>by cases z)) (pc tT c35) (pQ tT l35);have b35:=F35.binds (ps:=["self","rule","borne","quiet"]) λ_ _ _ _ _ _ us hl=>Ke (us:=us) (P:=λus=>Sx _ ⟨us,[]⟩=pure (U3 _ us)) hl λ_ _ _ _=>rfl
 have T0:∀base:Rm,uN (En l.prog w K mg ([384,404]:List RB) base):=λbase=>⟨TQ X G z0,TQ X G z1,TQ X G z2,TQ X G z3,TQ X G z4,TQ X G z5,TQ X G z6,TQ X G z7,TQ X G z8,TQ X G z9,TQ X G z10,TQ X G z11,TQ X G z12,TQ X G z13,TQ X G z14,C1 (mg_of X G gv0) (by decide +kernel),bg (mg_of X G gv1),mY (mg_of X G gv2) (i3 tT gl2 (λz=>by cases z)) gz2 gs2,bg (mg_of X G gv3),bg (mg_of X G gv4),bg (mg_of X G gv5),bg (mg_of X G gv6),bg (mg_of X G gv7),bg (mg_of X G gv8),bg (mg_of X G gv9),mY (mg_of X G gv10) (i3 tT gl10 (λz=>by cases z)) gz10 gs10,bg (mg_of X G gv11),bg (mg_of X G gv12),mY (mg_of X G gv13) (i3 tT gl13 (λz=>by cases z)) gz13 gs13,bg (mg_of X G gv14),bg (mg_of X G gv15),bg (mg_of X G gv16),bg (mg_of X G gv17),mg_of X G cx0,mg_of X G cx1,q0a,q1a,q2a,q3a,q4a,q5a,q6a,q7a,⟨q8a,q8b,q8c,q8d⟩,⟨q9a,q9b,q9c⟩,q10,F5 tT tB⟩
 have TF:∀base:Rm,Im (En l.prog w K mg ([384,404]:List RB) base):=λbase=>⟨aB tT X G h0 λ_ _ _ _ _ _ us hl=>bB (λ_=>rfl) us hl,aB tT X G h1 λ_ _ _ _ _ _ us hl=>bB (λ_=>rfl) us hl,aB tT X G h2 λ_ _ _ _ _ _ us hl=>bB (λ_=>rfl) us hl,aB tT X G h3 λ_ _ _ _ _ _ us hl=>bB (λ_=>rfl) us hl,aB tT X G h4 λ_ _ _ _ _ _ us hl=>bB (λ_=>rfl) us hl,aB tT X G h5 λ_ _ _ _ _ _ us hl=>bB (λ_=>rfl) us hl,aB tT X G h6 λ_ _ _ _ _ _ us hl=>bB (λ_=>rfl) us hl,aB tT X G h7 λ_ _ _ _ _ _ us hl=>bB (λ_=>rfl) us hl,aB tT X G h8 λ_ _ _ _ _ _ us hl=>bB (λ_=>rfl) us hl,aB tT X G h9 λ_ _ _ _ _ _ us hl=>bB (λ_=>rfl) us hl,aB tT X G h10 λ_ _ _ _ _ _ us hl=>fI (λ_ _=>rfl) us hl,aB tT X G h11 λ_ _ _ _ _ _ us hl=>bB (λ_=>rfl) us hl,aB tT X G h12 λ_ _ _ _ _ _ us hl=>bB (λ_=>rfl) us hl,aB tT X G h13 λ_ _ _ _ _ _ us hl=>bB (λ_=>rfl) us hl,aB tT X G h14 λ_ _ _ _ _ _ us hl=>bB (λ_=>rfl) us hl,aB tT X G h15 λ_ _ _ _ _ _ us hl=>bB (λ_=>rfl) us hl,aB tT X G h16 λ_ _ _ _ _ _ us hl=>wp (λ_ _ _=>rfl) us hl,aB tT X G h17 λ_ _ _ _ _ _ us hl=>bB (λ_=>rfl) us hl,aB tT X G h18 λ_ _ _ _ _ _ us hl=>bB (λ_=>rfl) us hl,aB tT X G h19 λ_ _ _ _ _ _ us hl=>bB (λ_=>rfl) us hl,aB tT X G h20 λ_ _ _ _ _ _ us hl=>bB (λ_=>rfl) us hl,aB tT X G h21 λ_ _ _ _ _ _ us hl=>bB (λ_=>rfl) us hl,aB tT X G h22 λ_ _ _ _ _ _ us hl=>bB (λ_=>rfl) us hl,aB tT X G h23 λ_ _ _ _ _ _ us hl=>fI (λ_ _=>rfl) us hl,aB tT X G h24 λ_ _ _ _ _ _ us hl=>fI (λ_ _=>rfl) us hl,aB tT X G h25 λ_ _ _ _ _ _ us hl=>fI (λ_ _=>rfl) us hl,aB tT X G h26 λ_ _ _ _ _ _ us hl=>fI (λ_ _=>rfl) us hl,aB tT X G h27 λ_ _ _ _ _ _ us hl=>fI (λ_ _=>rfl) us hl,aB tT X G h28 λ_ _ _ _ _ _ us hl=>bB (λ_=>rfl) us hl,aB tT X G h29 λ_ _ _ _ _ _ us hl=>wp (λ_ _ _=>rfl) us hl,aB tT X G h30 λ_ _ _ _ _ _ us hl=>bB (λ_=>rfl) us hl,aB tT X G h31 λ_ _ _ _ _ _ us hl=>bB (λ_=>rfl) us hl,aB tT X G h32 λ_ _ _ _ _ _ us hl=>fI (λ_ _=>rfl) us hl,aB tT X G h33 λ_ _ _ _ _ _ us hl=>bB (λ_=>rfl) us hl,aB tT X G h34 λ_ _ _ _ _ _ us hl=>fI (λ_ _=>rfl) us hl,⟨_,_,F35,⟨mk35,a35,i35,mp35⟩,b35⟩,cH tT h36 λ_ _ _ _ _ _ us hl=>wp (λ_ _ _=>rfl) us hl,cH tT h37 λ_ _ _ _ _ _ us hl=>wp (λ_ _ _=>rfl) us hl,cH tT h38 λ_ _ _ _ _ _ us hl=>fI (λ_ _=>rfl) us hl,cH tT h39 λ_ _ _ _ _ _ us hl=>bB (λ_=>rfl) us hl,cH tT h40 λ_ _ _ _ _ _ us hl=>bB (λ_=>rfl) us hl,cH tT h41 λ_ _ _ _ _ _ us hl=>fI (λ_ _=>rfl) us hl,cH tT h42 λ_ _ _ _ _ _ us hl=>fI (λ_ _=>rfl) us hl,cH tT h43 λ_ _ _ _ _ _ us hl=>fI (λ_ _=>rfl) us hl,cH tT h44 λ_ _ _ _ _ _ us hl=>bB (λ_=>rfl) us hl,cH tT h45 λ_ _ _ _ _ _ us hl=>bB (λ_=>rfl) us hl,cH tT h46 λ_ _ _ _ _ _ us hl=>bB (λ_=>rfl) us hl,cH tT h47 λ_ _ _ _ _ _ us hl=>fI (λ_ _=>rfl) us hl,cH tT h48 λ_ _ _ _ _ _ us hl=>fI (λ_ _=>rfl) us hl,cH tT h49 λ_ _ _ _ _ _ us hl=>fI (λ_ _=>rfl) us hl,cH tT h50 λ_ _ _ _ _ _ us hl=>wp (λ_ _ _=>rfl) us hl,cH tT h51 λ_ _ _ _ _ _ us hl=>fI (λ_ _=>rfl) us hl,cH tT h52 λ_ _ _ _ _ _ us hl=>fI (λ_ _=>rfl) us hl,cH tT h53 λ_ _ _ _ _ _ us hl=>fI (λ_ _=>rfl) us hl,cH tT h54 λ_ _ _ _ _ _ us hl=>bB (λ_=>rfl) us hl,cH tT h55 λ_ _ _ _ _ _ us hl=>bB (λ_=>rfl) us hl,aB tT X G h56 λ_ _ _ _ _ _ us hl=>fI (λ_ _=>rfl) us hl,aB tT X G h57 λ_ _ _ _ _ _ us hl=>bB (λ_=>rfl) us hl,aB tT X G h58 λ_ _ _ _ _ _ us hl=>fI (λ_ _=>rfl) us hl,aB tT X G h59 λ_ _ _ _ _ _ us hl=>fI (λ_ _=>rfl) us hl,aB tT X G h60 λ_ _ _ _ _ _ us hl=>bB (λ_=>rfl) us hl,aB tT X G h61 λ_ _ _ _ _ _ us hl=>bB (λ_=>rfl) us hl,aB tT X G h62 λ_ _ _ _ _ _ us hl=>wp (λ_ _ _=>rfl) us hl,aB tT X G h63 λ_ _ _ _ _ _ us hl=>fI (λ_ _=>rfl) us hl,aB tT X G h64 λ_ _ _ _ _ _ us hl=>KF (λ_ _ _ _ _=>rfl) us hl,aB tT X G h65 λ_ _ _ _ _ _ us hl=>bB (λ_=>rfl) us hl,aB tT X G h66 λ_ _ _ _ _ _ us hl=>bB (λ_=>rfl) us hl,aB tT X G h67 λ_ _ _ _ _ _ us hl=>wp (λ_ _ _=>rfl) us hl,aB tT X G h68 λ_ _ _ _ _ _ us hl=>wp (λ_ _ _=>rfl) us hl,aB tT X G h69 λ_ _ _ _ _ _ us hl=>bB (λ_=>rfl) us hl⟩
 obtain⟨f69,oc69,kV69,dc69,pm69,cd69,ct69,od69,an69,sl69,a69,l69,c69⟩:=h69;have e:=hfa.symm.trans (mg_of X G a69);cases e;have F69:=vh (st:=oB) (i3 tT l69 (λz=>by cases z)) (pc tT c69) (pQ tT l69);refine⟨fnOf "law" "law" (b7 oB) (aR oB) (aa oB) .none kV69 dc69 pm69 an69 cd69 ct69,λs v=>.of_eq rfl,λbase _=>(vi (B:=(En l.prog w K mg ([384,404]:List RB) base)) F69 q0 rfl rfl rfl λ_ hcd _ _ _ _ hr=>(Dz (T0 base) (D6 (T0 base) (TF base) 90) (hr.deeper _) hr hcd).h).2⟩
theorem IW{l:Xi}{q:Ry}{loose:List Str}{XP:(Str->Option R3)->Rm->Prop}{d:DefRec}{K:Yk->To}{as:List RB}{n t:Nat}(hn:l.most=Zz 63)(hdf:d.params.defaults=[])(he:∀P,as=(K P).map (·.1))(T:∀(w:SS) P,P∈([384,404]:List RB)->(K w.params).lookup P=Zz (tabObj #[]))(C:∀(w:SS) P,P∈([384,404]:List RB)->∃c,WT (K w.params) c P=true)(B:∀w:SS,AF ([384,404]:List RB) (K w.params)=true)(F:∀(w:SS) (mg:Str->Option R3) (fa:RB) (h:Rm),(K w.params).In h->h.Ns RU mg->mg d.name=Zz (.ref fa) ->
   ∃fd:TX,(∀(s:RA) (u:R3),Xr s fd ⟨[u],[]⟩ [("_law_script",u)])/\∀base:Rm,(aJ ([384,404]:List RB) (K w.params)).In base->xD (En l.prog w (K w.params) mg ([384,404]:List RB) base) (az fns gv 91 69) 91 fa fd ["_law_script"]):
  PySem.W.WalkX q loose XP (PySem.W.X.obsZ as) (PySem.W.X.valZ K n t) l.row.toRowW d [] (λf vs=>Sq f vs):=by
 intro w s₀ s₁ mg mb G y fa o pm cd doc dV kV ho hd hcd hD hmg hg args vals as' L;exact Mi.Co (n:=63) (k:=91) (x:="_law_script") (YP:=λw h=>(K w.params).In h) hn (by decide) hdf ⟨rfl,by decide,by decide⟩ (λ_ _ h=>h) T C B F (λns hl=>law_true ns hl) w s₀ s₁ mg mb G (PySem.W.InK.keeps w _ _ (PySem.W.X.z_facts he y).2.1 (PySem.W.Laid.keeps L)) fa o pm cd doc dV kV ho hd hcd hD hmg hg args vals as'
end My
set_option Elab.async false
namespace PySem.W.Fast
def tw4873072661369889156:=()
def tw2575562794424750865:=()
def tw1253273866270618109:=()
def tw6186382733614509480:=()
def tw8813145771770466817:=()
def tw3087382207177317574:=()
def tw16585143986901306887:=()
def tw1770144030716386606:=()
def tw5918079139177957335:=()
def tw17114439239655203071:=()
def tw70355360585211354:=()
def tw13858439384608343265:=()
def tw4203575627141733272:=()
def tw16252049778748727832:=()
def tw17730616801335895696:=()
def tw1913274682213515062:=()
def tw13406406987722298719:=()
def tw9652777987600693398:=()
def tw10481853805110532406:=()
def tw15493251960852701904:=()
def tw9530841146844871610:=()
def tw3260520344232413323:=()
def tw6025450473282556666:=()
def tw8670324344785019508:=()
def tw12246710118691658536:=()
def tw11054491505220196376:=()
def tw5728224043538207646:=()
def tw18307323343414281635:=()
def tw16146153615348524836:=()
def tw8043475773187403701:=()
def tw16001262718200751335:=()
def tw2487140381004544192:=()
def tw6419326913021608469:=()
def tw246956128845005856:=()
def tw6874150784822507419:=()
def tw18289268727606242660:=()
def tw11462577937978679952:=()
def tw10175645288223828294:=()
def tw14185583141198526884:=()
def tw11754472484857275132:=()
def tw18021412061697654009:=()
def tw17734938240327584759:=()
def tw9371210433298778078:=()
def tw10452158544169844855:=()
def tw17032903722393856548:=()
def tw7469002650346851665:=()
def tw15156168432618769123:=()
def tw13827303516939261934:=()
def tw4446762917948456555:=()
def tw647061239342880498:=()
def tw4101441636972986884:=()
def tw16631662908441343209:=()
def tw10994624759608498885:=()
def tw16386550254992165520:=()
def tw15300228945664383268:=()
def tw3620979933253601584:=()
def tw11474407507357186403:=()
def tw14606256925223659195:=()
def tw17475402903735905321:=()
def tw677595533266274955:=()
def tw1614039680247513038:=()
def tw16821086178084821449:=()
def tw653836871182372440:=()
def tw4599597349141446489:=()
def tw14971508404649001066:=()
def tw4395804812694481490:=()
def tw918252338190598542:=()
def tw3320561567641838698:=()
def tw4825135354119740983:=()
def tw17120993839966101064:=()
def tw15795844637807992613:=()
def tw5464350734155849314:=()
def tw1097314634060625408:=()
def tw4403578831514409960:=()
def tw5419663881681401046:=()
def tw10671356634929521177:=()
def tw14281798908032068510:=()
def tw9232192403008011161:=()
def tw7284186537911251576:=()
def tw4679458941439617707:=()
def tw5068595003935889196:=()
def tw7634638338314664513:=()
def tw12721537891109319323:=()
def tw7897259653549453530:=()
def tw4689973467365431451:=()
def tw3303877042303257813:=()
def tw2869055350334513121:=()
def tw3976616306989089357:=()
def tw708479430940302511:=()
def tw8133234926831283925:=()
def tw16664698655980727873:=()
def tw2203521666406859057:=()
def tw9160771135465288019:=()
def tw9539723681318058402:=()
def tw12869366173467557388:=()
def tw4765915353685644745:=()
def tw12510514277918612667:=()
def tw4552345900210233619:=()
def tw475963060724443112:=()
def tw9676249972169460302:=()
def tw11934676760385960263:=()
def tw16643508420822616797:=()
def tw9674265222419687174:=()
def tw15853964551365065486:=()
def tw11222960213622759563:=()
def tw3888619897447875164:=()
def tw5508353891743756854:=()
def tw15379798609853605144:=()
def tw2769820591710367147:=()
def tw8871326151409222831:=()
def tw4098219796488960829:=()
def tw17326989942146844396:=()
def tw13884946970232760101:=()
def tw6151760552479044071:=()
def tw15557198762580978155:=()
def tw14806111242852157022:=()
def tw17774995085901031480:=()
def tw10887161708358682895:=()
def tw3720912520500439135:=()
def tw16023965064572742438:=()
def tw478666656232469467:=()
def tw7200462116624294521:=()
def tw13750928243615007219:=()
def tw16351209304910971787:=()
def tw8715272792110165021:=()
def tw14193329010025458665:=()
def tw14950630120020200053:=()
def tw16758950987963465412:=()
def tw14156004904546388241:=()
def tw7536827737947891195:=()
def tw14520087004575940881:=()
def tw6344099209358541215:=()
def tw1960077239303612767:=()
def tw5418048737479889842:=()
def tw2955424943037914100:=()
def tw9159039574646352685:=()
def tw18006902964150448375:=()
def tw17443642583224533453:=()
def tw17851738738263663270:=()
def tw7351885323919189045:=()
def tw17257176692499274006:=()
def tw531609759629982333:=()
def tw678479510429865290:=()
def tw11230729286049555188:=()
def tw11401022439249021500:=()
def tw15049744002455187857:=()
def tw10017036622756506903:=()
def tw11016035131528984483:=()
def tw16878377379102883188:=()
def tw7775725620321630247:=()
def tw12208095454386848243:=()
def tw10819306809780484927:=()
def tw7143038472857823141:=()
def tw16519807079917156956:=()
def tw16723300326238523373:=()
def tw10789394427103004901:=()
def tw7122232868629631570:=()
def tw18392481951210715252:=()
def tw6984415616169217950:=()
def tw15817519214398536716:=()
def tw11218941880371057065:=()
def tw13456483205441596067:=()
def tw11072806698142033028:=()
def tw7549330824384351467:=()
def tw6748720053958701872:=()
def tw6020128632313934622:=()
def tw10733947178889863543:=()
def tw8480921561865190716:=()
def tw11950152296577528446:=()
def tw10123879184195583082:=()
def tw13738148723962912674:=()
def tw18326892516733042470:=()
def tw1864568681934137781:=()
def tw819964174104522834:=()
def tw9508161768845402554:=()
def tw10309991403073831616:=()
def tw7372901456848674979:=()
def tw11420562237274674084:=()
def tw14946949177811195115:=()
def tw3680915893779308950:=()
def tw14235096197729320014:=()
def tw18054725084622897092:=()
def tw15255782613593585752:=()
def tw3098698504842507817:=()
def tw13249202579396966764:=()
def tw17556546527736987204:=()
def tw4707151923614756703:=()
def tw17578512035214569121:=()
def tw4788674935997144905:=()
def tw2670550696364159499:=()
def tw16919692014698451084:=()
def tw12435021917537233781:=()
def tw13434943612415882428:=()
def tw7187811978781072573:=()
def tw6690319222384868363:=()
def tw1363119761762607273:=()
def tw8021942513427079708:=()
def tw6147419084359141245:=()
def tw3742155169765710866:=()
def tw12529697690975644931:=()
def tw13509177938625385061:=()
def tw15459921858234626694:=()
def tw3313432647898879740:=()
def tw14850875976207661948:=()
def tw17520888237320309746:=()
def tw10061127585726530396:=()
def tw12180119842470968336:=()
def tw11425590185892890699:=()
def tw13972549698869034680:=()
def tw13801391321267714137:=()
def tw18030902017429293438:=()
def tw12070864949886403292:=()
def tw8845081905442544414:=()
def tw17503096670864464453:=()
def tw16965540543722965620:=()
def tw9166256993332446558:=()
def tw13728482106424122682:=()
def tw3416993160412408356:=()
def tw8915219925182291826:=()
def tw10292917509167554300:=()
def tw17816735858786580298:=()
def tw1547462244193645414:=()
def tw4946824554569491470:=()
def tw14064119532656414153:=()
def tw14549012644382231745:=()
def tw1062834425578295016:=()
def tw13782191103169025032:=()
def tw7213363810498672272:=()
def tw4869789084767376563:=()
def tw207522342749996173:=()
def tw12655427691528278892:=()
def tw15850876678908440119:=()
def tw13460646768977724748:=()
def tw10658300890475613776:=()
def tw3527446108949602148:=()
def tw9409284911147127810:=()
def tw6525616274508389433:=()
def tw8197919171801461342:=()
def tw18144400032222913507:=()
def tw16771873188735210986:=()
def tw4943664685601482434:=()
def tw14411500885866965866:=()
def tw4969172085820636773:=()
def tw10863880045436847383:=()
def tw18054554375700233990:=()
def tw15042318347558739368:=()
def tw13117769145059665362:=()
def tw12782369461750714025:=()
def tw3649016537070146768:=()
def tw6140529075945457698:=()
def tw5096080323025194001:=()
def tw17749228199923856907:=()
def tw12342980678401189705:=()
def tw10102389525846035701:=()
def tw6461499206805741045:=()
def tw3491538731224333190:=()
def tw17458905838514506837:=()
def tw11073915027463395343:=()
def tw16393351414780495217:=()
def tw11484260992065117617:=()
def tw12515887157953620849:=()
def tw10781402535706051211:=()
def tw3776123950875263800:=()
def tw12920619912202751060:=()
def tw5170465320172402476:=()
def tw16751392303443408806:=()
def tw8452209955531883692:=()
def tw2880808953812031287:=()
def tw6809258622834664984:=()
def tw11893435131844526566:=()
def tw2309892219011646887:=()
def tw13833404704135997733:=()
def tw6059482927971619569:=()
def tw13885334026967861805:=()
def tw13664055702367964737:=()
def tw15210960954580541690:=()
def tw8787504120405676950:=()
def tw9418137281869543344:=()
def tw17035440653977314969:=()
def tw13689231111426627410:=()
def tw12504969656763059295:=()
def tw10114664313300280918:=()
def tw13904182085805007180:=()
def tw2447185418519740334:=()
def tw15254948134768682695:=()
def tw1775721143564914765:=()
def tw1952183545443141596:=()
def tw9550674511344973626:=()
def tw6326189677583792349:=()
def tw982747785195172155:=()
def tw982109327469646207:=()
def tw4156881115244294585:=()
def tw7557572364492788512:=()
def tw5032522008139933463:=()
def tw17726084316247592329:=()
def tw6390185690734309268:=()
def tw17961725494685910926:=()
def tw16056650436314709066:=()
def tw10788431860929854934:=()
def tw14316767336202932874:=()
def tw3132016582736856371:=()
def tw2104652768037343504:=()
def tw14975978344111631562:=()
def tw4947437587547075542:=()
def tw11924434087716440887:=()
def tw3549537372276005007:=()
def tw7913892241606635106:=()
def tw11987435693168646675:=()
def tw5532656063613521468:=()
def tw11590566129397365969:=()
def tw8565013899966585054:=()
def tw9821327494087535870:=()
def tw16929267623451172236:=()
def tw9958148574473447453:=()
def tw13562597504794126475:=()
def tw6093776487041450575:=()
def tw67012786243233743:=()
def tw11416493666007156590:=()
def tw16115490129087026737:=()
def tw11844743277312157027:=()
def tw12772073590562990610:=()
def tw6837979849224646807:=()
def tw255427355044914821:=()
def tw17186222876860776016:=()
def tw7823258568129670164:=()
def tw12569353411680419333:=()
def tw3869085726536277356:=()
def tw11977607861403638127:=()
def tw8639821818069111637:=()
def tw5386596096998733797:=()
def tw12661337348848062706:=()
def tw8360153525280612104:=()
def tw14288537979599798646:=()
def tw6627466813446149020:=()
def tw3522242829033392880:=()
def tw17201772446081327542:=()
def tw18001307818407928851:=()
def tw6328403847656748640:=()
def tw14343906244832764334:=()
def tw12391722287196279810:=()
def tw13173653399479974002:=()
def tw14341730565243084799:=()
def tw577985759452696722:=()
def tw14043492330391392779:=()
def tw1157476672370046639:=()
def tw1083044653992479836:=()
def tw15812112296511531599:=()
def tw11853622961290890970:=()
def tw16637741425043676406:=()
def tw5480692349817172889:=()
def tw16430398733626693559:=()
def tw11438750381855566332:=()
def tw7942664501556567056:=()
def tw1029166667114061836:=()
def tw6400322583447259541:=()
def tw18183031013519353813:=()
def tw5502211870056602772:=()
def tw2513774473145736015:=()
def tw12542415698589753264:=()
def tw11806003729156171576:=()
def tw5188029280446431998:=()
def tw16291175824765988458:=()
def tw6210428562949738775:=()
def tw6798040411554473596:=()
def tw6922497982375236500:=()
def tw8851365306178564537:=()
def tw1910931015103294634:=()
def tw18350120496447031142:=()
def tw7913262663702454465:=()
def tw8720327304708266146:=()
def tw4138189583306523949:=()
def tw12203373846308894882:=()
def tw9081315339057811856:=()
def tw15631436249616257316:=()
def tw16252301996132350189:=()
def tw18089518809564498354:=()
def tw1889650157910923684:=()
def tw693342426084275972:=()
def tw490027961409450021:=()
def tw15519041498296698351:=()
def tw5228500736183021336:=()
def tw11660447847153605406:=()
def tw13774364905500424238:=()
def tw11764546216813241455:=()
def tw7167382868427301004:=()
def tw13891025770891103230:=()
def tw9497408860582671835:=()
def tw1174886669910210760:=()
def tw9102299597797780253:=()
def tw10850218565887356080:=()
def tw12956737534608065233:=()
def tw1801956935968442792:=()
def tw6127418433020323892:=()
def tw15975909937254358891:=()
def tw7665683035043162700:=()
def tw9450099935864229357:=()
def tw2779113211908559688:=()
def tw9398744597689690799:=()
def tw16133039547901857087:=()
end PySem.W.Fast
noncomputable def PySem.W.Fast.tw10937807752957719438:PySem.Program:=PySem.Challenge.pw_matepoint_k54_out_at_just_the_till
theorem PySem.W.Fast.te10937807752957719438:PySem.Challenge.pw_matepoint_k54_out_at_just_the_till=PySem.W.Fast.tw10937807752957719438:=rfl
open PySem PySem.W PyProof.Rows
set_option maxRecDepth 100000 in
set_option maxHeartbeats 0 in
theorem PySem.Challenge.cw_matepoint_k54_out_at_just_the_till_holds : PySem.Challenge.rw_matepoint_k54_out_at_just_the_till.Holds := by
 w_on;o_law;z_head;(case hw=>w_witness2)
 k_fill
 refine My.IW (l:=PySem.Challenge.rw_matepoint_k54_out_at_just_the_till) rfl rfl (λ_=>rfl) ?T ?C ?B ?F
 case T=>exact λw=>(Rn.mpr ⟨by k_is,(Rn.mpr ⟨by k_is,(λ_ h=>Ys h RG)⟩)⟩)
 case C=>exact λw=>(Rn.mpr ⟨⟨386,by kernel_rfl⟩,(Rn.mpr ⟨⟨406,by kernel_rfl⟩,(λ_ h=>Ys h RG)⟩)⟩)
 case B=>exact λw=>by kernel_rfl
 case F =>
  intro w mg fa h KX G hmg
  refine' My.all_mk ?tT ?tB KX G hmg ?h0 ?h1 ?h2 ?h3 ?h4 ?h5 ?h6 ?h7 ?h8 ?h9 ?h10 ?h11 ?h12 ?h13 ?h14 ?h15 ?h16 ?h17 ?h18 ?h19 ?h20 ?h21 ?h22 ?h23 ?h24 ?h25 ?h26 ?h27 ?h28 ?h29 ?h30 ?h31 ?h32 ?h33 ?h34 ?ak35 ?a35 ?i35 ?l35 ?c35 ?mk35 ?mp35 ?h36 ?h37 ?h38 ?h39 ?h40 ?h41 ?h42 ?h43 ?h44 ?h45 ?h46 ?h47 ?h48 ?h49 ?h50 ?h51 ?h52 ?h53 ?h54 ?h55 ?h56 ?h57 ?h58 ?h59 ?h60 ?h61 ?h62 ?h63 ?h64 ?h65 ?h66 ?h67 ?h68 ?h69 ?gv0 ?gv1 ?gv2 ?gl2 ?gz2 ?gs2 ?gv3 ?gv4 ?gv5 ?gv6 ?gv7 ?gv8 ?gv9 ?gv10 ?gl10 ?gz10 ?gs10 ?gv11 ?gv12 ?gv13 ?gl13 ?gz13 ?gs13 ?gv14 ?gv15 ?gv16 ?gv17 ?z0 ?z1 ?z2 ?z3 ?z4 ?z5 ?z6 ?z7 ?z8 ?z9 ?z10 ?z11 ?z12 ?z13 ?z14 ?cx0 ?cx1 ?q0a ?q1a ?q2a ?q3a ?q4a ?q5a ?q6a ?q7a ?q8a ?q8b ?q8c ?q8d ?q9a ?q9b ?q9c ?q10
  (case h36|h37|h38|h39|h40|h41|h42|h43|h44|h45|h46|h47|h48|h49|h50|h51|h52|h53|h54|h55=>refine' My.Ju ?k ?a ?i ?l ?c;(case k=>k_is);(case a=>kernel_rfl);(case i=>kernel_rfl);(case l=>k_is);(case c=>k_is))
  (case h0|h1|h2|h3|h4|h5|h6|h7|h8|h9|h10|h11|h12|h13|h14|h15|h16|h17|h18|h19|h20|h21|h22|h23|h24|h25|h26|h27|h28|h29|h30|h31|h32|h33|h34|h56|h57|h58|h59|h60|h61|h62|h63|h64|h65|h66|h67|h68|h69=>refine' My.fe_in ?a ?l ?c;(case a=>k_is);(case l=>k_is);(case c=>k_is))
  (case tT=>exact(Rn.mpr ⟨by k_is,(Rn.mpr ⟨by k_is,(λ_ h=>Ys h RG)⟩)⟩))
  (case tB=>kernel_rfl)
  (case ak35=>k_is)
  (case a35=>kernel_rfl)
  (case i35=>kernel_rfl)
  (case l35|c35=>k_is)
  (case mk35=>kernel_rfl)
  (case mp35=>kernel_rfl)
  (case gv0|gv1|gv2|gl2=>k_is)
  (case gz2=>decide)
  (case gs2=>exact(.cons (by decide +kernel) (.cons (by decide +kernel) (.cons (by decide +kernel) (.cons (by decide +kernel) (.cons (by decide +kernel) (.cons (by decide +kernel) .nil)))))))
  (case gv3|gv4|gv5|gv6|gv7|gv8|gv9|gv10|gl10=>k_is)
  (case gz10=>decide)
  (case gs10=>exact(.cons (by decide +kernel) (.cons (by decide +kernel) (.cons (by decide +kernel) .nil))))
  (case gv11|gv12|gv13|gl13=>k_is)
  (case gz13=>decide)
  (case gs13=>exact(.cons (by decide +kernel) (.cons (by decide +kernel) (.cons (by decide +kernel) (.cons (by decide +kernel) .nil)))))
  (case gv14|gv15|gv16|gv17|z0|z1|z2|z3|z4|z5|z6|z7|z8|z9|z10|z11|z12|z13|z14|cx0|cx1=>k_is)
  (case q0a=>kernel_rfl)
  (case q1a=>kernel_rfl)
  (case q2a=>kernel_rfl)
  (case q3a=>kernel_rfl)
  (case q4a=>kernel_rfl)
  (case q5a=>kernel_rfl)
  (case q6a=>kernel_rfl)
  (case q7a=>kernel_rfl)
  (case q8a=>kernel_rfl)
  (case q8b=>kernel_rfl)
  (case q8c=>kernel_rfl)
  (case q8d=>kernel_rfl)
  (case q9a=>kernel_rfl)
  (case q9b=>kernel_rfl)
  (case q9c=>kernel_rfl)
  (case q10=>kernel_rfl)
end
