import PyProof.Rows.All
import Wide.All
import OpenK.AllK
import Wide.FinOn
import Lean
import PyProof.EqAt
import PyProof.EqKinds
import PyProof.TupleCall
import PyProof.ToksMono
import PyProof.StrCalls6
import PyProof.StrLawsReplace
import PyProof.DictUpdate
import PySem.Challenge.RW_matepoint_k45_whole_who_could_be_left_ou
set_option Elab.async false
set_option linter.all false
set_option maxRecDepth 100000
noncomputable section
open PySem renaming wpAny_bind->Yb,wpAny_pure->Yd,Program->YK,sizeLine->YM,assignEach->Y7,mainGlobals->Y8,wpAny_loadPart'->Wc,Comprehension->We,wpAny_holding->Wj,compareOp->Wl,Env->Ws,wpAny_newObj_type->Wv,strKind->Wz,wpAny_call_entry->WQ,foldedSetIterable->WR,sizeLine_eq->WW,mem_of_lookup->WX,wpAny_setEntries_of->WY,wpAny_mono->W2,wpAny_truthy_bool->W3,wpAny_setState_of->W5,starEach->W7,wpAny_standAt->W8,binaryOp->W9,wpAny_callSpecial?_slot->Ub,FuncData->Uj,wpAny_setField->Ur,SetTable->UG,wpAny_isNot_other->UW,letOwnedTupleGo->U0,bindArgs->U6,call->U8,bootBuiltins->Gb,wpAny_Call_Name_kw->Ge,standAt->Gz,wpAny_askSetting->GJ,call_meets->GP,wpAny_is_other->GR,NameKind->G8,codeAny->Vd,wpAny_fieldsOf->Vh,wpAny_rule->Vq,wpAny_passesOwn->Vw,cellsFrom->Vz,builtinsNs->VM,sliceBounds->VP,recursionLimit->VV,codeAny_mono->V2,pickOrder->V3,holding->V5,wpAny_attempt->Yaf,wpAny_newList->Yag,compTurn->Yai,sysModules->Yak,wpAny_field->Yan,getItem->Yao,codeAny_builtin->Yar,wpAny_ite_false->Yat,Operator->Yav,wpAny_typeOf->Yay,wpAny_pyIter_tuple->Yaz,swapsWith->YaH,fits_of_scanBound->YaK,wpAny_pyIter_list->YaN,noteFrame->YaO,swapsWithSole->YaT,swappedStores->YaU,behindInMarks->YaV,attributeBase->YaW,relayAll->YaX,plainId_quiet->YaY,comprehension->Ya0,wpAny_eqBool_int->Ya3,noFill_tuple_add->Ya4,codeAmong->Ybb,theWindowsPlace->Ybe,typeIs_int->Ybj,slotArgs->Ybk,isSubtype_type->Ybp,wpAny_newTuple->Ybq,subscripted->Ybt,slicePicked->Ybu,Arguments->Ybw,seq_tuple_add->Ybx,scanBound->Ybz,Fin->YbC,compStart->YbD,BindsTo->YbI,typeLookup->YbJ,callerA->YbL,valueAt->YbM,concat_meets->YbP,seqIndex_neg->YbQ,setAddHashed->YbT,tupleKind->Yb5,seqIndex_of->Yb6,CmpOp->Yca,wpAny_Name->Ycb,typeIs_str->Ycd,setsByText->Yce,checkCount->Ycf,closureFor->Ycg,defaultsOf->Ycj,Keyword->Yck,compPost->Ycl,PassesOwn->Yco,seqIndex?->Ycp,drawOrder->Ycq,TriplesOk->Ycr,clausesOf->Ycs,setFlight->Yct,spliced->Ycv,setNext->Ycw
open List renaming length_map->Yc,mem_cons_of_mem->Yg,mem_cons->Yh,getElem?_eq_some_iff->Yi,size_toArray->Yk,mem_append_right->Ym,getElem?_eq_getElem->Yn,mem_cons_self->Yp,map_cons->Yq,length_append->Yr,getElem?_set_ne->Yv,set_cons_succ->Yw,set_cons_zero->Yx,replicate->Yy,mem_map->Yz,length_cons->YB,not_mem_nil->YC,range->YF,getElem?_append_left->YL,getElem?_append_right->YS,getElem?_set_self->YX,getElem?_map->YZ,map_map->Y0,length_singleton->Y5,pairwise_cons->Y6,all_eq_true->Wa,nodup_cons->Wb,length_filter_le->Wg,mem_append_left->Wi,lookup_cons->Wk,append_assoc->Wm,length_nil->Wn,length_zip->Wo,pairwise_map->Wq,mem_filter->Wu,mem_of_getElem?->Wx,Nodup->WF,length_set->WK,replicate_succ->WL,length_take->WP,drop_eq_getElem_cons->WT,flatten_cons->W4,length_range->W6,append_nil->Ua,map_append->Uc,mem_singleton->Ud,pairwise_singleton->Uh,drop_eq_nil_of_le->Uk,flatMap_cons->Uo,foldl_cons->Ut,isEmpty_nil->Uv,filter_cons->Uw,forall_mem_cons->Ux,getElem?_replicate->Uz,find?_cons->U5,length_replicate->Gf,zip_cons_cons->Gi,contains_iff_mem->Gk,exists_of_findSome?_eq_some->Gp,mem_iff_getElem->Gq,mem_append->Gs,nodup_append->Gw,filterMap_cons->Gy,getElem_of_mem->GC,map_congr_left->GD,any_eq_true->GK,nil_append->G4,getElem?_eq_none->G6,all_cons->G9,any_cons->Va,length_eraseIdx_of_lt->Vc,nodup_nil->Vg,getElem?_zip_eq_some->Vi,getElem?_eq_none_iff->Vj,map_nil->Vp,of_mem_zip->Vy,forIn_cons->VD,zip->VJ,length->VN,mem_range->VR,getElem_inj->V4,length_drop->V6,getElem_mem->V7,map_fst_zip->V9,getElem_zip->Yaa,mem_flatMap->Yab,set_append_left->Yae,getElem?_range->Yas,filter_sublist->Yau,filterMap_map->Yax,getElem?_take->YaB,drop_zero->YaG,foldl->YaI,sum_cons->Ya2,take_length->Ya8,set_comm->YbF,all_map->YbX,any_map->YbY,toArray->YbZ,Sublist->Yb2
open PySem.Heap renaming get?_push_of_some->Ye,lt_size->Ys,get?_push_size->Yt,get?_update_other->Wd,get?_update_self->Wr,get?_update_ne->W0,get?_push_ne->Um,size_push->Us,SameBut->Vm,size_update->V8,get?_none_of_le->Yac,ExtBut->Yaq
open Nat renaming le_refl->Yj,lt_of_lt_of_le->Yu,ne_of_lt->YH,le_trans->YJ,lt_irrefl->Y9,lt_succ_of_lt->Wf,zero_le->Wy,le_succ->U4,le_of_lt->Gd,lt_trans->Gj,ne_of_gt->GZ,sub_self->G7,lt_succ_self->Vl,le_of_eq->Vt,not_lt->Yal,min_le_right->Ya5,add_comm->Ya9,min_self->Ybd,zero_add->Ybf,le_add_left->Ybg,succ_mul->YbR,mul_comm->YbS,sub_le->Ych
open Bool renaming false_ne_true->Yl,and_eq_true->Yo,false_eq_true->YD,or_eq_true->Ue,not_true->Uq,eq_iff_iff->Vx,eq_false_iff->YaP,or_true->Ybi,and_true->YbB,true_and->YbG
open Option.some renaming inj->YG
open Array renaming length_toList->YQ,getElem?_toList->WM,getElem?_eq_some_iff->U7,toList_map->U9,getElem?_eq_getElem->Vk,getElem_toList->Yad,getD->Ybm,size_map->Ybs,toList->YbO
open PySem.Obj renaming mapSeq->YT,data_mapFields->WD,isFreed_of_fields->Uu,mapFields->Vb,putSet->YaJ,cls_mapFields->YaL
open PySem.NameKind renaming free->YW,cell->YaZ
open And renaming intro->Y4
open PySem.Value renaming bool->Wh,isStrOf->Ga,none->Gr,ref->GF,int->V0,str->V1,type->Yaj,isStrOf_shape->Yam
open PySem.PyData renaming eqv->Ww,canLay0->GQ,depth->Vr,eqvAll->Yah,canLayAll0->YaM,depthAll->Ybc
open PySem.Heap.SameBut renaming update->WN
open ForInStep renaming yield->Ug
open Ne renaming symm->Ui
open PyProof.Rows renaming slot_tuple_getitem->Ul,IntsAre->U3,listUpdate_at->Gh,callWith_builtin1->Gx,pairsOf_toList->GX,callWith_type1->G3,get?_update_seq->G5,pairsOf->VH,SortKind->YaC,pairsOf_size->YaD,AllBare->YaS,seqEpoch_at->Ya1,entry_list_sort->Yba,size_push'->Ybl,slot_list_sort->Ybr,subscriptTail->Yby,keyKind'->YbE,plain_sorted->YbV,entry_sorted->YbW,listItems_at->Yb0,mem_zip_self->Yb1,oneType'->Yb4,kind_sorted->Yb8,Subscript_->Ycc,sortedAll->Ycu
open PySem.Builtin.Str renaming occurrences->Uy
open PySem.W renaming kas_item->UJ,mg_none_of->Vv,codeHdIn->Ybn,cellsFrom_some->Ybo,OpenLaw->Yb7,Looks->Ycm,methodObj->Ycn,kas_rev->Ycx
open PySem.SetTable renaming below->UL,grown->Gn
open List.Perm renaming refl->UT,eq_of_pairwise->Vu,swap->YaF
open Int renaming toNat_natCast->UV,emod_lt_of_pos->YaE,emod_nonneg->Ybh
open PySem.Str renaming ofString->Gg
open PySem.Builtin.Slice renaming slicePlaces->Gm,sliceAdjust->Vf
open PySem.Builtin.Tuple renaming tupleExact->Gu
open PySem.Builtin.List renaming listTooLong->Gv
open PySem.Around renaming under_plainId->Ve
open False renaming elim->Vn
open PySem.F renaming args_tuple_add_2->Vo,entry_tuple_add->VB,plainAttrs_list->VF,slot_tuple_add->VL,slot_int_rmul->Yap,args_tuple_mul_2->YaA,entry_tuple_mul->YaQ,slot_tuple_mul->Ya7
open PySem.AutoSeq1 renaming sub_tuple_tuple->Vs,idx_int->Ya6
open PySem.W.KasT renaming kasWp_bind->VG
open PySem.Calls renaming spliced_cons->Yaw
open Sum renaming inl->YaR,inr->YbH
open PySem.Paired renaming length->Ybv
open PySem.Shared renaming TypeIs->YbA
open PySem.SeqAt renaming EqAt->YbK
open True renaming intro->YbN
open PySem.pickOrder renaming go->YbU
open Prod renaming ext->Yb3
open Prod.mk renaming inj->Yb9
open PyProof.Rows.SortSt renaming mk'->Yci
open PySem.W (Frag OpenLaw cellsFrom_some codeHdIn codeIn envX findIn fnOf keepIn kla_fn methodObj mg_none_of mg_of nsIn tabObj)
section
set_option Elab.async false
namespace L2
open PySem PySem.Spec PyProof.Rows
abbrev Key:=Sum Int Str
def ZhE:Key->Value->Bool
 |.inl k,v=>Value.isInt k v
 |.inr x,v=>Ga x v
def keyH(w:World):Key->Int
 |.inl k=>hashInt k
 |.inr x=>hashStr w x
theorem Z8:∀{k:Key}{v:Value},ZhE k v=true->(∃i t,k=YaR i/\v=V0 i t)∨(∃x t,k=YbH x/\v=V1 x t)
 |.inl i,v,h=>by
  obtain⟨t,e⟩:=Value.isInt_shape (k:=i) (v:=v) h
  exact .inl ⟨i,t,rfl,e⟩
 |.inr x,v,h=>by
  obtain⟨t,e⟩:=Yam (x:=x) (v:=v) h
  exact .inr ⟨x,t,rfl,e⟩
theorem ZjW(i:Int)(t:Tok):ZhE (.inl i) (.int i t)=true:=by simp[ZhE,Value.isInt]
theorem ZjV(x:Str)(t:Tok):ZhE (.inr x) (.str x t)=true:=by simp[ZhE,Ga]
theorem key_ll(a b:Int):decide ((YaR a:Key)=YaR b)=(a==b):=by
 by_cases e:a=b
 ·subst e;simp
 ·have h:¬(YaR a:Key)=YaR b:=λq=>e (Sum.inl.inj q)
  rw[decide_eq_false h]
  exact(beq_eq_false_iff_ne.mpr e).symm
theorem key_rr(a b:Str):decide ((YbH a:Key)=YbH b)=decide (a=b):=by
 by_cases e:a=b
 ·subst e;simp
 ·have h:¬(YbH a:Key)=YbH b:=λq=>e (Sum.inr.inj q)
  rw[decide_eq_false h,decide_eq_false e]
theorem key_lr(a:Int)(b:Str):decide ((YaR a:Key)=YbH b)=false:=decide_eq_false (λq=>nomatch q)
theorem key_rl(a:Str)(b:Int):decide ((YbH a:Key)=YaR b)=false:=decide_eq_false (λq=>nomatch q)
def QV(prog:YK)(w:World):PySem.KeyKind prog w Key where
 is:=ZhE
 hash:=keyH w
 inj:=λv a b ha hb=>by
  rcases Z8 ha with⟨i,t,rfl,rfl⟩|⟨x,t,rfl,rfl⟩
  ·rcases Z8 hb with⟨j,u,rfl,e⟩|⟨y,u,rfl,e⟩
   ·injection e with e1 _;rw[e1]
   ·exact nomatch e
  ·rcases Z8 hb with⟨j,u,rfl,e⟩|⟨y,u,rfl,e⟩
   ·exact nomatch e
   ·injection e with e1 _;rw[e1]
 byValue:=λk v h=>by
  rcases Z8 h with⟨i,t,rfl,rfl⟩|⟨x,t,rfl,rfl⟩<;>rfl
 pyHash:=λhv h=>by
  rcases Z8 hv with⟨i,t,rfl,rfl⟩|⟨x,t,rfl,rfl⟩
  ·exact wpAny_pyHash_int h
  ·exact wpAny_pyHash_str h
 eqBool:=λhu hv h=>by
  rcases Z8 hu with⟨i,t,rfl,rfl⟩|⟨x,t,rfl,rfl⟩
  ·rcases Z8 hv with⟨j,u,rfl,rfl⟩|⟨y,u,rfl,rfl⟩
   ·rw[key_ll]at h;exact Ya3 h
   ·rw[key_lr]at h;exact SeqAt.EqAt.int_str i t y u _ _ _ _ h
  ·rcases Z8 hv with⟨j,u,rfl,rfl⟩|⟨y,u,rfl,rfl⟩
   ·rw[key_rl]at h;exact SeqAt.EqAt.str_int x t j u _ _ _ _ h
   ·rw[key_rr]at h;exact wpAny_eqBool_str h
 «strs»:=λk x t v h=>by
  rcases Z8 h with⟨i,u,rfl,e⟩|⟨y,u,rfl,e⟩
  ·exact nomatch e
  ·injection e with e1 _
   subst e1
   cases v<;>rfl
theorem Zft(prog:YK)(w:World)(i:Int)(t:Tok):(QV prog w).is (.inl i) (.int i t)=true:=ZjW i t
theorem Zfs(prog:YK)(w:World)(x:Str)(t:Tok):(QV prog w).is (.inr x) (.str x t)=true:=ZjV x t
inductive V where
 |non|bl (b:Bool)|int (i:Int)|str (x:Str)|byt (b:Array UInt8)|flt (b:UInt64)|ref (a:Addr)|ty (n:String)
 deriving DecidableEq
def RelV:V->Value->Prop
 |.non,u=>u=Gr
 |.bl b,u=>u=Wh b
 |.int i,u=>∃t,u=V0 i t
 |.str x,u=>∃t,u=V1 x t
 |.byt b,u=>∃t,u=Value.bytes b t
 |.flt b,u=>∃t,u=Value.float b t
 |.ref a,u=>u=GF a
 |.ty n,u=>u=Yaj n
abbrev Vals:List V->List Value->Prop:=Paired RelV
theorem Vals.length{xs:List V}{us:List Value}(r:Vals xs us):xs.length=us.length:=Ybv r
theorem Vals.get:∀{xs:List V}{us:List Value}{i:Nat}{x:V},Vals xs us->xs[i]?=some x->∃u,us[i]?=some u/\RelV x u
 |_,_,_,_,.nil,e=>by simp at e
 |_,_,0,_,.cons r _,e=>by simp at e;subst e;exact⟨_,rfl,r⟩
 |_,_,i+1,x,.cons _ t,e=>by
  obtain⟨u,h1,h2⟩:=Vals.get (i:=i) (x:=x) t (by simpa using e)
  exact⟨u,by simpa using h1,h2⟩
theorem Vals.set{x:V}{u:Value}(r:RelV x u):∀{xs:List V}{us:List Value}(i:Nat),Vals xs us->Vals (xs.set i x) (us.set i u)
 |_,_,_,.nil=>.nil
 |_,_,0,.cons _ t=>.cons r t
 |_,_,i+1,.cons q t=>.cons q (Vals.set r i t)
theorem Vals.append:∀{xs ys:List V}{us ws:List Value},Vals xs us->Vals ys ws->Vals (xs++ys) (us++ws)
 |_,_,_,_,.nil,s=>s
 |_,_,_,_,.cons r t,s=>.cons r (Vals.append t s)
theorem Vals.take:∀{xs:List V}{us:List Value}(n:Nat),Vals xs us->Vals (xs.take n) (us.take n)
 |_,_,0,_=>.nil
 |_,_,_+1,.nil=>.nil
 |_,_,n+1,.cons r t=>.cons r (Vals.take n t)
theorem Vals.drop:∀{xs:List V}{us:List Value}(n:Nat),Vals xs us->Vals (xs.drop n) (us.drop n)
 |_,_,0,r=>r
 |_,_,_+1,.nil=>.nil
 |_,_,n+1,.cons _ t=>Vals.drop n t
def RelO:Option V->Option Value->Prop
 |some v,some u=>RelV v u
 |none,none=>True
 |_,_=>False
def KV{κ:Type}:List (κ×V)->List (κ×Value)->Prop:=Paired λ(p:κ×V) (q:κ×Value)=>p.1=q.1/\RelV p.2 q.2
def kV:Key->V
 |.inl i=>.int i
 |.inr x=>.str x
inductive HO where
 |lst (xs:List V)
 |tup (xs:List V)
 |dK (kvs:List (Key×V))|dT (kvs:List (List Key×V))
 |set (S:Int->Bool) (n:Nat)
 |ins (C dx:Addr) (fs:List (Str×V))
 |own (x:Addr)
 |xd (fs:List (Str×V))
 |met (f x:Addr)
 |rng (lo hi:Int)
 |frz (o:Obj) (u:HO)
 |tbl (ps:Array Value)
 |ext (φ:Heap->Prop)
abbrev Hp:=Addr->Option HO
def upd(H:Hp)(a:Addr)(o:HO):Hp:=λb=>if b=a then some o else H b
theorem QQ{H:Hp}{a:Addr}{o:HO}:upd H a o a=some o:=by unfold upd;rw[if_pos rfl]
theorem ZL{H:Hp}{a b:Addr}{o:HO}(h:b≠a):upd H a o b=H b:=by unfold upd;rw[if_neg h]
theorem Qy{H:Hp}{a b:Addr}{o:HO}(h:H a=some o)(h':H b=none):a≠b:=by
 intro e;subst e;rw[h]at h';cases h'
def TupP(h:Heap)(a:Addr)(items:Array Value):Prop:=∃o,h.get? a=some o/\o.cls=.type "tuple"/\(∃n,o.data=.seq items n)/\o.dict=none
theorem TupP.is{h:Heap}{a:Addr}{items:Array Value}(x:TupP h a items):IsTup h a items:=let⟨o,h1,h2,h3,_⟩:=x;⟨o,h1,h2,h3⟩
theorem TupP.new(h:Heap)(items:Array Value):TupP (h.push { cls:=.type "tuple",data:=.seq items }) h.objs.size items:=⟨_,Yt _ rfl,rfl,⟨_,rfl⟩,rfl⟩
section
variable(P:YK) (w:World)
def JZ(H:Hp)(h:Heap)(a:Addr):HO->Prop
 |.lst xs=>xs.length<=YM/\∃(its:List Value) (n:Nat),Vals xs its/\h.get? a=some { cls:=.type "list",data:=.seq its.toArray n }
 |.tup xs=>xs.length<=YM/\∃its:List Value,Vals xs its/\TupP h a its.toArray
 |.dK kvs=>kvs.length<=YM/\(a==Yak)=false/\∃vs,KV kvs vs/\h.DictOf (QV P w) a vs
 |.dT kvs=>kvs.length<=YM/\(a==Yak)=false/\∃xs:List (List Key×Addr×Value),
  Paired (λ(p:List Key×V) (q:List Key×Addr×Value)=>p.1=q.1/\H q.2.1=some (.tup (p.1.map kV))/\RelV p.2 q.2.2) kvs xs /\
  ∃o es ep,h.get? a=some o/\o.ExactDict/\o.data=.dict es ep/\es.toList=xs.map (entryOfKey (Yb5 (QV P w)))/\(xs.map (·.1)).Nodup
 |.set S n=>h.SetOf (intKind P w) a S n
 |.ins C dx fs=>H dx=some (.own a)/\fs.length<=1000/\dx≠a/\h.get? a=some (PySem.W.instObj C dx) /\
  ∃mA,h.Ns1 dx mA/\(∀f,RelO (fs.lookup f) (mA f))/\PySem.Within mA (fs.map (·.1))
 |.own _=>∃o,h.get? a=some o
 |.xd fs=>∃mA,h.Ns1 a mA/\∀f,RelO (fs.lookup f) (mA f)
 |.rng lo hi=>∃t u v,h.get? a=some { cls:=.type "range",data:=.fields #[.int lo t,.int hi u,.int 1 v] }
 |.frz o u=>h.get? a=some o/\JZ H h a u
 |.tbl ps=>h.get? a=some { cls:=.none,data:=.fields ps }
 |.met f x=>h.get? a=some (Ycn (.ref f) (.ref x))
 |.ext φ=>φ h/\(∃o,h.get? a=some o)/\∀h1 h2:Heap,φ h1->(∀o,h1.get? a=some o->h2.get? a=some o)->φ h2
def HOk(H:Hp)(h:Heap):Prop:=∀a o,H a=some o->JZ P w H h a o
end
section
variable{P:YK}{w:World}{H H':Hp}{h h':Heap}{a:Addr}{o:HO}
theorem JZ.lt(x:JZ P w H h a o):a<h.objs.size:=by
 cases o with
 |lst xs=>obtain⟨_,_,_,_,e⟩:=x;exact Ys e
 |tup xs=>obtain⟨_,_,_,p⟩:=x;exact p.is.lt
 |dK kvs=>obtain⟨_,_,_,_,o,_,_,e,_⟩:=x;exact Ys e
 |dT kvs=>obtain⟨_,_,_,_,o,_,_,e,_⟩:=x;exact Ys e
 |set S n=>obtain⟨o,_,_,_,e,_⟩:=x;exact Ys e
 |ins C dx fs=>obtain⟨_,_,_,e,_⟩:=x;exact Ys e
 |own y=>obtain⟨_,e⟩:=x;exact Ys e
 |xd fs=>obtain⟨_,⟨_,_,_,e,_⟩,_⟩:=x;exact Ys e
 |rng lo hi=>obtain⟨_,_,_,e⟩:=x;exact Ys e
 |frz ob u=>obtain⟨e,_⟩:=x;exact Ys e
 |tbl ps=>exact Ys (show h.get? a=some _ from x)
 |met f y=>exact Ys (show h.get? a=some _ from x)
 |ext φ=>obtain⟨_,⟨_,e⟩,_⟩:=x;exact Ys e
theorem Paired.mapP{α β:Type}{F G:α->β->Prop}:∀{l₁:List α}{l₂:List β},Paired F l₁ l₂->(∀a b,F a b->G a b)->Paired G l₁ l₂
 |_,_,.nil,_=>.nil
 |_,_,.cons r t,f=>.cons (f _ _ r) (Paired.mapP t f)
theorem JZ.stay(x:JZ P w H h a o)(k:∀b u,(b=a∨H b=some (.own a))->h.get? b=some u->h'.get? b=some u)(ho:∀b,H b=some (.own a)->H' b=some (.own a))(ht:∀b xs,H b=some (.tup xs)->H' b=some (.tup xs)):JZ P w H' h' a o:=by
 induction o with
 |lst xs=>obtain⟨z,its,n,r,e⟩:=x;exact⟨z,its,n,r,k _ _ (.inl rfl) e⟩
 |tup xs=>obtain⟨z,its,r,ob,e,c⟩:=x;exact⟨z,its,r,ob,k _ _ (.inl rfl) e,c⟩
 |dK kvs=>obtain⟨z,y,vs,r,ob,es,ep,e,c⟩:=x;exact⟨z,y,vs,r,ob,es,ep,k _ _ (.inl rfl) e,c⟩
 |dT kvs =>
  obtain⟨z,y,xs,r,ob,es,ep,e,c⟩:=x
  exact⟨z,y,xs,Paired.mapP r λp q z=>⟨z.1,ht _ _ z.2.1,z.2.2⟩,ob,es,ep,k _ _ (.inl rfl) e,c⟩
 |set S n=>obtain⟨ob,es,ep,t,e,c⟩:=x;exact⟨ob,es,ep,t,k _ _ (.inl rfl) e,c⟩
 |ins C dx fs =>
  obtain⟨d,z,ne,e,mA,⟨od,es,ep,e2,c⟩,r⟩:=x
  exact⟨ho _ d,z,ne,k _ _ (.inl rfl) e,mA,⟨od,es,ep,k _ _ (.inr d) e2,c⟩,r⟩
 |own y=>obtain⟨ob,e⟩:=x;exact⟨ob,k _ _ (.inl rfl) e⟩
 |xd fs=>obtain⟨mA,⟨od,es,ep,e,c⟩,r⟩:=x;exact⟨mA,⟨od,es,ep,k _ _ (.inl rfl) e,c⟩,r⟩
 |rng lo hi=>obtain⟨t,u,v,e⟩:=x;exact⟨t,u,v,k _ _ (.inl rfl) e⟩
 |frz ob u ih=>obtain⟨e,q⟩:=x;exact⟨k _ _ (.inl rfl) e,ih q⟩
 |tbl ps =>
  have e:h.get? a=some { cls:=.none,data:=.fields ps }:=x
  show h'.get? a=some { cls:=.none,data:=.fields ps }
  exact k a _ (.inl rfl) e
 |met f y =>
  have e:h.get? a=some (Ycn (.ref f) (.ref y)):=x
  show h'.get? a=some (Ycn (.ref f) (.ref y))
  exact k a _ (.inl rfl) e
 |ext φ=>obtain⟨p,⟨o,e⟩,st⟩:=x;exact⟨st _ _ p λo q=>k _ _ (.inl rfl) q,⟨o,k _ _ (.inl rfl) e⟩,st⟩
theorem HOk.lt(x:HOk P w H h)(e:H a=some o):a<h.objs.size:=(x a o e).lt
theorem HOk.fresh(x:HOk P w H h)(e:h.objs.size<=a):H a=none:=by
 cases q:H a with
 |none=>rfl
 |some u=>exact absurd (Yu (x.lt q) e) (Y9 _)
theorem HOk.kept(x:HOk P w H h)(k:∀b u,h.get? b=some u->h'.get? b=some u):HOk P w H h':=λa o e =>
 (x a o e).stay (λb u _ q=>k b u q) (λ_ q=>q) λ_ _ q=>q
theorem HOk.laid(x:HOk P w H h)(k:∀b u,h.get? b=some u->h'.get? b=some u)(hp:h.objs.size<=a)(new:JZ P w (upd H a o) h' a o):HOk P w (upd H a o) h':=λb u e=>by
 have hn:=x.fresh hp
 by_cases hb:b=a
 ·subst hb;rw[QQ]at e;cases e;exact new
 ·rw[ZL hb]at e
  exact(x b u e).stay (λc v _ q=>k c v q) (λc q=>by rw[ZL (Qy q hn)];exact q) λc xs q=>by rw[ZL (Qy q hn)];exact q
end
def Rd(H:Hp)(a:Addr)(u:HO):Prop:=H a=some u∨∃o,H a=some (.frz o u)
theorem Rd.ok{P:YK}{w:World}{H:Hp}{h:Heap}{a:Addr}{u:HO}(r:Rd H a u)(x:HOk P w H h):JZ P w H h a u:=by
 rcases r with r|⟨o,r⟩
 ·exact x a u r
 ·obtain⟨_,q⟩:=x a _ r
  exact q
def Mut:Option HO->Prop
 |some (.lst _)=>True
 |some (.dK _)=>True
 |some (.dT _)=>True
 |some (.set _ _)=>True
 |some (.ins _ _ _)=>True
 |some (.ext _)=>True
 |_=>False
section
variable{P:YK}{w:World}{H:Hp}{h h':Heap}{x e:Addr}{o':HO}
theorem HOk.write(ok:HOk P w H h)(mu:Mut (H x))(he:e=x∨H e=some (.own x))(k:∀b u,b≠e->h.get? b=some u->h'.get? b=some u)(heo:∃u,h'.get? e=some u)(new:JZ P w (upd H x o') h' x o'):HOk P w (upd H x o') h':=λb u q=>by
 have nown:∀c y,H c=some (.own y)->c≠x:=λc y r z=>by subst z;rw[r]at mu;exact mu
 have ntup:∀c xs,H c=some (.tup xs)->c≠x:=λc xs r z=>by subst z;rw[r]at mu;exact mu
 by_cases hb:b=x
 ·subst hb;rw[QQ]at q;cases q;exact new
 ·rw[ZL hb]at q
  by_cases hbe:b=e
  ·have q':H b=some (.own x):=by
    rcases he with z|z
    ·exact absurd (hbe.trans z) hb
    ·rw[hbe];exact z
   rw[q]at q';cases q'
   obtain⟨v,hv⟩:=heo
   exact⟨v,by rw[hbe];exact hv⟩
  ·refine(ok b u q).stay (λc v hc r=>k c v ?_ r) (λc r=>by rw[ZL (nown c b r)];exact r) λc xs r=>by rw[ZL (ntup c xs r)];exact r
   rcases hc with rfl|hc
   ·exact hbe
   ·rintro rfl
    rcases he with z|z
    ·exact nown c b hc z
    ·rw[hc]at z;cases z;exact hb rfl
end
structure Un (fs ex:List Addr) (H H':Hp) (h h':Heap):Prop where
 keep:∀b o,h.get? b=some o->H b=none->b∉fs->b∉ex->h'.get? b=some o
 slot:∀b o,h.get? b=some o->H b=none->b∈fs->b∉ex->∃sl,h'.get? b=some { o with slots:=sl }
 free:∀b o,h.get? b=some o->H b=none->b∉ex->H' b=none
 there:∀b o,h.get? b=some o->b∉ex->∃o',h'.get? b=some o'
 tups:∀b xs,H b=some (.tup xs)->H' b=some (.tup xs)
 frzs:∀b o u,H b=some (.frz o u)->H' b=some (.frz o u)
 tbls:∀b ps,H b=some (.tbl ps)->∃more,H' b=some (.tbl (ps++more))
section
variable{fs fs' ex ex':List Addr}{H H1 H2:Hp}{h h1 h2 h':Heap}{a x e:Addr}{o:HO}
theorem Un.any(u:Un fs ex H H1 h h1){b:Addr}{ob:Obj}(q:h.get? b=some ob)(n:H b=none)(hx:b∉ex):∃sl,h1.get? b=some { ob with slots:=sl }:=by
 by_cases hb:b∈fs
 ·exact u.slot b ob q n hb hx
 ·exact⟨ob.slots,u.keep b ob q n hb hx⟩
theorem Un.kept(k:∀b u,h.get? b=some u->h'.get? b=some u):Un fs ex H H h h':=
 ⟨λb ob q _ _ _=>k b ob q,λb ob q _ _ _=>⟨ob.slots,k b ob q⟩,λ_ _ _ n _=>n,λb ob q _=>⟨ob,k b ob q⟩,λ_ _ q=>q,λ_ _ _ q=>q,λ_ ps q=>⟨#[],by rw[q];simp⟩⟩
theorem Un.refl:Un fs ex H H h h:=Un.kept λ_ _ q=>q
theorem Un.laid(k:∀b u,h.get? b=some u->h'.get? b=some u)(hp:h.objs.size<=a)(hn:H a=none):Un fs ex H (upd H a o) h h' where
 keep:=λb u q _ _ _=>k b u q
 slot:=λb u q _ _ _=>⟨u.slots,k b u q⟩
 free:=λb u q n _=>by rw[ZL (YH (Yu (Ys q) hp))];exact n
 there:=λb u q _=>⟨u,k b u q⟩
 tups:=λb xs q=>by rw[ZL (Qy q hn)];exact q
 frzs:=λb u xs q=>by rw[ZL (Qy q hn)];exact q
 tbls:=λb ps q=>⟨#[],by rw[ZL (Qy q hn),q];simp⟩
theorem Un.write(mu:Mut (H x))(he:e=x∨H e=some (.own x))(k:∀b u,b≠e->h.get? b=some u->h'.get? b=some u)(heo:∃u,h'.get? e=some u):Un fs ex H (upd H x o) h h':=by
 have hx:∀b,H b=none->b≠x:=λb n z=>by subst z;rw[n]at mu;exact mu
 have hb:∀b,H b=none->b≠e:=λb n z=>by
  subst z
  rcases he with r|r
  ·exact hx b n r
  ·rw[n]at r;cases r
 have hm:∀b u,H b=some u->¬Mut (some u)->b≠x:=λb u q nm z=>by subst z;rw[q]at mu;exact nm mu
 refine⟨λb u q n _ _=>k b u (hb b n) q,λb u q n _ _=>⟨u.slots,k b u (hb b n) q⟩,λb u q n _=>by rw[ZL (hx b n)];exact n,λb u q _=>?_,
  λb xs q=>by rw[ZL (hm b _ q λz=>z)];exact q,λb u xs q=>by rw[ZL (hm b _ q λz=>z)];exact q,λb ps q=>⟨#[],by rw[ZL (hm b _ q λz=>z),q];simp⟩⟩
 by_cases hbe:b=e
 ·subst hbe;exact heo
 ·exact⟨u,k b u hbe q⟩
end
def trk(h:Heap)(H:Hp):List Addr:=(YF h.objs.size).filter λa=>(H a).isSome
def hidT(h:Heap)(H:Hp):Heap:=PySem.W.hideAll h (trk h H)
theorem Zj8(h:Heap)(H:Hp):(hidT h H).objs.size=h.objs.size:=PySem.W.hideAll_size _ _
theorem Zmj{h:Heap}{H:Hp}{b:Addr}{o:Obj}(e:h.get? b=some o)(n:H b=none):(hidT h H).get? b=some o:=
 PySem.W.hideAll_get _ e λhm=>by
  have q:(H b).isSome=true:=(Wu.mp hm).2
  rw[n]at q;simp at q
theorem ZoA{h:Heap}{H:Hp}{b:Addr}{o:Obj}(e:(hidT h H).get? b=some o):h.get? b=some o/\H b=none:=by
 have e':h.get? b=some o:=PySem.W.of_hideAll (trk h H) e
 refine⟨e',?_⟩
 cases q:H b with
 |none=>rfl
 |some x =>
  have hm:b∈trk h H:=Wu.mpr ⟨VR.mpr (Ys e'),by simp[q]⟩
  have z:(hidT h H).get? b=none:=PySem.W.hideAll_none (trk h H) hm
  rw[z]at e;cases e
def Zpk(g h:Heap)(L:Addr):List (Addr×Obj):=(YF h.objs.size).filterMap λa=>if a=L∨(g.get? a).isSome=true then none else(h.get? a).map λo=>(a,o)
def rest(g h:Heap)(L d:Addr):List (Addr×Obj):=(Zpk g h L).filter λp=>decide (p.1≠d)
structure Mod (K:Frag) (mg:Str->Option Value) (base:Heap):Prop where
 kin:K.In base
 glob:base.Ns Y8 mg
 blt:∃mb,base.Ns VM mb/\∀x:Str,x≠"__name__"->mb x=Gb x
 nolimit:base.NoLimit
 bm:∃bm ob,mg "__builtins__" = some (.ref bm)/\bm≠VM/\base.get? bm=some ob/\ob.cls=.type "module"/\ob.dict=some VM/\ob.data=.plain
structure Cx where
 prog:YK
 w:World
 K:Frag
 mg:Str->Option Value
 base:Heap
 A:Around
 N:List Str
 s₀:Shared
 H₀:Hp
 env:Env
 outer:List Env
 stack:List Env
 ex:List Addr
 fn:Str->Bool
 calm:Bool
 pn:List (Addr×Obj)
 xe:Value->Shared->Prop
def frs(l:List Env):List Addr:=l.filterMap (·.frame)
abbrev Cx.fs(X:Cx):List Addr:=frs X.outer
def Vis(sc:Scope)(x:Str):Prop:=sc.names.lookup x=some .local∨sc.names.lookup x=some .cell∨sc.names.lookup x=some .free
def Loc(sc:Scope)(x:Str):Prop:=sc.names.lookup x=some .local∨sc.names.lookup x=some .cell
def Look(env:Env)(h:Heap)(m:Str->Option Value)(x:Str)(u:Value):Prop:=
 (env.kindOf x=some .local/\m x=some u)∨((env.kindOf x=some .cell∨env.kindOf x=some .free)/\∃c,env.cells.lookup x=some c/\h.IsCell c (some u))
structure Cx.Ok (X:Cx):Prop where
 mod:Mod X.K X.mg X.base
 kind:X.env.scope.kind=.function
 glob:X.env.globals=Y8
 blt:X.env.builtins=VM
 above:X.s₀.heap.objs.size<=X.env.locals
 inj:∀x y c,X.env.cells.lookup x=some c->X.env.cells.lookup y=some c->x=y
 has:∀x,(X.env.kindOf x=some .cell∨X.env.kindOf x=some .free)->∃c,X.env.cells.lookup x=some c
 cab:∀x c,X.fn x=true->X.env.cells.lookup x=some c->X.s₀.heap.objs.size<=c
 hd:X.calm=true->X.A.handled=none
 frames:X.A.frames=some X.stack
 stk:X.stack=X.outer∨(X.stack=X.env::X.outer/\X.env.frame=some X.env.locals)
 exf:∀b∈X.ex,b≠X.env.locals/\∀x c,X.env.cells.lookup x=some c->c≠b
 bs:∀b o,X.base.get? b=some o->X.s₀.heap.get? b=some o/\X.H₀ b=none
 bsz:X.base.objs.size<=X.s₀.heap.objs.size
 noex:∀b o,X.base.get? b=some o->b∉X.ex
 exfs:∀b∈X.ex,b∉X.fs
 funs:X.s₀.heap.FunFrames X.base X.outer
 frf:∀b∈X.fs,X.H₀ b=none
structure Inv (X:Cx) (pins:List (Addr×Obj)) (σ:List (Option V)) (H:Hp) (s:Shared):Prop where
 ok:X.Ok
 os:s.os=X.s₀.os
 bare:YaS s.gens
 base:Un X.fs X.ex X.H₀ H X.s₀.heap s.heap
 loc:∃m,s.heap.Ns X.env.locals m/\∀(i:Nat) (x:Str) (v:V),X.N[i]?=some x->σ[i]?=some (some v)->Vis X.env.scope x->∃u,RelV v u/\Look X.env s.heap m x u
 cell:∀x c,X.env.cells.lookup x=some c->∃v,s.heap.IsCell c v
 free:H X.env.locals=none
 freeC:∀x c,X.env.cells.lookup x=some c->H c=none
 pin:∀p∈X.pn++pins,s.heap.get? p.1=some p.2/\H p.1=none/\p.1≠X.env.locals/\p.1∉X.fs/\∀v,p.2.data≠.cell v
 hok:HOk X.prog X.w H s.heap
 len:σ.length=X.N.length
section
variable{X:Cx}{pins:List (Addr×Obj)}{σ:List (Option V)}{H H':Hp}{s:Shared}{h':Heap}
theorem Cx.Ok.nofr(ok:X.Ok){b:Addr}{o:Obj}(e:X.base.get? b=some o):b∉X.fs:=λhb=>by
 have:=(ok.funs.mem hb).1
 rw[e]at this;cases this
theorem Inv.bs(I:Inv X pins σ H s):∀b o,X.base.get? b=some o->s.heap.get? b=some o/\H b=none:=λb o e =>
 ⟨I.base.keep b o (I.ok.bs b o e).1 (I.ok.bs b o e).2 (I.ok.nofr e) (I.ok.noex b o e),I.base.free b o (I.ok.bs b o e).1 (I.ok.bs b o e).2 (I.ok.noex b o e)⟩
theorem Inv.bk(I:Inv X pins σ H s):∀b o,X.base.get? b=some o->s.heap.get? b=some o:=λb o e=>(I.bs b o e).1
theorem Inv.mod(I:Inv X pins σ H s):Mod X.K X.mg X.base:=I.ok.mod
theorem Inv.kIn(I:Inv X pins σ H s):X.K.In s.heap:=I.ok.mod.kin.keeps I.bk
theorem Inv.nolimit(I:Inv X pins σ H s):s.heap.NoLimit:=I.ok.mod.nolimit.keeps I.bk
theorem Inv.lt(I:Inv X pins σ H s):X.env.locals<s.heap.objs.size:=let⟨_,hn,_⟩:=I.loc;hn.lt
theorem Inv.sz(I:Inv X pins σ H s):X.s₀.heap.objs.size<=s.heap.objs.size:=YJ I.ok.above (Gd I.lt)
theorem Inv.nofs(I:Inv X pins σ H s){a:Addr}(h:s.heap.objs.size<=a):a∉X.fs:=λhb=>by
 obtain⟨_,o,ho,_⟩:=I.ok.funs.mem hb
 exact absurd (Yu (Ys ho) (YJ I.sz h)) (Y9 _)
theorem Inv.cne(I:Inv X pins σ H s):∀x c,X.env.cells.lookup x=some c->c≠X.env.locals:=λx c e z=>by
 obtain⟨v,o,ho,hd⟩:=I.cell x c e
 obtain⟨m,⟨o',es,ep,ho',hd',_⟩,_⟩:=I.loc
 rw[z,ho']at ho;cases ho;rw[hd']at hd;cases hd
theorem Inv.funs(I:Inv X pins σ H s):s.heap.FunFrames X.base X.outer:=by
 have all:∀(l:List Env),(∀b∈frs l,b∈X.fs)->X.s₀.heap.FunFrames X.base l->s.heap.FunFrames X.base l:=by
  intro l
  induction l with
  |nil=>intro _ _;trivial
  |cons env r ih =>
   intro hs hl
   obtain⟨hk,⟨L,o,hf,hn,ho,hd⟩,hr⟩:=hl
   have hL:L∈X.fs:=hs L (by unfold frs;rw[Gy,hf];exact Yp)
   obtain⟨sl,e⟩:=I.base.slot L o ho (I.ok.frf L hL) hL λz=>I.ok.exfs L z hL
   exact⟨hk,⟨L,_,hf,hn,e,hd⟩,ih (λb hb=>hs b (by unfold frs;rw[Gy,hf];exact Yg _ hb)) hr⟩
 exact all X.outer (λ_ hb=>hb) I.ok.funs
theorem Inv.stack(I:Inv X pins σ H s):s.heap.FunFrames X.base X.stack:=by
 rcases I.ok.stk with e|⟨e,hf⟩
 ·rw[e];exact I.funs
 ·rw[e]
  obtain⟨m,hn,_⟩:=I.loc
  refine .cons (by rw[I.ok.kind];decide) hf hn ?_ I.funs
  exact Yac (YJ I.ok.bsz I.ok.above)
theorem Inv.stkSub(I:Inv X pins σ H s):∀b∈frs X.stack,b∈X.env.locals::X.fs:=λb hb=>by
 rcases I.ok.stk with e|⟨e,hf⟩
 ·rw[e]at hb;exact Yg _ hb
 ·rw[e]at hb
  unfold frs at hb
  rw[Gy,hf]at hb
  exact hb
theorem Inv.stkFree(I:Inv X pins σ H s):∀b∈frs X.stack,H b=none:=λb hb=>by
 rcases Yh.mp (I.stkSub b hb)with e|hb
 ·rw[e];exact I.free
 ·obtain⟨_,o,ho,_⟩:=I.ok.funs.mem hb
  exact I.base.free b o ho (I.ok.frf b hb) λz=>I.ok.exfs b z hb
theorem Inv.step{g':Array GenState}{t':Nat}{d':Drawn}{ch:List Addr}(I:Inv X pins σ H s)(hch:∀b∈ch,(b∈X.ex∨X.s₀.heap.objs.size<=b)/\b≠X.env.locals/\(∀x c,X.env.cells.lookup x=some c->c≠b)/\∀p∈X.pn++pins,p.1≠b)(keep:∀b o,b≠X.env.locals->b∉X.fs->b∉ch->s.heap.get? b=some o->H b=none->h'.get? b=some o)(slot:∀b o,b≠X.env.locals->b∈X.fs->b∉ch->s.heap.get? b=some o->H b=none->∃sl,h'.get? b=some { o with slots:=sl })(free:∀b o,b∉ch->s.heap.get? b=some o->H b=none->H' b=none)(there:∀b o,b∉ch->s.heap.get? b=some o->∃o',h'.get? b=some o')(tups:∀b xs,H b=some (.tup xs)->H' b=some (.tup xs))(frzs:∀b o u,H b=some (.frz o u)->H' b=some (.frz o u))(tbls:∀b ps,H b=some (.tbl ps)->∃more,H' b=some (.tbl (ps++more)))(ns:∀m,s.heap.Ns X.env.locals m->h'.Ns X.env.locals m)(hok:HOk X.prog X.w H' h')(hg:YaS g'):
  Inv X pins σ H' { s with heap:=h',gens:=g',drawn:=d',toks:=t' }:=by
 have neL:∀b o,X.s₀.heap.get? b=some o->b≠X.env.locals:=λb o e=>YH (Yu (Ys e) I.ok.above)
 have neC:∀b o,X.s₀.heap.get? b=some o->b∉X.ex->b∉ch:=λb o e hx hb=>by
  rcases(hch b hb).1 with z|z
  ·exact hx z
  ·exact absurd (Yu (Ys e) z) (Y9 _)
 have cellK:∀x c,X.env.cells.lookup x=some c->∀v,s.heap.IsCell c v->h'.IsCell c v:=λx c e v ⟨o,ho,hd⟩=>by
  have nch:c∉ch:=λz=>(hch c z).2.2.1 x c e rfl
  by_cases hc:c∈X.fs
  ·obtain⟨sl,q⟩:=slot c o (I.cne x c e) hc nch ho (I.freeC x c e)
   exact⟨_,q,hd⟩
  ·exact⟨o,keep c o (I.cne x c e) hc nch ho (I.freeC x c e),hd⟩
 refine⟨I.ok,I.os,hg,⟨λb o e n hb hx=>?_,λb o e n hb hx=>?_,λb o e n hx=>?_,λb o e hx=>?_,λb xs e=>tups b xs (I.base.tups b xs e),λb o xs e=>frzs b o xs (I.base.frzs b o xs e),λb ps e=>?_⟩,?_,λx c e=>?_,?_,λx c e=>?_,λp hp=>?_,hok,I.len⟩
 ·exact keep b o (neL b o e) hb (neC b o e hx) (I.base.keep b o e n hb hx) (I.base.free b o e n hx)
 ·obtain⟨sl,e1⟩:=I.base.slot b o e n hb hx
  obtain⟨sl',e2⟩:=slot b _ (neL b o e) hb (neC b o e hx) e1 (I.base.free b o e n hx)
  exact⟨sl',e2⟩
 ·obtain⟨o',e1⟩:=I.base.there b o e hx
  exact free b o' (neC b o e hx) e1 (I.base.free b o e n hx)
 ·obtain⟨o',e1⟩:=I.base.there b o e hx
  exact there b o' (neC b o e hx) e1
 ·obtain⟨m1,e1⟩:=I.base.tbls b ps e
  obtain⟨m2,e2⟩:=tbls b _ e1
  exact⟨m1++m2,by rw[e2,Array.append_assoc]⟩
 ·obtain⟨m,hn,hl⟩:=I.loc
  refine⟨m,ns m hn,λi x v e1 e2 e3=>?_⟩
  obtain⟨u,r,l⟩:=hl i x v e1 e2 e3
  refine⟨u,r,?_⟩
  rcases l with l|⟨k,c,e,z⟩
  ·exact .inl l
  ·exact .inr ⟨k,c,e,cellK x c e _ z⟩
 ·obtain⟨v,z⟩:=I.cell x c e
  exact⟨v,cellK x c e v z⟩
 ·obtain⟨m,⟨o,_,_,ho,_⟩,_⟩:=I.loc
  exact free _ o (λz=>(hch _ z).2.1 rfl) ho I.free
 ·obtain⟨v,o,ho,hd⟩:=I.cell x c e
  exact free c o (λz=>(hch c z).2.2.1 x c e rfl) ho (I.freeC x c e)
 ·obtain⟨e,n,ne,nf,d⟩:=I.pin p hp
  have nch:p.1∉ch:=λz=>(hch p.1 z).2.2.2 p hp rfl
  exact⟨keep p.1 p.2 ne nf nch e n,free p.1 p.2 nch e n,ne,nf,d⟩
theorem Inv.un{t':Nat}(I:Inv X pins σ H s)(u:Un X.fs [] H H' s.heap h')(hok:HOk X.prog X.w H' h'):Inv X pins σ H' { s with heap:=h',toks:=t' }:=by
 obtain⟨m,⟨o,es,ep,ho,r⟩,_⟩:=id I.loc
 obtain⟨sl,hL⟩:=u.any ho I.free (by simp)
 exact I.step (g':=s.gens) (d':=s.drawn) (ch:=[]) (λ_ z=>nomatch z) (λb o _ hb _ e n=>u.keep b o e n hb (by simp)) (λb o _ hb _ e n=>u.slot b o e n hb (by simp)) (λb o _ e n=>u.free b o e n (by simp)) (λb o _ e=>u.there b o e (by simp)) u.tups u.frzs u.tbls (λm' hm=>by
  obtain⟨o',es',ep',ho',r'⟩:=hm
  rw[ho]at ho';cases ho'
  exact⟨_,es',ep',hL,r'⟩) hok I.bare
theorem Inv.call{g':Array GenState}{t':Nat}{d':Drawn}{ch:List Addr}(I:Inv X pins σ H s)(u:Un (frs X.stack) ch H H' s.heap h')(hok:HOk X.prog X.w H' h')(hg:YaS g')(hch:∀b∈ch,(b∈X.ex∨X.s₀.heap.objs.size<=b)/\b≠X.env.locals/\(∀x c,X.env.cells.lookup x=some c->c≠b)/\∀p∈X.pn++pins,p.1≠b):
  Inv X pins σ H' { s with heap:=h',gens:=g',drawn:=d',toks:=t' }:=by
 obtain⟨m,⟨o,es,ep,ho,r⟩,_⟩:=id I.loc
 obtain⟨sl,hL⟩:=u.any ho I.free λz=>(hch _ z).2.1 rfl
 exact I.step (ch:=ch) hch (λb o hL hb hc e n=>u.keep b o e n (λz=>(Yh.mp (I.stkSub b z)).elim hL hb) hc) (λb o _ _ hc e n=>u.any e n hc) (λb o hc e n=>u.free b o e n hc) (λb o hc e=>u.there b o e hc) u.tups u.frzs u.tbls (λm' hm=>by
  obtain⟨o',es',ep',ho',r'⟩:=hm
  rw[ho]at ho';cases ho'
  exact⟨_,es',ep',hL,r'⟩) hok hg
theorem Inv.turned{t':Nat}{it:Addr}(I:Inv X pins σ H s)(k:∀b o,b≠it->s.heap.get? b=some o->h'.get? b=some o)(hn:H it=none)(hL:it≠X.env.locals)(h1:it∈X.ex∨X.s₀.heap.objs.size<=it)(h2:∀x c,X.env.cells.lookup x=some c->c≠it)(h3:∀p∈X.pn++pins,p.1≠it):Inv X pins σ H { s with heap:=h',toks:=t' }:=by
 have nit:∀b u,H b=some u->b≠it:=λb u e z=>by rw[z,hn]at e;cases e
 refine I.step (g':=s.gens) (d':=s.drawn) (ch:=[it]) (λb hb=>?_) (λb o _ _ hc e _=>k b o (λz=>hc (by simp[z])) e) (λb o _ _ hc e _=>⟨o.slots,k b o (λz=>hc (by simp[z])) e⟩) (λ_ _ _ _ n=>n)
  (λb o hc e=>⟨o,k b o (λz=>hc (by simp[z])) e⟩) (λ_ _ e=>e) (λ_ _ _ e=>e) (λb ps e=>⟨#[],by rw[e];simp⟩) (λm hm=>?_) (λb u e=>?_) I.bare
 ·have e:b=it:=by simpa using hb
  subst e
  exact⟨h1,hL,h2,h3⟩
 ·obtain⟨o,es,ep,ho,r⟩:=hm
  exact⟨o,es,ep,k _ o (Ui hL) ho,r⟩
 ·refine(I.hok b u e).stay (λc v hc q=>k c v ?_ q) (λ_ q=>q) λ_ _ q=>q
  rcases hc with z|z
  ·rw[z];exact nit b u e
  ·exact nit c _ z
theorem Inv.tok(I:Inv X pins σ H s)(t:Nat):Inv X pins σ H { s with toks:=t }:=I.un (h':=s.heap) (t':=t) Un.refl I.hok
theorem Inv.kept{t':Nat}(I:Inv X pins σ H s)(k:∀b u,s.heap.get? b=some u->h'.get? b=some u):Inv X pins σ H { s with heap:=h',toks:=t' }:=I.un (Un.kept k) (I.hok.kept k)
theorem Inv.laid{a:Addr}{o:HO}{t':Nat}(I:Inv X pins σ H s)(k:∀b u,s.heap.get? b=some u->h'.get? b=some u)(hp:s.heap.objs.size<=a)(new:JZ X.prog X.w (upd H a o) h' a o):
 Inv X pins σ (upd H a o) { s with heap:=h',toks:=t' }:=I.un (Un.laid k hp (I.hok.fresh hp)) (I.hok.laid k hp new)
theorem Inv.write{x e:Addr}{o:HO}{t':Nat}(I:Inv X pins σ H s)(mu:Mut (H x))(he:e=x∨H e=some (.own x))(k:∀b u,b≠e->s.heap.get? b=some u->h'.get? b=some u)(heo:∃u,h'.get? e=some u)(new:JZ X.prog X.w (upd H x o) h' x o):Inv X pins σ (upd H x o) { s with heap:=h',toks:=t' }:=I.un (Un.write mu he k heo) (I.hok.write mu he k heo new)
theorem Inv.pins_of{pins':List (Addr×Obj)}(I:Inv X pins σ H s)(h:∀p∈pins',s.heap.get? p.1=some p.2/\H p.1=none/\p.1≠X.env.locals/\p.1∉X.fs/\∀v,p.2.data≠.cell v):Inv X pins' σ H s:=
 ⟨I.ok,I.os,I.bare,I.base,I.loc,I.cell,I.free,I.freeC,λp hp=>(Gs.mp hp).elim (λz=>I.pin p (Wi _ z)) (h p),I.hok,I.len⟩
theorem Zgs{N:List Str}(hN:N.Nodup){i j:Nat}{x:Str}(a:N[i]?=some x)(b:N[j]?=some x):i=j:=by
 obtain⟨h1,e1⟩:=Yi.mp a
 obtain⟨h2,e2⟩:=Yi.mp b
 exact(V4 hN).mp (e1.trans e2.symm)
theorem ZdY{M:Model}{A:Around}{E:Value->Shared->Prop}{i:Nat}{x:Str}{v:V}{u:Value}{Q:Unit->Shared->Prop}(I:Inv X pins σ H s)(hN:X.N.Nodup)(hi:X.N[i]?=some x)(hx:Loc X.env.scope x)(r:RelV v u)(h:∀s',Inv X pins (σ.set i (some v)) H s'->(∃a,Vm a s.heap s'.heap/\(a=X.env.locals∨X.env.cells.lookup x=some a))->Q () s')(hf:X.fn x=true∨X.env.scope.names.lookup x=some .local:=by first|exact .inl rfl|exact .inr rfl|assumption):wpAny M A (storeName X.env x u) Q E s:=by
 obtain⟨m,hn,hl⟩:=id I.loc
 have hcls:(X.env.scope.kind==.class || (X.env.scope.kind==.module&&X.env.locals != X.env.globals))=false:=by rw[I.ok.kind];rfl
 have hiσ:i<σ.length:=by rw[I.len];exact(Yi.mp hi).1
 have cne:=I.cne
 have tracked:∀{a:Addr}{h':Heap},(∃o,s.heap.get? a=some o/\H a=none)->Vm a s.heap h'->HOk X.prog X.w H h':=λ{a h'} ha hs b ob e=>by
  obtain⟨_,_,hfree⟩:=ha
  refine(I.hok b ob e).stay (λc w' hc q=>(hs.2 c ?_).trans q) (λ_ q=>q) λ_ _ q=>q
  rintro rfl
  rcases hc with rfl|hc
  ·rw[hfree]at e;cases e
  ·rw[hfree]at hc;cases hc
 rcases hx with hk|hk
 ·refine wpAny_storeName_local hk hn (λh' hn' hs=>?_) hcls
  obtain⟨oL,_,_,hoL,_⟩:=id hn
  refine h _ ⟨I.ok,I.os,I.bare,⟨λb o e n hb hx=>?_,λb o e n hb hx=>?_,I.base.free,λb o e hx=>?_,I.base.tups,I.base.frzs,I.base.tbls⟩,⟨_,hn',λj y v' e1 e2 e3=>?_⟩,λy c e=>?_,I.free,I.freeC,λp hp=>?_,tracked ⟨oL,hoL,I.free⟩ hs,by simpa using I.len⟩ ⟨_,hs,.inl rfl⟩
  ·exact(hs.2 b (YH (Yu (Ys e) I.ok.above))).trans (I.base.keep b o e n hb hx)
  ·obtain⟨sl,e1⟩:=I.base.slot b o e n hb hx
   exact⟨sl,(hs.2 b (YH (Yu (Ys e) I.ok.above))).trans e1⟩
  ·obtain⟨o',e1⟩:=I.base.there b o e hx
   exact⟨o',(hs.2 b (YH (Yu (Ys e) I.ok.above))).trans e1⟩
  ·by_cases hj:j=i
   ·subst hj
    rw[hi]at e1;cases e1
    rw[YX hiσ]at e2
    cases e2
    exact⟨u,r,.inl ⟨hk,by simp⟩⟩
   ·rw[Yv (Ui hj)]at e2
    obtain⟨u',r',q⟩:=hl j y v' e1 e2 e3
    refine⟨u',r',?_⟩
    rcases q with⟨k,e⟩|⟨k,c,e,z⟩
    ·refine .inl ⟨k,?_⟩
     have:y≠x:=λe=>hj (Zgs hN e1 (e▸hi))
     simp[this,e]
    ·exact .inr ⟨k,c,e,z.sameBut hs (cne y c e)⟩
  ·obtain⟨w',z⟩:=I.cell y c e
   exact⟨w',z.sameBut hs (cne y c e)⟩
  ·obtain⟨e,n,ne,nf,d⟩:=I.pin p hp
   exact⟨(hs.2 p.1 ne).trans e,n,ne,nf,d⟩
 ·have hfn:X.fn x=true:=by
   rcases hf with z|z
   ·exact z
   ·rw[z]at hk;cases hk
  obtain⟨c,hc⟩:=I.ok.has x (.inl hk)
  obtain⟨w',z⟩:=I.cell x c hc
  refine wpAny_storeName_cell I.ok.kind hk hc z (λh' hc' hs=>?_)
  obtain⟨oc,hoc,hocd⟩:=id z
  refine h { s with heap:=h' } ⟨I.ok,I.os,I.bare,⟨λb o e n hb hx=>?_,λb o e n hb hx=>?_,I.base.free,λb o e hx=>?_,I.base.tups,I.base.frzs,I.base.tbls⟩,⟨m,hn.sameBut hs (Ui (cne x c hc)),λj y v' e1 e2 e3=>?_⟩,λy c' e=>?_,I.free,I.freeC,λp hp=>?_,tracked ⟨oc,hoc,I.freeC x c hc⟩ hs,by simpa using I.len⟩ ⟨c,hs,.inr hc⟩
  ·exact(hs.2 b (YH (Yu (Ys e) (I.ok.cab x c hfn hc)))).trans (I.base.keep b o e n hb hx)
  ·obtain⟨sl,e1⟩:=I.base.slot b o e n hb hx
   exact⟨sl,(hs.2 b (YH (Yu (Ys e) (I.ok.cab x c hfn hc)))).trans e1⟩
  ·obtain⟨o',e1⟩:=I.base.there b o e hx
   exact⟨o',(hs.2 b (YH (Yu (Ys e) (I.ok.cab x c hfn hc)))).trans e1⟩
  ·by_cases hj:j=i
   ·subst hj
    rw[hi]at e1;cases e1
    rw[YX hiσ]at e2
    cases e2
    exact⟨u,r,.inr ⟨.inl hk,c,hc,hc'⟩⟩
   ·rw[Yv (Ui hj)]at e2
    obtain⟨u',r',q⟩:=hl j y v' e1 e2 e3
    refine⟨u',r',?_⟩
    rcases q with q|⟨k,c',e,z'⟩
    ·exact .inl q
    ·refine .inr ⟨k,c',e,z'.sameBut hs ?_⟩
     rintro rfl
     exact hj (Zgs hN e1 (I.ok.inj _ _ _ e hc▸hi))
  ·by_cases hcc:c'=c
   ·subst hcc;exact⟨_,hc'⟩
   ·obtain⟨w2,z2⟩:=I.cell y c' e
    exact⟨w2,z2.sameBut hs hcc⟩
  ·obtain⟨e,n,ne,nf,d⟩:=I.pin p hp
   refine⟨(hs.2 p.1 ?_).trans e,n,ne,nf,d⟩
   intro q
   rw[q,hoc]at e
   have q':oc=p.2:=YG e
   exact d w' (by rw[<-q'];exact hocd)
theorem Zf9{M:Model}{A:Around}{E:Value->Shared->Prop}{i:Nat}{x:Str}{v:V}{u:Value}{Q:Unit->Shared->Prop}(I:Inv X pins σ H s)(hN:X.N.Nodup)(hi:X.N[i]?=some x)(hx:Loc X.env.scope x)(r:RelV v u)(h:∀s',Inv X pins (σ.set i (some v)) H s'->Q () s')(hf:X.fn x=true∨X.env.scope.names.lookup x=some .local:=by first|exact .inl rfl|exact .inr rfl|assumption):wpAny M A (storeName X.env x u) Q E s:=
 ZdY I hN hi hx r (λs' I' _=>h s' I') hf
theorem Inv.call'{s':Shared}{ch:List Addr}(I:Inv X pins σ H s)(ho:s'.os=s.os)(u:Un (frs X.stack) ch H H' s.heap s'.heap)(hok:HOk X.prog X.w H' s'.heap)(hg:YaS s'.gens)(hch:∀b∈ch,(b∈X.ex∨X.s₀.heap.objs.size<=b)/\b≠X.env.locals/\(∀x c,X.env.cells.lookup x=some c->c≠b)/\∀p∈X.pn++pins,p.1≠b):Inv X pins σ H' s':=by
 obtain⟨h',g',d',t',o'⟩:=s'
 have e:o'=s.os:=ho
 subst e
 exact I.call (g':=g') (t':=t') (d':=d') u hok hg hch
end
abbrev XK:=Value->Option Addr->Hp->Prop
abbrev St:=List (Option V)
abbrev VK:=V->Hp->Prop
abbrev TE:=St->Hp->VK->Prop
abbrev TT:=St->Hp->(Bool->Hp->Prop)->Prop
abbrev TA:=St->Hp->(List V->Hp->Prop)->Prop
structure Ends where
 nx:St->Hp->Prop
 rt:VK
 bk:St->Hp->Prop:=λ_ _=>False
 ct:St->Hp->Prop:=λ_ _=>False
abbrev TS:=Ends->St->Hp->Prop
def EP(X:Cx)(pins:List (Addr×Obj))(σ:St)(Q:VK)(u:Value)(s':Shared):Prop:=∃v H',Inv X pins σ H' s'/\RelV v u/\Q v H'
def TP(X:Cx)(pins:List (Addr×Obj))(σ:St)(Q:Bool->Hp->Prop)(b:Bool)(s':Shared):Prop:=∃H',Inv X pins σ H' s'/\Q b H'
def AP(X:Cx)(pins:List (Addr×Obj))(σ:St)(Q:List V->Hp->Prop)(us:List Value)(s':Shared):Prop:=∃vs H',Inv X pins σ H' s'/\Vals vs us/\Q vs H'
def SP(X:Cx)(pins:List (Addr×Obj))(D:Ends)(f:Flow)(s':Shared):Prop:=
 match f with
 |.next=>∃σ' H',Inv X pins σ' H' s'/\D.nx σ' H'
 |.brk=>∃σ' H',Inv X pins σ' H' s'/\D.bk σ' H'
 |.cont=>∃σ' H',Inv X pins σ' H' s'/\D.ct σ' H'
 |.ret u=>∃v σ' H',Inv X pins σ' H' s'/\RelV v u/\D.rt v H'
def PE(X:Cx)(e:Expr)(t:TE):Prop:=
 ∀(pins:List (Addr×Obj)) (s:Shared) (σ:St) (H:Hp) (Q:VK),Inv X pins σ H s->t σ H Q->wpAny (model X.prog X.w) X.A (eval e X.env) (EP X pins σ Q) X.xe s
def PT(X:Cx)(e:Expr)(t:TT):Prop:=
 ∀(pins:List (Addr×Obj)) (s:Shared) (σ:St) (H:Hp) (Q:Bool->Hp->Prop),Inv X pins σ H s->t σ H Q->wpAny (model X.prog X.w) X.A (isTrue e X.env (eval e X.env)) (TP X pins σ Q) X.xe s
def PW(X:Cx)(e:Expr)(t:TT):Prop:=
 ∀(whole:Sem Value) (pins:List (Addr×Obj)) (s:Shared) (σ:St) (H:Hp) (Q:Bool->Hp->Prop),Inv X pins σ H s->t σ H Q->wpAny (model X.prog X.w) X.A (isTrue e X.env whole) (TP X pins σ Q) X.xe s
theorem PW.pt{X:Cx}{e:Expr}{t:TT}(h:PW X e t):PT X e t:=h _
def PA(X:Cx)(es:List Expr)(t:TA):Prop:=
 ∀(pos:Pos) (pins:List (Addr×Obj)) (s:Shared) (σ:St) (H:Hp) (Q:List V->Hp->Prop),Inv X pins σ H s->t σ H Q->wpAny (model X.prog X.w) X.A (Ycv (backTo pos (W7 es X.env))) (AP X pins σ Q) X.xe s
def PS(X:Cx)(st:Stmt)(t:TS):Prop:=
 ∀(pins:List (Addr×Obj)) (s:Shared) (σ:St) (H:Hp) (D:Ends),Inv X pins σ H s->t D σ H->wpAny (model X.prog X.w) X.A (exec st X.env) (SP X pins D) X.xe s
def PSs(X:Cx)(st:List Stmt)(t:TS):Prop:=
 ∀(pins:List (Addr×Obj)) (s:Shared) (σ:St) (H:Hp) (D:Ends),Inv X pins σ H s->t D σ H->wpAny (model X.prog X.w) X.A (execs st X.env) (SP X pins D) X.xe s
theorem thn{α:Type}{t:Sem α}{Q Q':α->Shared->Prop}{M:Model}{A:Around}{E:Value->Shared->Prop}{s:Shared}(h:wpAny M A t Q E s)(hQ:∀a s,Q a s->Q' a s):wpAny M A t Q' E s:=W2 h hQ λ_ _ x=>x
section
variable{X:Cx}
theorem bin{a b:Expr}{ta tb:TE}(ha:PE X a ta)(hb:PE X b tb){pins:List (Addr×Obj)}{s:Shared}{σ:St}{H:Hp}{R:V->V->Hp->Prop}(I:Inv X pins σ H s)(h:ta σ H λx H1=>tb σ H1 λy H2=>R x y H2){α:Type}{Q:α->Shared->Prop}{f:Value->Value->Sem α}(hf:∀v u s2 x y H2,Inv X pins σ H2 s2->RelV x v->RelV y u->R x y H2->wpAny (model X.prog X.w) X.A (f v u) Q X.xe s2):
  wpAny (model X.prog X.w) X.A (eval a X.env) (λv s₁=>wpAny (model X.prog X.w) X.A (eval b X.env) (λu s₂=>wpAny (model X.prog X.w) X.A (f v u) Q X.xe s₂) X.xe s₁) X.xe s:=by
 refine thn (ha pins s σ H _ I h) λv s1 ⟨x,H1,I1,r1,q1⟩=>?_
 refine thn (hb pins s1 σ H1 _ I1 q1) λu s2 ⟨y,H2,I2,r2,q2⟩=>?_
 exact hf v u s2 x y H2 I2 r1 r2 q2
def tVar(i:Nat):TE:=λσ H Q=>∃v,σ[i]?=some (some v)/\Q v H
def tC(v:V):TE:=λ_ H Q=>Q v H
theorem ZmZ{i:Nat}{x:Str}{pos:Pos}(hN:X.N[i]?=some x)(hv:Vis X.env.scope x)(hd:(x==("__debug__" : Str))=false:=by decide)(hcd:(x==("__classdict__" : Str))=false:=by decide):PE X (.Name x pos) (tVar i):=by
 intro pins s σ H Q I h
 obtain⟨v,e,h⟩:=h
 obtain⟨m,hn,hl⟩:=I.loc
 obtain⟨u,r,l⟩:=hl i x v hN e hv
 have fin:EP X pins σ Q u s:=⟨v,H,I,r,h⟩
 rcases l with⟨hk,hm⟩|⟨hk,c,hc,hcell⟩
 ·exact Ycb (wpAny_loadName_local I.ok.kind hk hn hm fin) hd
 ·rcases hk with hk|hk
  ·exact Ycb (wpAny_loadName_cell I.ok.kind hk hc hcell fin) hd
  ·exact Ycb (wpAny_loadName_free I.ok.kind hk hc hcell fin hcd) hd
theorem pe_int{i j pos}:PE X (.Constant (.int i) j pos) (tC (.int i)):=λ_ _ _ H _ I h=>wpAny_Constant_int ⟨.int i,H,I.tok _,⟨_,rfl⟩,h⟩
theorem pe_bl{b j pos}:PE X (.Constant (.bool b) j pos) (tC (.bl b)):=λ_ _ _ H _ I h=>Constant_bool ⟨.bl b,H,I,rfl,h⟩
theorem pe_non{j pos}:PE X (.Constant .none j pos) (tC .non):=λ_ _ _ H _ I h=>Constant_none ⟨.non,H,I,rfl,h⟩
theorem pe_str{x j pos}:PE X (.Constant (.str x) j pos) (tC (.str x)):=λ_ _ _ H _ I h=>Calls.Constant_str ⟨.str x,H,I.tok _,⟨_,rfl⟩,h⟩
def Gl(X:Cx)(x:Str):Prop:=X.env.kindOf x=some .globalImplicit
theorem ZjM{E:Value->Shared->Prop}{pins:List (Addr×Obj)}{s:Shared}{σ:St}{H:Hp}{x:Str}{u:Value}{pos:Pos}{Q:Value->Shared->Prop}(I:Inv X pins σ H s)(hg:Gl X x)(hm:X.mg x=some u)(h:Q u s)(hd:(x==("__debug__" : Str))=false:=by decide):wpAny (model X.prog X.w) X.A (eval (.Name x pos) X.env) Q E s:=
 Calls.Name_function_global I.ok.kind hg (Calls.loadGlobal_global (by rw[I.ok.glob];exact I.mod.glob.keeps I.bk) hm h) hd
theorem Zb5{E:Value->Shared->Prop}{pins:List (Addr×Obj)}{s:Shared}{σ:St}{H:Hp}{x:Str}{u:Value}{pos:Pos}{Q:Value->Shared->Prop}(I:Inv X pins σ H s)(hg:Gl X x)(hm:X.mg x=none)(hv:Gb x=some u)(h:Q u s)(hn:x≠"__name__":=by decide)(hd:(x==("__debug__" : Str))=false:=by decide):wpAny (model X.prog X.w) X.A (eval (.Name x pos) X.env) Q E s:=by
 obtain⟨mb,h1,h2⟩:=I.mod.blt
 exact Calls.Name_function_global I.ok.kind hg (Calls.loadGlobal_builtin (by rw[I.ok.glob];exact I.mod.glob.keeps I.bk) hm (by rw[I.ok.blt];exact h1.keeps I.bk) ((h2 x hn).trans hv) h) hd
theorem Zoi{x:Str}{v:V}{u:Value}{pos:Pos}(hg:Gl X x)(hm:X.mg x=some u)(r:RelV v u)(hd:(x==("__debug__" : Str))=false:=by decide):PE X (.Name x pos) (tC v):=
 λ_ _ _ H _ I h=>ZjM I hg hm ⟨v,H,I,r,h⟩ hd
variable{a b:Expr}{ta tb:TE}{pos:Pos}
def tB(t:TE):TT:=λσ H Q=>t σ H λx H1=>∃c,x=.bl c/\Q c H1
variable{tA tB':TT}{rest:List Expr}
def tAnd(t u:TT):TT:=λσ H Q=>t σ H λc H1=>if c=true then u σ H1 Q else Q false H1
def tOr(t u:TT):TT:=λσ H Q=>t σ H λc H1=>if c=true then Q true H1 else u σ H1 Q
def tNot(t:TT):TT:=λσ H Q=>t σ H λc H1=>Q (!c) H1
theorem ZiO(ha:PT X a tA):PW X (.BoolOp .And [a] pos) tA:=by
 intro wh pins s σ H Q I h
 refine isTrue_and (thn (ha pins s σ H Q I h) λc s1 e=>?_)
 cases c with
 |true=>exact isTrue_and_nil e
 |false=>exact e
theorem ZmS(ha:PT X a tA):PW X (.BoolOp .Or [a] pos) tA:=by
 intro wh pins s σ H Q I h
 refine isTrue_or (thn (ha pins s σ H Q I h) λc s1 e=>?_)
 cases c with
 |false=>exact isTrue_or_nil e
 |true=>exact e
theorem pw_and(ha:PT X a tA)(hb:PW X (.BoolOp .And (b::rest) pos) tB'):PW X (.BoolOp .And (a::b::rest) pos) (tAnd tA tB'):=by
 intro wh pins s σ H Q I h
 refine isTrue_and (thn (ha pins s σ H _ I h) λc s1 ⟨H1,I1,q1⟩=>?_)
 cases c with
 |true=>exact hb wh pins s1 σ H1 Q I1 q1
 |false=>exact⟨H1,I1,q1⟩
theorem pw_or(ha:PT X a tA)(hb:PW X (.BoolOp .Or (b::rest) pos) tB'):PW X (.BoolOp .Or (a::b::rest) pos) (tOr tA tB'):=by
 intro wh pins s σ H Q I h
 refine isTrue_or (thn (ha pins s σ H _ I h) λc s1 ⟨H1,I1,q1⟩=>?_)
 cases c with
 |true=>exact⟨H1,I1,q1⟩
 |false=>exact hb wh pins s1 σ H1 Q I1 q1
theorem pt_not(ha:PT X a tA):PT X (.UnaryOp .Not a pos) (tNot tA):=by
 intro pins s σ H Q I h
 exact isTrue_not (ha pins s σ H (λc H1=>Q (!c) H1) I h)
def tAndV(ta tb:TE):TE:=λσ H Q=>ta σ H λx H1=>∃c,x=.bl c/\if c=true then tb σ H1 Q else Q (.bl false) H1
def tNotV(ta:TE):TE:=λσ H Q=>ta σ H λx H1=>∃c,x=.bl c/\Q (.bl (!c)) H1
theorem Zm0{op}{t:TE}(h:PE X a t):PE X (.BoolOp op [a] pos) t:=λpins s σ H Q I hw=>BoolOp_one (h pins s σ H Q I hw)
theorem pe_and(ha:PE X a ta)(hb:PE X (.BoolOp .And (b::rest) pos) tb):PE X (.BoolOp .And (a::b::rest) pos) (tAndV ta tb):=by
 intro pins s σ H Q I h
 refine BoolOp_and (thn (ha pins s σ H _ I h) λv s1 ⟨x,H1,I1,r1,q1⟩=>?_)
 obtain⟨c,rfl,q1⟩:=q1
 cases r1
 refine W3 ?_
 cases c with
 |true=>exact hb pins s1 σ H1 Q I1 q1
 |false=>exact⟨.bl false,H1,I1,rfl,q1⟩
theorem pe_not(ha:PE X a ta):PE X (.UnaryOp .Not a pos) (tNotV ta):=by
 intro pins s σ H Q I h
 refine UnaryOp_ (thn (ha pins s σ H _ I h) λv s1 ⟨x,H1,I1,r1,q1⟩=>?_)
 obtain⟨c,rfl,q1⟩:=q1
 cases r1
 exact not_of (W3 ⟨.bl (!c),H1,I1,rfl,q1⟩)
end
def SqL(K:Frag)(H:Hp)(a:Addr)(xs:List V):Prop:=
 Rd H a (.lst xs) ∨
  ∃(o:Obj) (its:Array Value) (n:Nat),K.lookup a=some o/\o.cls=.type "list"/\o.dict=none/\o.data=.seq its n/\its.size<=YM/\Vals xs its.toList
def SqT(K:Frag)(H:Hp)(a:Addr)(xs:List V):Prop:=
 Rd H a (.tup xs) ∨
  ∃(o:Obj) (its:Array Value) (n:Nat),K.lookup a=some o/\o.cls=.type "tuple"/\o.data=.seq its n/\its.size<=YM/\Vals xs its.toList/\o.dict=none
def absV:Value->Option V
 |.none=>some .non
 |.bool b=>some (.bl b)
 |.int i _=>some (.int i)
 |.str x _=>some (.str x)
 |.bytes b _=>some (.byt b)
 |.float b _=>some (.flt b)
 |.ref a=>some (.ref a)
 |.type n=>some (.ty n)
 |_=>none
theorem RelV.abs{x:V}{u:Value}(r:RelV x u):absV u=some x:=by
 cases x with
 |non=>cases r;rfl
 |bl _=>cases r;rfl
 |int _=>obtain⟨t,rfl⟩:=r;rfl
 |str _=>obtain⟨t,rfl⟩:=r;rfl
 |byt _=>obtain⟨t,rfl⟩:=r;rfl
 |flt _=>obtain⟨t,rfl⟩:=r;rfl
 |ref _=>cases r;rfl
 |ty _=>cases r;rfl
theorem RelV.inj{x y:V}{u:Value}(r:RelV x u)(q:RelV y u):x=y:=YG (r.abs.symm.trans q.abs)
theorem Vals.inj:∀{xs ys:List V}{us:List Value},Vals xs us->Vals ys us->xs=ys
 |_,_,_,.nil,.nil=>rfl
 |_,_,_,.cons r t,.cons r' t'=>by rw[r.inj r',Vals.inj t t']
section
variable{X:Cx}{pins:List (Addr×Obj)}{σ:St}{H:Hp}{s:Shared}{a:Addr}{xs ys:List V}
theorem SqL.of{K:Frag}(h:H a=some (.lst xs)):SqL K H a xs:=.inl (.inl h)
theorem SqT.of{K:Frag}(h:H a=some (.tup xs)):SqT K H a xs:=.inl (.inl h)
theorem Inv.list(I:Inv X pins σ H s)(h:SqL X.K H a xs):∃its:List Value,Vals xs its/\PlainL s.heap a its.toArray/\xs.length<=YM:=by
 rcases h with h|⟨o,its,n,hk,hc,hd,hs,hz,r⟩
 ·obtain⟨z,its,n,r,e⟩:=h.ok I.hok
  exact⟨its,r,⟨_,n,e,rfl,rfl,rfl⟩,z⟩
 ·refine⟨its.toList,r,⟨o,n,I.kIn a o hk,hc,hd,by simpa using hs⟩,?_⟩
  have e:=r.length
  simp only[YQ]at e
  omega
theorem Inv.tuple(I:Inv X pins σ H s)(h:SqT X.K H a xs):∃its:List Value,Vals xs its/\IsTup s.heap a its.toArray/\xs.length<=YM:=by
 rcases h with h|⟨o,its,n,hk,hc,hs,hz,r,hdn⟩
 ·obtain⟨z,its,r,p⟩:=h.ok I.hok
  exact⟨its,r,p.is,z⟩
 ·refine⟨its.toList,r,⟨o,I.kIn a o hk,hc,n,by simpa using hs⟩,?_⟩
  have e:=r.length
  simp only[YQ]at e
  omega
theorem Inv.list_inj(I:Inv X pins σ H s)(h:SqL X.K H a xs)(h':SqL X.K H a ys):xs=ys:=by
 obtain⟨its,r,⟨o,n,e,_,_,d⟩,_⟩:=I.list h
 obtain⟨its',r',⟨o',n',e',_,_,d'⟩,_⟩:=I.list h'
 rw[e]at e';cases e'
 rw[d]at d'
 injection d' with d1 _
 have:its=its':=by simpa using congrArg YbO d1
 subst this
 exact r.inj r'
theorem Inv.tuple_inj(I:Inv X pins σ H s)(h:SqT X.K H a xs)(h':SqT X.K H a ys):xs=ys:=by
 obtain⟨its,r,⟨o,e,_,n,d⟩,_⟩:=I.tuple h
 obtain⟨its',r',⟨o',e',_,n',d'⟩,_⟩:=I.tuple h'
 rw[e]at e';cases e'
 rw[d]at d'
 injection d' with d1 _
 have:its=its':=by simpa using congrArg YbO d1
 subst this
 exact r.inj r'
end
abbrev Cx.wish(X:Cx)(E:Value->Shared->Prop):Cx:={ X with xe:=E }
abbrev Cx.nox(X:Cx):Cx:=X.wish λ_ _=>False
section
variable{X:Cx}{st:Stmt}{rest:List Stmt}{t u:TS}{e:Expr}{te:TE}{pos:Pos}
def tNext:TS:=λD σ H=>D.nx σ H
def tSeq(t u:TS):TS:=λD σ H=>t { D with nx:=u D } σ H
theorem ZnZ:PSs X [] tNext:=λ_ _ σ H _ I h=>wpAny_execs_nil ⟨σ,H,I,h⟩
theorem Q0(h1:PS X st t)(h2:PSs X rest u):PSs X (st::rest) (tSeq t u):=by
 intro pins s σ H D I h
 refine wpAny_execs_cons (thn (h1 pins s σ H { D with nx:=u D } I h) λf s1 q=>?_)
 cases f with
 |next =>
  obtain⟨σ',H',I',q⟩:=q
  exact h2 pins s1 σ' H' D I' q
 |ret v=>exact q
 |brk=>exact q
 |cont=>exact q
theorem Inv.quiet{pins:List (Addr×Obj)}{σ:St}{H:Hp}{s:Shared}(I:Inv X pins σ H s):interactive X.env=false:=by simp[interactive,I.ok.kind]
def tDrop(te:TE):TS:=λD σ H=>te σ H λ_ H1=>D.nx σ H1
theorem Zn4(he:PE X e te)(hs:YaH e none pos.line X.env=pure false:=by rfl):PS X (.Expr e pos) (tDrop te):=by
 intro pins s σ H D I h
 exact wpAny_Expr_any (thn (he pins s σ H _ I h) λv s1 ⟨x,H1,I1,r1,q1⟩=>⟨σ,H1,I1,q1⟩) I.quiet hs
def tRet(te:TE):TS:=λD σ H=>te σ H D.rt
theorem ps_ret(he:PE X e te):PS X (.Return (some e) pos) (tRet te):=by
 intro pins s σ H D I h
 exact wpAny_Return_some (thn (he pins s σ H _ I h) λv s1 ⟨x,H1,I1,r1,q1⟩=>⟨x,σ,H1,I1,r1,q1⟩)
def tIfS(c:TT)(t u:TS):TS:=λD σ H=>c σ H λb H1=>if b=true then t D σ H1 else u D σ H1
theorem ps_if{c:Expr}{a b:List Stmt}{tc:TT}(hc:PT X c tc)(ha:PSs X a t)(hb:PSs X b u):PS X (.If c a b pos) (tIfS tc t u):=by
 intro pins s σ H D I h
 refine wpAny_If (thn (hc pins s σ H _ I h) λd s1 ⟨H1,I1,q1⟩=>?_)
 cases d with
 |true=>exact ha pins s1 σ H1 D I1 q1
 |false=>exact hb pins s1 σ H1 D I1 q1
def tNever:TS:=λ_ _ _=>False
theorem ZiP{sts:List Stmt}:PSs X sts tNever:=λ_ _ _ _ _ _ h=>h.elim
end
abbrev TG:=V->St->Hp->(St->Hp->Prop)->Prop
abbrev TGs:=List V->St->Hp->(St->Hp->Prop)->Prop
def PG(X:Cx)(target:Expr)(t:TG):Prop:=
 ∀(pins:List (Addr×Obj)) (s:Shared) (σ:St) (H:Hp) (v:V) (u:Value) (Q:St->Hp->Prop),Inv X pins σ H s->RelV v u->t v σ H Q ->
  wpAny (model X.prog X.w) X.A (assign target X.env u) (λ_ s'=>∃σ' H',Inv X pins σ' H' s'/\Q σ' H') X.xe s
def PGs(X:Cx)(ts:List Expr)(t:TGs):Prop:=
 ∀(pins:List (Addr×Obj)) (s:Shared) (σ:St) (H:Hp) (vs:List V) (us:List Value) (Q:St->Hp->Prop),Inv X pins σ H s->Vals vs us->t vs σ H Q ->
  wpAny (model X.prog X.w) X.A (assignInOrder ((Y7 ts X.env).map (·.2)) us) (λ_ s'=>∃σ' H',Inv X pins σ' H' s'/\Q σ' H') X.xe s
abbrev TSet:=V->V->V->Hp->(Hp->Prop)->Prop
def PSet(X:Cx)(t:TSet):Prop:=
 ∀(pins:List (Addr×Obj)) (s:Shared) (σ:St) (H:Hp) (o i v:V) (ov iv u:Value) (Q:Hp->Prop),Inv X pins σ H s->RelV o ov->RelV i iv->RelV v u->t o i v H Q ->
  wpAny (model X.prog X.w) X.A (setItem ov iv u) (λ_ s'=>∃H',Inv X pins σ H' s'/\Q H') X.xe s
section
variable{X:Cx}{pos:Pos}
def ZoT(i:Nat):TG:=λv σ H Q=>Q (σ.set i (some v)) H
theorem JS{i:Nat}{x:Str}(hN:X.N.Nodup)(hi:X.N[i]?=some x)(hx:Loc X.env.scope x)(hf:X.fn x=true∨X.env.scope.names.lookup x=some .local:=by first|exact .inl rfl|exact .inr rfl|assumption):PG X (.Name x pos) (ZoT i):=by
 intro pins s σ H v u Q I r h
 exact wpAny_assign_Name (Zf9 I hN hi hx r (λs' I'=>⟨_,H,I',h⟩) hf)
def gNil:TGs:=λvs σ H Q=>vs=[]/\Q σ H
def gCons(t:TG)(u:TGs):TGs:=λvs σ H Q=>∃v r,vs=v::r/\t v σ H λσ' H'=>u r σ' H' Q
theorem Zfo:PGs X [] gNil:=by
 intro pins s σ H vs us Q I r h
 obtain⟨e,h⟩:=h
 subst e
 cases r
 exact assignInOrder_nil ⟨σ,H,I,h⟩
theorem Jm{e:Expr}{es:List Expr}{t:TG}{u:TGs}(h1:PG X e t)(h2:PGs X es u)(hs:(Y7 (e::es) X.env).map (·.2)=assign e X.env::(Y7 es X.env).map (·.2):=by rfl):PGs X (e::es) (gCons t u):=by
 intro pins s σ H vs us Q I r h
 obtain⟨v,vr,e1,h⟩:=h
 subst e1
 cases r with
 |cons r rr =>
  rw[hs]
  refine assignInOrder_cons (thn (h1 pins s σ H _ _ _ I r h) λ_ s1 ⟨σ1,H1,I1,q1⟩=>?_)
  exact h2 pins s1 σ1 H1 _ _ Q I1 rr q1
def gTup(K:Frag)(n:Nat)(t:TGs):TG:=λv σ H Q=>∃a xs,v=.ref a/\SqT K H a xs/\xs.length=n/\t xs σ H Q
theorem ZmY{es:List Expr}{k:Nat}{t:TGs}{n:Nat}(hc:X.calm=true)(h:PGs X es t)(hn:(Y7 es X.env).length=n:=by rfl)(hst:(Y7 es X.env).findIdx? (·.1)=none:=by rfl):PG X (.Tuple es k pos) (gTup X.K n t):=by
 intro pins s σ H v u Q I r hw
 obtain⟨a,xs,e1,hq,hl,hw⟩:=hw
 subst e1
 cases r
 obtain⟨its,rv,ht,hz⟩:=I.tuple hq
 refine assign_Tuple_tuple (I.ok.hd hc) ht (by simp[hn,<-hl,rv.length]) hst λh' hx=>?_
 have I1:Inv X pins σ H { s with heap:=h' }:=I.kept (t':=s.toks) λb o e=>hx b o (YH (Ys e)) e
 exact h pins _ σ H xs _ Q I1 (by simpa using rv) hw
def gSub(to ti:TE)(t:TSet):TG:=λv σ H Q=>to σ H λo H1=>ti σ H1 λi H2=>t o i v H2 λH3=>Q σ H3
theorem pg_sub{o i:Expr}{to ti:TE}{t:TSet}(ho:PE X o to)(hi:PE X i ti)(hs:PSet X t)(ha:∀v,assign (.Subscript o i pos) X.env v=(do
  let ov <-V5 [v] (eval o X.env)
  let iv <-V5 [v,ov] (eval i X.env)
  Gz pos
  V5 [v,ov,iv] (setItem ov iv v)
  release [v,ov,iv] []):=by intro _;rfl):PG X (.Subscript o i pos) (gSub to ti t):=by
 intro pins s σ H v u Q I r h
 rw[ha]
 refine Yb (Wj (thn (ho pins s σ H _ I h) λov s1 ⟨x,H1,I1,r1,q1⟩=>?_))
 refine Yb (Wj (thn (hi pins s1 σ H1 _ I1 q1) λiv s2 ⟨y,H2,I2,r2,q2⟩=>?_))
 refine Yb (W8 (Yb (Wj (thn (hs pins s2 σ H2 x y v ov iv u _ I2 r1 r2 r q2) λ_ s3 ⟨H3,I3,q3⟩=>?_))))
 exact wpAny_release ⟨σ,H3,I3,q3⟩
def tAsg(te:TE)(g:TG):TS:=λD σ H=>te σ H λx H1=>g x σ H1 D.nx
theorem ZiU{tg e:Expr}{te:TE}{g:TG}(he:PE X e te)(hg:PG X tg g)(hs:YaT [tg] e pos.line X.env=pure false:=by rfl)(hw:YaU [tg] e X.env=pure none:=by rfl)(h1:(Y7 [tg] X.env).map (·.2)=[assign tg X.env]:=by rfl):PS X (.Assign [tg] e pos) (tAsg te g):=by
 intro pins s σ H D I h
 refine wpAny_Assign_stores (thn (he pins s σ H _ I h) λv s1 ⟨x,H1,I1,r1,q1⟩=>?_) hs hw
 rw[h1]
 exact thn (hg pins s1 σ H1 x v _ I1 r1 q1) λ_ s2 q=>q
theorem ps_set{i:Nat}{x:Str}{e:Expr}{te:TE}{pos':Pos}(hN:X.N.Nodup)(hi:X.N[i]?=some x)(hx:Loc X.env.scope x)(he:PE X e te)(hs:YaH e (some (.Name x pos')) pos.line X.env=pure false:=by rfl)(hf:X.fn x=true∨X.env.scope.names.lookup x=some .local:=by first|exact .inl rfl|exact .inr rfl|assumption):
  PS X (.Assign [.Name x pos'] e pos) (tAsg te (ZoT i)):=by
 intro pins s σ H D I h
 refine wpAny_Assign_Name (thn (he pins s σ H _ I h) λv s1 ⟨y,H1,I1,r1,q1⟩=>?_) hs
 exact Zf9 I1 hN hi hx r1 (λs2 I2=>⟨_,H1,I2,q1⟩) hf
end
structure It where
 go:Nat->Hp->Prop
 yld:Nat->Hp->V->Hp->Prop
 stop:Nat->Hp->Prop
def FpOk(X:Cx)(pins:List (Addr×Obj))(H:Hp)(b:Addr):Prop:=
 H b=none/\b≠X.env.locals/\b∉X.fs/\(b∈X.ex∨X.s₀.heap.objs.size<=b)/\(∀x c,X.env.cells.lookup x=some c->c≠b)/\∀p∈X.pn++pins,p.1≠b
theorem Inv.fpOk{X:Cx}{pins:List (Addr×Obj)}{σ:St}{H H':Hp}{s:Shared}{b:Addr}(I:Inv X pins σ H s)(hb:s.heap.objs.size<=b)(hn:H' b=none):FpOk X pins H' b:=by
 refine⟨hn,GZ (Yu I.lt hb),I.nofs hb,.inr (YJ I.sz hb),λx c e z=>?_,λp hp z=>?_⟩
 ·obtain⟨v,q⟩:=I.cell x c e
  exact absurd (Yu q.lt (by rw[z];exact hb)) (Y9 _)
 ·exact absurd (Yu (Ys (I.pin p hp).1) (by rw[z];exact hb)) (Y9 _)
structure Turn (P:YK) (w:World) (K:Frag) (tg:Expr) (J:It) (fp:List Addr) (it:Addr) (tn:Nat->Heap->Prop):Prop where
 mem:it∈fp
 obj:∀i h,tn i h->∀b∈fp,∃o,h.get? b=some o/\∀v,o.data≠.cell v
 keep:∀i h h',tn i h->(∀b∈fp,∀o,h.get? b=some o->h'.get? b=some o)->tn i h'
 item:∀(X:Cx),X.prog=P->X.w=w->X.K=K->X.calm=true->∀(i:Nat) (pins:List (Addr×Obj)) (s:Shared) (σ:St) (H:Hp) (E:Value->Shared->Prop),Inv X pins σ H s->(∀b∈fp,FpOk X pins H b)->tn i s.heap->J.go i H ->
  wpAny (model P w) X.A (pyNext (.ref it)) (λr s1=>∃u,r=some u /\
   wpAny (model P w) X.A (U0 tg (.ref it) u) (λ_ s2=>∃x H',Inv X pins σ H' s2/\RelV x u/\J.yld i H x H'/\tn (i+1) s2.heap/\∀b∈fp,H' b=none) E s1) E s
 done:∀(X:Cx),X.prog=P->X.w=w->X.K=K->X.calm=true->∀(i:Nat) (pins:List (Addr×Obj)) (s:Shared) (σ:St) (H:Hp) (E:Value->Shared->Prop),Inv X pins σ H s->(∀b∈fp,FpOk X pins H b)->tn i s.heap->J.stop i H ->
  wpAny (model P w) X.A (pyNext (.ref it)) (λr s1=>r=none/\Inv X pins σ H s1) E s
 self:∀(A:Around) (i:Nat) (s:Shared) (Q:Value->Shared->Prop) (E:Value->Shared->Prop),tn i s.heap->Q (.ref it) s->wpAny (model P w) A (pyIter (.ref it)) Q E s
abbrev TI:=St->Hp->(It->Hp->Prop)->Prop
def PIE(X:Cx)(pins:List (Addr×Obj))(σ:St)(tg:Expr)(R:It->Hp->Prop)(itv:Value)(s2:Shared):Prop:=
 ∃(it:Addr) (fp:List Addr) (tn:Nat->Heap->Prop) (J:It) (H':Hp),itv=.ref it/\Inv X pins σ H' s2/\Turn X.prog X.w X.K tg J fp it tn/\tn 0 s2.heap/\(∀b∈fp,FpOk X pins H' b)/\R J H'
def PI(X:Cx)(tg iter:Expr)(wi:TI):Prop:=
 ∀(pins:List (Addr×Obj)) (s:Shared) (σ:St) (H:Hp) (R:It->Hp->Prop),Inv X pins σ H s->wi σ H R ->
  wpAny (model X.prog X.w) X.A (eval iter X.env) (λv s1=>wpAny (model X.prog X.w) X.A (pyIter v) (PIE X pins σ tg R) X.xe s1) X.xe s
theorem Zml{M:Model}{A:Around}{E:Value->Shared->Prop}{s:Shared}{tg:Expr}{it:Addr}{u:Value}{o:Obj}{n:String}{vs:Array Value}{Q:Unit->Shared->Prop}(ho:s.heap.get? it=some o)(hc:o.cls=.type n)(hd:o.data=.fields vs)(hn:["enumerate","zip","dict_itemiterator","dict_reverseitemiterator","odict_iterator","itertools.zip_longest","itertools.pairwise"].contains n=false)(hQ:Q () s):wpAny M A (U0 tg (.ref it) u) Q E s:=by
 unfold U0
 cases tg<;>first
  |exact Yd hQ
  |(cases u<;>first
   |exact Yd hQ
   |(
    refine Yb (wpAny_load ho ?_)
    rw[hc,hd]
    show wpAny M A (if(["enumerate","zip","dict_itemiterator","dict_reverseitemiterator","odict_iterator","itertools.zip_longest","itertools.pairwise"].contains n&&vs[0]?==some (rawInt _))=true then _ else _) Q E s
    rw[if_neg (by intro h;rw[hn,Bool.false_and]at h;cases h)]
    exact Yd hQ))
def Itl(K:Frag)(a:Addr):It:=
 ⟨λi H=>∃xs x,SqL K H a xs/\xs[i]?=some x,λi H x H'=>H'=H/\∀xs,SqL K H a xs->xs[i]?=some x,λi H=>∃xs,SqL K H a xs/\xs.length<=i⟩
def Itt(K:Frag)(a:Addr):It:=
 ⟨λi H=>∃xs x,SqT K H a xs/\xs[i]?=some x,λi H x H'=>H'=H/\∀xs,SqT K H a xs->xs[i]?=some x,λi H=>∃xs,SqT K H a xs/\xs.length<=i⟩
def Itr(lo:Int)(n:Nat):It:=⟨λi _=>i<n,λi H x H'=>H'=H/\x=.int (lo+i),λi _=>n<=i⟩
theorem Zig{P:YK}{w:World}{K:Frag}{tg:Expr}(a it:Addr):Turn P w K tg (Itl K a) [it] it (λi h=>h.IsListIter it a i) where
 mem:=by simp
 obj:=λi h st b hb=>by
  have e:b=it:=by simpa using hb
  subst e
  obtain⟨o,e,c,d⟩:=st
  exact⟨o,e,λv z=>by rw[d]at z;cases z⟩
 keep:=λi h h' st k=>st.at λo e=>k it (by simp) o e
 item:=by
  intro X hP hw hK hc i pins s σ H E I hf st hg
  subst hP hw hK
  obtain⟨xs,x,hq,hx⟩:=hg
  obtain⟨its,rv,p,hz⟩:=I.list hq
  obtain⟨u,hu,ru⟩:=rv.get hx
  obtain⟨f0,f1,f2,f3,f4,f5⟩:=hf it (by simp)
  refine wpAny_pyNext_list_item st p.isList (x:=u) (by simpa using hu) λh' st' sb=>?_
  have I1:Inv X pins σ H { s with heap:=h' }:=I.turned (t':=s.toks) (λb o hb e=>(sb.2 b hb).trans e) f0 f1 f3 f4 f5
  obtain⟨o,e,c,d⟩:=id st'
  exact⟨u,rfl,Zml (s:={ s with heap:=h' }) e c d (by decide) ⟨x,H,I1,ru,⟨rfl,λys hy=>by rw[I.list_inj hy hq];exact hx⟩,st',λb hb=>(hf b hb).1⟩⟩
 done:=by
  intro X hP hw hK hc i pins s σ H E I hf st hg
  subst hP hw hK
  obtain⟨xs,hq,hx⟩:=hg
  obtain⟨its,rv,p,hz⟩:=I.list hq
  obtain⟨f0,f1,f2,f3,f4,f5⟩:=hf it (by simp)
  have hl:=rv.length
  exact wpAny_pyNext_list_end (I.ok.hd hc) st p.isList (by simp;omega) λh' eb=>⟨rfl,I.turned (t':=s.toks) (λb o hb e=>eb b o hb e) f0 f1 f3 f4 f5⟩
 self:=λ_ _ _ _ _ st h=>wpAny_pyIter_listiter st h
theorem ZgV{P:YK}{w:World}{K:Frag}{tg:Expr}(a it:Addr):Turn P w K tg (Itt K a) [it] it (λi h=>h.IsTupleIter it a i) where
 mem:=by simp
 obj:=λi h st b hb=>by
  have e:b=it:=by simpa using hb
  subst e
  obtain⟨o,e,c,d⟩:=st
  exact⟨o,e,λv z=>by rw[d]at z;cases z⟩
 keep:=λi h h' st k=>st.at λo e=>k it (by simp) o e
 item:=by
  intro X hP hw hK hc i pins s σ H E I hf st hg
  subst hP hw hK
  obtain⟨xs,x,hq,hx⟩:=hg
  obtain⟨its,rv,p,hz⟩:=I.tuple hq
  obtain⟨u,hu,ru⟩:=rv.get hx
  obtain⟨f0,f1,f2,f3,f4,f5⟩:=hf it (by simp)
  refine wpAny_pyNext_tuple_item st (show s.heap.IsTuple a its.toArray from p) (x:=u) (by simpa using hu) λh' st' sb=>?_
  have I1:Inv X pins σ H { s with heap:=h' }:=I.turned (t':=s.toks) (λb o hb e=>(sb.2 b hb).trans e) f0 f1 f3 f4 f5
  obtain⟨o,e,c,d⟩:=id st'
  exact⟨u,rfl,Zml (s:={ s with heap:=h' }) e c d (by decide) ⟨x,H,I1,ru,⟨rfl,λys hy=>by rw[I.tuple_inj hy hq];exact hx⟩,st',λb hb=>(hf b hb).1⟩⟩
 done:=by
  intro X hP hw hK hc i pins s σ H E I hf st hg
  subst hP hw hK
  obtain⟨xs,hq,hx⟩:=hg
  obtain⟨its,rv,p,hz⟩:=I.tuple hq
  obtain⟨f0,f1,f2,f3,f4,f5⟩:=hf it (by simp)
  have hl:=rv.length
  exact wpAny_pyNext_tuple_end (I.ok.hd hc) st (show s.heap.IsTuple a its.toArray from p) (by simp;omega) λh' eb=>⟨rfl,I.turned (t':=s.toks) (λb o hb e=>eb b o hb e) f0 f1 f3 f4 f5⟩
 self:=λ_ _ _ _ _ st h=>wpAny_pyIter_tupleiter st h
theorem ZgW{P:YK}{w:World}{K:Frag}{tg:Expr}(it:Addr)(lo:Int)(n:Nat):Turn P w K tg (Itr lo n) [it] it (λi h=>IsRangeIter h it (lo+(i:Nat)*1) ((n:Int)-(i:Nat)) 1) where
 mem:=by simp
 obj:=λi h st b hb=>by
  have e:b=it:=by simpa using hb
  subst e
  exact⟨_,st,λv z=>by
   have z':Data.fields _=Data.cell v:=z
   cases z'⟩
 keep:=λi h h' st k=>k it (by simp) _ st
 item:=by
  intro X hP hw hK hc i pins s σ H E I hf st hg
  subst hP hw hK
  obtain⟨f0,f1,f2,f3,f4,f5⟩:=hf it (by simp)
  have W:=Walks.range (prog:=X.prog) (w:=X.w) (I.ok.hd hc) it lo 1 n
  refine W.item i s _ _ hg st λv h' tk hv st' kk=>?_
  obtain⟨t,rfl⟩:=hv
  have I1:Inv X pins σ H { s with heap:=h',toks:=tk }:=I.turned (λb o hb e=>kk b o (by simpa using hb) e) f0 f1 f3 f4 f5
  refine⟨_,rfl,Zml (s:={ s with heap:=h',toks:=tk }) (n:="range_iterator") st' rfl rfl (by decide) ⟨.int (lo+i),H,I1,⟨t,?_⟩,⟨rfl,rfl⟩,st',λb hb=>(hf b hb).1⟩⟩
  rw[Int.mul_one]
 done:=by
  intro X hP hw hK hc i pins s σ H E I hf st hg
  subst hP hw hK
  obtain⟨f0,f1,f2,f3,f4,f5⟩:=hf it (by simp)
  exact wpAny_pyNext_range_end (I.ok.hd hc) st (by have:n<=i:=hg;omega) λh' eb=>⟨rfl,I.turned (t':=s.toks) (λb o hb e=>eb b o hb e) f0 f1 f3 f4 f5⟩
 self:=λ_ _ _ _ _ st h=>wpAny_pyIter_rangeiter st h
section
variable{X:Cx}{tg:Expr}
theorem Zlo{pins:List (Addr×Obj)}{σ:St}{H:Hp}{s:Shared}{R:It->Hp->Prop}{E:Value->Shared->Prop}{lo hi:Int}{t u v:Tok}{tk:Nat}(I:Inv X pins σ H s)(h1:-(2^62)<=lo)(h2:lo<2^62)(h3:-(2^62)<=hi)(h4:hi<2^62)(q:R (Itr lo (hi-lo).toNat) H):wpAny (model X.prog X.w) X.A (pyIter (.ref s.heap.objs.size)) (PIE X pins σ tg R) E { s with heap:=s.heap.push { cls:=.type "range",data:=.fields #[.int lo t,.int hi u,.int 1 v] },toks:=tk }:=by
 refine wpAny_pyIter_range (IsRange.new ..) (small_one h1 h2 h3 h4) ?_
 have I1:Inv X pins σ H { s with heap:=s.heap.push { cls:=.type "range",data:=.fields #[.int lo t,.int hi u,.int 1 v] },toks:=tk }:=I.kept λb o e=>Ye _ e
 refine⟨(s.heap.push { cls:=.type "range",data:=.fields #[.int lo t,.int hi u,.int 1 v] }).objs.size,[(s.heap.push { cls:=.type "range",data:=.fields #[.int lo t,.int hi u,.int 1 v] }).objs.size],_,_,H,rfl,
  I1.kept (t':=tk) λb o e=>Ye _ e,ZgW _ lo (hi-lo).toNat,?_,λb hb=>?_,q⟩
 ·have e1:lo+((0:Nat):Int)*1=lo:=by simp
  have e2:(((hi-lo).toNat:Nat):Int)-((0:Nat):Int)=Builtin.Range.rangeSize lo hi 1:=by rw[rangeSize_one];split<;>omega
  show IsRangeIter _ _ (lo+((0:Nat):Int)*1) ((((hi-lo).toNat:Nat):Int)-((0:Nat):Int)) 1
  rw[e1,e2]
  exact Yt _ rfl
 ·have e:b=(s.heap.push { cls:=.type "range",data:=.fields #[.int lo t,.int hi u,.int 1 v] }).objs.size:=by simpa using hb
  subst e
  exact I1.fpOk (Yj _) (I1.hok.fresh (Yj _))
def iRng1(ta:TA):TI:=λσ H R=>ta σ H λvs H1=>∃j:Int,vs=[.int j]/\-(2^62)<=j/\j<2^62/\R (Itr 0 j.toNat) H1
theorem Zi5{a:Expr}{ta:TA}{p pos:Pos}(hg:Gl X "range")(hm:X.mg "range" = none)(ha:PA X [a] ta)(hs:W7 [a] X.env=[(false,eval a X.env)]:=by rfl):PI X tg (.Call (.Name "range" p) [a] [] pos) (iRng1 ta):=by
 intro pins s σ H R I h
 refine Call_ (Zb5 I hg hm boot_range (G3 (thn (ha pos pins s σ H _ I h) λus s1 ⟨vs,H1,I1,r1,q1⟩=>?_) hs rfl))
 obtain⟨j,e,q1,q2,q⟩:=q1
 subst e
 cases r1 with
 |cons r rr =>
  cases rr
  obtain⟨t,rfl⟩:=r
  exact call_range_1 (Zlo I1 (by omega) (by omega) q1 q2 (by simpa using q))
def tFor(wi:TI)(g:TG)(tb:TS):TS:=λD σ H=>wi σ H λJ H1=>∃W:Nat->Nat->St->Hp->Prop,(∃m,W 0 m σ H1)/\∀i m σ H,W i m σ H ->
 (J.stop i H/\D.nx σ H)∨(J.go i H/\∃N:St->Hp->Prop,(∀σ' H',N σ' H'->∃m',m'<m/\W (i+1) m' σ' H')/\∀x H',J.yld i H x H'->g x σ H' λσ2 H2=>tb { D with nx:=N,ct:=N,bk:=D.nx } σ2 H2)
def XJ(fp:List Addr)(h:Heap):List (Addr×Obj):=fp.filterMap λb=>(h.get? b).map λo=>(b,o)
theorem ZX{fp:List Addr}{h:Heap}{b:Addr}{o:Obj}(hb:b∈fp)(e:h.get? b=some o):(b,o)∈XJ fp h:=List.mem_filterMap.mpr ⟨b,hb,by rw[e];rfl⟩
theorem Zeo{fp:List Addr}{h:Heap}{p:Addr×Obj}(hp:p∈XJ fp h):p.1∈fp/\h.get? p.1=some p.2:=by
 obtain⟨b,hb,e⟩:=List.mem_filterMap.mp hp
 cases q:h.get? b with
 |none=>rw[q]at e;cases e
 |some o =>
  rw[q]at e
  have e':(b,o)=p:=YG e
  subst e'
  exact⟨hb,q⟩
theorem Inv.pinned{pins:List (Addr×Obj)}{σ:St}{H:Hp}{s:Shared}{fp:List Addr}(I:Inv X pins σ H s)(hf:∀b∈fp,FpOk X pins H b)(ho:∀b∈fp,∃o,s.heap.get? b=some o/\∀v,o.data≠.cell v):Inv X (pins++XJ fp s.heap) σ H s:=
 I.pins_of λp hp=>(Gs.mp hp).elim (λz=>I.pin p (Ym _ z)) λz=>by
  obtain⟨hb,e⟩:=Zeo z
  obtain⟨f0,f1,f2,_⟩:=hf p.1 hb
  obtain⟨o,e',d⟩:=ho p.1 hb
  rw[e]at e';cases e'
  exact⟨e,f0,f1,f2,d⟩
theorem Inv.unpinned{pins pl:List (Addr×Obj)}{σ:St}{H:Hp}{s:Shared}(I:Inv X (pins++pl) σ H s):Inv X pins σ H s:=I.pins_of λp hp=>I.pin p (Ym _ (Wi _ hp))
theorem ps_for{iter:Expr}{body:List Stmt}{wi:TI}{g:TG}{tb:TS}{pos:Pos}(hp:Yco (model X.prog X.w) X.A X.env X.xe)(hc:X.calm=true)(hi:PI X tg iter wi)(hg:PG X tg g)(hb:PSs X body tb)(hs:∀x,WR iter X.env x=pure x:=by intro _;rfl):PS X (.For tg iter body [] pos) (tFor wi g tb):=by
 intro pins s σ H D I h
 refine wpAny_For (thn (hi pins s σ H _ I h) λv s1 h1=>thn h1 λitv s2 h2=>?_) hs
 obtain⟨it,fp,tn,J,H2,e,I2,T,st2,f2,W,⟨m0,w0⟩,turn⟩:=h2
 subst e
 -- what stays true of the iterator's objects through the loop
 have stat:∀{H':Hp},(∀b∈fp,H' b=none)->∀b∈fp,FpOk X pins H' b:=λhn b hb=>⟨hn b hb,(f2 b hb).2⟩
 refine codeAny_forLoop_any (λn s'=>∃i σ' H',Inv X pins σ' H' s'/\tn i s'.heap/\(∀b∈fp,H' b=none)/\W i n σ' H') ?_ m0 ⟨0,σ,H2,I2,st2,λb hb=>(f2 b hb).1,w0⟩
 rintro n s3 ⟨i,σ3,H3,I3,st3,fr3,w3⟩
 rcases turn i n σ3 H3 w3 with⟨stop,qn⟩|⟨go,N,hN,step⟩
 ·refine Vw hp (thn (T.done X rfl rfl rfl hc i pins s3 σ3 H3 X.xe I3 (stat fr3) st3 stop) λr s4 ⟨hr,I4⟩=>?_)
  subst hr
  exact wpAny_execs_nil ⟨σ3,H3,I4,qn⟩
 ·refine Vw hp (thn (T.item X rfl rfl rfl hc i pins s3 σ3 H3 X.xe I3 (stat fr3) st3 go) λr s4 ⟨u,hr,h4⟩=>?_)
  subst hr
  refine Vw hp (thn h4 λ_ s5 ⟨x,H5,I5,r5,y5,st5,fr5⟩=>?_)
  have I5':=I5.pinned (stat fr5) (T.obj _ _ st5)
  refine Vw hp (thn (hg _ s5 σ3 H5 x u _ I5' r5 (step x H5 y5)) λ_ s6 ⟨σ6,H6,I6,q6⟩=>?_)
  refine Vw hp (thn (hb _ s6 σ6 H6 _ I6 q6) λf s7 q7=>?_)
  have again:∀{σ7:St}{H7:Hp},Inv X (pins++XJ fp s5.heap) σ7 H7 s7->N σ7 H7->∃m,m<n/\∃i σ' H',Inv X pins σ' H' s7/\tn i s7.heap/\(∀b∈fp,H' b=none)/\W i m σ' H':=λ{σ7 H7} I7 n7=>by
   obtain⟨m',hm,w7⟩:=hN σ7 H7 n7
   refine⟨m',hm,i+1,σ7,H7,I7.unpinned,T.keep _ _ _ st5 λb hb o e=>(I7.pin (b,o) (Ym _ (Ym _ (ZX hb e)))).1,λb hb=>?_,w7⟩
   obtain⟨o,e,d⟩:=T.obj _ _ st5 b hb
   exact(I7.pin (b,o) (Ym _ (Ym _ (ZX hb e)))).2.1
  cases f with
  |next=>obtain⟨σ7,H7,I7,n7⟩:=q7;exact again I7 n7
  |cont=>obtain⟨σ7,H7,I7,n7⟩:=q7;exact again I7 n7
  |brk=>obtain⟨σ7,H7,I7,q7⟩:=q7;exact⟨σ7,H7,I7.unpinned,q7⟩
  |ret v=>obtain⟨x7,σ7,H7,I7,r7,q7⟩:=q7;exact⟨x7,σ7,H7,I7.unpinned,r7,q7⟩
end
abbrev R2:=V->V->Hp->VK->Prop
def OpR(X:Cx)(f:Value->Value->Sem Value)(r:R2):Prop:=
 ∀(pins:List (Addr×Obj)) (s:Shared) (σ:St) (H:Hp) (x y:V) (v u:Value) (Q:VK),Inv X pins σ H s->RelV x v->RelV y u->r x y H Q ->
  wpAny (model X.prog X.w) X.A (f v u) (EP X pins σ Q) X.xe s
def UnR(X:Cx)(f:Value->Sem Value)(r:V->Hp->VK->Prop):Prop:=
 ∀(pins:List (Addr×Obj)) (s:Shared) (σ:St) (H:Hp) (x:V) (v:Value) (Q:VK),Inv X pins σ H s->RelV x v->r x H Q ->
  wpAny (model X.prog X.w) X.A (f v) (EP X pins σ Q) X.xe s
def Xm(X:Cx)(f:Value)(r:List V->Hp->VK->Prop):Prop:=
 ∀(pins:List (Addr×Obj)) (s:Shared) (σ:St) (H:Hp) (xs:List V) (us:List Value) (Q:VK),Inv X pins σ H s->Vals xs us->r xs H Q ->
  wpAny (model X.prog X.w) X.A (call f us) (EP X pins σ Q) X.xe s
def TruR(X:Cx)(r:V->Hp->(Bool->Hp->Prop)->Prop):Prop:=
 ∀(pins:List (Addr×Obj)) (s:Shared) (σ:St) (H:Hp) (x:V) (v:Value) (Q:Bool->Hp->Prop),Inv X pins σ H s->RelV x v->r x H Q ->
  wpAny (model X.prog X.w) X.A (truthy v) (TP X pins σ Q) X.xe s
def tOp(r:R2)(ta tb:TE):TE:=λσ H Q=>ta σ H λx H1=>tb σ H1 λy H2=>r x y H2 Q
def tUn(r:V->Hp->VK->Prop)(ta:TE):TE:=λσ H Q=>ta σ H λx H1=>r x H1 Q
def rI(C:Int->Int->Prop)(g:Int->Int->V):R2:=λx y H Q=>∃i j,x=.int i/\y=.int j/\C i j/\Q (g i j) H
def rI0(g:Int->Int->V):R2:=λx y H Q=>∃i j,x=.int i/\y=.int j/\Q (g i j) H
def rU(g:Int->V):V->Hp->VK->Prop:=λx H Q=>∃i,x=.int i/\Q (g i) H
section
variable{X:Cx}{a b c:Expr}{ta tb tc:TE}{pos:Pos}
theorem binT(ha:PE X a ta)(hb:PE X b tb){pins:List (Addr×Obj)}{s:Shared}{σ:St}{H:Hp}{R:V->V->Hp->Prop}(I:Inv X pins σ H s)(h:ta σ H λx H1=>tb σ H1 λy H2=>R x y H2){Q:Value->Shared->Prop}{f:Value->Value->Sem Value}(hf:∀v u s2 x y H2,Inv X pins σ H2 s2->RelV x v->RelV y u->R x y H2->wpAny (model X.prog X.w) X.A (f v u) Q X.xe s2):
  wpAny (model X.prog X.w) X.A (eval a X.env) (λv s₁=>wpAny (model X.prog X.w) X.A (eval b X.env) (λu s₂=>wpAny (model X.prog X.w) X.A (f v u) Q X.xe s₂) X.xe s₁) X.xe s:=by
 refine thn (ha pins s σ H _ I h) λv s1 ⟨x,H1,I1,r1,q1⟩=>?_
 refine thn (hb pins s1 σ H1 _ I1 q1) λu s2 ⟨y,H2,I2,r2,q2⟩=>?_
 exact hf v u s2 x y H2 I2 r1 r2 q2
theorem pe_op{op:Yav}{r:R2}(ho:OpR X (W9 op) r)(ha:PE X a ta)(hb:PE X b tb):PE X (.BinOp a op b pos) (tOp r ta tb):=by
 intro pins s σ H Q I h
 exact wpAny_BinOp (binT ha hb I h λv u s2 x y H2 I2 rx ry q=>ho pins s2 σ H2 x y v u Q I2 rx ry q)
theorem pe_un{op:UnaryOp}{r:V->Hp->VK->Prop}(ho:UnR X (unaryOp op) r)(ha:PE X a ta):PE X (.UnaryOp op a pos) (tUn r ta):=by
 intro pins s σ H Q I h
 exact UnaryOp_ (thn (ha pins s σ H _ I h) λv s1 ⟨x,H1,I1,r1,q1⟩=>ho pins s1 σ H1 x v Q I1 r1 q1)
theorem opI{f:Value->Value->Sem Value}{C:Int->Int->Prop}{g:Int->Int->Int}(rule:∀(i j:Int) (t u:Tok) (s:Shared) (Q:Value->Shared->Prop) (E:Value->Shared->Prop),C i j->Q (.int (g i j) s.toks) { s with toks:=s.toks+1 }->wpAny (model X.prog X.w) X.A (f (.int i t) (.int j u)) Q E s):
  OpR X f (rI C λi j=>.int (g i j)):=by
 intro pins s σ H x y v u Q I rx ry h
 obtain⟨i,j,rfl,rfl,hc,q⟩:=h
 obtain⟨t,rfl⟩:=rx
 obtain⟨t',rfl⟩:=ry
 exact rule i j t t' s _ _ hc ⟨.int (g i j),H,I.tok _,⟨_,rfl⟩,q⟩
theorem opI0{f:Value->Value->Sem Value}{g:Int->Int->Int}(rule:∀(i j:Int) (t u:Tok) (s:Shared) (Q:Value->Shared->Prop) (E:Value->Shared->Prop),Q (.int (g i j) s.toks) { s with toks:=s.toks+1 }->wpAny (model X.prog X.w) X.A (f (.int i t) (.int j u)) Q E s):
  OpR X f (rI0 λi j=>.int (g i j)):=by
 intro pins s σ H x y v u Q I rx ry h
 obtain⟨i,j,rfl,rfl,q⟩:=h
 obtain⟨t,rfl⟩:=rx
 obtain⟨t',rfl⟩:=ry
 exact rule i j t t' s _ _ ⟨.int (g i j),H,I.tok _,⟨_,rfl⟩,q⟩
theorem opB0{f:Value->Value->Sem Value}{g:Int->Int->Bool}(rule:∀(i j:Int) (t u:Tok) (s:Shared) (Q:Value->Shared->Prop) (E:Value->Shared->Prop),Q (.bool (g i j)) s->wpAny (model X.prog X.w) X.A (f (.int i t) (.int j u)) Q E s):
  OpR X f (rI0 λi j=>.bl (g i j)):=by
 intro pins s σ H x y v u Q I rx ry h
 obtain⟨i,j,rfl,rfl,q⟩:=h
 obtain⟨t,rfl⟩:=rx
 obtain⟨t',rfl⟩:=ry
 exact rule i j t t' s _ _ ⟨.bl (g i j),H,I,rfl,q⟩
def CDiv(i j:Int):Prop:=0<j/\j<1073741824
def CPow(i j:Int):Prop:=0<=j/\j<=1000000/\i.natAbs<2^64
def CMul(i j:Int):Prop:=(-(2^64)<i/\i<2^64)∨(-(2^64)<j/\j<2^64)
theorem CMul.ok{i j:Int}(h:CMul i j):IntMulOk i j:=by
 rcases h with⟨h1,h2⟩|⟨h1,h2⟩
 ·exact .of_left (intBits_le_64 h1 h2)
 ·exact .of_right (intBits_le_64 h1 h2)
theorem op_add:OpR X (W9 .Add) (rI0 λi j=>.int (i+j)):=opI0 λ_ _ _ _ _ _ _ q=>add_int q
theorem op_sub:OpR X (W9 .Sub) (rI0 λi j=>.int (i-j)):=opI0 λ_ _ _ _ _ _ _ q=>sub_int q
theorem Zow:OpR X (W9 .FloorDiv) (rI CDiv λi j=>.int (i / j)):=opI λi j _ _ _ _ _ hc q=>by
 have h1:(0:Int)<j:=hc.1
 have h2:j<1073741824:=hc.2
 exact floordiv_int (by omega) (by rw[Int.fdiv_eq_ediv_of_nonneg i (by omega)];exact q) (.inl (PyProof.noPylong_small (by omega)))
theorem op_mod:OpR X (W9 .Mod) (rI (λ_ j=>0<j) λi j=>.int (i%j)):=opI λi j _ _ _ _ _ hc q=>by
 have h1:(0:Int)<j:=hc
 exact mod_int' (by omega) (by rw[Int.fmod_eq_emod_of_nonneg i (by omega)];exact q)
theorem op_pow:OpR X (W9 .Pow) (rI CPow λi j=>.int (i^j.toNat)):=opI λ_ _ _ _ _ _ _ hc q=>pow_int_small hc.1 hc.2.1 hc.2.2 q
theorem unI{f:Value->Sem Value}{g:Int->Int}(rule:∀(i:Int) (t:Tok) (s:Shared) (Q:Value->Shared->Prop) (E:Value->Shared->Prop),Q (.int (g i) s.toks) { s with toks:=s.toks+1 }->wpAny (model X.prog X.w) X.A (f (.int i t)) Q E s):
  UnR X f (rU λi=>.int (g i)):=by
 intro pins s σ H x v Q I rx h
 obtain⟨i,rfl,q⟩:=h
 obtain⟨t,rfl⟩:=rx
 exact rule i t s _ _ ⟨.int (g i),H,I.tok _,⟨_,rfl⟩,q⟩
theorem un_neg:UnR X (unaryOp .USub) (rU λi=>.int (-i)):=unI λ_ _ _ _ _ q=>neg_int q
end
def scal:V->V->Bool
 |.non,.non=>true|.non,.int _=>true|.int _,.non=>true|.non,.bl _=>true|.bl _,.non=>true|.non,.str _=>true|.str _,.non=>true
 |.int _,.int _=>true|.bl _,.bl _=>true|.str _,.str _=>true|.byt _,.byt _=>true
 |.int _,.str _=>true|.str _,.int _=>true|.bl _,.str _=>true|.str _,.bl _=>true
 |_,_=>false
def rEq:R2:=λx y H Q=>scal x y=true/\Q (.bl (decide (x=y))) H
def rNe:R2:=λx y H Q=>scal x y=true/\Q (.bl (!decide (x=y))) H
theorem ZfJ{i j:Int}:decide (V.int i=V.int j)=(i==j):=by
 rw[Vx]
 simp
theorem Zkz{i j:Bool}:decide (V.bl i=V.bl j)=(i==j):=by
 rw[Vx]
 simp
theorem Zkx{i j:Str}:decide (V.str i=V.str j)=(i==j):=by
 rw[Vx]
 simp
theorem Zky{i j:Array UInt8}:decide (V.byt i=V.byt j)=(i.toList==j.toList):=by
 rw[Vx]
 cases i
 cases j
 simp
section
variable{X:Cx}{a b c:Expr}{ta tb tc:TE}{pos:Pos}
theorem ZF{pins:List (Addr×Obj)}{σ:St}{H:Hp}{s:Shared}{Q:VK}{k k':Bool}(I:Inv X pins σ H s)(q:Q (.bl k) H)(e:k=k'):EP X pins σ Q (.bool k') s:=by
 subst e
 exact⟨.bl k,H,I,rfl,q⟩
theorem op_eq:OpR X (Wl .Eq) rEq:=by
 intro pins s σ H x y v u Q I rx ry h
 obtain⟨hs,q⟩:=h
 cases x with
 |non =>
  cases rx
  cases y with
  |non=>cases ry;exact PySem.EqNone.eq_none_none (ZF I q (by simp))
  |bl j=>cases ry;exact PySem.EqNone.eq_none_bool (ZF I q (by simp))
  |int j=>obtain⟨t',rfl⟩:=ry;exact PySem.EqNone.eq_none_int (ZF I q (by simp))
  |str j=>obtain⟨t',rfl⟩:=ry;exact PySem.EqNone.eq_none_str (ZF I q (by simp))
  |_=>exact absurd (show false=true from hs) Yl
 |bl i =>
  cases rx
  cases y with
  |non=>cases ry;exact PySem.EqNone.eq_bool_none (ZF I q (by simp))
  |bl j=>cases ry;exact eq_bool (ZF I q Zkz)
  |str j=>obtain⟨t',rfl⟩:=ry;exact PySem.EqMixed.eq_bool_str (ZF I q (by simp))
  |_=>exact absurd (show false=true from hs) Yl
 |int i =>
  obtain⟨t,rfl⟩:=rx
  cases y with
  |non=>cases ry;exact PySem.EqNone.eq_int_none (ZF I q (by simp))
  |int j=>obtain⟨t',rfl⟩:=ry;exact eq_int (ZF I q ZfJ)
  |str j=>obtain⟨t',rfl⟩:=ry;exact PySem.EqMixed.eq_int_str (ZF I q (by simp))
  |_=>exact absurd (show false=true from hs) Yl
 |str i =>
  obtain⟨t,rfl⟩:=rx
  cases y with
  |non=>cases ry;exact PySem.EqNone.eq_str_none (ZF I q (by simp))
  |bl j=>cases ry;exact PySem.EqMixed.eq_str_bool (ZF I q (by simp))
  |int j=>obtain⟨t',rfl⟩:=ry;exact PySem.EqMixed.eq_str_int (ZF I q (by simp))
  |str j=>obtain⟨t',rfl⟩:=ry;exact eq_str (ZF I q Zkx)
  |_=>exact absurd (show false=true from hs) Yl
 |byt i =>
  obtain⟨t,rfl⟩:=rx
  cases y with
  |byt j=>obtain⟨t',rfl⟩:=ry;exact PySem.W.eq_bytes (ZF I q Zky)
  |_=>exact absurd (show false=true from hs) Yl
 |_=>cases y<;>exact absurd (show false=true from hs) Yl
theorem op_ne:OpR X (Wl .NotEq) rNe:=by
 intro pins s σ H x y v u Q I rx ry h
 obtain⟨hs,q⟩:=h
 cases x with
 |non =>
  cases rx
  cases y with
  |non=>cases ry;exact PySem.EqNone.ne_none_none (ZF I q (by simp))
  |bl j=>cases ry;exact PySem.EqNone.ne_none_bool (ZF I q (by simp))
  |int j=>obtain⟨t',rfl⟩:=ry;exact PySem.EqNone.ne_none_int (ZF I q (by simp))
  |str j=>obtain⟨t',rfl⟩:=ry;exact PySem.EqNone.ne_none_str (ZF I q (by simp))
  |_=>exact absurd (show false=true from hs) Yl
 |bl i =>
  cases rx
  cases y with
  |non=>cases ry;exact PySem.EqNone.ne_bool_none (ZF I q (by simp))
  |bl j=>cases ry;exact ne_bool (ZF I q (congrArg not Zkz))
  |str j=>obtain⟨t',rfl⟩:=ry;exact PySem.EqMixed.ne_bool_str (ZF I q (by simp))
  |_=>exact absurd (show false=true from hs) Yl
 |int i =>
  obtain⟨t,rfl⟩:=rx
  cases y with
  |non=>cases ry;exact PySem.EqNone.ne_int_none (ZF I q (by simp))
  |int j=>obtain⟨t',rfl⟩:=ry;exact ne_int (ZF I q (congrArg not ZfJ))
  |str j=>obtain⟨t',rfl⟩:=ry;exact PySem.EqMixed.ne_int_str (ZF I q (by simp))
  |_=>exact absurd (show false=true from hs) Yl
 |str i =>
  obtain⟨t,rfl⟩:=rx
  cases y with
  |non=>cases ry;exact PySem.EqNone.ne_str_none (ZF I q (by simp))
  |bl j=>cases ry;exact PySem.EqMixed.ne_str_bool (ZF I q (by simp))
  |int j=>obtain⟨t',rfl⟩:=ry;exact PySem.EqMixed.ne_str_int (ZF I q (by simp))
  |str j=>obtain⟨t',rfl⟩:=ry;exact ne_str (ZF I q (congrArg not Zkx))
  |_=>exact absurd (show false=true from hs) Yl
 |byt i =>
  obtain⟨t,rfl⟩:=rx
  cases y with
  |byt j=>obtain⟨t',rfl⟩:=ry;exact PySem.W.ne_bytes (ZF I q (congrArg not Zky))
  |_=>exact absurd (show false=true from hs) Yl
 |_=>cases y<;>exact absurd (show false=true from hs) Yl
theorem op_lt:OpR X (Wl .Lt) (rI0 λi j=>.bl (decide (i<j))):=opB0 λ_ _ _ _ _ _ _ q=>lt_int q
theorem op_le:OpR X (Wl .LtE) (rI0 λi j=>.bl (decide (i<=j))):=opB0 λ_ _ _ _ _ _ _ q=>le_int q
theorem op_gt:OpR X (Wl .Gt) (rI0 λi j=>.bl (decide (j<i))):=opB0 λ_ _ _ _ _ _ _ q=>gt_int q
theorem op_ge:OpR X (Wl .GtE) (rI0 λi j=>.bl (decide (j<=i))):=opB0 λ_ _ _ _ _ _ _ q=>ge_int q
theorem Zjf:OpR X (Wl .Lt) (λx y H Q=>∃i j,x=.str i/\y=.str j/\Q (.bl (decide (i.cps.toList<j.cps.toList))) H):=by
 intro pins s σ H x y v u Q I rx ry h
 obtain⟨i,j,rfl,rfl,q⟩:=h
 obtain⟨t,rfl⟩:=rx
 obtain⟨t',rfl⟩:=ry
 exact lt_str (ZF I q rfl)
theorem Zjg:OpR X (Wl .In) (λx y H Q=>∃i j,x=.str i/\y=.str j/\Q (.bl (!(Uy j i 0 j.length 1).isEmpty)) H):=by
 intro pins s σ H x y v u Q I rx ry h
 obtain⟨i,j,rfl,rfl,q⟩:=h
 obtain⟨t,rfl⟩:=rx
 obtain⟨t',rfl⟩:=ry
 exact in_str (ZF I q rfl)
theorem op_isN:OpR X (Wl .Is) (λx y H Q=>y=.non/\Q (.bl (decide (x=.non))) H):=by
 intro pins s σ H x y v u Q I rx ry h
 obtain⟨rfl,q⟩:=h
 cases ry
 refine is_none_gen (ZF I q ?_)
 cases x<;>first
  |(cases rx;rfl)
  |(obtain⟨t,rfl⟩:=rx;rfl)
theorem Zot:OpR X (Wl .IsNot) (λx y H Q=>y=.non/\Q (.bl (!decide (x=.non))) H):=by
 intro pins s σ H x y v u Q I rx ry h
 obtain⟨rfl,q⟩:=h
 cases ry
 refine isnot_none_gen (ZF I q ?_)
 cases x<;>first
  |(cases rx;rfl)
  |(obtain⟨t,rfl⟩:=rx;rfl)
theorem Zek:OpR X (Wl .NotIn) (λx y H Q=>∃i j,x=.str i/\y=.str j/\Q (.bl (!(!(Uy j i 0 j.length 1).isEmpty))) H):=by
 intro pins s σ H x y v u Q I rx ry h
 obtain⟨i,j,rfl,rfl,q⟩:=h
 obtain⟨t,rfl⟩:=rx
 obtain⟨t',rfl⟩:=ry
 exact notIn_str (ZF I q rfl)
theorem Zol{op:CmpOp}{r:R2}(ho:OpR X (Wl op) r)(ha:PE X a ta)(hb:PE X b tb)(hm:YaV op b=false):PE X (.Compare a [op] [b] pos) (tOp r ta tb):=by
 intro pins s σ H Q I h
 exact wpAny_Compare1 (binT ha hb I h λv u s2 x y H2 I2 rx ry q=>ho pins s2 σ H2 x y v u Q I2 rx ry q) hm
def tTest(t:TE):TT:=λσ H Q=>t σ H λx H'=>∃k,x=.bl k/\Q k H'
theorem ZnX{op:CmpOp}{r:R2}(ho:OpR X (Wl op) r)(ha:PE X a ta)(hb:PE X b tb)(hm:YaV op b=false):PT X (.Compare a [op] [b] pos) (tTest (tOp r ta tb)):=by
 intro pins s σ H Q I h
 refine wpAny_isTrue_Compare1 (thn (ha pins s σ H _ I h) λv s1 ⟨x,H1,I1,r1,q1⟩=>thn (hb pins s1 σ H1 _ I1 q1) λu s2 ⟨y,H2,I2,r2,q2⟩ =>
  thn (ho pins s2 σ H2 x y v u _ I2 r1 r2 q2) λc s3 ⟨z,H3,I3,r3,k,e,q3⟩=>?_) hm
 subst e
 cases r3
 exact W3 ⟨H3,I3,q3⟩
def TruV(K:Frag)(x:V)(H:Hp)(k:Bool):Prop:=
 match x with
 |.non=>k=false
 |.bl b=>k=b
 |.int i=>k=(i != 0)
 |.str y=>y.length<=YM/\k=((y.length:Int) != 0)
 |.byt y=>y.size<=YM/\k=((y.size:Int) != 0)
 |.ref p=>(∃xs,SqL K H p xs/\k=!xs.isEmpty)∨(∃xs,SqT K H p xs/\k=!xs.isEmpty)∨∃kvs,H p=some (.dK kvs)/\k=!kvs.isEmpty
 |_=>False
theorem ZhF{κ:Type}{kvs:List (κ×V)}{vs:List (κ×Value)}(r:KV kvs vs):(!vs.isEmpty)=!kvs.isEmpty:=by
 cases r<;>rfl
theorem Zc0{xs:List V}{its:List Value}(r:Vals xs its):(!its.toArray.isEmpty)=!xs.isEmpty:=by
 cases r<;>simp
theorem ZcX:(YM:Nat)<2^63:=by rw[WW];decide
theorem tru_ok:TruR X (λx H Q=>∃k,TruV X.K x H k/\Q k H):=by
 intro pins s σ H x v Q I rx h
 obtain⟨k,e,q⟩:=h
 have hl:=ZcX
 have hs:YM=16777216:=WW
 cases x with
 |non =>
  cases rx
  have e':k=false:=e
  subst e'
  exact truthy_none ⟨H,I,q⟩
 |bl b =>
  cases rx
  have e':k=b:=e
  subst e'
  exact W3 ⟨H,I,q⟩
 |int i =>
  obtain⟨t,rfl⟩:=rx
  have e':k=(i != 0):=e
  subst e'
  exact PySem.P.truthy_int ⟨H,I,q⟩
 |str y =>
  obtain⟨t,rfl⟩:=rx
  obtain⟨hy,e'⟩:y.length<=YM/\k=((y.length:Int) != 0):=e
  subst e'
  exact PySem.P.truthy_str (by omega) ⟨H,I.tok _,q⟩
 |byt y =>
  obtain⟨t,rfl⟩:=rx
  obtain⟨hy,e'⟩:y.size<=YM/\k=((y.size:Int) != 0):=e
  subst e'
  exact PySem.W.truthy_bytes (by omega) ⟨H,I.tok _,q⟩
 |ref p =>
  cases rx
  have e':(∃xs,SqL X.K H p xs/\k=!xs.isEmpty)∨(∃xs,SqT X.K H p xs/\k=!xs.isEmpty)∨∃kvs,H p=some (.dK kvs)/\k=!kvs.isEmpty:=e
  rcases e' with⟨xs,hx,e'⟩|⟨xs,hx,e'⟩|⟨kvs,hx,e'⟩
  ·subst e'
   obtain⟨its,r,pl,hz⟩:=I.list hx
   have hlen:=r.length
   exact wpAny_truthy_list pl.isList (by simp only[Yk];omega) ⟨H,I.tok _,by rw[Zc0 r];exact q⟩
  ·subst e'
   obtain⟨its,r,pl,hz⟩:=I.tuple hx
   have hlen:=r.length
   exact truthy_tuple pl (by simp only[Yk];omega) ⟨H,I.tok _,by rw[Zc0 r];exact q⟩
  ·subst e'
   obtain⟨hz,hS,vs,r,m⟩:kvs.length<=YM/\(p==Yak)=false/\∃vs,KV kvs vs/\s.heap.DictOf (QV X.prog X.w) p vs:=I.hok p _ hx
   have hlen:kvs.length=vs.length:=Ybv r
   exact wpAny_truthy_dict hS m (by omega) ⟨H,I.tok _,by rw[ZhF r];exact q⟩
 |_=>exact(show False from e).elim
theorem Zlq(ha:PE X a ta)(he:∀whole,isTrue a X.env whole=(do let v <-whole;Gz a.pos;V5 [v] (truthy v))):
  PT X a (λσ H Q=>ta σ H λx H'=>∃k,TruV X.K x H' k/\Q k H'):=by
 intro pins s σ H Q I h
 exact isTrue_plain (thn (ha pins s σ H _ I h) λv s1 ⟨x,H1,I1,r1,q1⟩=>tru_ok pins s1 σ H1 x v Q I1 r1 q1) (he _)
theorem Zhu:OpR X (W9 .Add) (λx y H Q=>∃i j,x=.str i/\y=.str j/\i.length+j.length<=YM/\Q (.str (i++j)) H):=by
 intro pins s σ H x y v u Q I rx ry h
 obtain⟨i,j,rfl,rfl,hz,q⟩:=h
 obtain⟨t,rfl⟩:=rx
 obtain⟨t',rfl⟩:=ry
 exact add_str (λt' tk=>⟨.str (i++j),H,I.tok _,⟨_,rfl⟩,q⟩) hz
theorem vals1{x:V}{us:List Value}(r:Vals [x] us):∃u,us=[u]/\RelV x u:=by
 cases r with
 |cons r1 r2=>cases r2;exact⟨_,rfl,r1⟩
theorem vals2{x y:V}{us:List Value}(r:Vals [x,y] us):∃u w',us=[u,w']/\RelV x u/\RelV y w':=by
 cases r with
 |cons r1 r2 =>
  cases r2 with
  |cons r3 r4=>cases r4;exact⟨_,_,rfl,r1,r3⟩
theorem ZkP(hc:X.calm=true):Xm X (.builtin "min") (λxs H Q=>∃i j,xs=[.int i,.int j]/\Q (.int (if j<i then j else i)) H):=by
 intro pins s σ H xs us Q I r h
 obtain⟨i,j,rfl,q⟩:=h
 obtain⟨u,w',rfl,⟨t,rfl⟩,⟨t',rfl⟩⟩:=vals2 r
 refine min_two_ints (I.ok.hd hc) λh' tk k=>⟨_,H,I.kept k,?_,q⟩
 by_cases hj:j<i
 ·rw[if_pos hj,if_pos hj];exact⟨_,rfl⟩
 ·rw[if_neg hj,if_neg hj];exact⟨_,rfl⟩
theorem ZeU:Xm X (.type "int") (λxs H Q=>(∃i,xs=[.int i]/\Q (.int i) H)∨∃k,xs=[.bl k]/\Q (.int (if k then 1 else 0)) H):=by
 intro pins s σ H xs us Q I r h
 rcases h with⟨i,rfl,q⟩|⟨k,rfl,q⟩
 ·obtain⟨u,rfl,t,rfl⟩:=vals1 r
  exact call_int_int ⟨.int i,H,I,⟨_,rfl⟩,q⟩
 ·obtain⟨u,rfl,r1⟩:=vals1 r
  cases r1
  exact call_int_bool ⟨.int (if k then 1 else 0),H,I.tok _,⟨_,rfl⟩,q⟩
def LenV(K:Frag)(x:V)(H:Hp)(n:Nat):Prop:=
 match x with
 |.str y=>y.length<=YM/\n=y.length
 |.byt y=>y.size<=YM/\n=y.size
 |.ref p=>(∃xs,SqL K H p xs/\n=xs.length)∨∃xs,SqT K H p xs/\n=xs.length
 |_=>False
theorem ZbK:Xm X (.builtin "len") (λxs H Q=>∃x n,xs=[x]/\LenV X.K x H n/\Q (.int n) H):=by
 intro pins s σ H xs us Q I r h
 obtain⟨x,n,rfl,e,q⟩:=h
 obtain⟨u,rfl,rx⟩:=vals1 r
 have hl:=ZcX
 have hs:YM=16777216:=WW
 cases x with
 |str y =>
  obtain⟨t,rfl⟩:=rx
  obtain⟨hy,e'⟩:y.length<=YM/\n=y.length:=e
  subst e'
  exact len_str (by omega) ⟨.int _,H,I.tok _,⟨_,rfl⟩,q⟩
 |byt y =>
  obtain⟨t,rfl⟩:=rx
  obtain⟨hy,e'⟩:y.size<=YM/\n=y.size:=e
  subst e'
  exact PySem.W.len_bytes (by omega) ⟨.int _,H,I.tok _,⟨_,rfl⟩,q⟩
 |ref p =>
  cases rx
  have e':(∃xs,SqL X.K H p xs/\n=xs.length)∨∃xs,SqT X.K H p xs/\n=xs.length:=e
  rcases e' with⟨xs,hx,e'⟩|⟨xs,hx,e'⟩
  ·subst e'
   obtain⟨its,r',pl,hz⟩:=I.list hx
   have hlen:=r'.length
   exact Calls.call_len_list pl.isList (by simp only[Yk];omega) ⟨.int xs.length,H,I.tok _,⟨_,by simp only[Yk];rw[hlen]⟩,q⟩
  ·subst e'
   obtain⟨its,r',pl,hz⟩:=I.tuple hx
   have hlen:=r'.length
   exact len_tuple pl (by simp only[Yk];omega) ⟨.int xs.length,H,I.tok _,⟨_,by simp only[Yk];rw[hlen]⟩,q⟩
 |_=>exact(show False from e).elim
end
structure ObjM (h:Heap) (x dx C:Addr) (mA:Str->Option Value):Prop where
 obj:h.get? x=some (PySem.W.instObj C dx)
 ns:h.Ns1 dx mA
 ne:dx≠x
theorem RelO.some_of{v:V}{o:Option Value}(r:RelO (some v) o):∃u,o=some u/\RelV v u:=by
 cases o with
 |none=>exact(show False from r).elim
 |some u=>exact⟨u,rfl,r⟩
structure Cls (K:Frag) (C:Addr):Prop where
 pg:PySem.W.plainGet K C Str.empty=true
 hd:PySem.W.hasDictIn K C=true
 po:PySem.W.plainOver K C=true
 sa:findIn K (.ref C) "__setattr__" = some (some (.builtin "object.__setattr__"))
def NoAttr(K:Frag)(C:Addr)(f:Str):Prop:=findIn K (.ref C) f=some none
structure Con (K:Frag) (C:Addr) (f:Str) (v:V) (u:Value):Prop where
 at_:findIn K (.ref C) f=some (some u)
 rel:RelV v u
 get:PySem.W.specialIn K u "__get__" = some none
 cp:PySem.W.copiedNames.contains f=false
structure Meth (K:Frag) (C:Addr) (m:Str) (f:Addr):Prop where
 at_:findIn K (.ref C) m=some (some (.ref f))
 fn:PySem.W.isFn K (.ref f)=true
 kp:keepIn K (.ref f)=true
section
variable{X:Cx}{pins:List (Addr×Obj)}{σ:St}{H:Hp}{s:Shared}{A:Around}{E:Value->Shared->Prop}{Q:Value->Shared->Prop}{c:Value}{b:Bool}
inductive TyOf (K:Frag) (H:Hp):V->Value->Prop where
 |non:TyOf K H .non (.type "NoneType")
 |bl (x:Bool):TyOf K H (.bl x) (.type "bool")
 |int (i:Int):TyOf K H (.int i) (.type "int")
 |str (x:Str):TyOf K H (.str x) (.type "str")
 |flt (x:UInt64):TyOf K H (.flt x) (.type "float")
 |lst {a:Addr}{xs:List V}(e:H a=some (.lst xs)):TyOf K H (.ref a) (.type "list")
 |frz {a:Addr}{o:Obj}{xs:List V}(e:H a=some (.frz o (.lst xs))):TyOf K H (.ref a) (.type "list")
 |tup {a:Addr}{xs:List V}(e:H a=some (.tup xs)):TyOf K H (.ref a) (.type "tuple")
 |dK {a:Addr}{kvs:List (Key×V)}(e:H a=some (.dK kvs)):TyOf K H (.ref a) (.type "dict")
 |dT {a:Addr}{kvs:List (List Key×V)}(e:H a=some (.dT kvs)):TyOf K H (.ref a) (.type "dict")
 |ins {a C dx:Addr}{fs:List (Str×V)}(e:H a=some (.ins C dx fs)) (cl:Cls K C) (ha:findIn K (.ref C) "__class__" = some (some (.builtin "object.__class__")))
  (hn:PySem.W.specialIn K (.builtin "object.__class__") "__get__" = some (some (.builtin "getset_descriptor.__get__"))) (htk:PySem.W.takesIn K (.builtin "object.__class__")=some true)
  (hm:PySem.W.mroIn K C (.type "object")=some true):TyOf K H (.ref a) (.ref C)
end
structure Room (k:Nat) (A:Around):Prop where
 hd:A.handled=none
 dp:A.depth+3*k+5<VV
 un:A.units+16*k+200<cLine
theorem Room.deeper{k:Nat}{A:Around}(r:Room (k+1) A)(env:Env):Room k (A.deeper env):=
 ⟨r.hd,by have:=r.dp;show A.depth+1+3*k+5<_;omega,by have:=r.un;show A.units+3+16*k+200<_;omega⟩
theorem Room.depth{k:Nat}{A:Around}(r:Room k A):A.depth<VV:=by have:=r.dp;omega
theorem Room.units{k:Nat}{A:Around}(r:Room k A):A.units+64<cLine:=by have:=r.un;omega
def tNil:TA:=λ_ H Q=>Q [] H
def tCons(ta:TE)(tr:TA):TA:=λσ H Q=>ta σ H λx H1=>tr σ H1 λxs H2=>Q (x::xs) H2
section
variable{X:Cx}{e:Expr}{es:List Expr}{te:TE}{t:TA}{pos:Pos}
theorem Zm1:PA X [] tNil:=λ_ _ _ _ H Q I h=>Calls.spliced_nil ⟨[],H,I,.nil,h⟩
theorem Zje(ha:PE X e te)(hr:PA X es t)(hs:W7 (e::es) X.env=(false,eval e X.env)::W7 es X.env:=by rfl):PA X (e::es) (tCons te t):=by
 intro pos pins s σ H Q I h
 rw[hs]
 show wpAny _ _ (Ycv ((false,eval e X.env)::backTo pos (W7 es X.env))) _ _ s
 refine Yaw (thn (ha pins s σ H _ I h) λu s1 ⟨x,H1,I1,r1,q1⟩=>?_)
 exact thn (hr pos pins s1 σ H1 _ I1 q1) λus s2 ⟨xs,H2,I2,r2,q2⟩=>⟨x::xs,H2,I2,.cons r1 r2,q2⟩
def tTup(t:TA):TE:=λσ H Q=>t σ H λxs H1=>xs.length<=YM/\∀p,H1 p=none->Q (.ref p) (upd H1 p (.tup xs))
def tLst(t:TA):TE:=λσ H Q=>t σ H λxs H1=>xs.length<=YM/\∀p,H1 p=none->Q (.ref p) (upd H1 p (.lst xs))
theorem pe_tup{x1}(h:PA X es t):PE X (.Tuple es x1 pos) (tTup t):=by
 intro pins s σ H Q I hq
 refine wpAny_Tuple_spliced (thn (h pos pins s σ H _ I hq) λus s1 ⟨xs,H1,I1,r,z,q⟩=>⟨by rw[<-r.length];exact z,?_⟩)
 have hf:H1 s1.heap.objs.size=none:=I1.hok.fresh (Yj _)
 refine⟨.ref s1.heap.objs.size,upd H1 s1.heap.objs.size (.tup xs),I1.laid (t':=s1.toks) (λb u e=>Ye _ e) (Yj _) ?_,rfl,q _ hf⟩
 exact⟨z,us,r,⟨_,Yt _ rfl,rfl,⟨_,rfl⟩,rfl⟩⟩
theorem pe_lst(h:PA X es t):PE X (.List es pos) (tLst t):=by
 intro pins s σ H Q I hq
 refine wpAny_List_spliced (thn (h pos pins s σ H _ I hq) λus s1 ⟨xs,H1,I1,r,z,q⟩=>⟨by rw[<-r.length];exact z,?_⟩)
 have hf:H1 s1.heap.objs.size=none:=I1.hok.fresh (Yj _)
 refine⟨.ref s1.heap.objs.size,upd H1 s1.heap.objs.size (.lst xs),I1.laid (t':=s1.toks) (λb u e=>Ye _ e) (Yj _) ?_,rfl,q _ hf⟩
 exact⟨z,us,0,r,Yt _ rfl⟩
end
abbrev Sp:=List V->Hp->VK->XK->Prop
abbrev CXT:=List Env->Hp->Shared->XK->Value->Shared->Prop
structure Env0 (P:YK) (w:World) (K:Frag) (mg:Str->Option Value) (base:Heap) (A:Around) (outer:List Env) (s:Shared) (H:Hp):Prop where
 frames:A.frames=some outer
 mod:Mod K mg base
 bs:∀b o,base.get? b=some o->s.heap.get? b=some o/\H b=none
 bsz:base.objs.size<=s.heap.objs.size
 funs:s.heap.FunFrames base outer
 frf:∀b∈frs outer,H b=none
 hok:HOk P w H s.heap
 bare:YaS s.gens
def CE(outer:List Env)(P:YK)(w:World)(H:Hp)(s:Shared)(Q:VK)(u:Value)(s':Shared):Prop:=
 ∃v H',s'.os=s.os/\YaS s'.gens/\Un (frs outer) [] H H' s.heap s'.heap/\HOk P w H' s'.heap/\RelV v u/\Q v H'
def CR(CX:CXT)(outer:List Env)(P:YK)(w:World)(H:Hp)(s:Shared)(Q:VK)(E:XK)(r:Result)(s':Shared):Prop:=
 match r with
 |.ok (.ret u)=>CE outer P w H s Q u s'
 |.ok _=>False
 |.error e=>CX outer H s E e s'
structure FnOk (P:YK) (w:World) (K:Frag) (mg:Str->Option Value) (base:Heap) (CX:CXT) (k:Nat) (f:Addr) (fd:Uj) (ps:List Str) (sp:Sp):Prop where
 len:∀vs H Q E,sp vs H Q E->vs.length=ps.length
 run:∀(A:Around) (outer:List Env) (s:Shared) (H:Hp) (args:Args) (us:List Value) (vs:List V) (Q:VK) (E:XK),Room k A->Env0 P w K mg base A outer s H->YbI s fd args (ps.zip us)->Vals vs us->sp vs H Q E ->
  Vd (model P w) A (.call (.ref f) args) (CR CX outer P w H s Q E) s
section
variable{X:Cx}{pins:List (Addr×Obj)}{σ:St}{H:Hp}{s s':Shared}
theorem Inv.env0(I:Inv X pins σ H s):Env0 X.prog X.w X.K X.mg X.base X.A X.stack s H:=
 ⟨I.ok.frames,I.ok.mod,I.bs,YJ I.ok.bsz I.sz,I.stack,I.stkFree,I.hok,I.bare⟩
theorem Inv.after{Q:VK}{u:Value}(I:Inv X pins σ H s)(h:CE X.stack X.prog X.w H s Q u s'):EP X pins σ Q u s':=by
 obtain⟨v,H',os,bare,un,hok,r,q⟩:=h
 obtain⟨hh,g,d,t,os'⟩:=s'
 obtain rfl:os'=s.os:=os
 exact⟨v,H',I.call (h':=hh) (g':=g) (d':=d) (t':=t) (ch:=[]) un hok bare (λb z=>absurd z (by simp)),r,q⟩
end
def tCall(sp:Sp)(dvs:List V)(E:XK)(t:TA):TE:=λσ H Q=>t σ H λvs H1=>sp (vs++dvs) H1 Q E
def Binds(K:Frag)(fd:Uj)(ps:List Str)(ds:List Value):Prop:=
 ∀(s:Shared) (us:List Value),K.In s.heap->(us++ds).length=ps.length->YbI s fd ⟨us,[]⟩ (ps.zip (us++ds))
theorem Binds.all{K:Frag}{fd:Uj}{ps:List Str}(h:∀us:List Value,us.length=ps.length->U6 fd ⟨us,[]⟩=pure (ps.zip us)):Binds K fd ps []:=λs us _ hl=>by
 rw[Ua]at hl ⊢
 exact .of_eq (h us hl)
def Zk0(CX:CXT)(X:Cx)(E:XK):Prop:=∀(pins:List (Addr×Obj)) (σ:St) (H:Hp) (s:Shared) (e:Value) (s':Shared),Inv X pins σ H s->CX X.stack H s E e s'->X.xe e s'
section
variable{X:Cx}{CX:CXT}{k:Nat}{f C:Addr}{fd:Uj}{ps:List Str}{sp:Sp}{dvs:List V}{ds:List Value}{E:XK}{x m:Str}{p pos apos:Pos}{e o:Expr}{es:List Expr}{ta:TE}{t:TA}
theorem run_fn{pins:List (Addr×Obj)}{σ:St}{H:Hp}{s:Shared}{Q:VK}{us:List Value}{vs:List V}(F:FnOk X.prog X.w X.K X.mg X.base CX k f fd ps sp)(hr:Room k X.A)(hb:Binds X.K fd ps ds)(hd:Vals dvs ds)(hx:Zk0 CX X E)(I:Inv X pins σ H s)(r:Vals vs us)(h:sp (vs++dvs) H Q E):wpAny (model X.prog X.w) X.A (call (.ref f) us) (EP X pins σ Q) X.xe s:=by
 have r2:Vals (vs++dvs) (us++ds):=r.append hd
 have hl:(us++ds).length=ps.length:=by rw[<-r2.length];exact F.len _ _ _ _ h
 refine wpAny_call (V2 (F.run X.A X.stack s H ⟨us,[]⟩ (us++ds) (vs++dvs) Q E hr I.env0 (hb s us I.kIn hl) r2 h) λr s' hq=>?_)
 cases r with
 |error e=>exact hx pins σ H s e s' I hq
 |ok fl =>
  cases fl with
  |ret u=>exact I.after hq
  |next=>exact Vn hq
  |brk=>exact Vn hq
  |cont=>exact Vn hq
theorem Zon(F:FnOk X.prog X.w X.K X.mg X.base CX k f fd ps sp)(hr:Room k X.A)(hg:Gl X x)(hm:X.mg x=some (.ref f))(hk:keepIn X.K (.ref f)=true)(hb:Binds X.K fd ps ds)(hd:Vals dvs ds)(hx:Zk0 CX X E)(ha:PA X (e::es) t)(hdb:(x==("__debug__" : Str))=false:=by decide)(he:W7 (e::es) X.env=(false,eval e X.env)::W7 es X.env:=by rfl)(hpl:(backTo pos (W7 es X.env)).any (·.1)=false:=by rfl):
  PE X (.Call (.Name x p) (e::es) [] pos) (tCall sp dvs E t):=by
 intro pins s σ H Q I h
 refine Ge (ZjM I hg hm ?_ hdb)
 refine PySem.W.callWith_K (h₀:=X.base) I.ok.mod.kin hk (thn (ha pos pins s σ H _ I h) λus s1 ⟨vs,H1,I1,r,q⟩=>⟨I1.kIn,?_⟩) he hpl
 exact run_fn F hr hb hd hx I1 r q
structure Mk (K:Frag) (C f:Addr):Prop where
 makes:PySem.W.makesIn K C=true
 init:findIn K (.ref C) "__init__" = some (some (.ref f))
 fn:PySem.W.isFn K (.ref f)=true
 kp:keepIn K (.ref C)=true
end
section
variable{X:Cx}{CX:CXT}{k:Nat}{f C:Addr}{fd:Uj}{ps ks:List Str}{sp:Sp}{E:XK}{x m:Str}{p pos apos kpos:Pos}{e o:Expr}{es:List Expr}{kws:List Yck}{te ta:TE}{t tk:TA}{nm:Option Str}
structure KBinds (K:Frag) (fd:Uj) (ps ks:List Str) (g:List Value->List Value->List Value) (gV:List V->List V->List V):Prop where
 to:∀(s:Shared) (us ws:List Value),K.In s.heap->(g us ws).length=ps.length->YbI s fd ⟨us,ks.zip ws⟩ (ps.zip (g us ws))
 rel:∀{vs:List V}{us:List Value}{zs:List V}{ws:List Value},Vals vs us->Vals zs ws->Vals (gV vs zs) (g us ws)
variable{g:List Value->List Value->List Value}{gV:List V->List V->List V}
end
structure FnScope (N P:List Str) (sc:Scope):Prop where
 kind:sc.kind=.function
 co:sc.isCoroutine=false
 gen:sc.isGenerator=false
 nd:N.Nodup
 pre:N.take P.length=P
 par:∀x∈P,sc.names.lookup x=some .local∨sc.names.lookup x=some .cell
 nofree:∀y∈sc.names,y.2≠.free
theorem Ze1{kindOf:Str->Option G8}{x:Str}:∀{binds:List (Str×Value)}{m:Str->Option Value},(∀v,(x,v)∉binds)->bindL kindOf binds m x=m x
 |[],_,_=>rfl
 |(n,v)::r,m,h=>by
  unfold bindL
  rw[Ze1 λw hw=>h w (Yg _ hw)]
  split
  ·have:x≠n:=by rintro rfl;exact h v Yp
   simp[this]
  ·rfl
theorem Ze3{kindOf:Str->Option G8}{x:Str}:∀{binds:List (Str×Value)}{m:Str->Option Value},(∀v,(x,v)∉binds)->bindC kindOf binds m x=m x
 |[],_,_=>rfl
 |(n,v)::r,m,h=>by
  unfold bindC
  rw[Ze3 λw hw=>h w (Yg _ hw)]
  split
  ·rfl
  ·have:x≠n:=by rintro rfl;exact h v Yp
   simp[this]
theorem Ze2{kindOf:Str->Option G8}{x:Str}{v:Value}:∀{P:List Str}{vs:List Value}{i:Nat}{m:Str->Option Value},P.Nodup->P[i]?=some x->vs[i]?=some v->kindOf x=some .local ->
  bindL kindOf (P.zip vs) m x=some v
 |[],_,_,_,_,h,_,_=>by simp at h
 |_::_,[],_,_,_,_,h,_=>by simp at h
 |p::P,w::vs,0,m,nd,h1,h2,hk=>by
  simp at h1 h2;subst h1;subst h2
  show bindL kindOf ((p,w)::P.zip vs) m p=_
  unfold bindL
  rw[Ze1 λv hv=>(Wb.mp nd).1 (Vy hv).1,if_pos hk]
  simp
 |p::P,w::vs,i+1,m,nd,h1,h2,hk=>by
  show bindL kindOf ((p,w)::P.zip vs) m x=_
  unfold bindL
  exact Ze2 (i:=i) (Wb.mp nd).2 (by simpa using h1) (by simpa using h2) hk
theorem Ze4{kindOf:Str->Option G8}{x:Str}{v:Value}:∀{P:List Str}{vs:List Value}{i:Nat}{m:Str->Option Value},P.Nodup->P[i]?=some x->vs[i]?=some v->kindOf x≠some .local ->
  bindC kindOf (P.zip vs) m x=some v
 |[],_,_,_,_,h,_,_=>by simp at h
 |_::_,[],_,_,_,_,h,_=>by simp at h
 |p::P,w::vs,0,m,nd,h1,h2,hk=>by
  simp at h1 h2;subst h1;subst h2
  show bindC kindOf ((p,w)::P.zip vs) m p=_
  unfold bindC
  rw[Ze3 λv hv=>(Wb.mp nd).1 (Vy hv).1,if_neg hk]
  simp
 |p::P,w::vs,i+1,m,nd,h1,h2,hk=>by
  show bindC kindOf ((p,w)::P.zip vs) m x=_
  unfold bindC
  exact Ze4 (i:=i) (Wb.mp nd).2 (by simpa using h1) (by simpa using h2) hk
def start(N:List Str)(vs:List V):St:=vs.map some++Yy (N.length-vs.length) none
def cxOf(CX:CXT)(P:YK)(w:World)(K:Frag)(mg:Str->Option Value)(base:Heap)(N:List Str)(qual:Str)(scope:Scope)(f:Addr)(cd:Value)(A:Around)(outer:List Env)(s:Shared)(H:Hp)(E:XK):Cx where
 prog:=P
 w:=w
 K:=K
 mg:=mg
 base:=base
 A:=A.deeper (envOfC qual scope s.heap.objs.size f cd)
 N:=N
 s₀:=s
 H₀:=H
 env:=envOfC qual scope s.heap.objs.size f cd
 outer:=outer
 stack:=envOfC qual scope s.heap.objs.size f cd::outer
 ex:=[]
 calm:=true
 fn:=λ_=>true
 pn:=[]
 xe:=λe s'=>wpAny (model P w) (A.deeper (envOfC qual scope s.heap.objs.size f cd)) (leaving (envOfC qual scope s.heap.objs.size f cd) e) (λ_ s''=>CX outer H s E e s'') (λe' s''=>CX outer H s E e' s'') s'
theorem ZgJ{sc:Scope}{n:Nat}{x:Str}(h:sc.names.lookup x=some .cell):∃c,(Vz n sc.names []).lookup x=some c:=by
 have q:=Ybo sc.names n [] (.inl h)
 exact Option.isSome_iff_exists.mp q
theorem ZjY{CX:CXT}{P:YK}{w:World}{K:Frag}{mg:Str->Option Value}{base:Heap}{N ps:List Str}{qual:Str}{scope:Scope}{f:Addr}{cd:Value}{A:Around}{outer:List Env}{s s1:Shared}{H:Hp}{E:XK}{us:List Value}{vs:List V}(S:FnScope N ps scope)(hd:A.handled=none)(e0:Env0 P w K mg base A outer s H)(hl:vs.length=ps.length)(r:Vals vs us)(x:InCallC s s.heap.objs.size (bindL (envOfC qual scope s.heap.objs.size f cd).kindOf (ps.zip us) λ_=>none) (Vz (s.heap.objs.size+1) scope.names []) (bindC (envOfC qual scope s.heap.objs.size f cd).kindOf (ps.zip us) λ_=>none) s1):
  Inv (cxOf CX P w K mg base N qual scope f cd A outer s H E) [] (start N vs) H s1:=by
 have hpl:ps.length<=N.length:=by have:=congrArg VN S.pre;rw[WP]at this;omega
 obtain⟨h1,tk,rfl,hk⟩:=x.done
 have noA:∀b:Addr,b∉(cxOf CX P w K mg base N qual scope f cd A outer s H E).ex:=λb z=>absurd (show b∈([]:List Addr)from z) (by simp)
 refine⟨⟨e0.mod,S.kind,rfl,rfl,Yj _,λy z c h1 h2=>?_,λy hy=>?_,λy c _ h=>?_,λ_=>hd,Around.frames_deeper e0.frames,.inr ⟨rfl,rfl⟩,λb z=>absurd z (noA b),e0.bs,e0.bsz,λb _ _=>noA b,λb z=>absurd z (noA b),e0.funs,e0.frf⟩,
  rfl,e0.bare,Un.kept hk,⟨_,x.toInCall.ns,λi y v h1 h2 h3=>?_⟩,λy c h=>⟨_,x.cell y c h⟩,e0.hok.fresh (Yj _),λy c h=>?_,λp hp=>absurd (show p∈([]:List (Addr×Obj))from hp) (by simp),e0.hok.kept hk,?_⟩
 ·exact name_of_addr x.apart (WX h1) (WX h2)
 ·have hy:scope.names.lookup y=some .cell∨scope.names.lookup y=some .free:=hy
  rcases hy with hy|hy
  ·exact ZgJ hy
  ·exact absurd rfl (S.nofree _ (WX hy))
 ·exact Gd (x.above y c (WX h))
 ·have hi:i<vs.length:=by
   unfold start at h2
   by_cases hi:i<vs.length
   ·exact hi
   ·rw[YS (by simpa using hi)]at h2
    rw[Uz]at h2
    split at h2<;>cases h2
  have ha:vs[i]?=some v:=by
   unfold start at h2
   rw[YL (by simpa using hi),YZ]at h2
   cases e:vs[i]? with
   |none=>rw[e]at h2;cases h2
   |some a=>rw[e]at h2;cases h2;rfl
  obtain⟨u,hu,rv⟩:=r.get ha
  have hp:ps[i]?=some y:=by
   rw[<-S.pre,List.getElem?_take_of_lt (by omega)];exact h1
  have ndP:ps.Nodup:=by rw[<-S.pre];exact S.nd.sublist (List.take_sublist _ _)
  refine⟨u,rv,?_⟩
  rcases S.par y (Wx hp)with k|k
  ·exact .inl ⟨k,Ze2 ndP hp hu k⟩
  ·obtain⟨c,e⟩:=ZgJ (n:=s.heap.objs.size+1) k
   refine .inr ⟨.inl k,c,e,?_⟩
   have q:=x.cell y c e
   rw[Ze4 ndP hp hu (by show scope.names.lookup y≠_;rw[k];decide)]at q
   exact q
 ·exact e0.hok.fresh (Gd (x.above y c (WX h)))
 ·unfold start
  show _=N.length
  rw[Yr,Yc,Gf]
  omega
theorem fn_of{CX:CXT}{P:YK}{w:World}{K:Frag}{mg:Str->Option Value}{base:Heap}{k:Nat}{f:Addr}{name qual:Str}{params:Ybw}{body:List Stmt}{scope:Scope}{dV kV doc pm cdv ct oc:Value}{an od:Option Addr}{osl:Array (Option Value)}{N ps:List Str}{sp:Sp}(lk:K.lookup f=some ⟨oc,od,.func (fnOf name qual params body scope dV kV doc pm an cdv ct),osl⟩)(hcd:codeIn K cdv qual=true)(S:FnScope N ps scope)(len:∀vs H Q E,sp vs H Q E->vs.length=ps.length)(hbody:∀(A:Around) (outer:List Env) (s:Shared) (H:Hp) (vs:List V) (Q:VK) (E:XK),Room (k+1) A->HOk P w H s.heap->sp vs H Q E ->
   ∃t,PSs (cxOf CX P w K mg base N qual scope f cdv A outer s H E) body t/\t { nx:=λ_ H'=>Q .non H',rt:=Q } (start N vs) H):
  FnOk P w K mg base CX (k+1) f (fnOf name qual params body scope dV kV doc pm an cdv ct) ps sp:=by
 refine⟨len,λA outer s H args us vs Q E hr e0 hb r hsp=>?_⟩
 have hl:=len _ _ _ _ hsp
 have KX:K.In s.heap:=e0.mod.kin.keeps λb o e=>(e0.bs b o e).1
 have lim:s.heap.NoLimit:=e0.mod.nolimit.keeps λb o e=>(e0.bs b o e).1
 have hkind:∀y∈ps.zip us,scope.names.lookup y.1=some .local∨(scope.names.lookup y.1=some .cell/\((Vz (s.heap.objs.size+1) scope.names []).lookup y.1).isSome=true):=λ⟨n,v⟩ hy=>by
  rcases S.par n (Vy hy).1 with q|q
  ·exact .inl q
  ·exact .inr ⟨q,Ybo _ _ _ (.inl q)⟩
 refine codeAny_call_function hr.depth (KX _ _ lk) rfl S.co S.gen rfl (PySem.W.codeRec_of KX hcd) (hb _ _ _ _ ?_)
 refine wpAny_newFunctionEnv_cells S.kind hkind λenv he s1 x=>?_
 subst he
 refine⟨lim.keeps x.toInCall.keep,codeAny_func ?_⟩
 obtain⟨t,ht,hq⟩:=hbody A outer s H vs Q E hr e0.hok hsp
 have I:Inv (cxOf CX P w K mg base N qual scope f cdv A outer s H E) [] (start N vs) H s1:=ZjY S hr.hd e0 hl r x
 refine W2 (ht [] s1 (start N vs) H _ I hq) (λfl s' hs=>?_) λe s' hs=>hs
 have fin:∀{σ':St}{H':Hp}{v:V}{u:Value},Inv (cxOf CX P w K mg base N qual scope f cdv A outer s H E) [] σ' H' s'->RelV v u->Q v H'->CE outer P w H s Q u s':=
  λ{σ' H' v u} J rv q=>⟨v,H',J.os,J.bare,J.base,J.hok,rv,q⟩
 cases fl with
 |ret u =>
  obtain⟨v,σ',H',J,rv,q⟩:=hs
  exact fin J rv q
 |next =>
  obtain⟨σ',H',J,q⟩:=hs
  exact fin (v:=V.non) (u:=Gr) J rfl q
 |brk =>
  obtain⟨_,_,_,q⟩:=hs
  exact Vn q
 |cont =>
  obtain⟨_,_,_,q⟩:=hs
  exact Vn q
section
variable{X:Cx}{x:Str}{p pos:Pos}{e:Expr}{es:List Expr}{t:TA}{id T:String}{r:List V->Hp->VK->Prop}
def tCB(r:List V->Hp->VK->Prop)(t:TA):TE:=λσ H Q=>t σ H λvs H1=>r vs H1 Q
theorem ZlQ(hc:Xm X (.builtin id) r)(hg:Gl X x)(hm:X.mg x=none)(hv:Gb x=some (.builtin id))(ha:PA X (e::es) t)(hn:x≠"__name__":=by decide)(hdb:(x==("__debug__" : Str))=false:=by decide)(he:W7 (e::es) X.env=(false,eval e X.env)::W7 es X.env:=by rfl)(hpl:(backTo pos (W7 es X.env)).any (·.1)=false:=by rfl):PE X (.Call (.Name x p) (e::es) [] pos) (tCB r t):=by
 intro pins s σ H Q I h
 refine Ge (Zb5 I hg hm hv ?_ hn hdb)
 exact Gx (thn (ha pos pins s σ H _ I h) λus s1 ⟨vs,H1,I1,r1,q1⟩=>hc pins s1 σ H1 vs us Q I1 r1 q1) he hpl
theorem Zja(hc:Xm X (.type T) r)(hg:Gl X x)(hm:X.mg x=none)(hv:Gb x=some (.type T))(ha:PA X (e::es) t)(hn:x≠"__name__":=by decide)(hdb:(x==("__debug__" : Str))=false:=by decide)(he:W7 (e::es) X.env=(false,eval e X.env)::W7 es X.env:=by rfl)(hpl:(backTo pos (W7 es X.env)).any (·.1)=false:=by rfl):PE X (.Call (.Name x p) (e::es) [] pos) (tCB r t):=by
 intro pins s σ H Q I h
 refine Ge (Zb5 I hg hm hv ?_ hn hdb)
 exact G3 (thn (ha pos pins s σ H _ I h) λus s1 ⟨vs,H1,I1,r1,q1⟩=>hc pins s1 σ H1 vs us Q I1 r1 q1) he hpl
end
end L2
namespace HT
open PySem PyProof.Rows
section
variable{prog:YK}{w:World}{A:Around}{E:Value->Shared->Prop}{s:Shared}
theorem cat_tup{t b:Addr}{vs ws:List Value}{Q:Value->Shared->Prop}(ht:IsTup s.heap t vs.toArray)(hb:IsTup s.heap b ws.toArray)(hv:vs≠[])(h1:ws=[]->Q (.ref t) s)(h2:ws≠[]->Q (.ref s.heap.objs.size) { s with heap:=s.heap.push { cls:=.type "tuple",data:=.seq (vs++ws).toArray } })(hsz:vs.length+ws.length<=YM):wpAny (model prog w) A (W9 .Add (.ref t) (.ref b)) Q E s:=by
 obtain⟨⟨cls,dd,data,sl⟩,ho,hc,n,hd⟩:=id ht
 obtain⟨⟨cls2,dd2,data2,sl2⟩,ho2,hc2,n2,hd2⟩:=id hb
 simp only at hc hd hc2 hd2
 subst hc hd hc2 hd2
 have e:vs.toArray++ws.toArray=(vs++ws).toArray:=by simp
 by_cases hw:ws=[]
 ·exact YbP ⟨_,ho,rfl⟩ ⟨_,ho2,rfl⟩ Ya4 Ybx VL VB (Vo _ _)
   (tuple_addW1 t b vs.toArray ws.toArray n n2 dd dd2 sl sl2 (by simpa using hv) (by simp[hw])) ⟨ho,ho2,h1 hw⟩
 ·refine YbP ⟨_,ho,rfl⟩ ⟨_,ho2,rfl⟩ Ya4 Ybx VL VB (Vo _ _)
   (tuple_addW2 t b vs.toArray ws.toArray n n2 dd dd2 sl sl2 (by simpa using hv) (by simpa using hw) (by rw[Yk,Yk];exact hsz)) ⟨ho,ho2,?_⟩
  rw[e]
  exact h2 hw
def sIx(n d:Nat):Option Int->Nat
 |none=>d
 |some v=>if v<0 then(v+(n:Int)).toNat else min v.toNat n
theorem sIx_le(n d:Nat)(hd:d<=n)(o:Option Int):sIx n d o<=n:=by
 cases o with
 |none=>exact hd
 |some v =>
  show(if v<0 then(v+(n:Int)).toNat else min v.toNat n)<=n
  by_cases hv:v<0
  ·rw[if_pos hv];omega
  ·rw[if_neg hv];exact Ya5 _ _
theorem ZkF(v:Int)(n d:Nat):(if v<0 then max (v+(n:Int)) 0 else min v (n:Int))=((sIx n d (some v):Nat):Int):=by
 show(if v<0 then max (v+(n:Int)) 0 else min v (n:Int))=(((if v<0 then(v+(n:Int)).toNat else min v.toNat n):Nat):Int)
 by_cases hv:v<0
 ·simp only[if_pos hv];omega
 ·simp only[if_neg hv];omega
theorem Zh3(lo hi:Option Int)(n:Nat):Vf lo hi 1 (n:Int)=(((sIx n 0 lo:Nat):Int),((sIx n n hi:Nat):Int)):=by
 have h1:¬((1:Int)<0):=by omega
 unfold Vf
 simp only[h1,if_false]
 refine Yb3 ?_ ?_
 ·cases lo with
  |none=>rfl
  |some v=>exact ZkF v n 0
 ·cases hi with
  |none=>rfl
  |some v=>exact ZkF v n n
theorem Zhi(i j:Nat):Gm (i:Int) (j:Int) 1=j-i:=by
 unfold Gm
 have h1:(1:Int)>0:=by omega
 simp only[h1,if_true,Int.ediv_one]
 split<;>omega
theorem ZcO{v:Value}{o:Option Int}{Q:Option Int->Shared->Prop}(p:IsPart v o)(h:Q o s):wpAny (model prog w) A (Builtin.Slice.slicePartIndex v) Q E s:=by
 cases p with
 |none=>exact slicePart_none h
 |int i t=>exact slicePart_int h
theorem sliceApplied_gen{sl:Addr}{vl vu:Value}{lo hi:Option Int}{n:Nat}{Q:Int×Int×Nat->Shared->Prop}(hs:s.heap.IsSliceOf sl vl vu .none)(pl:IsPart vl lo)(pu:IsPart vu hi)(h:Q (((sIx n 0 lo:Nat):Int),1,sIx n n hi-sIx n 0 lo) s):wpAny (model prog w) A (Builtin.Slice.sliceApplied (.ref sl) (pure (n:Int))) Q E s:=by
 obtain⟨os,hos,hcs,hds⟩:=id hs
 unfold Builtin.Slice.sliceApplied Builtin.Slice.sliceFields
 refine Yb (Yb (Yan hos hds (x:=vl) rfl (Yb (Yan hos hds (x:=vu) rfl (Yb (Yan hos hds (x:=.none) rfl (Yd ?_)))))))
 refine Yb (slicePart_none ?_)
 show wpAny _ _ (if((1:Int)==0)=true then _ else _) _ _ s
 rw[if_neg (by decide)]
 refine Yb (ZcO pl (Yb (ZcO pu (Yb (Yd ?_)))))
 show wpAny _ _ (match Vf lo hi 1 (n:Int)with|(lo,hi)=>pure (lo,(1:Int),Gm lo hi 1)) _ _ s
 rw[Zh3 lo hi n]
 show wpAny _ _ (pure (((sIx n 0 lo:Nat):Int),(1:Int),Gm ((sIx n 0 lo:Nat):Int) ((sIx n n hi:Nat):Int) 1)) _ _ s
 rw[Zhi]
 exact Yd h
theorem ZlI(xs:Array Value)(i k:Nat):((YF k).filterMap λ(m:Nat)=>xs[((i:Int)+(m:Int)*1).toNat]?).toArray=((xs.toList.drop i).take k).toArray:=by
 have e:(λ(m:Nat)=>xs[((i:Int)+(m:Int)*1).toNat]?)=λm=>xs[i+m]?:=by
  funext m
  have:((i:Int)+(m:Int)*1).toNat=i+m:=by omega
  rw[this]
 rw[e]
 have:=pick_run xs i k
 rw[Yax]at this
 have e2:((λx=>xs[x]?) ∘ λx=>i+x)=λm=>xs[i+m]?:=rfl
 rw[e2]at this
 rw[this]
theorem getItem_tuple_cut{t sl:Addr}{items:Array Value}{vl vu:Value}{lo hi:Option Int}{Q:Value->Shared->Prop}(ht:IsTup s.heap t items)(hs:s.heap.IsSliceOf sl vl vu .none)(pl:IsPart vl lo)(pu:IsPart vu hi)(hw:¬(sIx items.size 0 lo=0/\sIx items.size items.size hi=items.size))(h:Q (.ref s.heap.objs.size) { s with heap:=s.heap.push { cls:=.type "tuple",data:=.seq ((items.toList.drop (sIx items.size 0 lo)).take (sIx items.size items.size hi-sIx items.size 0 lo)).toArray } })(hsz:items.size<=YM):wpAny (model prog w) A (Yao (.ref t) (.ref sl)) Q E s:=by
 have htake:sizeOk (.seq ((items.toList.drop (sIx items.size 0 lo)).take (sIx items.size items.size hi-sIx items.size 0 lo)).toArray):=by
  show((items.toList.drop (sIx items.size 0 lo)).take (sIx items.size items.size hi-sIx items.size 0 lo)).toArray.size<=YM
  rw[Yk,WP,V6,YQ]
  omega
 have hj:sIx items.size items.size hi<=items.size:=sIx_le _ _ (Yj _) hi
 obtain⟨os,hos,hcs,hds⟩:=id hs
 have hTs:s.TypeIs (.ref sl) "slice":=⟨os,hos,hcs⟩
 unfold Yao
 try with_reducible refine Wj ?_
 first|refine Yb (Yd ?_)|skip
 refine Yb (wpAny_sequenceKey ht.typeIs (by decide) ?_)
 refine Yb (Ub (name:=Gg "__getitem__") ht.typeIs Ul
  (WQ Ul ht.typeIs entry_tuple_getitem ?_ (args_tuple_getitem _ _)))
 show wpAny _ _ (Builtin.Tuple.tupleItemsOf (.ref t) >>= _) _ _ s
 refine Yb (tupleItemsOf_ ht ?_)
 refine Yb (Yay hTs ?_)
 rw[if_pos (by decide)]
 refine Yb (sliceApplied_gen hs pl pu ?_)
 have hno:¬((((sIx items.size 0 lo:Nat):Int)==0&&(1:Int)==1&&(sIx items.size items.size hi-sIx items.size 0 lo)==items.size)=true):=by
  intro q
  rw[Yo,Yo]at q
  have q1:((sIx items.size 0 lo:Nat):Int)=0:=eq_of_beq q.1.1
  have q2:sIx items.size items.size hi-sIx items.size 0 lo=items.size:=eq_of_beq q.2
  exact hw ⟨by omega,by omega⟩
 show wpAny _ _ (if(((sIx items.size 0 lo:Nat):Int)==0&&(1:Int)==1&&(sIx items.size items.size hi-sIx items.size 0 lo)==items.size)=true then _ else _) _ _ s
 rw[if_neg hno,ZlI]
 first
  |exact Yb (m:=Gu _) (Wv (Yd ⟨_,rfl,Yd h⟩) htake)
  |exact Yb (m:=Gu _) (Wv (Yb (Yd (Yd ⟨_,rfl,Yd h⟩))) htake)
  |exact Yb (Yb (m:=Gu _) (Wv (Yd (Yd ⟨_,rfl,Yd h⟩)) htake))
  |exact Yb (Yb (m:=Gu _) (Wv (Yd ⟨_,rfl,Yd h⟩) htake))
end
end HT
namespace L2
open PySem PySem.Spec PyProof.Rows
abbrev TO:=St->Hp->(Option Int->Hp->Prop)->Prop
def PO(X:Cx)(e:Option Expr)(t:TO):Prop:=
 ∀(pins:List (Addr×Obj)) (s:Shared) (σ:St) (H:Hp) (Q:Option Int->Hp->Prop),Inv X pins σ H s->t σ H Q ->
  wpAny (model X.prog X.w) X.A (evalPart e X.env) (λu s'=>∃o H',Inv X pins σ H' s'/\IsPart u o/\Q o H') X.xe s
def tPart(t:TE):TO:=λσ H Q=>t σ H λx H1=>∃i,x=.int i/\Q (some i) H1
theorem intsAre_of{ns:List Int}:∀{us:List Value},Vals (ns.map V.int) us->U3 us ns:=by
 induction ns with
 |nil=>intro us r;rw[Vp]at r;cases r;exact .nil
 |cons n ns ih =>
  intro us r
  rw[Yq]at r
  cases r with
  |cons r1 r2 =>
   obtain⟨t,e⟩:=r1
   subst e
   exact .cons n t (ih r2)
section
variable{X:Cx}{e:Expr}{te:TE}{lo hi:Option Expr}{tl th:TO}{pos p2:Pos}
theorem Zn5(h:PE X e te):PO X (some e) (tPart te):=by
 intro pins s σ H Q I hw
 rw[evalPart_some]
 refine thn (h pins s σ H _ I hw) λu s1 ⟨x,H1,I1,r1,q1⟩=>?_
 obtain⟨i,rfl,q⟩:=q1
 obtain⟨t,rfl⟩:=r1
 exact⟨some i,H1,I1,.int i t,q⟩
def SlR(X:Cx)(r:V->Option Int->Option Int->Hp->VK->Prop):Prop:=
 ∀(pins:List (Addr×Obj)) (s:Shared) (σ:St) (H:Hp) (x:V) (v vl vu:Value) (lo hi:Option Int) (sl:Addr) (Q:VK),Inv X pins σ H s->RelV x v->s.heap.IsSliceOf sl vl vu .none->IsPart vl lo->IsPart vu hi->r x lo hi H Q ->
  ∃T id,YbJ (.type T) "__getitem__" = pure (some (.builtin id))/\s.TypeIs v T/\wpAny (model X.prog X.w) X.A (Yao v (.ref sl)) (EP X pins σ Q) X.xe s
def tSl(r:V->Option Int->Option Int->Hp->VK->Prop)(te:TE)(tl th:TO):TE:=λσ H Q=>te σ H λx H1=>tl σ H1 λl H2=>th σ H2 λu H3=>r x l u H3 Q
theorem ZlL{r:V->Option Int->Option Int->Hp->VK->Prop}(hr:SlR X r)(he:PE X e te)(hl:PO X lo tl)(hu:PO X hi th):PE X (.Subscript e (.Slice lo hi none p2) pos) (tSl r te tl th):=by
 intro pins s σ H Q I h
 refine Ycc (thn (he pins s σ H _ I h) λv s1 ⟨x,H1,I1,r1,q1⟩=>?_)
 refine wpAny_Slice (thn (hl pins s1 σ H1 _ I1 q1) λvl s2 ⟨l,H2,I2,pl,q2⟩=>thn (hu pins s2 σ H2 _ I2 q2) λvu s3 ⟨u,H3,I3,pu,q3⟩=>?_)
 rw[evalPart_none]
 refine Yd ?_
 have I4:Inv X pins σ H3 { s3 with heap:=s3.heap.push { cls:=.type "slice",data:=.fields #[vl,vu,.none] } }:=I3.kept (t':=s3.toks) λb ob q=>Ye _ q
 obtain⟨T,id,hT,ht,hg⟩:=hr pins { s3 with heap:=s3.heap.push { cls:=.type "slice",data:=.fields #[vl,vu,.none] } } σ H3 x v vl vu l u s3.heap.objs.size Q I4 r1 (Heap.IsSliceOf.new ..) pl pu q3
 show wpAny (model X.prog X.w) X.A (Yby e (.Slice lo hi none p2) v (.ref s3.heap.objs.size)) (EP X pins σ Q) X.xe { s3 with heap:=s3.heap.push { cls:=.type "slice",data:=.fields #[vl,vu,.none] } }
 exact tail_any (ops:=[.ref s3.heap.objs.size,v]) ht hT hg (by with_unfolding_all rfl)
def cutV(xs:List V)(lo hi:Option Int):List V:=(xs.drop (HT.sIx xs.length 0 lo)).take (HT.sIx xs.length xs.length hi-HT.sIx xs.length 0 lo)
theorem Zci(xs:List V)(lo hi:Option Int):(cutV xs lo hi).length<=xs.length:=by
 unfold cutV
 rw[WP,V6]
 omega
def rSlT(K:Frag):V->Option Int->Option Int->Hp->VK->Prop:=λx lo hi H Q=>∃a xs,x=.ref a/\SqT K H a xs /\
 ¬(HT.sIx xs.length 0 lo=0/\HT.sIx xs.length xs.length hi=xs.length)/\∀p,H p=none->Q (.ref p) (upd H p (.tup (cutV xs lo hi)))
theorem sl_tup:SlR X (rSlT X.K):=by
 intro pins s σ H x v vl vu lo hi sl Q I rx hs pl pu h
 obtain⟨a,xs,rfl,hx,hw,q⟩:=h
 cases rx
 obtain⟨its,r,ht,hz⟩:=I.tuple hx
 have hlen:its.toArray.size=xs.length:=by rw[Yk];exact r.length.symm
 refine⟨"tuple",_,PyProof.Rows.slot_tuple_getitem.lookup,ht.typeIs,?_⟩
 refine HT.getItem_tuple_cut ht hs pl pu (by rw[hlen];exact hw) ?_ (by rw[hlen];exact hz)
 rw[hlen]
 refine⟨.ref s.heap.objs.size,_,I.laid (t':=s.toks) (o:=.tup (cutV xs lo hi)) (λb ob q=>Ye _ q) (Yj _) ?_,rfl,q _ (I.hok.fresh (Yj _))⟩
 exact⟨YJ (Zci xs lo hi) hz,_,(r.drop (HT.sIx xs.length 0 lo)).take (HT.sIx xs.length xs.length hi-HT.sIx xs.length 0 lo),TupP.new _ _⟩
def rCatT(K:Frag):R2:=λx y H Q=>∃a b xs ys,x=.ref a/\y=.ref b/\SqT K H a xs/\SqT K H b ys/\xs≠[]/\xs.length+ys.length<=YM /\
 (ys=[]->Q (.ref a) H)/\(ys≠[]->∀p,H p=none->Q (.ref p) (upd H p (.tup (xs++ys))))
theorem Vals.nil_iff{xs:List V}{us:List Value}(r:Vals xs us):us=[]↔xs=[]:=by
 cases r with
 |nil=>simp
 |cons _ _=>simp
theorem Zox:OpR X (W9 .Add) (rCatT X.K):=by
 intro pins s σ H x y v u Q I rx ry h
 obtain⟨a,b,xs,ys,rfl,rfl,ha,hb,hx,hz,q1,q2⟩:=h
 cases rx
 cases ry
 obtain⟨its,r1,p1,_⟩:=I.tuple ha
 obtain⟨its2,r2,p2,_⟩:=I.tuple hb
 refine HT.cat_tup p1 p2 (λz=>hx (r1.nil_iff.mp z)) (λz=>⟨.ref a,H,I,rfl,q1 (r2.nil_iff.mp z)⟩) (λz=>?_) (by rw[<-r1.length,<-r2.length];exact hz)
 refine⟨.ref s.heap.objs.size,_,I.laid (t':=s.toks) (o:=.tup (xs++ys)) (λb ob q=>Ye _ q) (Yj _) ?_,rfl,q2 (λw=>z (r2.nil_iff.mpr w)) _ (I.hok.fresh (Yj _))⟩
 exact⟨by rw[Yr];exact hz,_,r1.append r2,TupP.new _ _⟩
end
def ixN(n:Nat)(i:Int):Option Nat:=if 0<=i then(if i<n then some i.toNat else none)else if -(n:Int)<=i then some (i+n).toNat else none
def atI{α:Type}(xs:List α)(i:Int):Option α:=(ixN xs.length i).bind λj=>xs[j]?
theorem Zfx{n:Nat}{i:Int}{j:Nat}(h:ixN n i=some j):Ycp i n=some j/\j<n/\-(n:Int)<=i/\i<n:=by
 unfold ixN at h
 by_cases h0:0<=i
 ·rw[if_pos h0]at h
  by_cases h1:i<n
  ·rw[if_pos h1]at h
   have e:i.toNat=j:=YG h
   exact⟨by rw[Yb6 h0 h1,e],by omega,by omega,h1⟩
  ·rw[if_neg h1]at h;cases h
 ·rw[if_neg h0]at h
  by_cases h1:-(n:Int)<=i
  ·rw[if_pos h1]at h
   have e:(i+n).toNat=j:=YG h
   exact⟨by rw[YbQ (by omega) h1,e],by omega,h1,by omega⟩
  ·rw[if_neg h1]at h;cases h
theorem Zf0{α:Type}{xs:List α}{i:Int}{v:α}(h:atI xs i=some v):∃j,Ycp i xs.length=some j/\xs[j]?=some v/\j<xs.length/\-(xs.length:Int)<=i/\i<xs.length:=by
 unfold atI at h
 cases e:ixN xs.length i with
 |none=>rw[e]at h;cases h
 |some j =>
  rw[e]at h
  obtain⟨h1,h2,h3,h4⟩:=Zfx e
  exact⟨j,h1,h,h2,h3,h4⟩
def ZkZ(b:Expr):Prop:=∀o i,Ybt b false o i=operate [o,i] (Yao o i)
def IxR(X:Cx)(r:R2):Prop:=
 ∀(value slice:Expr) (pins:List (Addr×Obj)) (s:Shared) (σ:St) (H:Hp) (x y:V) (v u:Value) (Q:VK),Inv X pins σ H s->RelV x v->RelV y u->r x y H Q ->
  Ybt slice false v u=operate [v,u] (Yao v u)->wpAny (model X.prog X.w) X.A (Yby value slice v u) (EP X pins σ Q) X.xe s
def MtR(X:Cx)(id:String)(r:V->List V->Hp->VK->Prop):Prop:=
 ∀(pins:List (Addr×Obj)) (s:Shared) (σ:St) (H:Hp) (x:V) (xs:List V) (v:Value) (us:List Value) (Q:VK),Inv X pins σ H s->RelV x v->Vals xs us->r x xs H Q ->
  wpAny (model X.prog X.w) X.A (call (.builtin id) (v::us)) (EP X pins σ Q) X.xe s
section
variable{X:Cx}{a b:Expr}{ta tb:TE}{pos:Pos}
theorem pe_ix{r:R2}(hr:IxR X r)(ha:PE X a ta)(hb:PE X b tb)(hs:ZkZ b):PE X (.Subscript a b pos) (tOp r ta tb):=by
 intro pins s σ H Q I h
 exact Ycc (binT ha hb I h λv u s2 x y H2 I2 rx ry q=>hr a b pins s2 σ H2 x y v u Q I2 rx ry q (hs _ _))
def rIxL(K:Frag):R2:=λx y H Q=>∃p xs i v,x=.ref p/\y=.int i/\SqL K H p xs/\atI xs i=some v/\Q v H
def rIxT(K:Frag):R2:=λx y H Q=>∃p xs i v,x=.ref p/\y=.int i/\SqT K H p xs/\atI xs i=some v/\Q v H
def rIxS:R2:=λx y H Q=>∃z i c,x=.str z/\y=.int i/\z.length<=YM/\atI z.cps.toList i=some c/\Q (.str ⟨#[c]⟩) H
theorem ZjX:IxR X (rIxL X.K):=by
 intro value slice pins s σ H x y v u Q I rx ry h hs
 obtain⟨p,xs,i,z,rfl,rfl,hq,he,q⟩:=h
 cases rx
 obtain⟨t,rfl⟩:=ry
 obtain⟨its,r,pl,hz⟩:=I.list hq
 obtain⟨j,h1,h2,h3,h4,h5⟩:=Zf0 he
 obtain⟨w,ew,rw'⟩:=r.get h2
 have hl:=r.length
 have hn:=ZcX
 have fin:EP X pins σ Q w s:=⟨z,H,I,rw',q⟩
 by_cases h0:0<=i
 ·have hj:i.toNat=j:=by
   rw[Yb6 h0 h5]at h1
   exact YG h1
  exact item_listR pl.isList h0 (by omega) (by rw[hj];simpa using ew) fin hs
 ·have hj:(i+(its.toArray.size:Int)).toNat=j:=by
   rw[YbQ (by omega) h4]at h1
   rw[Yk,<-hl]
   exact YG h1
  exact subscriptTail_builtinR (x:=w) pl.isList.typeIs slot_list_getitem.lookup
   (wpAny_getItem_list_neg (Q:=λr s'=>r=w/\EP X pins σ Q r s') pl.isList (by omega) (by rw[Yk]<;>omega) (by omega) (by rw[hj];simpa using ew) ⟨rfl,fin⟩) hs
theorem ix_tup:IxR X (rIxT X.K):=by
 intro value slice pins s σ H x y v u Q I rx ry h hs
 obtain⟨p,xs,i,z,rfl,rfl,hq,he,q⟩:=h
 cases rx
 obtain⟨t,rfl⟩:=ry
 obtain⟨its,r,pl,hz⟩:=I.tuple hq
 obtain⟨j,h1,h2,h3,h4,h5⟩:=Zf0 he
 obtain⟨w,ew,rw'⟩:=r.get h2
 have hl:=r.length
 have hn:=ZcX
 have fin:EP X pins σ Q w s:=⟨z,H,I,rw',q⟩
 exact subscriptTail_builtinR (x:=w) pl.typeIs slot_tuple_getitem.lookup
  (getItem_tuple (j:=j) (Q:=λr s'=>r=w/\EP X pins σ Q r s') pl (by omega) (by omega) (by rw[Yk,<-hl];exact h1) (by simpa using ew) ⟨rfl,fin⟩) hs
theorem ix_str:IxR X rIxS:=by
 intro value slice pins s σ H x y v u Q I rx ry h hs
 obtain⟨z,i,c,rfl,rfl,hz,he,q⟩:=h
 obtain⟨t,rfl⟩:=rx
 obtain⟨t',rfl⟩:=ry
 obtain⟨j,h1,h2,h3,h4,h5⟩:=Zf0 he
 have hl:z.cps.toList.length=z.length:=by simp[Str.length]
 rw[hl]at h1 h4 h5
 have hn:=ZcX
 exact tail_any (Ycd s z t) slot_str_getitem.lookup (getItem_str (c:=c) (by
  have e1:decide (i < -(2^63:Int))=false:=decide_eq_false (by omega)
  have e2:decide (i ≥ 2^63)=false:=decide_eq_false (by omega)
  rw[e1,e2,Bool.or_false]) (by rw[h1];simpa using h2) ⟨.str ⟨#[c]⟩,H,I.tok _,⟨_,rfl⟩,q⟩) hs
theorem ZhB(its:List Value)(n j:Nat)(u:Value):YT (·.setIfInBounds j u) { cls:=.type "list",data:=.seq its.toArray n }={ cls:=.type "list",data:=.seq (its.set j u).toArray n }:=by
 simp[YT]
theorem Inv.lst{pins:List (Addr×Obj)}{σ:St}{H:Hp}{s:Shared}{p:Addr}{xs:List V}(I:Inv X pins σ H s)(h:H p=some (.lst xs)):
  ∃(its:List Value) (n:Nat),Vals xs its/\s.heap.get? p=some { cls:=.type "list",data:=.seq its.toArray n }/\xs.length<=YM:=by
 obtain⟨z,its,n,r,e⟩:=I.hok p _ h
 exact⟨its,n,r,e,z⟩
theorem Inv.lstUpd{pins:List (Addr×Obj)}{σ:St}{H:Hp}{s:Shared}{p:Addr}{xs ys:List V}{its its':List Value}{n n':Nat}{f:Obj->Obj}(I:Inv X pins σ H s)(h:H p=some (.lst xs))(ho:s.heap.get? p=some { cls:=.type "list",data:=.seq its.toArray n })(hf:f { cls:=.type "list",data:=.seq its.toArray n }={ cls:=.type "list",data:=.seq its'.toArray n' })(r:Vals ys its')(hz:ys.length<=YM)(t:Nat):
  Inv X pins σ (upd H p (.lst ys)) { s with heap:=s.heap.update p f,toks:=t }:=by
 have e:(s.heap.update p f).get? p=some { cls:=.type "list",data:=.seq its'.toArray n' }:=by
  rw[Wr f ho (by rw[hf]<;>rfl),hf]
 refine I.write (x:=p) (e:=p) (by rw[h];trivial) (.inl rfl) (λb u hb q=>(Wd _ _ (Ui hb)).trans q) ⟨_,e⟩ ?_
 exact⟨hz,its',n',r,e⟩
def rSetL:V->V->V->Hp->(Hp->Prop)->Prop:=λo i v H Q=>∃p xs k j,o=.ref p/\i=.int k/\H p=some (.lst xs)/\ixN xs.length k=some j/\Q (upd H p (.lst (xs.set j v)))
theorem set_list:PSet X rSetL:=by
 intro pins s σ H o i v ov iv u Q I ro ri rv h
 obtain⟨p,xs,k,j,rfl,rfl,hp,hj,q⟩:=h
 cases ro
 obtain⟨t,rfl⟩:=ri
 obtain⟨its,n,r,ho,hz⟩:=I.lst hp
 obtain⟨h1,h2,h3,h4⟩:=Zfx hj
 have hl:=r.length
 have hn:=ZcX
 have I':Inv X pins σ (upd H p (.lst (xs.set j v))) { s with heap:=s.heap.update p (YT (·.setIfInBounds j u)) }:=
  I.lstUpd hp ho (ZhB its n j u) (r.set rv j) (by rw[WK];exact hz) s.toks
 by_cases h0:0<=k
 ·have hk:k.toNat=j:=by
   rw[Yb6 h0 h4]at h1
   exact YG h1
  exact PySem.W.ki_setAt ho h0 (by omega) (by rw[Yk,<-hl];exact h4) (by rw[hk];exact⟨_,I',q⟩)
 ·have hk:(k+(its.toArray.size:Int)).toNat=j:=by
   rw[YbQ (by omega) h3]at h1
   rw[Yk,<-hl]
   exact YG h1
  exact PySem.W.ki_setBack ho (by omega) (by rw[Yk,<-hl];exact h3) (by omega) (by rw[hk];exact⟨_,I',q⟩)
theorem Zd1(lo hi:Option Int)(n:Nat):(VP lo hi none n).1=((HT.sIx n 0 lo:Nat):Int)/\(VP lo hi none n).2.1=((HT.sIx n n hi:Nat):Int)/\(VP lo hi none n).2.2=1:=by
 refine⟨?_,?_,rfl⟩
 ·cases lo with
  |none=>simp[VP,HT.sIx]
  |some i =>
   simp only[VP,HT.sIx,Option.getD_none,show(1:Int)>0 by decide,if_true]
   by_cases h:i<0
   ·simp only[h,if_true]<;>omega
   ·simp only[h,if_false]<;>omega
 ·cases hi with
  |none=>simp[VP,HT.sIx]
  |some i =>
   simp only[VP,HT.sIx,Option.getD_none,show(1:Int)>0 by decide,if_true]
   by_cases h:i<0
   ·simp only[h,if_true]<;>omega
   ·simp only[h,if_false]<;>omega
theorem Zde(its:List Value)(lo hi:Option Int):slicePick its.toArray lo hi none=((its.drop (HT.sIx its.length 0 lo)).take (HT.sIx its.length its.length hi-HT.sIx its.length 0 lo)).toArray:=by
 obtain⟨h1,h2,h3⟩:=Zd1 lo hi its.toArray.size
 unfold slicePick
 rw[h1,h2,h3]
 simp only[sliceRange_one,pick_run,Yk]<;>rfl
def rSlL(K:Frag):V->Option Int->Option Int->Hp->VK->Prop:=λx lo hi H Q=>∃a xs,x=.ref a/\SqL K H a xs/\∀p,H p=none->Q (.ref p) (upd H p (.lst (cutV xs lo hi)))
theorem Ziy:SlR X (rSlL X.K):=by
 intro pins s σ H x v vl vu lo hi sl Q I rx hs pl pu h
 obtain⟨a,xs,rfl,hx,q⟩:=h
 cases rx
 obtain⟨its,r,ht,hz⟩:=I.list hx
 have hlen:=r.length
 refine⟨"list",_,slot_list_getitem.lookup,ht.isList.typeIs,?_⟩
 refine wpAny_getItem_list_slice ht.isList hs pl pu .none (by simp) ?_ (by rw[Yk]<;>omega)
 rw[Zde,<-hlen]
 refine⟨.ref s.heap.objs.size,_,I.laid (t':=s.toks) (o:=.lst (cutV xs lo hi)) (λb ob q=>Ye _ q) (Yj _) ?_,rfl,q _ (I.hok.fresh (Yj _))⟩
 exact⟨YJ (Zci xs lo hi) hz,_,0,(r.drop (HT.sIx xs.length 0 lo)).take (HT.sIx xs.length xs.length hi-HT.sIx xs.length 0 lo),Yt _ rfl⟩
def Zbw:V->Bool
 |.non=>true
 |.bl _=>true
 |.int _=>true
 |.str _=>true
 |_=>false
def eqV:V->V->Bool
 |.non,.non=>true
 |.bl a,.bl b=>a==b
 |.bl a,.int b=>(if a then 1 else 0)==b
 |.int a,.bl b=>a==(if b then 1 else 0)
 |.int a,.int b=>a==b
 |.str a,.str b=>a==b
 |_,_=>false
theorem eqAt_V{A:Around}{s:Shared}{y x:V}{u v:Value}(ry:RelV y u)(rx:RelV x v)(fy:Zbw y=true)(fx:Zbw x=true):YbK A s u v (eqV y x):=by
 cases y with
 |non =>
  cases ry
  cases x with
  |non=>cases rx;exact SeqAt.EqAt.same _
  |bl b=>cases rx;exact SeqAt.EqAt.none_bool b
  |int b=>obtain⟨t,rfl⟩:=rx;exact SeqAt.EqAt.none_int b t
  |str b=>obtain⟨t,rfl⟩:=rx;exact SeqAt.EqAt.none_str b t
  |_=>exact absurd (show false=true from fx) Yl
 |bl a =>
  cases ry
  cases x with
  |non=>cases rx;exact SeqAt.EqAt.bool_none a
  |bl b=>cases rx;exact SeqAt.EqAt.bool_bool a b
  |int b=>obtain⟨t,rfl⟩:=rx;exact SeqAt.EqAt.bool_int a b t
  |str b=>obtain⟨t,rfl⟩:=rx;exact SeqAt.EqAt.bool_str a b t
  |_=>exact absurd (show false=true from fx) Yl
 |int a =>
  obtain⟨t',rfl⟩:=ry
  cases x with
  |non=>cases rx;exact SeqAt.EqAt.int_none a t'
  |bl b=>cases rx;exact SeqAt.EqAt.int_bool a t' b
  |int b=>obtain⟨t,rfl⟩:=rx;exact SeqAt.EqAt.int_int a t' b t
  |str b=>obtain⟨t,rfl⟩:=rx;exact SeqAt.EqAt.int_str a t' b t
  |_=>exact absurd (show false=true from fx) Yl
 |str a =>
  obtain⟨t',rfl⟩:=ry
  cases x with
  |non=>cases rx;exact SeqAt.EqAt.str_none a t'
  |bl b=>cases rx;exact SeqAt.EqAt.str_bool a t' b
  |int b=>obtain⟨t,rfl⟩:=rx;exact SeqAt.EqAt.str_int a t' b t
  |str b=>obtain⟨t,rfl⟩:=rx;exact SeqAt.EqAt.str_str a t' b t
  |_=>exact absurd (show false=true from fx) Yl
 |_=>exact absurd (show false=true from fy) Yl
def eqU(x:V)(u:Value):Bool:=match u with
 |.none=>eqV .non x
 |.bool b=>eqV (.bl b) x
 |.int i _=>eqV (.int i) x
 |.str z _=>eqV (.str z) x
 |_=>false
theorem Znq{x y:V}{u:Value}(r:RelV y u)(f:Zbw y=true):eqU x u=eqV y x:=by
 cases y with
 |non=>cases r;rfl
 |bl b=>cases r;rfl
 |int i=>obtain⟨t,rfl⟩:=r;rfl
 |str z=>obtain⟨t,rfl⟩:=r;rfl
 |_=>exact absurd (show false=true from f) Yl
theorem Zcx{x:V}:∀{xs:List V}{us:List Value},Vals xs us->xs.all Zbw=true->us.any (eqU x)=xs.any λy=>eqV y x
 |_,_,.nil,_=>rfl
 |y::xs,u::us,.cons r t,f=>by
  rw[G9,Yo]at f
  rw[Va,Va,Znq r f.1,Zcx t f.2]
theorem Zav{A:Around}{s:Shared}{x:V}{v:Value}(rx:RelV x v)(fx:Zbw x=true):∀{xs:List V}{us:List Value},Vals xs us->xs.all Zbw=true->∀u∈us,YbK A s u v (eqU x u)
 |_,_,.nil,_=>λu hu=>by cases hu
 |y::xs,u::us,.cons r t,f=>λu' hu=>by
  rw[G9,Yo]at f
  rcases Yh.mp hu with rfl|hu
  ·rw[Znq r f.1];exact eqAt_V r rx f.1 fx
  ·exact Zav rx fx t f.2 u' hu
def inV(x:V)(xs:List V):Bool:=xs.any λy=>eqV y x
def rIn(K:Frag)(neg:Bool):R2:=λx y H Q=>∃p xs,y=.ref p/\(SqL K H p xs∨SqT K H p xs)/\Zbw x=true/\xs.all Zbw=true/\Q (.bl (if neg then !inV x xs else inV x xs)) H
theorem Zel:OpR X (Wl .In) (rIn X.K false):=by
 intro pins s σ H x y v u Q I rx ry h
 obtain⟨p,xs,rfl,hq,fx,fs,q⟩:=h
 cases ry
 rcases hq with hq|hq
 ·obtain⟨its,r,pl,hz⟩:=I.list hq
  refine SeqAt.in_listAt (eqU x) pl.isList (λw hw=>Zav rx fx r fs w (by simpa using hw)) ⟨.bl _,H,I,rfl,?_⟩
  rw[show its.toArray.any (eqU x)=its.any (eqU x) by simp,Zcx r fs]
  exact q
 ·obtain⟨its,r,pl,hz⟩:=I.tuple hq
  refine SeqAt.in_tupleAt (eqU x) pl (λw hw=>Zav rx fx r fs w (by simpa using hw)) ⟨.bl _,H,I,rfl,?_⟩
  rw[show its.toArray.any (eqU x)=its.any (eqU x) by simp,Zcx r fs]
  exact q
theorem Zbl:OpR X (Wl .NotIn) (rIn X.K true):=by
 intro pins s σ H x y v u Q I rx ry h
 obtain⟨p,xs,rfl,hq,fx,fs,q⟩:=h
 cases ry
 rcases hq with hq|hq
 ·obtain⟨its,r,pl,hz⟩:=I.list hq
  refine SeqAt.notIn_listAt (eqU x) pl.isList (λw hw=>Zav rx fx r fs w (by simpa using hw)) ⟨.bl _,H,I,rfl,?_⟩
  rw[show its.toArray.any (eqU x)=its.any (eqU x) by simp,Zcx r fs]
  exact q
 ·obtain⟨its,r,pl,hz⟩:=I.tuple hq
  refine SeqAt.notIn_tupleAt (eqU x) pl (λw hw=>Zav rx fx r fs w (by simpa using hw)) ⟨.bl _,H,I,rfl,?_⟩
  rw[show its.toArray.any (eqU x)=its.any (eqU x) by simp,Zcx r fs]
  exact q
theorem ZaK:Xm X (.type "tuple") (λxs H Q=>∃p ys,xs=[.ref p]/\((SqL X.K H p ys/\∀l,H l=none->Q (.ref l) (upd H l (.tup ys)))∨(SqT X.K H p ys/\Q (.ref p) H))):=by
 intro pins s σ H xs us Q I r h
 obtain⟨p,ys,rfl,h⟩:=h
 obtain⟨u,rfl,rx⟩:=vals1 r
 cases rx
 rcases h with⟨hq,q⟩|⟨hq,q⟩
 ·obtain⟨its,r',pl,hz⟩:=I.list hq
  have hlen:=r'.length
  refine call_tuple_list pl.isList (λh' kp=>?_) (by simp only[Yk]<;>omega)
  have I1:Inv X pins σ H { s with heap:=h' }:=I.kept (t':=s.toks) kp
  have I2:Inv X pins σ (upd H h'.objs.size (.tup ys)) { s with heap:=h'.push { cls:=.type "tuple",data:=.seq its.toArray } }:=
   I1.laid (t':=s.toks) (λb o e=>Ye _ e) (Yj _) (show JZ X.prog X.w _ _ _ (.tup ys)from⟨hz,its,r',TupP.new _ _⟩)
  exact⟨.ref h'.objs.size,_,I2,rfl,q _ (I1.hok.fresh (Yj _))⟩
 ·obtain⟨its,r',pl,hz⟩:=I.tuple hq
  exact call_tuple_same pl ⟨.ref p,H,I,rfl,q⟩
def tyV(K:Frag)(T:String)(x:V)(H:Hp):Prop:=match x with
 |.str _=>T = "str"
 |.int _=>T = "int"
 |.ref p=>(T = "list"/\∃xs,SqL K H p xs)∨(T = "tuple"/\∃o,K.lookup p=some o/\o.cls=.type "tuple"/\o.dict=none) ∨
  (T = "dict"/\((∃kvs,H p=some (.dK kvs))∨∃kvs,H p=some (.dT kvs)))∨(T = "set"/\∃S n,H p=some (.set S n))
 |_=>False
theorem tyV_is{pins:List (Addr×Obj)}{σ:St}{H:Hp}{s:Shared}{T:String}{x:V}{v:Value}(I:Inv X pins σ H s)(r:RelV x v)(ty:tyV X.K T x H):
  s.TypeIs v T/\∀a,v=.ref a->∃ob,s.heap.get? a=some ob/\ob.dict=none:=by
 cases x with
 |str z =>
  obtain⟨t,rfl⟩:=r
  cases(show T = "str" from ty)
  exact⟨Ycd s z t,λ_ e=>nomatch e⟩
 |int i =>
  obtain⟨t,rfl⟩:=r
  cases(show T = "int" from ty)
  exact⟨Ybj s i t,λ_ e=>nomatch e⟩
 |ref p =>
  cases r
  rcases ty with⟨rfl,xs,hq⟩|⟨rfl,o,hk,hc,hd⟩|⟨rfl,hk⟩|⟨rfl,S,n,hk⟩
  ·obtain⟨its,_,pl,_⟩:=I.list hq
   refine⟨pl.isList.typeIs,λa e=>?_⟩
   cases e
   obtain⟨o,n,e,c,hd,_⟩:=pl
   exact⟨o,e,hd⟩
  ·refine⟨⟨o,I.kIn p o hk,hc⟩,λa e=>?_⟩
   cases e
   exact⟨o,I.kIn _ o hk,hd⟩
  ·have z:∃o,s.heap.get? p=some o/\o.ExactDict:=by
    rcases hk with⟨kvs,hk⟩|⟨kvs,hk⟩
    ·obtain⟨_,_,_,_,o,_,_,e,ex,_⟩:=I.hok p _ hk
     exact⟨o,e,ex⟩
    ·obtain⟨_,_,_,_,o,_,_,e,ex,_⟩:=I.hok p _ hk
     exact⟨o,e,ex⟩
   obtain⟨o,e,ex⟩:=z
   refine⟨⟨o,e,ex.1⟩,λa e2=>?_⟩
   cases e2
   exact⟨o,e,ex.2.1⟩
  ·obtain⟨o,_,_,_,e,ex,_⟩:=I.hok p _ hk
   refine⟨⟨o,e,ex.1⟩,λa e2=>?_⟩
   cases e2
   exact⟨o,e,ex.2.1⟩
 |_=>exact Vn ty
def tBM(K:Frag)(T:String)(r:V->List V->Hp->VK->Prop)(to:TE)(t:TA):TE:=λσ H Q=>to σ H λx H1=>tyV K T x H1/\t σ H1 λxs H2=>r x xs H2 Q
variable{o e:Expr}{es:List Expr}{to:TE}{t:TA}{name:Str}{apos cpos:Pos}{T id:String}{r:V->List V->Hp->VK->Prop}
theorem Zoo(pa:PlainAttrs T)(slot:Slot T name id)(hty:typeOf (.builtin id)=pure (.type "method_descriptor"))(hm:MtR X id r)(ho:PE X o to)(ha:PA X (e::es) t)(hbase:YaW o name X.env (eval o X.env)=eval o X.env:=by rfl)(hfew:((backTo cpos (W7 (e::es) X.env)).all (λx=>!x.1)&&(backToKw cpos (keywordEach [] X.env)).all (λx=>x.1.isSome)
   && decide ((e::es).length+([]:List Yck).length+(if([]:List Yck).isEmpty then 0 else 1)<30))=true:=by rfl)(hline:(apos.endLine==cpos.line)=true:=by rfl)(hs:W7 (e::es) X.env=(false,eval e X.env)::W7 es X.env:=by rfl)(hplain:(backTo cpos (W7 es X.env)).any (·.1)=false:=by rfl):
  PE X (.Call (.Attribute o name apos) (e::es) [] cpos) (tBM X.K T r to t):=by
 intro pins s σ H Q I h
 refine wpAny_Call_method_late hbase hfew hline rfl (thn (ho pins s σ H _ I h) λv s1 ⟨x,H1,I1,r1,ty,q1⟩=>?_)
 obtain⟨h1,h2⟩:=tyV_is I1 r1 ty
 refine⟨T,id,pa,slot,hty,h1,h2,?_⟩
 have hA:=ha cpos pins s1 σ H1 _ I1 q1
 rw[hs]at hA ⊢
 refine Calls.callWith_builtin (by show(false || (backTo cpos (W7 es X.env)).any (·.1))=false;rw[hplain]<;>rfl) (Calls.evalArgs_plain ?_)
 exact thn hA λus s2 ⟨vs,H2,I2,r2,q2⟩=>hm pins s2 σ H2 x vs v us Q I2 r1 r2 q2
end
def MtM(X:Cx)(id:String)(r:V->List V->Hp->VK->Prop):Prop:=
 ∀(pins:List (Addr×Obj)) (s:Shared) (σ:St) (H:Hp) (x:V) (xs:List V) (v:Value) (us:List Value) (Q:VK),Inv X pins σ H s->RelV x v->Vals xs us->r x xs H Q ->
  wpAny (model X.prog X.w) X.A (call (.builtin id) (v::us)) (EP X pins σ Q) X.xe s
theorem Vals.one:∀{x:V}{us:List Value},Vals [x] us->∃u,us=[u]/\RelV x u
 |_,_,.cons r .nil=>⟨_,rfl,r⟩
theorem Vals.eraseIdx:∀{xs:List V}{us:List Value}(i:Nat),Vals xs us->Vals (xs.eraseIdx i) (us.eraseIdx i)
 |_,_,_,.nil=>.nil
 |_,_,0,.cons _ t=>t
 |_,_,i+1,.cons r t=>.cons r (Vals.eraseIdx i t)
theorem Vals.rep{xs:List V}{us:List Value}(h:Vals xs us):∀k:Nat,Vals (Yy k xs).flatten (Yy k us).flatten
 |0=>.nil
 |k+1=>by
  rw[WL,WL,W4,W4]
  exact Vals.append h (Vals.rep h k)
theorem Zet{α:Type}:∀(l:List α) (i:Nat),(l.eraseIdx i).length<=l.length
 |[],_=>Yj _
 |_::_,0=>U4 _
 |_::r,i+1=>Nat.succ_le_succ (Zet r i)
theorem foldl_rep(its:List Value):∀(k:Nat) (acc:List Value),
  YaI (λx1 x2=>x1++x2) acc.toArray (Yy k its.toArray)=(acc++(Yy k its).flatten).toArray
 |0,acc=>by simp
 |k+1,acc=>by
  have e:acc.toArray++its.toArray=(acc++its).toArray:=by simp
  have e2:(acc++its)++(Yy k its).flatten=acc++(Yy (k+1) its).flatten:=by
   rw[WL,W4,Wm]
  rw[<-e2,<-foldl_rep its k (acc++its),<-e,WL,Ut]
section
variable{X:Cx}{pins:List (Addr×Obj)}{σ:St}{H:Hp}{s:Shared}{l b:Addr}{xs ys zs:List V}
theorem Inv.lset{its its':List Value}{n:Nat}{f:Array Value->Array Value}{t':Nat}(I:Inv X pins σ H s)(hH:H l=some (.lst xs))(e:s.heap.get? l=some { cls:=.type "list",data:=.seq its.toArray n })(hf:f its.toArray=its'.toArray)(hv:Vals ys its')(hz:ys.length<=YM):
  Inv X pins σ (upd H l (.lst ys)) { s with heap:=s.heap.update l (YT f),toks:=t' }:=by
 have q:=PySem.IsL.update e f
 rw[hf]at q
 refine I.write (x:=l) (e:=l) (by rw[hH];exact trivial) (.inl rfl) (λb' u hb hu=>(Wd s.heap (YT f) (Ui hb)).trans hu) ⟨_,q⟩ ?_
 exact⟨hz,its',_,hv,q⟩
theorem Inv.lnew{its:List Value}{t':Nat}(I:Inv X pins σ H s)(hv:Vals ys its)(hz:ys.length<=YM):
  Inv X pins σ (upd H s.heap.objs.size (.lst ys)) { s with heap:=s.heap.push { cls:=.type "list",data:=.seq its.toArray },toks:=t' }:=
 I.laid (λ_ _ q=>Ye _ q) (Yj _) ⟨hz,its,0,hv,Yt _ rfl⟩
theorem Inv.fresh(I:Inv X pins σ H s):H s.heap.objs.size=none:=I.hok.fresh (Yj _)
theorem Inv.lstM(I:Inv X pins σ H s)(hH:H l=some (.lst xs)):xs.length<=YM/\∃(its:List Value) (n:Nat),Vals xs its/\xs.length=its.length/\s.heap.get? l=some { cls:=.type "list",data:=.seq its.toArray n }:=by
 obtain⟨z,its,n,r,e⟩:=I.hok l _ hH
 exact⟨z,its,n,r,r.length,e⟩
theorem Zgr{n:Nat}(h:n<=YM):Gv n=false:=by
 unfold Gv
 exact decide_eq_false (by omega)
end
section
variable{X:Cx}
def ZnU:V->List V->Hp->VK->Prop:=λx vs H Q=>∃l xs y,x=.ref l/\vs=[y]/\H l=some (.lst xs)/\xs.length<YM/\Q .non (upd H l (.lst (xs++[y])))
theorem Zjz:MtM X "list.append" ZnU:=by
 intro pins s σ H x vs v us Q I rx rv h
 obtain⟨l,xs,y,rfl,rfl,hH,hz,q⟩:=h
 cases rx
 obtain⟨u,rfl,ru⟩:=rv.one
 obtain⟨z,its,n,r,hl,e⟩:=I.lstM hH
 refine GP F.slot_list_append ⟨_,e,rfl⟩ F.entry_list_append (F.args_list_append_2 _ _) (PySem.list_append l its.toArray n u (by rw[Yk];omega)) ⟨e,?_⟩
 refine⟨.non,_,I.lset (its':=its++[u]) hH e (by simp) (r.append (.cons ru .nil)) ?_,rfl,q⟩
 rw[Yr,Y5]
 omega
def ZnT:V->List V->Hp->VK->Prop:=λx vs H Q=>∃l b xs zs,x=.ref l/\vs=[.ref b]/\H l=some (.lst xs)/\H b=some (.lst zs)/\xs.length+zs.length<=YM/\Q .non (upd H l (.lst (xs++zs)))
theorem Zjy:MtM X "list.extend" ZnT:=by
 intro pins s σ H x vs v us Q I rx rv h
 obtain⟨l,b,xs,zs,rfl,rfl,hH,hB,hz,q⟩:=h
 cases rx
 obtain⟨u,rfl,ru⟩:=rv.one
 cases ru
 obtain⟨z,its,n,r,hl,e⟩:=I.lstM hH
 obtain⟨z2,its2,n2,r2,hl2,e2⟩:=I.lstM hB
 have hsz:its.toArray.size+its2.toArray.size<=YM:=by rw[Yk,Yk];omega
 have hlong:¬(!its.toArray.isEmpty&&Gv (its.toArray.size+its2.toArray.size))=true:=by
  rw[Zgr hsz,Bool.and_false]
  exact Yl
 refine GP F.slot_list_extend ⟨_,e,rfl⟩ F.entry_list_extend (F.args_list_extend_2 _ _)
  (AutoSeq1.list_extend_list_list_0 l its.toArray n b its2.toArray n2 hlong (by rw[Yk];omega) (by omega)) ⟨e,e2,?_⟩
 refine⟨.non,_,I.lset (its':=its++its2) hH e (by simp) (r.append r2) ?_,rfl,q⟩
 rw[Yr]
 omega
def rPopAt:V->List V->Hp->VK->Prop:=λx vs H Q=>∃l xs i k y,x=.ref l/\vs=[.int i]/\H l=some (.lst xs)/\-(2^63)<=i/\i<2^63/\Ycp i xs.length=some k/\xs[k]?=some y/\Q y (upd H l (.lst (xs.eraseIdx k)))
theorem Zl1:MtM X "list.pop" rPopAt:=by
 intro pins s σ H x vs v us Q I rx rv h
 obtain⟨l,xs,i,k,y,rfl,rfl,hH,h1,h2,hk,hy,q⟩:=h
 cases rx
 obtain⟨u,rfl,ru⟩:=rv.one
 obtain⟨t,rfl⟩:=ru
 obtain⟨z,its,n,r,hl,e⟩:=I.lstM hH
 obtain⟨w,hw,rw'⟩:=r.get hy
 refine GP F.slot_list_pop ⟨_,e,rfl⟩ F.entry_list_pop (F.args_list_pop_2 _ _)
  (MeetsSeq.list_pop_at l its.toArray n i t k w (fitsIndex_both h1 h2) (by rw[Yk,<-hl];exact hk) (by rw[<-WM];exact hw) (by rw[Yk];omega)) ⟨e,?_⟩
 refine⟨y,_,I.lset (its':=its.eraseIdx k) hH e ?_ (r.eraseIdx k) ?_,rw',q⟩
 ·show its.toArray.eraseIdxIfInBounds k=(its.eraseIdx k).toArray
  rw[List.eraseIdxIfInBounds_toArray]
 ·have:=Zet xs k
  omega
def rCat:R2:=λx y H Q=>∃l b xs zs,x=.ref l/\y=.ref b/\H l=some (.lst xs)/\H b=some (.lst zs)/\xs.length+zs.length<=YM/\∀p,H p=none->Q (.ref p) (upd H p (.lst (xs++zs)))
theorem op_cat:OpR X (W9 .Add) rCat:=by
 intro pins s σ H x y v u Q I rx ry h
 obtain⟨l,b,xs,zs,rfl,rfl,hH,hB,hz,q⟩:=h
 cases rx
 cases ry
 obtain⟨z,its,n,r,hl,e⟩:=I.lstM hH
 obtain⟨z2,its2,n2,r2,hl2,e2⟩:=I.lstM hB
 refine PySem.P.add_list e e2 ?_ (by rw[Yk,Yk];omega)
 have ea:its.toArray++its2.toArray=(its++its2).toArray:=by simp
 rw[ea]
 exact⟨.ref _,_,I.lnew (t':=s.toks) (r.append r2) (by rw[Yr];omega),rfl,q _ I.fresh⟩
def rRep:R2:=λx y H Q=>∃l k xs,x=.ref l/\y=.int k/\H l=some (.lst xs)/\-(2^63)<=k/\k<2^63/\xs.length*k.toNat<=YM /\
 ∀p,H p=none->Q (.ref p) (upd H p (.lst (Yy k.toNat xs).flatten))
theorem len_rep{α:Type}(xs:List α)(k:Nat):(Yy k xs).flatten.length=k*xs.length:=by
 induction k with
 |zero=>simp
 |succ k ih=>rw[WL,W4,Yr,ih,YbR,Ya9]
theorem op_rep:OpR X (W9 .Mult) rRep:=by
 intro pins s σ H x y v u Q I rx ry h
 obtain⟨l,k,xs,rfl,rfl,hH,h1,h2,hz,q⟩:=h
 cases rx
 obtain⟨t,rfl⟩:=ry
 obtain⟨z,its,n,r,hl,e⟩:=I.lstM hH
 have hlen:its.toArray.size*k.toNat<=YM:=by rw[Yk,<-hl];exact hz
 have hcap:¬its.toArray.size*k.toNat>(2^63-1) / 8:=by
  have:(YM:Nat)<=(2^63-1) / 8:=by decide
  omega
 have hfit:¬(!Builtin.List.listFitsIndex k)=true:=by
  rw[fitsIndex_both h1 h2]
  exact Yl
 have hlong:¬Gv (its.toArray.size*k.toNat)=true:=by
  rw[Zgr hlen]
  exact Yl
 have hnew:YaI (λx1 x2=>x1++x2) #[] (Yy (if its.toArray.isEmpty=true then 0 else k.toNat) its.toArray)=(Yy k.toNat its).flatten.toArray:=by
  have f0:∀m:Nat,YaI (λx1 x2=>x1++x2) #[] (Yy m its.toArray)=(Yy m its).flatten.toArray:=λm=>by
   have:=foldl_rep its m []
   rw[G4]at this
   exact this
  rw[f0]
  cases its with
  |nil=>simp
  |cons a r'=>rw[if_neg (by simp)]
 refine wpAny_binaryOp_repeat_ref (T:="list") (U:="int") (by decide) ⟨_,e,rfl⟩ (λs'=>Ybj s' k t) noFill_list_mul F.fills_int_mul Yap repeat_list F.slot_int_index.lookup
  (GP Yap (Ybj s k t) F.entry_int_rmul (F.args_int_rmul_2 _ _) (int___rmul___int_list k t l its.toArray n)
   ⟨e,rfl,⟨_,e,rfl⟩,GP F.slot_list_mul ⟨_,e,rfl⟩ F.entry_list_mul (F.args_list_mul_2 _ _) (AutoListH.list___mul___list_int_3 l its.toArray n k t hfit hcap hlong) ⟨e,?_⟩⟩)
 rw[hnew]
 exact⟨.ref _,_,I.lnew (t':=s.toks) (r.rep k.toNat) (by rw[len_rep,YbS];exact hz),rfl,q _ I.fresh⟩
end
section
variable{prog:YK}{w:World}{A:Around}{E:Value->Shared->Prop}{s:Shared}
set_option maxRecDepth 100000 in
end
end L2
namespace Att
open PySem PySem.W PySem.Calls PyProof.Rows
theorem Zb8{P:Params}{h:Heap}:∀(ns:List Int) (vs:List Value),WellAll P h vs (ns.map WData.int)->U3 vs ns:=by
 intro ns
 induction ns with
 |nil =>
  intro vs w
  rw[Vp]at w
  cases w
  exact .nil
 |cons n ns ih =>
  intro vs w
  rw[Yq]at w
  cases w with
  |cons a b =>
   cases a
   exact .cons _ _ (ih _ b)
theorem ZiE{l:Yb7}{n:Nat}(hn:l.most=some n){P:Params}{h:Heap}{args:List WData}{vals:List Value}(hpre:l.row.toRowW.claim.pre args=true)(hwl:WellAll P h vals args):
  ∃a vs ns,vals=[GF a]/\args=[WData.list (ns.map WData.int)]/\h.get? a=some { cls:=.type "list",data:=.seq vs.toArray }/\U3 vs ns/\ns.length<=n:=by
 have hsh:WShape.hasAll [] args [.list .int]=true:=(pre_splitW hpre).1
 have hc:l.pre.holds [] { args:=args }=true:=(pre_splitW hpre).2
 obtain⟨d,r,rfl,h1,h2⟩:=hasAllW_cons hsh
 obtain rfl:=hasAllW_nil h2
 obtain⟨xs,rfl,h3⟩:=hasW_list h1
 obtain⟨ns,rfl⟩:=items_int h3
 have hlen:ns.length<=n:=by
  unfold OpenLaw.pre at hc
  have h4:(WTm.not (.lt (.lit (.int (n:Int))) (.len (.arg 0)))).holds [] { args:=[.list (ns.map .int)] }=true:=by
   have h4:=(holds_andW hc).1
   rw[hn]at h4
   exact h4
  have h5:=condW_of h4 (w_not (w_lt w_lit (w_len_list (w_arg rfl))))
  rw[Yc]at h5
  refine Nat.le_of_not_lt λq=>?_
  have q':(n:Int)<((ns.length:Nat):Int):=by omega
  first
   |(rw[decide_eq_true q']at h5;exact absurd h5 (by decide))
   |(simp at h5;omega)
 cases hwl with
 |cons w1 w2 =>
  cases w2
  cases w1 with
  |list ho hall=>exact⟨_,_,ns,rfl,rfl,ho,Zb8 ns _ hall,hlen⟩
theorem ZiY(l:Yb7)(args:List WData):l.row.toRowW.claim.post args (.bool true) args=true:=
 postW_of (r:=l.row.toRowW) (X:=(true==true))
  (show WShape.has [] (.bool true) .bool=true by first|rfl|decide|simp[WShape.has,WShape.arms,WShape.armsAll])
  (show(WTm.eq .res (.lit (.bool true))).value [] { args:=args,res:=some (.bool true),after:=args }=some (.bool (true==true))from w_eq_bool (w_res rfl) w_lit) rfl
theorem attach_call{l:Yb7}{n:Nat}{q:YK}{loose:List Str}{XP:(Str->Option Value)->Heap->Prop}{YP:World->Heap->Prop}{d:DefRec}(hn:l.most=some n)(hdf:d.params.defaults=[])(call:∀(w:World) (s₀ s₁:Shared) (mg mb:Str->Option Value) (fa:Addr) (o:Obj) (pm cd doc:Value) (a:Addr) (vs:List Value) (ns:List Int),
   Ground q loose [] XP w s₀ mg mb s₁.heap->YP w s₁.heap ->
   s₁.heap.get? fa=some o->o.data=.func (docDef d.name d.params d.body d.scope pm cd doc)->s₁.heap.CodeRec cd d.name->mg d.name=some (.ref fa) ->
   s₁.heap.get? a=some { cls:=.type "list",data:=.seq vs.toArray }->U3 vs ns->ns.length<=n->s₁.gens=#[] ->
   Vd (model l.prog w) YbL (.call (.ref fa) ⟨[.ref a],[]⟩) (λr s'=>r=.ok (.ret (.bool true))/\OldK s₁.heap s'.heap/\s'.os=s₁.os/\YaS s'.gens) s₁):
  WalkO q loose XP YP l.row.toRowW d [] (λf vs=>U8 f vs):=by
 intro w s₀ s₁ mg mb G Y fa o pm cd doc dV kV ho hd hcd hD hmg hg args vals as hpre hlay hrd hwl hlo
 obtain rfl:dV=.none:=Dflts.none hD hdf
 obtain rfl:kV=.none:=Dflts.noKw hD
 obtain⟨a,vs,ns,rfl,rfl,hobj,hints,hlen⟩:=ZiE hn hpre hwl
 refine enter_call (V2 (call w s₀ s₁ mg mb fa o pm cd doc a vs ns G Y ho (fd_plain hd) hcd hmg hobj hints hlen hg) λr s' hq=>?_)
 obtain⟨rfl,h2,h3,h4⟩:=hq
 exact⟨.inl ⟨.bool true,.bool true,[],rfl,λ_=>rfl,.bool true,ZiY l _,λ_=>⟨List.Pairwise.nil,λ_ hm=>(nomatch hm)⟩⟩,h2,h3,h4⟩
end Att
namespace L2
open PySem PySem.Spec PyProof.Rows
theorem ZbP:∀{vs:List Value}{ns:List Int},U3 vs ns->Vals (ns.map V.int) vs
 |_,_,.nil=>.nil
 |_,_,.cons n t h=>.cons ⟨t,rfl⟩ (ZbP h)
def Xg(s:Stmt):Ybw:=match s with
 |.FunctionDef _ a _ _ _ _ _ _ _ _=>a
 |_=>{ posonlyargs:=[],args:=[],vararg:=none,kwonlyargs:=[],kw_defaults:=[],kwarg:=none,defaults:=[] }
def Qp(s:Stmt):List Stmt:=match s with
 |.FunctionDef _ _ b _ _ _ _ _ _ _=>b
 |_=>[]
def Zc(s:Stmt):Scope:=match s with
 |.FunctionDef _ _ _ _ _ _ sc _ _ _=>sc
 |_=>{ kind:=.function,names:=[],isGenerator:=false,isCoroutine:=false }
abbrev CX0:CXT:=λ_ _ _ _ _ _=>False
structure Fun (K:Frag) (x qual:Str) (st:Stmt) (f:Addr) (fd:Uj):Prop where
 ex:∃(oc:Value) (od:Option Addr) (kV doc pm:Value) (an:Option Addr) (cdv ct:Value) (osl:Array (Option Value)),
  fd=fnOf x qual (Xg st) (Qp st) (Zc st) .none kV doc pm an cdv ct/\K.lookup f=some ⟨oc,od,.func fd,osl⟩/\codeIn K cdv qual=true
 kp:keepIn K (.ref f)=true
section
variable{P:YK}{w:World}{K:Frag}{mg:Str->Option Value}{base:Heap}
theorem Fun.binds{x qual:Str}{st:Stmt}{f:Addr}{fd:Uj}{ps:List Str}(F:Fun K x qual st f fd)(h:∀(kV doc pm:Value) (an:Option Addr) (cdv ct:Value) (us:List Value),us.length=ps.length->U6 (fnOf x qual (Xg st) (Qp st) (Zc st) .none kV doc pm an cdv ct) ⟨us,[]⟩=pure (ps.zip us)):Binds K fd ps []:=by
 obtain⟨oc,od,kV,doc,pm,an,cdv,ct,osl,rfl,lk,hcd⟩:=F.ex
 exact .all (h kV doc pm an cdv ct)
theorem Znl{x qual:Str}{st:Stmt}{f:Addr}{oc:Value}{od an:Option Addr}{osl:Array (Option Value)}{kV doc pm cdv ct:Value}(l:K.lookup f=some ⟨oc,od,.func (fnOf x qual (Xg st) (Qp st) (Zc st) .none kV doc pm an cdv ct),osl⟩)(c:codeIn K cdv qual=true)(k:keepIn K (.ref f)=true):Fun K x qual st f (fnOf x qual (Xg st) (Qp st) (Zc st) .none kV doc pm an cdv ct):=⟨⟨oc,od,kV,doc,pm,an,cdv,ct,osl,rfl,l,c⟩,k⟩
end
section
variable{X:Cx}
theorem pv(i:Nat){x:Str}{pos:Pos}(hN:X.N[i]?=some x:=by rfl)(hv:Vis X.env.scope x:=by first|exact Or.inl rfl|exact Or.inr (Or.inl rfl)|exact Or.inr (Or.inr rfl))(hd:(x==("__debug__" : Str))=false:=by decide)(hcd:(x==("__classdict__" : Str))=false:=by decide):PE X (.Name x pos) (tVar i):=ZmZ hN hv hd hcd
end
theorem iteF{A B:Prop}(h:B):if false=true then A else B:=by
 rw[if_neg Yl]
 exact h
theorem iteT{A B:Prop}(h:A):if true=true then A else B:=by
 rw[if_pos rfl]
 exact h
def Same(H H':Hp):Prop:=∀b o,H b=some o->H' b=some o
end L2
end
namespace L2
open PySem PySem.Spec PyProof.Rows
section
variable{κ:Type}[DecidableEq κ]
def valV(kvs:List (κ×V))(k:κ):Option V:=(kvs.find? λkv=>decide (kv.1=k)).map (·.2)
def putK(kvs:List (κ×V))(k:κ)(v:V):List (κ×V):=
 if(kvs.any λkv=>decide (kv.1=k))=true then kvs.map (λkv=>if kv.1=k then(kv.1,v)else kv)else kvs++[(k,v)]
def dropK(kvs:List (κ×V))(k:κ):List (κ×V):=kvs.filter λkv=>decide (kv.1≠k)
theorem Zf3{p:κ×V}{r:List (κ×V)}{k:κ}(e:p.1=k):valV (p::r) k=some p.2:=by simp[valV,U5,e]
theorem Zf4{p:κ×V}{r:List (κ×V)}{k:κ}(e:¬p.1=k):valV (p::r) k=valV r k:=by simp[valV,U5,e]
theorem Zfu(kvs:List (κ×V))(k:κ)(v:V):(putK kvs k v).length<=kvs.length+1:=by
 unfold putK
 split
 ·rw[Yc];omega
 ·rw[Yr,YB,Wn];omega
theorem KV.val{kvs:List (κ×V)}{vs:List (κ×Value)}(r:KV kvs vs)(k:κ):RelO (valV kvs k) (YbM vs k):=by
 unfold KV at r
 induction r with
 |nil=>exact YbN
 |@cons p q ps qs h t ih =>
  obtain⟨h1,h2⟩:=h
  by_cases e:p.1=k
  ·have e':q.1=k:=h1.symm.trans e
   have b:YbM (q::qs) k=some q.2:=by simp[YbM,U5,e']
   rw[Zf3 e,b];exact h2
  ·have e':¬q.1=k:=λz=>e (h1.trans z)
   have b:YbM (q::qs) k=YbM qs k:=by simp[YbM,U5,e']
   rw[Zf4 e,b];exact ih
theorem KV.any{kvs:List (κ×V)}{vs:List (κ×Value)}(r:KV kvs vs)(k:κ):(kvs.any λkv=>decide (kv.1=k))=vs.any λkv=>decide (kv.1=k):=by
 unfold KV at r
 induction r with
 |nil=>rfl
 |cons h t ih=>rw[Va,Va,ih,h.1]
theorem KV.repl{kvs:List (κ×V)}{vs:List (κ×Value)}(r:KV kvs vs)(k:κ){y:V}{u:Value}(ry:RelV y u):
  KV (kvs.map λkv=>if kv.1=k then(kv.1,y)else kv) (vs.map λkv=>if kv.1=k then(kv.1,u)else kv):=by
 unfold KV at r ⊢
 induction r with
 |nil=>exact .nil
 |@cons p q ps qs h t ih =>
  rw[Yq,Yq]
  refine .cons ?_ ih
  obtain⟨h1,h2⟩:=h
  by_cases e:p.1=k
  ·rw[if_pos e,if_pos (h1.symm.trans e)];exact⟨h1,ry⟩
  ·rw[if_neg e,if_neg (λz=>e (h1.trans z))];exact⟨h1,h2⟩
theorem KV.put{kvs:List (κ×V)}{vs:List (κ×Value)}(r:KV kvs vs)(k:κ){y:V}{u:Value}(ry:RelV y u):KV (putK kvs k y) (stored vs k u):=by
 unfold putK stored
 rw[r.any k]
 by_cases e:(vs.any λkv=>decide (kv.1=k))=true
 ·rw[if_pos e,if_pos e];exact r.repl k ry
 ·rw[if_neg e,if_neg e];exact Paired.snoc r ⟨rfl,ry⟩
theorem KV.length{kvs:List (κ×V)}{vs:List (κ×Value)}(r:KV kvs vs):kvs.length=vs.length:=Ybv r
end
theorem ZoO{P:YK}{w:World}{k:Key}{u:Value}(r:RelV (kV k) u):(QV P w).is k u=true:=by
 cases k with
 |inl i=>obtain⟨t,e⟩:=(show ∃t,u=V0 i t from r);subst e;exact Zft P w i t
 |inr x=>obtain⟨t,e⟩:=(show ∃t,u=V1 x t from r);subst e;exact Zfs P w x t
theorem ZeC{P:YK}{w:World}:∀{ks:List Key}{us:List Value},Vals (ks.map kV) us->ItemsAre (QV P w) ks us
 |[],_,r=>by rw[Vp]at r;cases r;exact .nil
 |k::ks,_,r=>by
  rw[Yq]at r
  cases r with
  |cons h t=>exact .cons (ZoO h) (ZeC t)
abbrev KT(H:Hp):List (List Key×V)->List (List Key×Addr×Value)->Prop:=Paired λp q=>p.1=q.1/\H q.2.1=some (.tup (p.1.map kV))/\RelV p.2 q.2.2
theorem KT.val{H:Hp}{kvs:List (List Key×V)}{xs:List (List Key×Addr×Value)}(r:KT H kvs xs)(k:List Key):RelO (valV kvs k) ((atKey xs k).map (·.2)):=by
 induction r with
 |nil=>exact YbN
 |@cons p q ps qs h t ih =>
  obtain⟨h1,_,h2⟩:=h
  by_cases e:p.1=k
  ·have e':q.1=k:=h1.symm.trans e
   have b:atKey (q::qs) k=some q.2:=by simp[atKey,U5,e']
   rw[Zf3 e,b];exact h2
  ·have e':¬q.1=k:=λz=>e (h1.trans z)
   have b:atKey (q::qs) k=atKey qs k:=by simp[atKey,U5,e']
   rw[Zf4 e,b];exact ih
section
variable{P:YK}{w:World}{H:Hp}{h:Heap}{a:Addr}
theorem rd_of{u:HO}(ok:HOk P w H h)(e:Rd H a u):JZ P w H h a u:=e.ok ok
theorem dk_rd{kvs:List (Key×V)}(ok:HOk P w H h)(e:Rd H a (.dK kvs)):kvs.length<=YM/\(a==Yak)=false/\∃vs,KV kvs vs/\h.DictOf (QV P w) a vs:=
 show JZ P w H h a (.dK kvs)from rd_of ok e
theorem Znb{ks:List Key}(ok:HOk P w H h)(e:H a=some (.tup (ks.map kV))):(Yb5 (QV P w)).is h ks a:=by
 obtain⟨_,its,r,o,h1,h2,⟨n,h3⟩,_⟩:=(show JZ P w H h a (.tup (ks.map kV))from ok a _ e)
 exact⟨o,its.toArray,n,h1,h2,h3,by simpa using ZeC r⟩
theorem dt_rd{kvs:List (List Key×V)}(ok:HOk P w H h)(e:Rd H a (.dT kvs)):kvs.length<=YM/\(a==Yak)=false /\
  ∃xs,KT H kvs xs/\h.DictOfH (Yb5 (QV P w)) a xs:=by
 obtain⟨z,y,xs,r,o,es,ep,h1,h2,h3,h4,h5⟩:=(show JZ P w H h a (.dT kvs)from rd_of ok e)
 refine⟨z,y,xs,r,o,es,ep,h1,h2,h3,h4,λx hx=>?_,h5⟩
 have all:∀{l:List (List Key×V)}{m:List (List Key×Addr×Value)},KT H l m->∀x∈m,(Yb5 (QV P w)).is h x.1 x.2.1:=by
  intro l m q
  induction q with
  |nil=>intro x hx;exact nomatch hx
  |@cons p q ps qs hq t ih =>
   intro x hx
   rcases Yh.mp hx with e|hx
   ·subst e
    exact Znb ok (by rw[<-hq.1];exact hq.2.1)
   ·exact ih x hx
 exact all r x hx
end
def DGet(H:Hp)(a:Addr)(y:V)(r:Option V):Prop:=
 (∃kvs k,Rd H a (.dK kvs)/\y=kV k/\r=valV kvs k)∨∃kvs k b,Rd H a (.dT kvs)/\y=.ref b/\H b=some (.tup (k.map kV))/\r=valV kvs k
def DPut(H:Hp)(a:Addr)(y v:V)(H':Hp):Prop:=
 (∃kvs k,H a=some (.dK kvs)/\y=kV k/\kvs.length<YM/\H'=upd H a (.dK (putK kvs k v))) ∨
 ∃kvs k b,H a=some (.dT kvs)/\y=.ref b/\H b=some (.tup (k.map kV))/\kvs.length<YM/\H'=upd H a (.dT (putK kvs k v))
theorem DGet.k{H:Hp}{a:Addr}{kvs:List (Key×V)}{k:Key}(e:H a=some (.dK kvs)):DGet H a (kV k) (valV kvs k):=.inl ⟨kvs,k,.inl e,rfl,rfl⟩
section
variable{X:Cx}{pins:List (Addr×Obj)}{σ:St}{H:Hp}{s:Shared}{a:Addr}{y v:V}{u r:Value}{o:Option V}{A:Around}{E:Value->Shared->Prop}
theorem ZkA{Q:Value->Shared->Prop}(hu:A.units+1<cLine)(I:Inv X pins σ H s)(g:DGet H a y (some v))(ry:RelV y u)(h:∀w' s',Inv X pins σ H s'->RelV v w'->Q w' s'):
  wpAny (model X.prog X.w) A (Yao (.ref a) u) Q E s:=by
 rcases g with⟨kvs,k,e,ey,l⟩|⟨kvs,k,b,e,ey,eb,l⟩
 ·subst ey
  obtain⟨z,hd,vs,rel,dd⟩:=dk_rd I.hok e
  obtain⟨w',hw,rw'⟩:=RelO.some_of (v:=v) (o:=YbM vs k) (by rw[l];exact rel.val k)
  exact wpAny_getItem_of (ZoO ry) dd.mapOf hw (h w' _ (I.tok _) rw')
 ·subst ey
  cases(show u=GF b from ry)
  obtain⟨z,hd,xs,rel,dd⟩:=dt_rd I.hok e
  obtain⟨w',hw,rw'⟩:=RelO.some_of (v:=v) (o:=(atKey xs k).map (·.2)) (by rw[l];exact rel.val k)
  obtain⟨p,hp,hp2⟩:=Option.map_eq_some_iff.mp hw
  refine wpAny_getItem_heap (tupleKind_room_in1 hu) (Znb I.hok eb) dd hp ?_
  rw[hp2]
  exact h w' _ (I.tok _) rw'
end
def NoSl(i:Expr):Prop:=∀ov iv,Ybt i false ov iv=operate [ov,iv] (Yao ov iv)
theorem ZnE{prog:YK}{w:World}{A:Around}{E:Value->Shared->Prop}{s:Shared}{env:Env}{value slice:Expr}{pos:Pos}{T id:String}{Q:Value->Shared->Prop}(hl:YbJ (.type T) "__getitem__" = pure (some (.builtin id)))(hs:NoSl slice)(h:wpAny (model prog w) A (eval value env) (λo s₁=>wpAny (model prog w) A (eval slice env) (λi s₂=>s₂.TypeIs o T/\wpAny (model prog w) A (Yao o i) Q E s₂) E s₁) E s):
  wpAny (model prog w) A (eval (.Subscript value slice pos) env) Q E s:=by
 refine Ycc (W2 h (λo s₁ h₁=>W2 h₁ (λi s₂ h₂=>?_) λ_ _ x=>x) λ_ _ x=>x)
 obtain⟨hT,h₂⟩:=h₂
 unfold Yby
 refine Yb ?_
 rw[getitemInPython_of_ne hT.not_modules]
 refine Yb (wpAny_specialOf hT hl ?_)
 have fin:wpAny (model prog w) A (Ybt slice false o i) (λr s₃=>wpAny (model prog w) A (letTemporaryGo value o r >>= λ_=>pure r) Q E s₃) E s₂:=by
  rw[hs o i]
  exact wpAny_operating (W2 h₂ (λr s₃ h₃=>Yb (wpAny_letTemporaryGo (Yd h₃))) λ_ _ x=>x)
 first
  |exact Yd (Yb fin)
  |exact Yb (Yd (Yb fin))
  |exact Yb fin
theorem ZfH{X:Cx}{pins:List (Addr×Obj)}{σ:St}{H:Hp}{s:Shared}{a:Addr}{y:V}{o:Option V}(I:Inv X pins σ H s)(g:DGet H a y o):s.TypeIs (.ref a) "dict":=by
 rcases g with⟨kvs,k,e,_,_⟩|⟨kvs,k,b,e,_,_,_⟩
 ·obtain⟨_,_,vs,_,dd⟩:=dk_rd I.hok e
  exact dd.typeIs
 ·obtain⟨_,_,xs,_,dd⟩:=dt_rd I.hok e
  exact dd.typeIs
def tDGet(td ty:TE):TE:=λσ H Q=>td σ H λx H1=>ty σ H1 λy H2=>∃a v,x=.ref a/\DGet H2 a y (some v)/\Q v H2
section
variable{X:Cx}{o i e value:Expr}{pos pos' tpos:Pos}{td ty tv:TE}
theorem Zoj(hu:X.A.units+1<cLine)(ho:PE X o td)(hi:PE X i ty)(hs:NoSl i):PE X (.Subscript o i pos) (tDGet td ty):=by
 intro pins s σ H Q I h
 refine ZnE PySem.F.slot_dict_getitem.lookup hs (thn (ho pins s σ H _ I h) λu s1 ⟨x,H1,I1,rx,q1⟩=>thn (hi pins s1 σ H1 _ I1 q1) λiv s2 ⟨y,H2,I2,ry,a,v,ex,g,q2⟩=>?_)
 subst ex
 obtain rfl:u=GF a:=rx
 exact⟨ZfH I2 g,ZkA hu I2 g ry λw' s3 I3 rw'=>⟨v,H2,I3,rw',q2⟩⟩
end
end L2
namespace Mi
open PySem PySem.Spec PyProof.Rows L2
theorem Zdy(t:UG)(n:Nat):(t.orStandIn n).led=t.led:=by unfold SetTable.orStandIn;split<;>rfl
theorem ZbZ(t:UG)(n:Nat)(h:t.plain=false):(t.orStandIn n).plain=false:=by unfold SetTable.orStandIn;split<;>first|exact h|rfl
theorem ZhC(t:UG)(es:Array (Int×Value))(h:Int)(x:Value):(layNew t es h x).2.1.led=t.led:=by
 unfold layNew
 split
 ·exact Zdy _ _
 ·rfl
theorem Zex(t:UG)(es:Array (Int×Value))(h:Int)(x:Value)(hp:t.plain=false):(layNew t es h x).2.1.plain=false:=by
 unfold layNew
 split
 ·exact ZbZ _ _ hp
 ·rfl
theorem ZcS{t t':UG}{hs:Array Int}{n:Nat}{o:Array Nat}(h:t.relaid hs n=some (t',o)):t'.led=t.led/\t'.plain=t.plain:=by
 unfold SetTable.relaid SetTable.laid at h
 simp only[Option.bind_eq_bind]at h
 obtain⟨w,_,h2⟩:=Option.bind_eq_some_iff.mp h
 cases h2
 exact⟨rfl,rfl⟩
theorem Zec(t:UG)(es:Array (Int×Value))(n:Nat):(YaX t es n).2.1.led=t.led:=by
 unfold YaX
 split
 ·rename_i t' o h
  dsimp only
  split
  ·exact(ZcS h).1
  ·rfl
 ·rfl
theorem ZcD(t:UG)(es:Array (Int×Value))(n:Nat)(hp:t.plain=false):(YaX t es n).2.1.plain=false:=by
 unfold YaX
 split
 ·rename_i t' o h
  dsimp only
  split
  ·exact(ZcS h).2.trans hp
  ·rfl
 ·rfl
structure SetE (prog:YK) (w:World) (led:Bool) (o:Obj) (D:List Str) (es:Array (Int×Value)) (ep:Nat) (t:UG):Prop where
 ex:o.ExactSet
 data:o.data=.set es ep t
 el:ElemsOf (Wz prog w) es.toList
 txs:(es.toList.map λe=>strOf e.2).Perm D
 nd:D.Nodup
 room:es.size<Ybz
 fits:t.fits es.size=true
 led:t.led=led
 plain:es.size≠0->t.plain=false
def SetS(prog:YK)(w:World)(led:Bool)(h:Heap)(a:Addr)(D:List Str):Prop:=∃o es ep t,h.get? a=some o/\SetE prog w led o D es ep t
theorem Zb7{x:Str}{v:Value}(h:Ga x v=true):strOf v=x:=by
 obtain⟨t,rfl⟩:=Yam h
 rfl
section
variable{prog:YK}{w:World}{A:Around}{E:Value->Shared->Prop}{s:Shared}{led:Bool}
theorem Zle{v:Value}(h:∃k,(Wz prog w).is k v=true):Ga (strOf v) v=true:=by
 obtain⟨k,hk⟩:=h
 have hk:Ga k v=true:=hk
 rw[Zb7 hk]
 exact hk
theorem Zgv{es:List (Int×Value)}(he:ElemsOf (Wz prog w) es)(k:Str):(∃e∈es,(Wz prog w).is k e.2=true)↔k∈es.map λe=>strOf e.2:=by
 constructor
 ·rintro ⟨e,he,hk⟩
  exact Yz.mpr ⟨e,he,Zb7 hk⟩
 ·intro h
  obtain⟨e,hm,rfl⟩:=Yz.mp h
  obtain⟨⟨k,hk,_⟩,_⟩:=he e hm
  exact⟨e,hm,Zle ⟨k,hk⟩⟩
theorem add_str{a:Addr}{D:List Str}{x:Str}{tk:Tok}{Q:Bool->Shared->Prop}(hS:SetS prog w led s.heap a D)(hroom:D.length+1<Ybz)(h:∀h' b,Vm a s.heap h'->SetS prog w led h' a (if x∈D then D else D++[x])->Q b { s with heap:=h' }):
  wpAny (model prog w) A (YbT a (.str x tk) (hashStr w x)) Q E s:=by
 obtain⟨o,es,ep,t,ho,hE⟩:=hS
 have hex:=hE.ex
 have hd:=hE.data
 have hel:=hE.el
 have hf:=hE.fits
 have hkey:(Wz prog w).is x (.str x tk)=true:=by show Ga x (.str x tk)=true;simp[Ga]
 have hsc:(V1 x tk).scannable=true:=rfl
 have hlen:es.size=D.length:=by rw[<-hE.txs.length_eq,Yc,YQ]
 show wpAny (model prog w) A (YbT a (.str x tk) ((Wz prog w).hash x)) Q E s
 unfold YbT setAddHashedIn
 refine Wj (Yb (W5 ho hd hf ?_))
 dsimp only
 rw[byScan_of hsc hE.room hel]
 simp only[↓reduceIte]
 unfold setAddByScan
 refine Yb ?_
 refine Yb (Vq ?_)
 refine Yb (wpAny_setScan_of hkey ho hd hf hel ?_)
 cases hr:List.findIdx? (λe=>(Wz prog w).is x e.2) es.toList with
 |some j =>
  dsimp only
  obtain⟨hj,hpj,_⟩:=List.findIdx?_eq_some_iff_getElem.mp hr
  have hm:x∈D:=hE.txs.mem_iff.mp ((Zgv hel x).mp ⟨_,V7 hj,hpj⟩)
  refine Yd (Yd ?_)
  have:=h s.heap false (Heap.SameBut.refl a s.heap) (by rw[if_pos hm];exact⟨o,es,ep,t,ho,hE⟩)
  exact this
 |none =>
  dsimp only
  have hm:x∉D:=λhx=>by
   obtain⟨e,he,hp⟩:=(Zgv hel x).mpr (hE.txs.mem_iff.mpr hx)
   have:=List.findIdx?_eq_none_iff.mp hr e he
   rw[hp]at this
   exact Bool.noConfusion this
  have hgw:∀(b:Bool) (s₁:Shared) (Q':Unit->Shared->Prop),Q' () s₁->wpAny (model prog w) A (match b with|true=>rule "set.scan.the-table-gave-way" | false=>pure ()) Q' E s₁:=
   λb s₁ Q' hq=>by cases b<;>first|exact Yd hq|exact Vq hq
  have hperm:=layNew_perm t es ((Wz prog w).hash x) (.str x tk)
  have hfits:=layNew_fits t es ((Wz prog w).hash x) (.str x tk)
  have hled:=ZhC t es ((Wz prog w).hash x) (.str x tk)
  have hplain:=Zex t es ((Wz prog w).hash x) (.str x tk)
  generalize hL:layNew t es ((Wz prog w).hash x) (.str x tk)=L at hperm hfits hled hplain ⊢
  obtain⟨es1,t1,wasDummy,gave⟩:=L
  dsimp only at hperm hfits hled hplain ⊢
  rw[Array.toList_push]at hperm
  have hel1:ElemsOf (Wz prog w) es1.toList:=(hel.push hkey hsc).perm hperm
  have hsz1:es1.size=es.size+1:=by rw[<-YQ,hperm.length_eq,Yr,YQ];rfl
  have hb1:es1.size<Ybz:=by omega
  have hst1:(es1.toList.map λe=>strOf e.2).Perm (D++[x]):=by
   refine(hperm.map _).trans ?_
   rw[Uc]
   exact hE.txs.append_right _
  have hnd:(D++[x]).Nodup:=by
   rw[Gw]
   refine⟨hE.nd,by simp,λy hy z hz=>?_⟩
   rw[Ud.mp hz]
   exact λe=>hm (e▸hy)
  -- the end,at a table that is plain no more
  have fin:∀t2:UG,t2.led=led->t2.plain=false->t2.fits es1.size=true->wpAny (model prog w) A (do
    storeSet a es1 t2
    if(!wasDummy&&t2.tooFull)=true then do
      (match(YaX t2 es1 (Gn es1.size)).2.2 with|true=>rule "set.scan.the-table-gave-way" | false=>pure ())
      storeSet a (YaX t2 es1 (Gn es1.size)).1 (YaX t2 es1 (Gn es1.size)).2.1
      pure (some true)
     else pure (some true)) (λr s'=>match r with
      |some b=>Q b s'
      |none=>False) E s:=λt2 hl2 hp2 hf2=>by
   have hg1:(s.heap.update a (YaJ es1 t2)).get? a=some { o with data:=.set es1 (ep+1) t2 }:=by
    have:=Wr (YaJ es1 t2) ho (by rw[putSet_of es1 t2 hd];rfl)
    rw[putSet_of es1 t2 hd]at this
    exact this
   have hsb1:=WN s.heap a (YaJ es1 t2)
   refine Yb (wpAny_storeSet_of ho hd ?_ (YaK hb1))
   split
   ·have hp:=relayAll_perm t2 es1 (Gn es1.size)
    have hfr:=relayAll_fits t2 es1 (Gn es1.size)
    have hrl:=Zec t2 es1 (Gn es1.size)
    have hrp:=ZcD t2 es1 (Gn es1.size) hp2
    generalize YaX t2 es1 (Gn es1.size)=Rl at hp hfr hrl hrp ⊢
    obtain⟨es2,t3,gave2⟩:=Rl
    dsimp only at hp hfr hrl hrp ⊢
    have hsz:es2.size=es1.size:=by rw[<-YQ,hp.length_eq,YQ]
    refine Yb (hgw _ _ _ ?_)
    refine Yb (wpAny_storeSet_of hg1 rfl ?_ (YaK (by omega)))
    have hg2:((s.heap.update a (YaJ es1 t2)).update a (YaJ es2 t3)).get? a=some { o with data:=.set es2 (ep+1+1) t3 }:=
     Wr (YaJ es2 t3) hg1 rfl
    refine Yd (h _ true (hsb1.trans (WN _ a _)) ?_)
    rw[if_neg hm]
    exact⟨_,es2,_,t3,hg2,⟨hex,rfl,hel1.perm hp,(hp.map _).trans hst1,hnd,by omega,hfr,hrl.trans hl2,λ_=>hrp⟩⟩
   ·refine Yd (h _ true hsb1 ?_)
    rw[if_neg hm]
    exact⟨_,es1,_,t2,hg1,⟨hex,rfl,hel1,hst1,hnd,hb1,hf2,hl2,λ_=>hp2⟩⟩
  refine Yb (hgw _ _ _ ?_)
  have done:∀{r:Option Bool}{s':Shared},(match r with
    |some b=>Q b s'
    |none=>False)->wpAny (model prog w) A (match r with
     |some added=>pure added
     |none=>setAddHashedIn a (.str x tk) ((Wz prog w).hash x) 99999) Q E s':=λ{r s'} hr=>by
   cases r with
   |none=>exact hr.elim
   |some b=>exact Yd hr
  split
  ·refine Yb ?_
   rw[hashByValue_scannable 8 hsc]
   refine Yd ?_
   exact W2 (fin { t1 with plain:=false } (hled.trans hE.led) rfl (SetTable.fits_plain_off hfits)) (λr s' hr=>done hr) λ_ _ e=>e
  ·rename_i hpl
   refine Yb (Yd ?_)
   simp only[↓reduceIte]
   exact W2 (fin t1 (hled.trans hE.led) (by simpa using hpl) hfits) (λr s' hr=>done hr) λ_ _ e=>e
def dd(val:Nat->Str):Nat->List Str
 |0=>[]
 |i+1=>if val i∈dd val i then dd val i else dd val i++[val i]
abbrev Zfv(w:World):Bool:=!w.params.followText "set-order"
theorem SetS.at'{h h':Heap}{a:Addr}{D:List Str}(hS:SetS prog w led h a D)(k:∀o,h.get? a=some o->h'.get? a=some o):SetS prog w led h' a D:=by
 obtain⟨o,es,ep,t,ho,hE⟩:=hS
 exact⟨o,es,ep,t,k o ho,hE⟩
theorem Zkc{h:Heap}{a:Addr}{led:Bool}(ha:h.get? a=some { cls:=.type "set",dict:=none,data:=.set #[] 0 (.fresh 0 0 led) }):SetS prog w led h a []:=
 ⟨_,#[],0,_,ha,⟨⟨rfl,rfl,rfl⟩,rfl,λe he=>by simp at he,List.Perm.nil,Vg,by unfold Ybz;decide,rfl,rfl,λh=>absurd rfl h⟩⟩
set_option maxHeartbeats 3200000 in
end
end Mi
namespace PySem.F
theorem J1:Manifest.owners.lookup (String.ofList ['r','o','t','a','r','e','t','i','_','t','e','s'].reverse)=some Manifest.sig_set_iterator:=by kernel_rfl
theorem slot_set_iterator_next:Slot "set_iterator" "__next__" "set_iterator.__next__" :=
 .of (owner:="set_iterator") (n:="__next__") (by rw[typeLookup_type,builtinLookup_eq_fast];kernel_rfl) (by decide +kernel) (by decide +kernel) (by decide +kernel)
  (by first|exact .inl (by decide +kernel)|exact .inr (by decide +kernel)) (by rw[Ybp];kernel_rfl)
theorem entry_set_iterator_next:entryFor table "set_iterator.__next__" = some Builtin.«set_iterator.__next__»:=entryFor_of_tree (by kernel_rfl)
theorem args_set_iterator_next_1(a:Value):argsOk "set_iterator.__next__" ⟨[a],[]⟩:=by
 unfold argsOk;rw[signature?_of (id:="set_iterator.__next__") (n:=['_','_','t','x','e','n','_','_']) (o:=['r','o','t','a','r','e','t','i','_','t','e','s']) (by kernel_rfl) J1];kernel_rfl
theorem entry_set_iter_here:entryFor table "set.__iter__" = some Builtin.«frozenset.__iter__»:=entryFor_alias (id':="frozenset.__iter__") (by kernel_rfl) rfl (by decide +kernel) (by kernel_rfl)
end PySem.F
namespace Mi
open PySem PySem.Spec PyProof.Rows L2
section
variable{M:Model}{A:Around}{E:Value->Shared->Prop}{s:Shared}
theorem ZgR{src:Source}{n:Nat}{Q:Nat->Shared->Prop}(hn:n≠0)(h:∀i d,i<n->Q i { s with drawn:=d }):wpAny M A (choose src n) Q E s:=
 λΓ p hΓ=>⟨hn,h _ _ (Nat.mod_lt _ (Nat.pos_of_ne_zero hn))⟩
theorem Za0{α:Type}:∀(l:List α) (i:Nat) (h:i<l.length),(l[i]::l.eraseIdx i).Perm l
 |_::_,0,_=>.refl _
 |x::l,i+1,h=>by
  have h':i<l.length:=by simpa using h
  show(l[i]::x::l.eraseIdx i).Perm (x::l)
  exact(YaF ..).trans ((Za0 l i h').cons x)
theorem ZbY{α:Type}:∀(n:Nat) (xs:List α) {s:Shared}{Q:List α->Shared->Prop},xs.length=n->(∀ys d,ys.Perm xs->Q ys { s with drawn:=d })->wpAny M A (Ycq n xs) Q E s
 |0,xs,s,Q,hl,h=>by
  have e:xs=[]:=List.eq_nil_of_length_eq_zero hl
  subst e
  unfold Ycq
  exact Yd (h [] s.drawn .nil)
 |n+1,[],s,Q,hl,h=>by simp at hl
 |n+1,x::xs,s,Q,hl,h=>by
  unfold Ycq
  refine Yb (ZgR (by simp) λi d hi=>?_)
  have e:(x::xs)[i]?=some (x::xs)[i]:=Yn hi
  rw[e]
  dsimp only
  refine Yb (ZbY n ((x::xs).eraseIdx i) (by rw[Vc hi,hl];rfl) λys d' hp=>?_)
  exact Yd (h _ d' ((hp.cons _).trans (Za0 _ _ hi)))
theorem Zef{α:Type}(next:Nat->Nat):∀(fuel k:Nat) (left:List α) (out:Array α),left.length=fuel->(YbU next fuel k left out).toList.Perm (out.toList++left)
 |0,k,left,out,h=>by
  have e:left=[]:=List.eq_nil_of_length_eq_zero h
  subst e
  unfold YbU
  rw[Ua]
 |fuel+1,k,left,out,h=>by
  unfold YbU
  have hi:next k%left.length<left.length:=Nat.mod_lt _ (by omega)
  rw[Yn hi]
  dsimp only
  refine(Zef next fuel (k+1) _ _ (by rw[Vc hi];omega)).trans ?_
  rw[Array.toList_push,Wm]
  exact(Za0 left _ hi).append_left _
theorem picked{α:Type}(next:Nat->Nat)(xs:Array α):(V3 next xs).toList.Perm xs.toList:=by
 unfold V3
 exact Zef next xs.size 0 xs.toList #[] (by simp)
end
section
variable{prog:YK}{w:World}{A:Around}{E:Value->Shared->Prop}{s:Shared}
def Jf(h:Heap)(it a:Addr)(first:Value)(i n ep:Nat):Prop:=∃o,h.get? it=some o/\o.cls=.type "set_iterator"/\o.data=.fields #[first,.int i 0,.ref a,.int n 0,.int ep 0]
theorem Jf.typeIs{it a:Addr}{first:Value}{i n ep:Nat}(h:Jf s.heap it a first i n ep):s.TypeIs (.ref it) "set_iterator":=let⟨o,ho,hc,_⟩:=h;⟨o,ho,hc⟩
theorem Zhw{it a tp:Addr}{i:Nat}{ep:Nat}{o:Obj}{es:Array (Int×Value)}{t:UG}{pl:Array Value}{pp:Nat}{e:Int×Value}{Q:Option Value->Shared->Prop}(h:Jf s.heap it a (.ref tp) i es.size ep)(ha:s.heap.get? a=some o)(hd:o.data=.set es ep t)(hf:t.fits es.size=true)(htp:s.heap.IsTuple tp pl)(hp:pl[i]?=some (.int pp 0))(he:es[pp]?=some e)(q:∀h',Jf h' it a (.ref tp) (i+1) es.size ep->Vm it s.heap h'->Q (some e.2) { s with heap:=h' }):wpAny (model prog w) A (pyNext (.ref it)) Q E s:=by
 obtain⟨oi,hoi,hci,hdi⟩:=id h
 obtain⟨ot,hot,_,nt,hdt⟩:=htp
 unfold pyNext
 refine Yb (Yaf (Ub (name:=Gg "__next__") h.typeIs PySem.F.slot_set_iterator_next (WQ PySem.F.slot_set_iterator_next h.typeIs PySem.F.entry_set_iterator_next ?_ (PySem.F.args_set_iterator_next_1 _))))
 unfold Builtin.«set_iterator.__next__» Ybk
 simp only[Uv,Uq,YD,↓reduceIte,bind_assoc,Wn,bne_self_eq_false]
 refine Yb (Yd ?_)
 dsimp only
 refine Yb (Vh hoi hdi ?_)
 dsimp only
 refine Yb (WY ha hd hf ?_)
 simp only[bne_self_eq_false,YD,↓reduceIte]
 refine Yb (wpAny_seqItems hot hdt ?_)
 dsimp only
 simp only[UV,hp]
 refine Yb ?_
 unfold setNextDrawn
 refine Yb (W5 ha hd hf ?_)
 dsimp only
 simp only[bne_self_eq_false,YD,↓reduceIte,he]
 refine Yd ?_
 refine Yb (Ur hoi hdi (by simp) (Yd ⟨_,rfl,Yd (q _ ⟨_,Wr _ hoi (Uu (WD hdi _)),(YaL ..).trans hci,?_⟩ (WN ..))⟩))
 rw[WD hdi];simp[rawInt]
theorem Jc{Q:Bool->Shared->Prop}{M:Model}(h:Q (M.w.params.followText "set-order") s):wpAny M A Yce Q E s:=by
 unfold Yce
 exact Yb (GJ (Yd h))
theorem ZcK{it a:Addr}{f0 f0':Value}{i n ep:Nat}{v:Value}{Q:Value->Shared->Prop}(h:Jf s.heap it a f0 i n ep)(q:∀h',Jf h' it a f0' (i+1) n ep->Vm it s.heap h'->Q v { s with heap:=h' }):
  wpAny (model prog w) A (do setField (.ref it) 0 f0';setField (.ref it) 1 (rawInt ((i:Int)+1));ret v) (λfin s'=>∃r,fin=.done (.ret r)/\Q r s') E s:=by
 obtain⟨oi,hoi,hci,hdi⟩:=id h
 refine Yb (Ur hoi hdi (by simp) ?_)
 have h1:(s.heap.update it (Vb λx=>x.setIfInBounds 0 f0')).get? it=some (Vb (λx=>x.setIfInBounds 0 f0') oi):=Wr _ hoi (Uu (WD hdi _))
 have hd1:(Vb (λx=>x.setIfInBounds 0 f0') oi).data=.fields #[f0',.int i 0,.ref a,.int n 0,.int ep 0]:=by rw[WD hdi];simp
 refine Yb (Ur h1 hd1 (by simp) (Yd ⟨_,rfl,q _ ⟨_,Wr _ h1 (Uu (WD hd1 _)),(YaL ..).trans ((YaL ..).trans hci),?_⟩ ((WN ..).trans (WN ..))⟩))
 rw[WD hd1];simp[rawInt]
theorem Zju{it a:Addr}{i sl:Nat}{ep:Nat}{o:Obj}{es:Array (Int×Value)}{t:UG}{e:Int×Value}{Q:Option Value->Shared->Prop}(hb:w.params.followText "set-order" = true)(h:Jf s.heap it a (.int sl 0) i es.size ep)(ha:s.heap.get? a=some o)(hd:o.data=.set es ep t)(hf:t.fits es.size=true)(he:(V3 (w.params.setOrder a ep) es)[i]?=some e)(q:∀h',Jf h' it a (.int sl 0) (i+1) es.size ep->Vm it s.heap h'->Q (some e.2) { s with heap:=h' }):wpAny (model prog w) A (pyNext (.ref it)) Q E s:=by
 obtain⟨oi,hoi,hci,hdi⟩:=id h
 unfold pyNext
 refine Yb (Yaf (Ub (name:=Gg "__next__") h.typeIs PySem.F.slot_set_iterator_next (WQ PySem.F.slot_set_iterator_next h.typeIs PySem.F.entry_set_iterator_next ?_ (PySem.F.args_set_iterator_next_1 _))))
 unfold Builtin.«set_iterator.__next__» Ybk
 simp only[Uv,Uq,YD,↓reduceIte,bind_assoc,Wn,bne_self_eq_false]
 refine Yb (Yd ?_)
 dsimp only
 refine Yb (Vh hoi hdi ?_)
 dsimp only
 refine Yb (WY ha hd hf ?_)
 simp only[bne_self_eq_false,YD,↓reduceIte]
 refine Yb ?_
 unfold Ycw
 refine Yb (W5 ha hd hf ?_)
 dsimp only
 refine Yb (Jc ?_)
 show wpAny _ _ (if w.params.followText "set-order" = true then _ else _) _ _ _
 rw[if_pos hb]
 simp only[UV,bne_self_eq_false,YD,↓reduceIte]
 refine Yb ?_
 unfold setWalk
 refine Yb (W5 ha hd hf ?_)
 dsimp only
 refine Yb (Jc ?_)
 show wpAny _ _ (if w.params.followText "set-order" = true then _ else _) _ _ _
 rw[if_pos hb]
 refine Yb (GJ (Yd ?_))
 refine Yd ?_
 show wpAny _ _ (match((V3 (w.params.setOrder a ep) es)[i]?).map λe=>(e.2,sl)with
  |some (x,next)=>_
  |none=>_) _ _ _
 rw[he]
 exact ZcK h λh' h1 h2=>Yd (q h' h1 h2)
theorem below0(j:Nat):UL #[j] 0=0:=by simp[UL,SetTable.below.go]
theorem below1(j:Nat):UL #[j] (j+1)=1:=by simp[UL,SetTable.below.go]
theorem ZaU{α:Type}{Q:α->Shared->Prop}(hA:A.handled=none)(q:∀g e,(∀c o,s.heap.get? c=some o->g.get? c=some o)->(∃o,g.get? e=some o/\o.cls=.type "StopIteration")->E (.ref e) { s with heap:=g }):wpAny (model prog w) A (newExc (.type "StopIteration") [] >>= λe=>(raiseNew e:Sem α)) Q E s:=by
 refine Yb ?_
 simp only[newExc,newTuple]
 refine Yb (Wv ?_ (by size_fits))
 refine Yb (m:=firstArgMember _ _) (wpAny_of_eq (a:=Gr) (by first|rfl|(simp only[firstArgMember];rfl)) (Wv ?_ (by size_fits)))
 simp only[raiseNew]
 refine Yb (wpAny_handled ?_)
 rw[hA]
 exact Yb (Yd (wpAny_throw (q _ _ (λc o e=>Ye _ (Ye _ e)) ⟨_,Yt _ rfl,rfl⟩)))
theorem ZlX{it a:Addr}{ep:Nat}{o:Obj}{e:Int×Value}{t:UG}{j:Nat}{Q:Option Value->Shared->Prop}(hb:w.params.followText "set-order" = false)(hled:t.led=true)(hpl:t.place=#[j])(h:Jf s.heap it a (.int 0 0) 0 1 ep)(ha:s.heap.get? a=some o)(hd:o.data=.set #[e] ep t)(hf:t.fits 1=true)(q:∀h',Jf h' it a (.int (j+1:Nat) 0) 1 1 ep->Vm it s.heap h'->Q (some e.2) { s with heap:=h' }):wpAny (model prog w) A (pyNext (.ref it)) Q E s:=by
 obtain⟨oi,hoi,hci,hdi⟩:=id h
 unfold pyNext
 refine Yb (Yaf (Ub (name:=Gg "__next__") h.typeIs PySem.F.slot_set_iterator_next (WQ PySem.F.slot_set_iterator_next h.typeIs PySem.F.entry_set_iterator_next ?_ (PySem.F.args_set_iterator_next_1 _))))
 unfold Builtin.«set_iterator.__next__» Ybk
 simp only[Uv,Uq,YD,↓reduceIte,bind_assoc,Wn,bne_self_eq_false]
 refine Yb (Yd ?_)
 dsimp only
 refine Yb (Vh hoi hdi ?_)
 dsimp only
 refine Yb (WY ha hd hf ?_)
 rw[if_neg (by simp)]
 refine Yb ?_
 unfold Ycw
 refine Yb (W5 ha hd hf ?_)
 dsimp only
 refine Yb (Jc ?_)
 show wpAny _ _ (if w.params.followText "set-order" = true then _ else _) _ _ _
 rw[if_neg (by rw[hb];decide)]
 split
 ·rename_i hdr
  have hdr:(!t.plain&&decide (1>1))=true:=hdr
  simp at hdr
 ·refine Yb ?_
  show wpAny _ _ (if(!t.led&&!(#[e]:Array (Int×Value)).isEmpty)=true then _ else _) _ _ _
  rw[if_neg (by rw[hled];simp)]
  refine Yd ?_
  rw[hpl]
  show wpAny _ _ (pure (match(#[e]:Array (Int×Value))[UL #[j] 0]?,(#[j]:Array Nat)[UL #[j] 0]? with
   |some (_,x),some j=>some (x,j+1)
   |_,_=>none)) _ _ _
  rw[below0]
  refine Yd ?_
  exact ZcK h λh' h1 h2=>Yd (q h' h1 h2)
theorem Zkr{it a:Addr}{f0:Value}{i n ep:Nat}{Q:Option Value->Shared->Prop}(hA:A.handled=none)(h:Jf s.heap it a f0 i n ep)(b:∀{Q':Fin->Shared->Prop}{E':Value->Shared->Prop},(∀g e,Yaq it s.heap g->(∃o,g.get? e=some o/\o.cls=.type "StopIteration")->E' (.ref e) { s with heap:=g })->wpAny (model prog w) A.in1 (Builtin.«set_iterator.__next__» ⟨[.ref it],[]⟩) Q' E' s)(q:∀g,Yaq it s.heap g->Q none { s with heap:=g }):wpAny (model prog w) A (pyNext (.ref it)) Q E s:=by
 unfold pyNext
 refine Yb (Yaf (Ub (name:=Gg "__next__") h.typeIs PySem.F.slot_set_iterator_next (WQ PySem.F.slot_set_iterator_next h.typeIs PySem.F.entry_set_iterator_next (b λg e k he=>?_) (PySem.F.args_set_iterator_next_1 _))))
 obtain⟨o,ho,hc⟩:=he
 exact Yb (wpAny_isInstance (T:="StopIteration") (b:=true) ⟨o,ho,hc⟩ isSubtype_stop (Yd (q g k)))
theorem Zks{it a tp:Addr}{i:Nat}{ep:Nat}{o:Obj}{es:Array (Int×Value)}{t:UG}{pl:Array Value}{Q:Option Value->Shared->Prop}(hA:A.handled=none)(h:Jf s.heap it a (.ref tp) i es.size ep)(ha:s.heap.get? a=some o)(hd:o.data=.set es ep t)(hf:t.fits es.size=true)(htp:s.heap.IsTuple tp pl)(hp:pl[i]?=none)(q:∀g,Yaq it s.heap g->Q none { s with heap:=g }):wpAny (model prog w) A (pyNext (.ref it)) Q E s:=by
 refine Zkr hA h (λ{Q' E'} r=>?_) q
 obtain⟨oi,hoi,hci,hdi⟩:=id h
 obtain⟨ot,hot,_,nt,hdt⟩:=htp
 unfold Builtin.«set_iterator.__next__» Ybk
 simp only[Uv,Uq,YD,↓reduceIte,bind_assoc,Wn,bne_self_eq_false]
 refine Yb (Yd ?_)
 dsimp only
 refine Yb (Vh hoi hdi ?_)
 dsimp only
 refine Yb (WY ha hd hf ?_)
 simp only[bne_self_eq_false,YD,↓reduceIte]
 refine Yb (wpAny_seqItems hot hdt ?_)
 dsimp only
 simp only[UV,hp]
 refine Yb (Ur hoi hdi (by simp) ?_)
 have h1:(s.heap.update it (Vb λx=>x.setIfInBounds 0 (rawInt 0))).get? it=some (Vb (λx=>x.setIfInBounds 0 (rawInt 0)) oi):=Wr _ hoi (Uu (WD hdi _))
 have hd1:(Vb (λx=>x.setIfInBounds 0 (rawInt 0)) oi).data=.fields #[rawInt 0,.int i 0,.ref a,.int es.size 0,.int ep 0]:=by rw[WD hdi];simp
 refine Yb (Ur h1 hd1 (by simp) (ZaU (by simp[hA]) λg e k he=>r g e (λc o n x=>?_) he))
 exact k c o (((WN ..).trans (WN ..)).extBut c o n x)
theorem Zmp{it a:Addr}{i sl:Nat}{ep:Nat}{o:Obj}{es:Array (Int×Value)}{t:UG}{Q:Option Value->Shared->Prop}(hA:A.handled=none)(hb:w.params.followText "set-order" = true)(h:Jf s.heap it a (.int sl 0) i es.size ep)(ha:s.heap.get? a=some o)(hd:o.data=.set es ep t)(hf:t.fits es.size=true)(he:(V3 (w.params.setOrder a ep) es)[i]?=none)(q:∀g,Yaq it s.heap g->Q none { s with heap:=g }):wpAny (model prog w) A (pyNext (.ref it)) Q E s:=by
 refine Zkr hA h (λ{Q' E'} r=>?_) q
 obtain⟨oi,hoi,hci,hdi⟩:=id h
 unfold Builtin.«set_iterator.__next__» Ybk
 simp only[Uv,Uq,YD,↓reduceIte,bind_assoc,Wn,bne_self_eq_false]
 refine Yb (Yd ?_)
 dsimp only
 refine Yb (Vh hoi hdi ?_)
 dsimp only
 refine Yb (WY ha hd hf ?_)
 simp only[bne_self_eq_false,YD,↓reduceIte]
 refine Yb ?_
 unfold Ycw
 refine Yb (W5 ha hd hf ?_)
 dsimp only
 refine Yb (Jc ?_)
 show wpAny _ _ (if w.params.followText "set-order" = true then _ else _) _ _ _
 rw[if_pos hb]
 simp only[UV,bne_self_eq_false,YD,↓reduceIte]
 refine Yb ?_
 unfold setWalk
 refine Yb (W5 ha hd hf ?_)
 dsimp only
 refine Yb (Jc ?_)
 show wpAny _ _ (if w.params.followText "set-order" = true then _ else _) _ _ _
 rw[if_pos hb]
 refine Yb (GJ (Yd ?_))
 refine Yd ?_
 show wpAny _ _ (match((V3 (w.params.setOrder a ep) es)[i]?).map λe=>(e.2,sl)with
  |some (x,next)=>_
  |none=>_) _ _ _
 rw[he]
 refine Yb (Ur hoi hdi (by simp) (ZaU (by simp[hA]) λg e k he=>r g e (λc o n x=>?_) he))
 exact k c o ((WN ..).extBut c o n x)
theorem Zo4{it a:Addr}{i sl:Nat}{ep:Nat}{o:Obj}{es:Array (Int×Value)}{t:UG}{Q:Option Value->Shared->Prop}(hA:A.handled=none)(hb:w.params.followText "set-order" = false)(hled:t.led=true)(h:Jf s.heap it a (.int sl 0) i es.size ep)(ha:s.heap.get? a=some o)(hd:o.data=.set es ep t)(hf:t.fits es.size=true)(hs:es.size<=1)(he:es[UL t.place sl]?=none)(q:∀g,Yaq it s.heap g->Q none { s with heap:=g }):wpAny (model prog w) A (pyNext (.ref it)) Q E s:=by
 refine Zkr hA h (λ{Q' E'} r=>?_) q
 obtain⟨oi,hoi,hci,hdi⟩:=id h
 unfold Builtin.«set_iterator.__next__» Ybk
 simp only[Uv,Uq,YD,↓reduceIte,bind_assoc,Wn,bne_self_eq_false]
 refine Yb (Yd ?_)
 dsimp only
 refine Yb (Vh hoi hdi ?_)
 dsimp only
 refine Yb (WY ha hd hf ?_)
 simp only[bne_self_eq_false,YD,↓reduceIte]
 refine Yb ?_
 unfold Ycw
 refine Yb (W5 ha hd hf ?_)
 dsimp only
 refine Yb (Jc ?_)
 show wpAny _ _ (if w.params.followText "set-order" = true then _ else _) _ _ _
 rw[if_neg (by rw[hb];decide)]
 split
 ·rename_i hdr
  have hdr:(!t.plain&&decide (es.size>1))=true:=hdr
  simp at hdr
  omega
 ·refine Yb ?_
  show wpAny _ _ (if(!t.led&&!es.isEmpty)=true then _ else _) _ _ _
  rw[if_neg (by rw[hled];simp)]
  refine Yd ?_
  show wpAny _ _ (pure (match es[UL t.place sl]?,t.place[UL t.place sl]? with
   |some (_,x),some j=>some (x,j+1)
   |_,_=>none)) _ _ _
  rw[he]
  refine Yd ?_
  refine Yb (Ur hoi hdi (by simp) (ZaU (by simp[hA]) λg e k he=>r g e (λc o n x=>?_) he))
  exact k c o ((WN ..).extBut c o n x)
end
end Mi
namespace PySem.F
theorem slot_set_iterator_iter:Slot "set_iterator" "__iter__" "set_iterator.__iter__" :=
 .of (owner:="set_iterator") (n:="__iter__") (by rw[typeLookup_type,builtinLookup_eq_fast];kernel_rfl) (by decide +kernel) (by decide +kernel) (by decide +kernel)
  (by first|exact .inl (by decide +kernel)|exact .inr (by decide +kernel)) (by rw[Ybp];kernel_rfl)
theorem entry_set_iterator_iter:entryFor table "set_iterator.__iter__" = some Builtin.«dict_keyiterator.__iter__»:=entryFor_alias (id':="dict_keyiterator.__iter__") (by kernel_rfl) rfl (by decide +kernel) (by kernel_rfl)
theorem args_set_iterator_iter_1(a:Value):argsOk "set_iterator.__iter__" ⟨[a],[]⟩:=by
 unfold argsOk;rw[signature?_of (id:="set_iterator.__iter__") (n:=['_','_','r','e','t','i','_','_']) (o:=['r','o','t','a','r','e','t','i','_','t','e','s']) (by kernel_rfl) J1];kernel_rfl
end PySem.F
namespace Mi
open PySem PySem.Spec PyProof.Rows L2
section
variable{prog:YK}{w:World}{A:Around}{E:Value->Shared->Prop}{s:Shared}
theorem Jf.at'{h h':Heap}{it a:Addr}{f0:Value}{i n ep:Nat}(x:Jf h it a f0 i n ep)(k:∀o,h.get? it=some o->h'.get? it=some o):Jf h' it a f0 i n ep:=let⟨o,ho,r⟩:=x;⟨o,k o ho,r⟩
inductive SetIt (w:World) (h:Heap) (it a tp:Addr) (vs:List Value) (i:Nat):Prop where
 |drawn {o:Obj}{es:Array (Int×Value)}{ep:Nat}{t:UG}{pl:Array Value}:Jf h it a (.ref tp) i es.size ep->h.get? a=some o->o.data=.set es ep t->t.fits es.size=true->h.IsTuple tp pl ->
  (∀(k:Nat) v,vs[k]?=some v->∃(pp:Nat) (e:Int×Value),pl[k]?=some (.int pp 0)/\es[pp]?=some e/\e.2=v)->pl.size=vs.length->SetIt w h it a tp vs i
 |text {o:Obj}{es:Array (Int×Value)}{ep:Nat}{t:UG}:w.params.followText "set-order" = true->Jf h it a (.int (0:Nat) 0) i es.size ep->h.get? a=some o->o.data=.set es ep t->t.fits es.size=true ->
  vs=(V3 (w.params.setOrder a ep) es).toList.map (·.2)->SetIt w h it a tp vs i
 |few {o:Obj}{es:Array (Int×Value)}{ep:Nat}{t:UG}{sl:Nat}:w.params.followText "set-order" = false->t.led=true->Jf h it a (.int sl 0) i es.size ep->h.get? a=some o->o.data=.set es ep t->t.fits es.size=true->es.size<=1 ->
  vs=es.toList.map (·.2)->(i=0/\sl=0∨i=1/\es.size=1/\∃j,t.place=#[j]/\sl=j+1)->SetIt w h it a tp vs i
theorem SetIt.at'{h h':Heap}{it a tp:Addr}{vs:List Value}{i:Nat}(x:SetIt w h it a tp vs i)(k:∀b∈[it,a,tp],∀o,h.get? b=some o->h'.get? b=some o):SetIt w h' it a tp vs i:=by
 cases x with
 |drawn h1 h2 h3 h4 h5 h6 h7=>exact .drawn (h1.at' (k it (by simp))) (k a (by simp) _ h2) h3 h4 (let⟨o,ho,r⟩:=h5;⟨o,k tp (by simp) o ho,r⟩) h6 h7
 |text h0 h1 h2 h3 h4 h5=>exact .text h0 (h1.at' (k it (by simp))) (k a (by simp) _ h2) h3 h4 h5
 |few h0 hl h1 h2 h3 h4 h5 h6 h7=>exact .few h0 hl (h1.at' (k it (by simp))) (k a (by simp) _ h2) h3 h4 h5 h6 h7
theorem Zi3{t:UG}(h:t.fits 1=true):∃j,t.place=#[j]:=by
 unfold SetTable.fits at h
 simp only[Yo,beq_iff_eq]at h
 have h1:=h.1
 rcases hp:t.place with⟨l⟩
 rw[hp]at h1
 match l,h1 with
 |[j],_=>exact⟨j,rfl⟩
theorem ZiC(hA:A.handled=none){it a tp:Addr}{vs:List Value}:Walks prog w A it [it,a,tp] [it] vs.length (λi v=>vs[i]?=some v) (λi h=>SetIt w h it a tp vs i/\a≠it/\tp≠it) where
 sub:=λb hb=>by simp at hb;simp[hb]
 frame:=λ_ _ _ st hk=>⟨st.1.at' hk,st.2⟩
 item:=λi s Q E hi st hQ=>by
  obtain⟨st,na,nt⟩:=st
  have hv:vs[i]?=some vs[i]:=Yn hi
  cases st with
  |drawn h1 h2 h3 h4 h5 h6 h7 =>
   obtain⟨pp,e,q1,q2,q3⟩:=h6 i _ hv
   refine Zhw h1 h2 h3 h4 h5 q1 q2 λh' r hs=>?_
   rw[q3]
   obtain⟨ot,hot,rt⟩:=h5
   exact hQ _ h' s.toks hv ⟨.drawn r (hs.extBut _ _ na h2) h3 h4 ⟨ot,hs.extBut _ _ nt hot,rt⟩ h6 h7,na,nt⟩ λb o hb e=>hs.extBut b o (λh=>hb (by simp[h])) e
  |@text o es ep t h0 h1 h2 h3 h4 h5 =>
   have he:∃e,(V3 (w.params.setOrder a ep) es)[i]?=some e/\e.2=vs[i]:=by
    have hv':=hv
    generalize hx:vs[i]=x at hv' ⊢
    rw[h5,YZ,WM]at hv'
    cases q:(V3 (w.params.setOrder a ep) es)[i]? with
    |none=>rw[q]at hv';cases hv'
    |some e=>rw[q]at hv';exact⟨e,rfl,YG hv'⟩
   obtain⟨e,he,hev⟩:=he
   refine Zju h0 h1 h2 h3 h4 he λh' r hs=>?_
   rw[hev]
   exact hQ _ h' s.toks hv ⟨.text h0 r (hs.extBut _ _ na h2) h3 h4 h5,na,nt⟩ λb o hb e=>hs.extBut b o (λh=>hb (by simp[h])) e
  |@few o es ep t sl h0 hl h1 h2 h3 h4 h5 h6 h7 =>
   have hsz:vs.length=es.size:=by rw[h6,Yc,YQ]
   have e1:es.size=1:=by omega
   rcases h7 with⟨rfl,rfl⟩|⟨rfl,_⟩
   ·obtain⟨e,rfl⟩:∃e,es=#[e]:=by
     rcases es with⟨l⟩
     match l,e1 with
     |[e],_=>exact⟨e,rfl⟩
    obtain⟨j,hj⟩:=Zi3 h4
    refine ZlX h0 hl hj h1 h2 h3 h4 λh' r hs=>?_
    have hve:e.2=vs[0]:=by simp[h6]
    rw[hve]
    exact hQ _ h' s.toks hv ⟨.few h0 hl r (hs.extBut _ _ na h2) h3 h4 h5 h6 (.inr ⟨rfl,rfl,j,hj,rfl⟩),na,nt⟩ λb o hb e=>hs.extBut b o (λh=>hb (by simp[h])) e
   ·omega
 done:=λs Q E st hQ=>by
  obtain⟨st,na,nt⟩:=st
  have fin:∀g,Yaq it s.heap g->Q none { s with heap:=g }:=λg k=>hQ g s.toks λb o hb e=>k b o (λh=>hb (by simp[h])) e
  cases st with
  |drawn h1 h2 h3 h4 h5 h6 h7=>exact Zks hA h1 h2 h3 h4 h5 (by rw[<-h7];simp) fin
  |@text o es ep t h0 h1 h2 h3 h4 h5=>exact Zmp hA h0 h1 h2 h3 h4 (by rw[h5];simp) fin
  |@few o es ep t sl h0 hl h1 h2 h3 h4 h5 h6 h7 =>
   have hsz:vs.length=es.size:=by rw[h6,Yc,YQ]
   refine Zo4 hA h0 hl h1 h2 h3 h4 h5 ?_ fin
   rcases h7 with⟨h8,rfl⟩|⟨h8,h9,j,hj,rfl⟩
   ·have:es.size=0:=by omega
    simp[this]
   ·rw[hj,below1]
    simp[h9]
 self:=λi s Q E st h=>by
  have hT:s.TypeIs (.ref it) "set_iterator":=by
   cases st.1 with
   |drawn h1=>exact h1.typeIs
   |text _ h1=>exact h1.typeIs
   |few _ _ h1=>exact h1.typeIs
  refine wpAny_pyIter_slot hT PySem.F.slot_set_iterator_iter (WQ PySem.F.slot_set_iterator_iter hT PySem.F.entry_set_iterator_iter ?_ (PySem.F.args_set_iterator_iter_1 _))
  show wpAny _ _ (ret (.ref it)) _ _ s
  exact Yd ⟨_,rfl,"set_iterator",_,hT,PySem.F.slot_set_iterator_next.lookup,h⟩
def ZdR(vs:List Value)(D:List Str):Prop:=(∀v∈vs,∃x t,v=.str x t)/\(vs.map strOf).Perm D
theorem Zda{led:Bool}{o:Obj}{D:List Str}{es:Array (Int×Value)}{ep:Nat}{t:UG}(hE:SetE prog w led o D es ep t){l:List (Int×Value)}(hp:l.Perm es.toList):ZdR (l.map (·.2)) D:=by
 constructor
 ·intro v hv
  obtain⟨e,he,rfl⟩:=Yz.mp hv
  obtain⟨⟨k,hk,_⟩,_⟩:=hE.el e (hp.mem_iff.mp he)
  obtain⟨u,hu⟩:=Yam hk
  exact⟨k,u,hu⟩
 ·rw[Y0]
  exact(hp.map (strOf ∘ λe:Int×Value=>e.2)).trans hE.txs
theorem range_list:∀l:List (Int×Value),(YF l.length).filterMap (λp=>l[p]?)=l
 |[]=>rfl
 |x::l=>by
  rw[YB,List.range_succ_eq_map,Gy,Yax]
  show x::(YF l.length).filterMap (λp=>l[p]?)=_
  rw[range_list l]
theorem Zha(es:Array (Int×Value)):((YF es.size).filterMap λp=>es[p]?)=es.toList:=by
 have:=range_list es.toList
 rw[YQ]at this
 simpa only[WM]using this
theorem ZfD{es:Array (Int×Value)}:∀{ys:List Nat},(∀p∈ys,p<es.size)->(ys.filterMap λp=>es[p]?)=ys.map λp=>es[p]?.getD (0,.none)
 |[],_=>rfl
 |p::ys,h=>by
  have hlt:=h p Yp
  rw[Gy,Yq,ZfD λq hq=>h q (Yg _ hq)]
  simp[hlt]
theorem Zmc{a:Addr}{D:List Str}{Q:Value->Shared->Prop}(hS:SetS prog w (Zfv w) s.heap a D)(h:∀(h':Heap) d it tp vs,SetIt w h' it a tp vs 0->a≠it->tp≠it->ZdR vs D->s.heap.objs.size<=it->(tp=a∨s.heap.objs.size<=tp)->tp<h'.objs.size->it<h'.objs.size->(∀b o,s.heap.get? b=some o->h'.get? b=some o)->Q (.ref it) { s with heap:=h',drawn:=d }):
  wpAny (model prog w) A (pyIter (.ref a)) Q E s:=by
 obtain⟨o,es,ep,t,ha,hE⟩:=hS
 have hT:s.TypeIs (.ref a) "set":=⟨o,ha,hE.ex.1⟩
 have hal:=Ys ha
 refine wpAny_pyIter_slot hT PySem.F.slot_set_iter (WQ PySem.F.slot_set_iter hT PySem.F.entry_set_iter_here ?_ (PySem.F.args_set_iter_1 _))
 unfold Builtin.«frozenset.__iter__» Builtin.Frozenset.slot0 Ybk
 simp only[Uv,Uq,YD,↓reduceIte,bind_assoc,Wn,bne_self_eq_false]
 unfold Builtin.Frozenset.addrOf Builtin.Frozenset.sizeOf
 refine Yb (Yd ?_)
 first
  |refine Yb (Yb (WY ha hE.data hE.fits (Yd ?_)))
  |(refine Yb (Yd ?_);refine Yb (Yb (WY ha hE.data hE.fits (Yd ?_))))
 refine Yb ?_
 unfold setDrawn
 refine Yb (W5 ha hE.data hE.fits ?_)
 dsimp only
 refine Yb (Jc ?_)
 refine Yd ?_
 -- what is made at the end
 have made:∀(h1:Heap) (d:_) (first:Value),(∀b o,s.heap.get? b=some o->h1.get? b=some o)->s.heap.objs.size<=h1.objs.size->(∀h':Heap,(∀b o,h1.get? b=some o->h'.get? b=some o)->h'.objs.size=h1.objs.size+1->Jf h' h1.objs.size a first 0 es.size ep->∃tp vs,SetIt w h' h1.objs.size a tp vs 0/\tp≠h1.objs.size/\ZdR vs D/\(tp=a∨s.heap.objs.size<=tp)/\tp<h'.objs.size) ->
   wpAny (model prog w) A.in1 (do
    let e <-setEpoch a
    let r <-newFields "set_iterator" [first,rawInt 0,.ref a,rawInt es.size,rawInt e]
    ret r) (λfin s'=>∃v,fin=.done (.ret v)/\∃T' r,s'.TypeIs v T'/\YbJ (.type T') "__next__" = pure (some r)/\Q v s') E { s with heap:=h1,drawn:=d }:=λh1 d first k1 z1 mk=>by
  refine Yb (wpAny_setEpoch_of (s:={ s with heap:=h1,drawn:=d }) (k1 _ _ ha) hE.data hE.fits ?_)
  refine Yb (Wv (Yd ⟨_,rfl,"set_iterator",_,⟨_,Yt _ rfl,rfl⟩,PySem.F.slot_set_iterator_next.lookup,?_⟩))
  have hz:(h1.push { cls:=.type "set_iterator",data:=.fields [first,rawInt 0,.ref a,rawInt es.size,rawInt ep].toArray }).objs.size=h1.objs.size+1:=Us ..
  obtain⟨tp,vs,q1,q2,q3,q4,q5⟩:=mk (h1.push { cls:=.type "set_iterator",data:=.fields [first,rawInt 0,.ref a,rawInt es.size,rawInt ep].toArray }) (λb o e=>Ye _ e) hz ⟨_,Yt _ rfl,rfl,rfl⟩
  exact h _ d h1.objs.size tp vs q1 (YH (Yu hal z1)) q2 q3 z1 q4 q5 (by rw[hz];exact Vl _) λb o e=>Ye _ (k1 b o e)
 cases hb:w.params.followText "set-order" with
 |true =>
  rw[if_neg (by show ¬((!(w.params.followText "set-order")&&_)=true);rw[hb];simp)]
  refine Yb (Yd ?_)
  refine made s.heap s.drawn (rawInt 0) (λ_ _ e=>e) (Yj _) λh' k hz r=>?_
  exact⟨a,_,.text hb r (k _ _ ha) hE.data hE.fits rfl,YH hal,Zda hE (picked _ _),.inl rfl,by rw[hz];exact Wf hal⟩
 |false =>
  by_cases h2:es.size<=1
  ·rw[if_neg (by
    show ¬((!(w.params.followText "set-order")&&(!t.plain&&decide (es.size>1)))=true)
    simp
    intros
    omega)]
   refine Yb (Yd ?_)
   refine made s.heap s.drawn (rawInt 0) (λ_ _ e=>e) (Yj _) λh' k hz r=>?_
   exact⟨a,_,.few hb (by rw[hE.led];simp[hb]) (show Jf h' _ a (.int (0:Nat) 0) 0 es.size ep from r) (k _ _ ha) hE.data hE.fits h2 rfl (.inl ⟨rfl,rfl⟩),YH hal,Zda hE (.refl _),.inl rfl,by rw[hz];exact Wf hal⟩
  ·have hpl:=hE.plain (by omega)
   rw[if_pos (by
    show(!(w.params.followText "set-order")&&(!t.plain&&decide (es.size>1)))=true
    rw[hb,hpl]
    simp
    omega)]
   refine Yb (ZbY es.size (YF es.size) W6 λys d hp=>?_)
   refine Yb (Ybq ?_ (by rw[Yc,hp.length_eq,W6];exact YaK hE.room))
   have hz1:(s.heap.push { cls:=.type "tuple",data:=.seq (ys.map λ(i:Nat)=>rawInt i).toArray }).objs.size=s.heap.objs.size+1:=Us ..
   refine made (s.heap.push { cls:=.type "tuple",data:=.seq (ys.map λ(i:Nat)=>rawInt i).toArray }) d (.ref s.heap.objs.size) (λb o e=>Ye _ e) (by omega) λh' k hz r=>?_
   have hys:∀p∈ys,p<es.size:=λp hm=>VR.mp (hp.mem_iff.mp hm)
   have hvs:(ys.filterMap λp=>es[p]?).Perm es.toList:=by
    rw[<-Zha es]
    exact hp.filterMap _
   refine⟨s.heap.objs.size,(ys.filterMap λp=>es[p]?).map (·.2),.drawn r (k _ _ (Ye _ ha)) hE.data hE.fits ⟨_,k _ _ (Yt _ rfl),rfl,_,rfl⟩ ?_ ?_,by rw[hz1];exact YH (Vl _),Zda hE hvs,.inr (Yj _),by rw[hz,hz1];exact Wf (Vl _)⟩
   ·have e:=ZfD hys
    intro j v hv
    rw[e,Y0,YZ]at hv
    cases q:ys[j]? with
    |none=>rw[q]at hv;cases hv
    |some p =>
     rw[q]at hv
     have hlt:=hys p (Wx q)
     refine⟨p,es[p],?_,by simp[hlt],?_⟩
     ·simp[q,rawInt]
     ·have:=YG hv
      simpa[hlt]using this
   ·rw[ZfD hys]
    simp only[Yk,Yc]
theorem ZfL{a:Addr}{D:List Str}{Q:List Value->Shared->Prop}(hA:A.handled=none)(hS:SetS prog w (Zfv w) s.heap a D)(hz:D.length<=1000)(q:∀h' tk d vs,ZdR vs D->(∀b o,s.heap.get? b=some o->h'.get? b=some o)->s.toks<=tk->s.heap.objs.size<h'.objs.size->Q vs { s with heap:=h',toks:=tk,drawn:=d }):wpAny (model prog w) A (collect (.ref a)) Q E s:=by
 obtain⟨o,es,ep,t,ha,hE⟩:=id hS
 have hal:=Ys ha
 have hsz:D.length<=YM:=by rw[WW];omega
 unfold collect
 refine Yb (wpAny_runValue (Yar PySem.F.entry_proto_collect ?_))
 rw[Ve PySem.F.plain_proto_collect _]
 show wpAny _ A.in1 (newList [] >>= λl=>again (.builtin "list.__iadd__" ⟨[l,.ref a],[]⟩)) _ _ s
 refine Yb (Wv ?_)
 refine Yd ⟨YaY PySem.F.plain_list_iadd _,Yar PySem.F.entry_list_iadd ?_⟩
 rw[Ve PySem.F.plain_list_iadd _]
 have hS₁:SetS prog w (Zfv w) (s.heap.push { cls:=.type "list",data:=.seq ([]:List Value).toArray }) a D:=hS.at' λo e=>Ye _ e
 have hL₁:(s.heap.push { cls:=.type "list",data:=.seq ([]:List Value).toArray }).get? s.heap.objs.size=some { cls:=.type "list",data:=.seq ([]:List Value).toArray }:=Yt _ rfl
 have ha₁:(s.heap.push { cls:=.type "list",data:=.seq ([]:List Value).toArray }).get? a=some o:=Ye _ ha
 have hne:s.heap.objs.size≠a:=GZ hal
 have h1:Builtin.List.listSameRef (.ref s.heap.objs.size) (.ref a)=false:=by simp[Builtin.List.listSameRef,hne]
 show wpAny _ A.in1 (Builtin.List.listExtendWith (.ref s.heap.objs.size) (.ref a) (.ref s.heap.objs.size)) _ _ _
 unfold Builtin.List.listExtendWith
 have hT:YbA { s with heap:=s.heap.push { cls:=.type "list",data:=.seq ([]:List Value).toArray } } (.ref a) "set":=⟨o,ha₁,hE.ex.1⟩
 refine Yb (Yay hT ?_)
 rw[if_neg (by rw[h1];decide)]
 refine Yb (Zmc hS₁ λh' d it tp vs st na nt tx l1 l2 l3 l4 k=>?_)
 have hT':YbA { s with heap:=h',drawn:=d } (.ref a) "set":=⟨o,k _ _ ha₁,hE.ex.1⟩
 refine Yb (Wj ?_)
 unfold Builtin.List.listLengthHint
 refine Yb (wpAny_specialOf hT' PySem.F.slot_set_len.lookup ?_)
 generalize hid:("set.__len__" : String)=id0
 wp_delta
 rw[show splitId id0=some ("set","__len__")from by subst hid;decide +kernel]
 subst hid
 refine Yb (wpAny_isInstance (b:=true) hT' (by rw[Ybp];kernel_rfl) ?_)
 refine Yb (m:=typeOf (.ref a)) (Yay hT' ?_)
 refine Yd ?_
 rw[if_pos (by rfl)]
 refine Yb (Vq ?_)
 have hL':h'.get? s.heap.objs.size=some (seqObj "list" #[] 0):=k _ _ hL₁
 refine Yb ?_
 unfold Builtin.List.listTouch
 refine Yb (Gh (s:={ s with heap:=h',drawn:=d }) hL' rfl ?_ (by simp) (by simp[WW]))
 have hL2:=G5 hL' (λxs=>xs.push Gr)
 refine Gh (s:={ s with heap:=h'.update s.heap.objs.size (YT λxs=>xs.push Gr),drawn:=d }) hL2 rfl ?_ (by simp[WW]) (by simp[WW])
 have hL3:=G5 hL2 (λxs=>xs.pop)
 have hse:((#[]:Array Value).push Gr).pop=#[]:=by simp
 rw[hse]at hL3
 have hSf:s.heap.objs.size∉[it,a,tp]:=by
  have z:(s.heap.push { cls:=.type "list",data:=.seq ([]:List Value).toArray }).objs.size=s.heap.objs.size+1:=Us ..
  have l1':s.heap.objs.size+1<=it:=z▸l1
  simp only[Yh,YC,or_false,not_or]
  refine⟨YH l1',hne,?_⟩
  rcases l2 with rfl|l2
  ·exact hne
  ·have l2':s.heap.objs.size+1<=tp:=z▸l2
   exact YH l2'
 have hot:∀b∈[it,a,tp],∀o,h'.get? b=some o->((h'.update s.heap.objs.size (YT λxs=>xs.push Gr)).update s.heap.objs.size (YT λxs=>xs.pop)).get? b=some o:=λb hb o e=>by
  have nb:s.heap.objs.size≠b:=λz=>hSf (by rw[z];exact hb)
  rw[Wd _ _ nb,Wd _ _ nb]
  exact e
 have hvl:vs.length=D.length:=by rw[<-tx.2.length_eq,Yc]
 refine Yd ⟨YaY PySem.F.plain_extend_loop _,codeAny_extend_loopS ((ZiC (prog:=prog) (w:=w) (it:=it) (a:=a) (tp:=tp) (vs:=vs) (by simp[hA])).toS) (by omega) _ hSf _ vs.length 0 _ _ _ rfl (Wy _) ⟨st.at' hot,na,nt⟩ hL3 (ItemsOf.nil _) λs' acc' c' hm hS' hacc=>?_⟩
 show wpAny _ A (load s.heap.objs.size >>= _) _ _ s'
 refine Yb (wpAny_load hS' ?_)
 have hacc':acc'.toList=vs:=by
  obtain⟨h1,h2⟩:=hacc
  refine List.ext_getElem? λj=>?_
  rw[WM]
  cases qj:acc'[j]? with
  |some v=>rw[h2 j v qj]
  |none =>
   rw[G6]
   have:=Array.getElem?_eq_none_iff.mp qj
   omega
 obtain⟨hh,g',d',tk',os'⟩:=s'
 have eg:g'=s.gens:=hm.gens
 have ed:d'=d:=hm.drawn
 have eo:os'=s.os:=hm.os
 subst eg;subst ed;subst eo
 refine Yd ?_
 show Q acc'.toList _
 rw[hacc']
 refine q hh tk' d' vs tx (λb o e=>?_) hm.toks (Ys hS')
 have nb:s.heap.objs.size≠b:=GZ (Ys e)
 have nit:b≠it:=λz=>by
  have z1:(s.heap.push { cls:=.type "list",data:=.seq ([]:List Value).toArray }).objs.size=s.heap.objs.size+1:=Us ..
  have l1':s.heap.objs.size+1<=it:=z1▸l1
  have:=Ys e
  rw[z]at this
  exact absurd (Yu this (Nat.le_of_succ_le l1')) (Y9 _)
 refine hm.heap b o (by simp only[Yh,YC,or_false,not_or];exact⟨λz=>nb z.symm,nit⟩) ?_
 show((h'.update s.heap.objs.size (YT λxs=>xs.push Gr)).update s.heap.objs.size (YT λxs=>xs.pop)).get? b=some o
 rw[Wd _ _ nb,Wd _ _ nb]
 exact k b o (Ye _ e)
theorem Zg0{a:Addr}{D:List Str}{Q:Value->Shared->Prop}(hA:A.handled=none)(hS:SetS prog w (Zfv w) s.heap a D)(hz:D.length<64)(q:∀h' tk d l out ss' e,StrsAre out ss'->ss'.Perm D->sortedS ss'=true->h'.get? l=some (seqObj "list" out.toArray e)->s.heap.objs.size<=l->(∀b o,s.heap.get? b=some o->h'.get? b=some o)->s.toks<=tk->Q (.ref l) { s with heap:=h',toks:=tk,drawn:=d }):
  wpAny (model prog w) A (U8 (.builtin "sorted") [.ref a]) Q E s:=by
 refine Calls.call_function_entry Yb8 YbV YbW (args_sorted1 _) ?_
 unfold Builtin.«sorted»
 refine Yb (m:=Ycf "sorted" 1 1 _) (Yd ?_)
 refine Yb (ZfL (by simp[hA]) hS (by omega) λh' tk d vs tx k ht hlt=>?_)
 have hvl:vs.length=D.length:=by rw[<-tx.2.length_eq,Yc]
 refine Yb (Yag ?_ (by rw[WW];omega))
 have hoL:(h'.push (seqObj "list" vs.toArray 0)).get? h'.objs.size=some (seqObj "list" vs.toArray 0):=Yt _ rfl
 have hStr:StrsAre vs (vs.map strOf):=strsAre_map vs tx.1
 refine Yb (Wj (WQ Ybr ⟨_,hoL,rfl⟩ Yba (list_sort_treeK strKind_oneLt hoL hStr.keysOf (λv₁ v₂ rest e=>keyKind_strs (by rw[<-e];exact hStr)) (by omega) λst' a1 a2=>⟨_,rfl,?_⟩) (args_list_sort _)))
 obtain⟨ss',b1,b2,b3⟩:=sorted_out_str hStr a1 a2
 obtain⟨e,he⟩:=sortedHeap_at (out:=(arrOf st').map (·.2)) hoL
 refine Yd ⟨_,rfl,q _ tk d h'.objs.size ((arrOf st').map (·.2)).toList ss' e b1 (b2.trans tx.2) b3 he (Gd hlt) (λb o x=>?_) ht⟩
 rw[sortedHeap_old (YH (Ys (k b o x))) (by rw[Ybl];exact Wf (Ys (k b o x)))]
 exact Ye _ (k b o x)
end
end Mi
namespace Mi
open PySem
inductive T where
 |non|bl (b:Bool)|int (i:Int)|str (cs:List Nat)
 |tup (ts:List T)|lst (ts:List T)
 |dct (ks:List L2.Key) (ts:List T)
 |scr (ns:List Int)
 deriving Inhabited
inductive W where
 |t (x:T)|c (i:Nat)|f (a:Nat)|x (cls:Nat) (nms:List Str) (ts:List T)
 deriving Inhabited
abbrev Mem:=List (Option (Bool×List T))
structure Exc where
 cls:Nat
 nms:List Str
 flds:List T
inductive Res (a:Type) where
 |ok (x:a) (m:Mem)|exc (x:Exc) (m:Mem)|stuck
def Res.bind{a b:Type}(r:Res a)(f:a->Mem->Res b):Res b:=match r with
 |.ok x m=>f x m
 |.exc x m=>.exc x m
 |.stuck=>.stuck
abbrev Env:=List (Option W)
inductive B where
 |len|int|str|tuple|list|all|any|sum|min2|max2|sortset|sorted|dict|range1|range2|enum|zip2
 |bool|dget|din|dnot|zip4|lenset|minl|isbis|maxl|sortt|sortn|dictc|mind
 deriving DecidableEq
inductive Mt where
 |join|upper|append|pop|popat|insert|clear|count|get|index|split|partition|extend|reverse
 deriving DecidableEq
inductive Ty where
 |int|bool|str|tuple|list|dict
 deriving DecidableEq
inductive Tg where
 |nm (i:Nat)|tp (is:List Nat)
 deriving DecidableEq
mutual
inductive E where
 |var (i:Nat)|gl (k:Nat)|con (x:T)
 |bin (op:Yav) (a b:E)|neg (a:E)|not (a:E)
 |and (a b:E)|or (a b:E)|one (a:E)
 |cmp (op:CmpOp) (a b:E)|chn (op op':CmpOp) (a b c:E)
 |ite (c a b:E)
 |tup (es:Es)|lst (es:Es)|cel (es:Es)|celb (b:B) (es:Es)|celL (a:E)|celA (a b:E)|dsp (ks vs:Es)
 |ix (a b:E)|slc (a lo hi:E)|rev (a:E)|hole
 |call (f:Nat) (es:Es)|blt (b:B) (es:Es)|mth (b:Mt) (o:E) (es:Es)
 |isi (a:E) (ty:Ty)
 |comp (own:Nat) (keep:List Nat) (it:E) (tg:Tg) (cs:Es) (inner:E)
 |more (it:E) (tg:Tg) (cs:Es) (inner:E)
 |emit (a:E)|emit2 (a b:E)
 |tr (a:E)
 |fnv (j:Nat)|callV (i:Nat) (tab:List (Nat×Nat)) (es:Es)
 |xat (a:E) (cs:List Nat) (nm:Str)|xis (a:E) (yes no:List Nat)
 |ptd (a b:E)
 |sortk (keep:List Nat) (a b:E)
 |fst (es:Es)|gdg (k:Nat) (e:E)|gdn (k:Nat) (neg:Bool) (e:E)|dsn (ks:List (List Nat)) (vs:Es)
inductive Es where
 |nil|cons (e:E) (es:Es)
end
def Zz:E->Bool
 |.hole=>true
 |_=>false
inductive S where
 |done
 |asg (i:Nat) (e:E) (k:S)
 |asgT (is:List Nat) (e:E) (k:S)
 |asgC (i:Nat) (e:E) (k:S)
 |asgL (is:List Nat) (e:E) (k:S)
 |set (o i v:E) (k:S)
 |aug (i:Nat) (op:Yav) (e:E) (k:S)
 |ife (c:E) (a b k:S)
 |forr (tg:Tg) (it:E) (body k:S)
 |whil (c:E) (body k:S)
 |ret (e:E) (k:S)|retN (k:S)
 |expr (e:E) (k:S)|pass (k:S)|brk (k:S)|cont (k:S)
 |rse (c:Nat) (nms:List Str) (es:Es) (k:S)|stk
 |tri (b:S) (yes:List Nat) (nm:Option Nat) (h k:S)
def lim:Nat:=1000000
def nlt:List Nat->List Nat->Bool
 |[],[]=>false
 |[],_::_=>true
 |_::_,[]=>false
 |a::x,b::y=>if a<b then true else if b<a then false else nlt x y
def b2i(b:Bool):Int:=if b then 1 else 0
mutual
def eqT:T->T->Bool
 |.non,.non=>true
 |.bl a,.bl b=>a==b
 |.bl a,.int b=>b2i a==b
 |.int a,.bl b=>a==b2i b
 |.int a,.int b=>a==b
 |.str a,.str b=>a==b
 |.tup a,.tup b=>eqTs a b
 |.lst a,.lst b=>eqTs a b
 |_,_=>false
def eqTs:List T->List T->Bool
 |[],[]=>true
 |a::x,b::y=>eqT a b&&eqTs x y
 |_,_=>false
end
mutual
def Zg:Nat->T->Bool
 |_,.non=>true
 |_,.bl _=>true
 |_,.int _=>true
 |_,.str cs=>PyData.strOk ⟨cs.toArray⟩
 |n+1,.tup ts=>Zk n ts
 |n+1,.lst ts=>Zk n ts
 |_,_=>false
def Zk:Nat->List T->Bool
 |_,[]=>true
 |n,t::ts=>Zg n t&&Zk n ts
end
def flat:T->Bool
 |.non|.bl _|.int _|.str _=>true
 |_=>false
mutual
def eqok:Nat->T->Bool
 |_,.non=>true
 |_,.bl _=>true
 |_,.int _=>true
 |_,.str _=>true
 |n+1,.tup ts=>ZoZ n ts
 |n+1,.lst ts=>ZoZ n ts
 |_,_=>false
def ZoZ:Nat->List T->Bool
 |_,[]=>true
 |n,t::ts=>eqok n t&&ZoZ n ts
end
def Zf8:T->Bool
 |.non=>false
 |.bl b=>b
 |.int i=>i != 0
 |.str cs=>!cs.isEmpty
 |.tup ts=>!ts.isEmpty
 |.lst ts=>!ts.isEmpty
 |.dct ks _=>!ks.isEmpty
 |.scr ns=>!ns.isEmpty
def ixOf(n:Nat)(i:Int):Option Nat:=if 0<=i then(if i<n then some i.toNat else none)else if -(n:Int)<=i then some (i+n).toNat else none
def atT{a:Type}(xs:List a)(i:Int):Option a:=(ixOf xs.length i).bind λj=>xs[j]?
def ZkB(n d:Nat):Option Int->Nat
 |none=>d
 |some i=>if i<0 then(i+n).toNat else min i.toNat n
def cut{a:Type}(xs:List a)(lo hi:Option Int):List a:=
 (xs.drop (ZkB xs.length 0 lo)).take (ZkB xs.length xs.length hi-ZkB xs.length 0 lo)
def repT{a:Type}(xs:List a)(k:Nat):List a:=(Yy k xs).flatten
def bigN:Nat:=(2^250)^8
def small(i:Int):Bool:=decide (i.natAbs<2^64)
def Za3(i j:Int):Bool:=small i || small j || (decide (i.natAbs<bigN)&&decide (j.natAbs<bigN))
def addT:T->T->Option T
 |.int i,.int j=>some (.int (i+j))
 |.str a,.str b=>if a.length+b.length<=lim then some (.str (a++b))else none
 |.tup a,.tup b=>if a.length+b.length<=lim then some (.tup (a++b))else none
 |.lst a,.lst b=>if a.length+b.length<=lim then some (.lst (a++b))else none
 |_,_=>none
def mulT(x y:T):Option T:=match y with
 |.int k=>match x with
  |.int i=>if Za3 i k then some (.int (i*k))else none
  |.tup a=>if(-(lim:Int)<=k/\k<=lim)/\a.length*k.toNat<=lim then some (.tup (repT a k.toNat))else none
  |.lst a=>if(-(lim:Int)<=k/\k<=lim)/\a.length*k.toNat<=lim then some (.lst (repT a k.toNat))else none
  |.str a=>if(0<=k/\k<=64)/\a.length<=1000 then some (.str (repT a k.toNat))else none
  |_=>none
 |_=>none
def intT(f:Int->Int->Option T)(x y:T):Option T:=match x with
 |.int i=>match y with
  |.int j=>f i j
  |_=>none
 |_=>none
def binT(op:Yav)(x y:T):Option T:=
 match op with
 |.Add=>addT x y
 |.Sub=>intT (λi j=>some (.int (i-j))) x y
 |.Mult=>mulT x y
 |.FloorDiv=>intT (λi j=>if 0<j/\j<1073741824 then some (.int (i / j))else none) x y
 |.Mod=>intT (λi j=>if 0<j then some (.int (i%j))else none) x y
 |.Pow=>intT (λi j=>if 0<=j/\j<=1000/\i.natAbs<2^64 then some (.int (i^j.toNat))else none) x y
 |_=>none
def augT(op:Yav)(x y:T):Option T:=
 match op,x,y with
 |.Add,.int i,.int j=>some (.int (i+j))
 |.Sub,.int i,.int j=>some (.int (i-j))
 |_,_,_=>none
def Zdf(x y:T):Bool:=match x,y with
 |.bl _,.int _=>false
 |.int _,.bl _=>false
 |x,y=>flat x&&flat y
def hasT(x:T)(y:T):Option Bool:=
 match y with
 |.tup ts=>if flat x&&ts.all flat then some (ts.any λt=>eqT t x)else none
 |.lst ts=>if flat x&&ts.all flat then some (ts.any λt=>eqT t x)else if Zg 59 x&&Zk 59 ts then some (ts.any λt=>eqT t x)else none
 |_=>none
def Zmg(f:Int->Int->Bool)(x y:T):Option Bool:=match x with
 |.int i=>match y with
  |.int j=>some (f i j)
  |_=>none
 |_=>none
def ltT(x y:T):Option Bool:=match x with
 |.int i=>match y with
  |.int j=>some (decide (i<j))
  |_=>none
 |.str a=>match y with
  |.str b=>some (nlt a b)
  |_=>none
 |_=>none
def inT(x y:T):Option Bool:=match x with
 |.str [a]=>match y with
  |.str b=>some (decide (a∈b))
  |y=>hasT (.str [a]) y
 |.str (a::a'::r)=>match y with
  |.str b=>some (!(Uy ⟨b.toArray⟩ ⟨(a::a'::r).toArray⟩ 0 b.length 1).isEmpty)
  |y=>hasT (.str (a::a'::r)) y
 |x=>hasT x y
def sameT(x y:T):Option Bool:=match y with
 |.non=>some (match x with|.non=>true|_=>false)
 |.bl b=>some (match x with|.bl a=>a==b|_=>false)
 |_=>none
def cmpT(op:CmpOp)(x y:T):Option Bool:=
 match op with
 |.Lt=>ltT x y
 |.LtE=>Zmg (λi j=>decide (i<=j)) x y
 |.Gt=>Zmg (λi j=>decide (j<i)) x y
 |.GtE=>Zmg (λi j=>decide (j<=i)) x y
 |.Eq=>if Zdf x y || (Zg 60 x&&Zg 60 y)then some (eqT x y)else none
 |.NotEq=>if Zdf x y || (Zg 60 x&&Zg 60 y)then some (!eqT x y)else none
 |.In=>inT x y
 |.NotIn=>(inT x y).map (!·)
 |.Is=>sameT x y
 |.IsNot=>(sameT x y).map (!·)
def isT(x:T)(ty:Ty):Bool:=
 match x,ty with
 |.int _,.int=>true
 |.bl _,.int=>true
 |.bl _,.bool=>true
 |.str _,.str=>true
 |.tup _,.tuple=>true
 |.lst _,.list=>true
 |.scr _,.list=>true
 |.dct _ _,.dict=>true
 |_,_=>false
def ixT(x i:T):Option T:=
 match x,i with
 |.tup ts,.int k=>atT ts k
 |.lst ts,.int k=>atT ts k
 |.scr ns,.int k=>(atT ns k).map .int
 |.str cs,.int k=>if cs.length<=lim then(atT cs k).map λc=>.str [c]else none
 |_,_=>none
def slT(x:T)(lo hi:Option Int):Option T:=
 match x with
 |.tup ts=>some (.tup (cut ts lo hi))
 |.lst ts=>some (.lst (cut ts lo hi))
 |.scr ns=>some (.lst ((cut ns lo hi).map .int))
 |.str cs=>if cs.length<=lim then some (.str (cut cs lo hi))else none
 |_=>none
def insT(x:List Nat):List (List Nat)->List (List Nat)
 |[]=>[x]
 |y::r=>if nlt x y then x::y::r else if nlt y x then y::insT x r else y::r
def Zv(xs:List (List Nat)):List (List Nat):=xs.foldr insT []
def insN(x:List Nat):List (List Nat)->List (List Nat)
 |[]=>[x]
 |y::r=>if nlt y x then y::insN x r else x::y::r
def sortN(xs:List (List Nat)):List (List Nat):=xs.foldr insN []
def strs?: List T->Option (List (List Nat))
 |[]=>some []
 |.str c::r=>(strs? r).map (c::·)
 |_=>none
def ZnG(d:Int)(w:List Nat):Int:=d+(if w==[40]then 1 else 0)-(if w==[41]then 1 else 0)
def pgo(x:List Nat):List (List Nat)->Int->List (List Nat)->List (List (List Nat))->List (List (List Nat))
 |[],_,cur,acc=>acc++[cur]
 |w::r,d,cur,acc=>if w==x&&decide (ZnG d w=0)then pgo x r (ZnG d w) [] (acc++[cur])else pgo x r (ZnG d w) (cur++[w]) acc
def parted(x:List Nat)(ws:List (List Nat)):List (List (List Nat)):=pgo x ws 0 [] []
def ptT(x y:T):Option T:=match x,y with
 |.lst ts,.str c=>(strs? ts).bind λws=>if ws.length<1000 then some (.lst ((parted c ws).map λp=>.lst (p.map .str)))else none
 |_,_=>none
def ints?: List T->Option (List Int)
 |[]=>some []
 |.int c::r=>(ints? r).map (c::·)
 |_=>none
def bools?: List T->Option (List Bool)
 |[]=>some []
 |.bl c::r=>(bools? r).map (c::·)
 |_=>none
def tupI?: T->Option (List Int)
 |.tup ts=>ints? ts
 |_=>none
def tups?: List T->Option (List (List Int))
 |[]=>some []
 |t::r=>(tupI? t).bind λk=>(tups? r).map (k::·)
def lexI:List Int->List Int->Bool
 |[],[]=>false
 |[],_::_=>true
 |_::_,[]=>false
 |x::xs,y::ys=>if x=y then lexI xs ys else decide (x<y)
def insI(x:List Int):List (List Int)->List (List Int)
 |[]=>[x]
 |y::r=>if lexI y x then y::insI x r else x::y::r
def sortI(xs:List (List Int)):List (List Int):=xs.foldr insI []
def tupT(k:List Int):T:=.tup (k.map .int)
def ZcM(ts:List T):Option T:=(tups? ts).bind λks=>if ks.Nodup/\ks.length<64/\(ks.all λk=>!k.isEmpty)=true then some (.lst ((sortI ks).map tupT))else none
def Zir(ts:List T):Option T:=(ints? ts).bind λns=>if ns.Nodup/\ns.length<64 then some (.lst ((sortI (ns.map λn=>[n])).map λk=>.int (k.headD 0)))else none
def insK(x:List Int×T):List (List Int×T)->List (List Int×T)
 |[]=>[x]
 |y::r=>if lexI y.1 x.1 then y::insK x r else x::y::r
def Zbs(xs:List (List Int×T)):List (List Int×T):=xs.foldr insK []
def XH(ks:List (List Int))(ts:List T):Option T:=if ks.Nodup/\ks.length<64 then some (.lst ((Zbs (ks.zip ts)).map (·.2)))else none
def joinN(sep:List Nat):List (List Nat)->List Nat
 |[]=>[]
 |[x]=>x
 |x::r=>x++sep++joinN sep r
def upN(c:Nat):Nat:=if 97<=c/\c<=122 then c-32 else c
def asciiN(c:Nat):Bool:=decide (c<128)
def decI(i:Int):List Nat:=(Gg (toString i)).cps.toList
def rangeT(lo:Int)(n:Nat):List T:=(YF n).map λk:Nat=>.int (lo+(k:Int))
def Ziq(c:Nat):List Nat->List (List Nat)
 |[]=>[[]]
 |a::r=>if a=c then[]::Ziq c r else match Ziq c r with
  |x::xs=>(a::x)::xs
  |[]=>[[a]]
def fmtT:T->Option (List Nat)
 |.str cs=>some cs
 |.int i=>if i.natAbs<2^250 then some (decI i)else none
 |_=>none
def Znd:T->Option (List T)
 |.tup ts=>some ts
 |.lst ts=>some ts
 |.scr ns=>some (ns.map .int)
 |.str cs=>if cs.length<=lim then some (cs.map λc=>.str [c])else none
 |_=>none
def view(w:W)(m:Mem):Option T:=match w with
 |.t x=>some x
 |.f _=>none
 |.x _ _ _=>none
 |.c i=>match m[i]? with
  |some (some (_,ts))=>some (.lst ts)
  |_=>none
def pur(o:Option T)(m:Mem):Res W:=match o with
 |some t=>.ok (.t t) m
 |none=>.stuck
def frz(w:W)(m:Mem):Res T:=match w with
 |.t x=>.ok x m
 |.f _=>.stuck
 |.x _ _ _=>.stuck
 |.c i=>match m[i]? with
  |some (some (false,ts))=>.ok (.lst ts) (m.set i none)
  |_=>.stuck
def frzs:List W->Mem->Res (List T)
 |[],m=>.ok [] m
 |w::ws,m=>(frz w m).bind λt m=>(frzs ws m).bind λts m=>.ok (t::ts) m
def views:List W->Mem->Option (List T)
 |[],_=>some []
 |w::ws,m=>(view w m).bind λt=>(views ws m).map (t::·)
def Z3(w:W)(m:Mem):Res (List T):=match w with
 |.f _=>.stuck
 |.x _ _ _=>.stuck
 |.t x=>match Znd x with
  |some ts=>.ok ts m
  |none=>.stuck
 |.c i=>match m[i]? with
  |some (some (_,ts))=>.ok ts (m.set i (some (true,ts)))
  |_=>.stuck
def giveBack(w:W)(m0 m:Mem):Mem:=match w with
 |.t _=>m
 |.f _=>m
 |.x _ _ _=>m
 |.c i=>match m0[i]? with
  |some c=>m.set i c
  |none=>m
def Qn(tg:Tg)(t:T)(env:Env):Option Env:=match tg with
 |.nm i=>some (env.set i (some (.t t)))
 |.tp is=>match t with
  |.tup ts=>if ts.length=is.length then some ((is.zip ts).foldl (λenv p=>env.set p.1 (some (.t p.2))) env)else none
  |_=>none
def one1(f:T->Option T):List T->Option T
 |[x]=>f x
 |_=>none
def two2(f:Int->Int->Option T):List T->Option T
 |[.int i,.int j]=>f i j
 |_=>none
def bLen:T->Option T
 |.str cs=>if cs.length<=lim then some (.int cs.length)else none
 |.tup ts=>some (.int ts.length)
 |.lst ts=>some (.int ts.length)
 |.scr ns=>some (.int ns.length)
 |_=>none
def figV(cs:List Nat):Int:=((cs.foldl (λn c=>n*10+(c-48)) 0:Nat):Int)
def bInt:T->Option T
 |.int i=>some (.int i)
 |.bl b=>some (.int (b2i b))
 |.str cs=>if cs≠[]/\cs.length<=600/\cs.all (λc=>decide (48<=c)&&decide (c<=57))=true then some (.int (figV cs))else none
 |_=>none
def bStr:T->Option T
 |.int i=>if i.natAbs<2^250 then some (.str (decI i))else none
 |_=>none
def bTup:T->Option T
 |.tup ts=>some (.tup ts)
 |.lst ts=>some (.tup ts)
 |.str cs=>if cs.length<=lim then some (.tup (cs.map λc=>.str [c]))else none
 |_=>none
def bLst:T->Option T
 |.tup ts=>some (.lst ts)
 |.lst ts=>some (.lst ts)
 |_=>none
def ZcE(f:List T->Option T):T->Option T
 |.lst ts=>f ts
 |_=>none
def bRng:T->Option T
 |.int i=>if i<2^62/\-(2^62)<=i then some (.lst (rangeT 0 i.toNat))else none
 |_=>none
def zipL(xs ys:List T):List T:=List.zipWith (λx y=>.tup [x,y]) xs ys
def zipT:List T->Option T
 |[.tup xs,.tup ys]=>if xs.length=ys.length/\xs.length<=lim then some (.lst (zipL xs ys))else none
 |_=>none
def Zh8(a b c d:List T):List T:=(a.zip (b.zip (c.zip d))).map λp=>.tup [p.1,p.2.1,p.2.2.1,p.2.2.2]
def zip4T:List T->Option T
 |[.lst a,.lst b,.lst c,.lst d]=>if(a.length=b.length/\a.length=c.length/\a.length=d.length)/\a.length<=lim then some (.lst (Zh8 a b c d))else none
 |_=>none
def ZcG(xs:List T):List T:=List.zipWith (λ(k:Nat) x=>T.tup [.int (k:Int),x]) (YF xs.length) xs
def ZjJ(ts:List T):Option T:=(strs? ts).bind λxs=>if xs.length<64 then some (.int ((Zv xs).length:Int))else none
def minI(n:Int)(ns:List Int):Int:=ns.foldl (λa b=>if b<a then b else a) n
def ZjD(ts:List T):Option T:=(ints? ts).bind λns=>match ns with
 |[]=>none
 |n::r=>if r.length<64 then some (.int (minI n r))else none
def maxI(n:Int)(ns:List Int):Int:=ns.foldl (λa b=>if a<b then b else a) n
def maxlT(ts:List T):Option T:=(ints? ts).bind λns=>match ns with
 |[]=>none
 |n::r=>if r.length<64 then some (.int (maxI n r))else none
def bIsb:T->Option T
 |.bl _=>some (.bl true)
 |.int _=>some (.bl true)
 |.str _=>some (.bl true)
 |_=>none
def keyT:T->Option L2.Key
 |.int i=>some (.inl i)
 |.str cs=>some (.inr ⟨cs.toArray⟩)
 |_=>none
def pairs?: List T->Option (List (List Nat×T))
 |[]=>some []
 |.tup [.str k,v]::ts=>(pairs? ts).map ((k,v)::·)
 |_=>none
def dctT(ps:List (List Nat×T)):T:=.dct (ps.map λp=>.inr ⟨p.1.toArray⟩) (ps.map (·.2))
def bDict:T->Option T
 |.tup ts=>(pairs? ts).bind λps=>if ts.length<=lim/\(ps.map (·.1)).Nodup then some (dctT ps)else none
 |_=>none
def JV(ks:List L2.Key)(ts:List T)(k:L2.Key):Option T:=((ks.zip ts).find? λp=>decide (p.1=k)).map (·.2)
def dGetT:List T->Option T
 |[.dct ks vs,x]=>(keyT x).bind (JV ks vs)
 |_=>none
def dInT(neg:Bool):List T->Option T
 |[x,.dct ks vs]=>(keyT x).map λk=>.bl (if neg then !(JV ks vs k).isSome else(JV ks vs k).isSome)
 |_=>none
def gDct(o:Option T)(f:List L2.Key->List T->Option T):Option T:=match o with
 |some (.dct ks vs)=>f ks vs
 |_=>none
def ZoB(f:List T->Option T):T->Option T
 |.lst ts=>f ts
 |.tup ts=>f ts
 |_=>none
def Jv:List T->Option (List L2.Key×List T)
 |[]=>some ([],[])
 |k::v::r=>(keyT k).bind λkk=>(Jv r).map λp=>(kk::p.1,v::p.2)
 |_=>none
def ZeQ(ts:List T):Option T:=(Jv ts).bind λp=>if p.1.Nodup/\p.1.length<=1000 then some (.dct p.1 p.2)else none
def bltT(b:B)(ts:List T):Option T:=
 match b with
 |.len=>one1 bLen ts
 |.int=>one1 bInt ts
 |.str=>one1 bStr ts
 |.tuple=>one1 bTup ts
 |.list=>one1 bLst ts
 |.all=>one1 (ZoB λts=>(bools? ts).map λbs=>.bl (bs.all id)) ts
 |.any=>one1 (ZoB λts=>(bools? ts).map λbs=>.bl (bs.any id)) ts
 |.sum=>one1 (ZcE λts=>(ints? ts).map λns=>.int ns.sum) ts
 |.sortset=>one1 (ZcE λts=>(strs? ts).bind λxs=>if xs.length<64 then some (.lst ((Zv xs).map .str))else none) ts
 |.sorted=>one1 (ZcE λts=>(strs? ts).bind λxs=>if xs.length<64 then some (.lst ((sortN xs).map .str))else none) ts
 |.min2=>two2 (λi j=>some (.int (if j<i then j else i))) ts
 |.max2=>two2 (λi j=>some (.int (if j>i then j else i))) ts
 |.range1=>one1 bRng ts
 |.zip2=>zipT ts
 |.dict=>one1 bDict ts
 |.zip4=>zip4T ts
 |.enum=>one1 (ZcE λts=>if ts.length<=lim then some (.lst (ZcG ts))else none) ts
 |.lenset=>one1 (ZoB ZjJ) ts
 |.minl=>one1 (ZcE ZjD) ts
 |.sortt=>one1 (ZcE ZcM) ts
 |.dictc=>one1 (ZcE ZeQ) ts
 |.sortn=>one1 (ZcE Zir) ts
 |.maxl=>one1 (ZcE maxlT) ts
 |.isbis=>one1 bIsb ts
 |.dget=>dGetT ts
 |.din=>dInT false ts
 |.dnot=>dInT true ts
 |.range2=>two2 (λi j=>if(i<2^62/\-(2^62)<=i)/\j<2^62/\-(2^62)<=j then some (.lst (rangeT i (j-i).toNat))else none) ts
 |_=>none
def ofBl(f:Bool->Option T):T->Option T
 |.bl b=>f b
 |_=>none
def idxT(xs:List T)(b:Bool):Option T:=(bools? xs).bind λbs=>if bs.length<=lim then(bs.findIdx? (·==b)).map λk=>.int (k:Int)else none
def cntT(xs:List T)(b:Bool):Option T:=(bools? xs).bind λbs=>if bs.length<=lim then some (.int ((bs.countP (·==b):Nat):Int))else none
def cntS(xs:List T)(b:List Nat):Option T:=(strs? xs).bind λbs=>if bs.length<=lim then some (.int ((bs.countP (·==b):Nat):Int))else none
def cntO(xs:List T):T->Option T
 |.bl b=>cntT xs b
 |.str b=>cntS xs b
 |_=>none
def mthT(b:Mt)(o:T)(ts:List T):Option T:=
 match b with
 |.join=>match o with
  |.str sep=>one1 (ZcE λxs=>(strs? xs).bind λys=>if(ys.map VN).sum+ys.length*sep.length<=lim then some (.str (joinN sep ys))else none) ts
  |_=>none
 |.index=>match o with
  |.lst xs=>one1 (ofBl (idxT xs)) ts
  |_=>none
 |.count=>match o with
  |.lst xs=>one1 (cntO xs) ts
  |_=>none
 |.get=>match o with
  |.dct ks vs=>one1 (λx=>(keyT x).map λk=>(JV ks vs k).getD .non) ts
  |_=>none
 |.split=>match o with
  |.str cs=>match ts with
   |[.str [c]]=>if cs.length<=900000 then some (.lst ((Ziq c cs).map .str))else none
   |_=>none
  |_=>none
 |.upper=>match o with
  |.str cs=>match ts with
   |[]=>if cs.all asciiN&&decide (cs.length<=lim)then some (.str (cs.map upN))else none
   |_=>none
  |_=>none
 |_=>none
def mutM(b:Mt)(xs:List T)(ts:List T):Option (T×List T):=
 match b,ts with
 |.append,[t]=>if xs.length<lim then some (.non,xs++[t])else none
 |.extend,[.lst ys]=>if xs.length+ys.length<=lim then some (.non,xs++ys)else none
 |.insert,[.int i,t]=>if 0<=i/\i<=xs.length/\xs.length<lim then some (.non,xs.take i.toNat++t::xs.drop i.toNat)else none
 |.clear,[]=>some (.non,[])
 |.popat,[.int i]=>match ixOf xs.length i with
  |some k=>(xs[k]?).map λt=>(t,xs.eraseIdx k)
  |none=>none
 |.pop,[]=>match xs.getLast? with
  |some t=>some (t,xs.dropLast)
  |none=>none
 |_,_=>none
def doM(b:Mt)(o:W)(ws:List W)(m:Mem):Res W:=match b with
 |.append|.pop|.popat|.insert|.clear|.extend|.reverse=>match o with
  |.c i=>(frzs ws m).bind λts m=>match m[i]? with
   |some (some (false,xs))=>match mutM b xs ts with
    |some (t,ys)=>.ok (.t t) (m.set i (some (false,ys)))
    |none=>.stuck
   |_=>.stuck
  |.t _=>.stuck
  |.f _=>.stuck
  |.x _ _ _=>.stuck
 |_=>pur ((view o m).bind λx=>(views ws m).bind λts=>mthT b x ts) m
def addC(x y:W)(m:Mem):Res W:=match(view x m).bind λx=>(view y m).bind λy=>addT x y with
 |some (.lst ts)=>.ok (.c m.length) (m++[some (false,ts)])
 |_=>.stuck
def setM(o i v:W)(m:Mem):Res Unit:=match o,i with
 |.c c,.t (.int k)=>(frz v m).bind λt m=>match m[c]? with
  |some (some (false,xs))=>match ixOf xs.length k with
   |some j=>.ok () (m.set c (some (false,xs.set j t)))
   |none=>.stuck
  |_=>.stuck
 |_,_=>.stuck
def intP(w:W)(m:Mem):Res (Option Int):=match w with
 |.t (.int i)=>.ok (some i) m
 |_=>.stuck
def dspT(ks vs:List W)(m:Mem):Res W:=match ks,vs with
 |[],[]=>.ok (.t (.dct [] [])) m
 |[.t k],[.t v]=>match keyT k with
  |some kk=>.ok (.t (.dct [kk] [v])) m
  |none=>.stuck
 |_,_=>.stuck
def tyM(b:Mt)(w:W)(m:Mem):Bool:=match b with
 |.join|.upper|.split|.partition=>match view w m with
  |some (.str _)=>true
  |_=>false
 |.append|.pop|.popat|.insert|.clear|.extend|.reverse=>match w with
  |.c i=>match m[i]? with
   |some (some _)=>true
   |_=>false
  |_=>false
 |.count|.index=>match view w m with
  |some (.lst _)=>true
  |_=>false
 |.get=>match view w m with
  |some (.dct _ _)=>true
  |_=>false
def QW(f:Env->Mem->Res (List T))(tg:Tg):List T->Env->Mem->Res (List T)
 |[],_,m=>.ok [] m
 |t::ts,env,m=>match Qn tg t env with
  |none=>.stuck
  |some env'=>(f env' m).bind λxs m=>(QW f tg ts env m).bind λys m=>.ok (xs++ys) m
def keyL(w:W):Option (List Int):=match w with
 |.t (.lst us)=>ints? us
 |_=>none
def J6(f:Env->Mem->Res W)(kept:Env):List T->Mem->Res (List (List Int))
 |[],m=>.ok [] m
 |t::ts,m=>(f (some (.t t)::kept) m).bind λw m=>match keyL w with
  |some k=>(J6 f kept ts m).bind λks m=>.ok (k::ks) m
  |none=>.stuck
def Res.only{a:Type}(r:Res a):Res a:=match r with
 |.exc _ _=>.stuck
 |r=>r
inductive Flow where
 |next (env:Env)|ret (w:W)|brk (env:Env)|cont (env:Env)
def Z2(f:Env->Mem->Res Flow)(tg:Tg):List T->Env->Mem->Res Flow
 |[],env,m=>.ok (.next env) m
 |t::ts,env,m=>match Qn tg t env with
  |none=>.stuck
  |some env=>(f env m).bind λfl m=>match fl with
   |.next env=>Z2 f tg ts env m
   |.cont env=>Z2 f tg ts env m
   |.brk env=>.ok (.next env) m
   |.ret w=>.ok (.ret w) m
def Zib(c:Env->Mem->Res Bool)(f:Env->Mem->Res Flow):Nat->Env->Mem->Res Flow
 |0,_,_=>.stuck
 |n+1,env,m=>(c env m).bind λb m=>if b then(f env m).bind λfl m=>match fl with
   |.next env=>Zib c f n env m
   |.cont env=>Zib c f n env m
   |.brk env=>.ok (.next env) m
   |.ret w=>.ok (.ret w) m
  else .ok (.next env) m
def turns:Nat:=1000000
def fitT:T->Bool
 |.str cs=>decide (cs.length<=lim)
 |_=>true
def Jg(w:W)(m:Mem):Res Bool:=match view w m with
 |some t=>if fitT t then .ok (Zf8 t) m else .stuck
 |none=>.stuck
def Ze0(w:W)(m:Mem):Res Bool:=match w with
 |.t (.bl b)=>.ok b m
 |_=>.stuck
def Ze7(w:W)(m:Mem):Res (List T):=match w with
 |.t (.lst ts)=>.ok ts m
 |_=>.stuck
def xatT(cs:List Nat)(nm:Str)(x:W):Option T:=match x with
 |.x c nms ts=>if c∈cs then(nms.zip ts).lookup nm else none
 |_=>none
def xisT(yes no:List Nat)(x:W):Option T:=match x with
 |.x c _ _=>if c∈yes then some (.bl true)else if c∈no then some (.bl false)else none
 |_=>none
def hEnv(n:Nat)(nm:Option Nat)(x:Exc):Env:=match nm with
 |some i=>(Yy n none).set i (some (.x x.cls x.nms x.flds))
 |none=>Yy n none
def unE(nm:Option Nat)(env:Env):Env:=match nm with
 |some i=>env.set i none
 |none=>env
def fmtW(acc:List Nat)(w:W)(m:Mem):Res (List Nat):=match(view w m).bind fmtT with
 |some a=>if acc.length+a.length<=lim then .ok (acc++a) m else .stuck
 |none=>.stuck
def treeW(w:W)(m:Mem):Res W:=match w with
 |.t x=>.ok (.t x) m
 |.c _=>.stuck
 |.f _=>.stuck
 |.x _ _ _=>.stuck
def ZoI(gv:List T)(a:Nat):List (Nat×Nat)->Option Nat
 |[]=>none
 |(j,k)::r=>match gv[j]? with
  |some (.int b)=>if b=(a:Int)then some k else ZoI gv a r
  |_=>ZoI gv a r
section
variable(call:Nat->List W->Mem->Res W) (gv:List T)
mutual
def ev:E->Env->Mem->Res W
 |.var i,env,m=>match env[i]? with
  |some (some w)=>.ok w m
  |_=>.stuck
 |.gl k,_,m=>pur gv[k]? m
 |.con t,_,m=>.ok (.t t) m
 |.bin op a b,env,m=>(ev a env m).bind λx m=>(ev b env m).bind λy m=>pur ((view x m).bind λx=>(view y m).bind λy=>binT op x y) m
 |.neg a,env,m=>(ev a env m).bind λx m=>pur ((view x m).bind λx=>match x with
  |.int i=>some (.int (-i))
  |_=>none) m
 |.not a,env,m=>(ev a env m).bind λx m=>(Ze0 x m).bind λk m=>.ok (.t (.bl (!k))) m
 |.and a b,env,m=>(ev a env m).bind λx m=>(Ze0 x m).bind λk m=>if k then ev b env m else .ok (.t (.bl false)) m
 |.or a b,env,m=>(ev a env m).bind λx m=>(Ze0 x m).bind λk m=>if k then .ok (.t (.bl true)) m else ev b env m
 |.one a,env,m=>ev a env m
 |.cmp op a b,env,m=>(ev a env m).bind λx m=>(ev b env m).bind λy m=>pur (((view x m).bind λx=>(view y m).bind λy=>cmpT op x y).map .bl) m
 |.chn op op' a b c,env,m=>(ev a env m).bind λx m=>(ev b env m).bind λy m =>
   match(view x m).bind λx=>(view y m).bind λy=>cmpT op x y with
   |some true=>(ev c env m).bind λz m=>pur (((view y m).bind λy=>(view z m).bind λz=>cmpT op' y z).map .bl) m
   |some false=>.ok (.t (.bl false)) m
   |none=>.stuck
 |.ite c a b,env,m=>(ev c env m).bind λx m=>(Jg x m).bind λk m=>if k then ev a env m else ev b env m
 |.tup es,env,m=>(evs es env m).bind λws m=>(frzs ws m).bind λts m=>if ts.length<=lim then .ok (.t (.tup ts)) m else .stuck
 |.lst es,env,m=>(evs es env m).bind λws m=>(frzs ws m).bind λts m=>if ts.length<=lim then .ok (.t (.lst ts)) m else .stuck
 |.cel es,env,m=>(evs es env m).bind λws m=>(frzs ws m).bind λts m=>if ts.length<=lim then .ok (.c m.length) (m++[some (false,ts)])else .stuck
 |.celL a,env,m=>(ev a env m).bind λx m=>match view x m with
  |some (.lst ts)=>.ok (.c m.length) (m++[some (false,ts)])
  |some (.tup ts)=>.ok (.c m.length) (m++[some (false,ts)])
  |_=>.stuck
 |.celb b es,env,m=>(evs es env m).bind λws m=>match(views ws m).bind λts=>bltT b ts with
  |some (.lst ts)=>.ok (.c m.length) (m++[some (false,ts)])
  |_=>.stuck
 |.celA a b,env,m=>(ev a env m).bind λx m=>(ev b env m).bind λy m=>addC x y m
 |.dsp ks vs,env,m=>(evs ks env m).bind λkw m=>(evs vs env m).bind λvw m=>dspT kw vw m
 |.ix a b,env,m=>(ev a env m).bind λx m=>(ev b env m).bind λy m=>pur ((view x m).bind λx=>(view y m).bind λy=>ixT x y) m
 |.slc a lo hi,env,m=>(ev a env m).bind λx m=>(if Zz lo then Res.ok none m else(ev lo env m).bind intP).bind λl m =>
   (if Zz hi then Res.ok none m else(ev hi env m).bind intP).bind λh m=>pur ((view x m).bind λx=>slT x l h) m
 |.hole,_,m=>.ok (.t .non) m
 |.rev a,env,m=>(ev a env m).bind λx m=>pur ((view x m).bind λx=>match x with
  |.tup ts=>some (.tup ts.reverse)
  |.lst ts=>some (.lst ts.reverse)
  |_=>none) m
 |.call f es,env,m=>(evs es env m).bind λws m=>call f ws m
 |.blt b es,env,m=>(evs es env m).bind λws m=>pur ((views ws m).bind λts=>bltT b ts) m
 |.mth b o es,env,m=>(ev o env m).bind λx m=>if tyM b x m then(evs es env m).bind λws m=>doM b x ws m else .stuck
 |.isi a ty,env,m=>(ev a env m).bind λx m=>pur ((view x m).map λx=>.bl (isT x ty)) m
 |.comp own keep it tg cs inner,env,m=>(ev it env m).only.bind λx m0=>(Z3 x m0).bind λts m =>
   (QW (λenv m=>(tests cs env m).bind λk m=>if k then(ev inner env m).bind Ze7 else .ok [] m) tg ts (Yy own none++keep.map λi=>(env[i]?).join) m).only.bind λout m =>
    if out.length<=lim then .ok (.t (.lst out)) (giveBack x m0 m)else .stuck
 |.more it tg cs inner,env,m=>(ev it env m).bind λx m0=>(Z3 x m0).bind λts m =>
   (QW (λenv m=>(tests cs env m).bind λk m=>if k then(ev inner env m).bind Ze7 else .ok [] m) tg ts env m).bind λout m=>.ok (.t (.lst out)) (giveBack x m0 m)
 |.emit a,env,m=>(ev a env m).bind λx m=>(frz x m).bind λt m=>.ok (.t (.lst [t])) m
 |.emit2 a b,env,m=>(ev a env m).bind λx m=>(ev b env m).bind λy m=>match x with
  |.t t=>if(keyT t).isSome then(frz y m).bind λu m=>.ok (.t (.lst [t,u])) m else .stuck
  |_=>.stuck
 |.tr a,env,m=>(ev a env m).bind treeW
 |.fnv j,_,m=>match gv[j]? with
  |some (.int a)=>.ok (.f a.toNat) m
  |_=>.stuck
 |.callV i tab es,env,m=>match env[i]? with
  |some (some (.f a))=>match ZoI gv a tab with
   |some k=>(evs es env m).bind λws m=>call k ws m
   |none=>.stuck
  |_=>.stuck
 |.xat a cs nm,env,m=>(ev a env m).bind λx m=>pur (xatT cs nm x) m
 |.xis a yes no,env,m=>(ev a env m).bind λx m=>pur (xisT yes no x) m
 |.ptd a b,env,m=>(ev a env m).bind λx m=>(ev b env m).bind λy m=>pur ((view x m).bind λx=>(view y m).bind λy=>ptT x y) m
 |.sortk keep a b,env,m=>(ev a env m).bind λx m=>match view x m with
  |some (.lst ts)=>(J6 (λenv m=>ev b env m) (keep.map λi=>(env[i]?).join) ts m).only.bind λks m=>pur (XH ks ts) m
  |_=>.stuck
 |.fst es,env,m=>(evf es [] env m).bind λcs m=>.ok (.t (.str cs)) m
 |.gdg k e,env,m=>(ev e env m).bind λx m=>pur ((view x m).bind λx=>gDct gv[k]? λks vs=>(keyT x).bind (JV ks vs)) m
 |.gdn k neg e,env,m=>(ev e env m).bind λx m=>pur ((view x m).bind λx=>gDct gv[k]? λks vs=>(keyT x).map λk=>.bl (if neg then !(JV ks vs k).isSome else(JV ks vs k).isSome)) m
 |.dsn ks vs,env,m=>(evs vs env m).bind λws m=>(frzs ws m).bind λts m=>if ks.length=ts.length/\ks.length<=1000/\ks.Nodup then .ok (.t (.dct (ks.map λk=>.inr ⟨k.toArray⟩) ts)) m else .stuck
def evs:Es->Env->Mem->Res (List W)
 |.nil,_,m=>.ok [] m
 |.cons e es,env,m=>(ev e env m).bind λw m=>(evs es env m).bind λws m=>.ok (w::ws) m
def evf:Es->List Nat->Env->Mem->Res (List Nat)
 |.nil,acc,_,m=>.ok acc m
 |.cons e es,acc,env,m=>(ev e env m).bind λw m=>(fmtW acc w m).bind λacc m=>evf es acc env m
def tests:Es->Env->Mem->Res Bool
 |.nil,_,m=>.ok true m
 |.cons e es,env,m=>(ev e env m).bind λx m=>(Jg x m).bind λk m=>if k then tests es env m else .ok false m
end
def ex:S->Env->Mem->Res Flow
 |.done,env,m=>.ok (.next env) m
 |.asg i e k,env,m=>(ev call gv e env m).bind λw m=>ex k (env.set i (some w)) m
 |.asgT is e k,env,m=>(ev call gv e env m).bind λw m=>match w with
  |.t t=>match Qn (.tp is) t env with
   |some env=>ex k env m
   |none=>.stuck
  |.c _=>.stuck
  |.f _=>.stuck
  |.x _ _ _=>.stuck
 |.asgC i e k,env,m=>(ev call gv e env m).bind λw m=>match w with
  |.t (.lst ts)=>ex k (env.set i (some (.c m.length))) (m++[some (false,ts)])
  |_=>.stuck
 |.asgL is e k,env,m=>(ev call gv e env m).bind λw m=>match w with
  |.t (.lst ts)=>match Qn (.tp is) (.tup ts) env with
   |some env=>ex k env m
   |none=>.stuck
  |_=>.stuck
 |.set o i v k,env,m=>(ev call gv v env m).bind λz m=>(ev call gv o env m).bind λx m=>(ev call gv i env m).bind λy m =>
   (setM x y z m).bind λ_ m=>ex k env m
 |.aug i op e k,env,m=>match env[i]? with
  |some (some x)=>(ev call gv e env m).bind λy m=>(pur ((view x m).bind λx=>(view y m).bind λy=>augT op x y) m).bind λz m=>ex k (env.set i (some z)) m
  |_=>.stuck
 |.ife c a b k,env,m=>(ev call gv c env m).bind λx m=>(Jg x m).bind λt m =>
   (if t then ex a env m else ex b env m).bind λfl m=>match fl with
    |.next env=>ex k env m
    |fl=>.ok fl m
 |.forr tg it body k,env,m=>(ev call gv it env m).bind λx m0=>(Z3 x m0).bind λts m =>
   (Z2 (λenv m=>ex body env m) tg ts env m).bind λfl m=>match fl with
    |.next env=>ex k env (giveBack x m0 m)
    |.ret w=>.ok (.ret w) (giveBack x m0 m)
    |_=>.stuck
 |.whil c body k,env,m=>(Zib (λenv m=>(ev call gv c env m).bind Jg) (λenv m=>ex body env m) turns env m).bind λfl m=>match fl with
    |.next env=>ex k env m
    |fl=>.ok fl m
 |.ret e _,env,m=>(ev call gv e env m).bind λw m=>.ok (.ret w) m
 |.retN _,_,m=>.ok (.ret (.t .non)) m
 |.expr e k,env,m=>(ev call gv e env m).bind λ_ m=>ex k env m
 |.pass k,env,m=>ex k env m
 |.brk _,env,m=>.ok (.brk env) m
 |.cont _,env,m=>.ok (.cont env) m
 |.stk,_,_=>.stuck
 |.rse c nms es _,env,m=>(evs call gv es env m).bind λws m=>(frzs ws m).bind λts m=>if nms=[]then(if ts.length<=1000 then .exc ⟨c,[],[]⟩ m else .stuck)else if ts.length=nms.length then .exc ⟨c,nms,ts⟩ m else .stuck
 |.tri b yes nm h k,env,m=>match ex b env m with
  |.ok fl m=>match fl with
   |.next env=>ex k env m
   |fl=>.ok fl m
  |.exc x m=>if x.cls∈yes then(ex h (hEnv env.length nm x) m).only.bind λfl m=>match fl with
    |.next env=>ex k (unE nm env) m
    |.ret w=>.ok (.ret w) m
    |_=>.stuck
   else .stuck
  |.stuck=>.stuck
end
structure Fn where
 ps:Nat
 n:Nat
 body:S
 cell:Bool:=false
def fin(n:Nat)(cell:Bool)(fl:Flow)(m:Mem):Res W:=match fl with
 |.ret (.t t)=>.ok (.t t) (m.take n)
 |.ret (.c i)=>if i<n then .ok (.c i) (m.take n)else match m[i]? with
  |some (some (false,ts))=>if cell then .ok (.c n) (m.take n++[some (false,ts)])else .ok (.t (.lst ts)) (m.take n)
  |_=>.stuck
 |.next _=>.ok (.t .non) (m.take n)
 |_=>.stuck
def J7(fns:List Fn)(gv:List T):Nat->Nat->List W->Mem->Res W
 |0,_,_,_=>.stuck
 |n+1,f,ws,m=>match fns[f]? with
  |none=>.stuck
  |some d=>if ws.length=d.ps then(ex (J7 fns gv n) gv d.body (ws.map some++Yy (d.n-d.ps) none) m).bind λfl m'=>fin m.length d.cell fl m' else .stuck
end Mi
namespace Mi
open PySem L2
def ZdS:HO->Option HO->Prop
 |.tbl _,r=>∃qs,r=some (.tbl qs)
 |o,r=>r=some o
theorem ZdS.of{o:HO}{r:Option HO}(h:r=some o):ZdS o r:=by cases o<;>first|exact h|exact⟨_,h⟩
theorem ZdS.trans{o:HO}{r r':Option HO}(h:ZdS o r)(k:∀o',r=some o'->ZdS o' r'):ZdS o r':=by
 cases o with
 |tbl ps =>
  obtain⟨qs,h⟩:=h
  obtain⟨rs,h⟩:=k _ h
  exact⟨rs,h⟩
 |_=>exact k _ h
theorem ZdS.some{o:HO}{r:Option HO}(h:ZdS o r):∃o',r=some o':=by
 cases o with
 |tbl ps=>obtain⟨qs,h⟩:=h;exact⟨_,h⟩
 |_=>exact⟨_,h⟩
def Jq:List Str:=["row_of","first_meeting"]
def lamQ(q:Str):Str:=(q++".<locals>.")++"<lambda>"
def JX(o:Obj):Option (Str×Addr):=match o.data with
 |.fields vs=>match vs[1]?,vs[11]? with
  |some (V1 q _),some (GF P)=>if Jq.contains q then some (q,P)else none
  |_,_=>none
 |_=>none
def Zk1(K:Frag)(q:Str)(P:Addr):Prop:=∃c o,K.lookup c=some o/\JX o=some (q,P)/\K.lookup P=none
def ZgO(q:Str)(H:Hp)(ps:Array Value):Prop:=Ycr ps.toList/\∀pos cv,Ybb pos ps.toList=some cv->∃(c:Addr) (o:Obj) (vs:Array Value) (t:Tok) (u:HO),cv=.ref c/\H c=some (.frz o u)/\o.data=.fields vs/\vs[1]?=some (.str (lamQ q) t)
def TabR(K:Frag)(H:Hp):Prop:=∀q P,Zk1 K q P->∃ps,H P=some (.tbl ps)/\ZgO q H ps
theorem ZgO.kept{q:Str}{H H':Hp}{ps:Array Value}(h:ZgO q H ps)(k2:∀a o u,H a=some (.frz o u)->H' a=some (.frz o u)):ZgO q H' ps:=by
 refine⟨h.1,λpos cv hc=>?_⟩
 obtain⟨c,o,vs,t,u,a1,a2,a3,a4⟩:=h.2 pos cv hc
 exact⟨c,o,vs,t,u,a1,k2 _ _ _ a2,a3,a4⟩
theorem TabR.kept{K:Frag}{H H':Hp}(h:TabR K H)(k1:∀a ps,H a=some (.tbl ps)->H' a=some (.tbl ps))(k2:∀a o u,H a=some (.frz o u)->H' a=some (.frz o u)):TabR K H':=λq P e=>by
 obtain⟨ps,h1,h2⟩:=h q P e
 exact⟨ps,k1 _ _ h1,h2.kept k2⟩
theorem TabR.upd{K:Frag}{H:Hp}{a:Addr}{o:HO}(h:TabR K H)(hn:∀u,H a=some u->∃xs,u=.lst xs):TabR K (upd H a o):=
 h.kept (λb ps e=>by rw[ZL];exact e;rintro rfl;obtain⟨xs,z⟩:=hn _ e;cases z) λb o u e=>by rw[ZL];exact e;rintro rfl;obtain⟨xs,z⟩:=hn _ e;cases z
section
variable(K:Frag)
def Zt(cm:List Addr)(m:Mem)(a:Addr):Prop:=∀(i:Nat) p,m[i]?=some (some p)->cm[i]?≠some a
def ZcA(H:Hp)(a:Addr)(ns:List Int):Prop:=(∃o,H a=some (.frz o (.lst (ns.map V.int)))) ∨
 ∃(o:Obj) (its:Array Value) (n:Nat),K.lookup a=some o/\o.cls=.type "list"/\o.dict=none/\o.data=.seq its n/\its.size<=YM/\Vals (ns.map V.int) its.toList
inductive RT (cm:List Addr) (m:Mem) (H:Hp):T->V->Prop where
 |non:RT cm m H .non .non
 |bl (b:Bool):RT cm m H (.bl b) (.bl b)
 |int (i:Int):RT cm m H (.int i) (.int i)
 |str (cs:List Nat):RT cm m H (.str cs) (.str ⟨cs.toArray⟩)
 |tup {a:Addr}{ts:List T}{vs:List V}:SqT K H a vs->ts.length=vs.length->(∀(i:Nat) t v,ts[i]?=some t->vs[i]?=some v->RT cm m H t v)->RT cm m H (.tup ts) (.ref a)
 |lst {a:Addr}{ts:List T}{vs:List V}:H a=some (.lst vs)->Zt cm m a->ts.length=vs.length->(∀(i:Nat) t v,ts[i]?=some t->vs[i]?=some v->RT cm m H t v)->RT cm m H (.lst ts) (.ref a)
 |dct {a:Addr}{ks:List Key}{ts:List T}{vs:List V}:H a=some (.dK (ks.zip vs))->Zt cm m a->ks.length=vs.length->ts.length=vs.length ->
  (∀(i:Nat) t v,ts[i]?=some t->vs[i]?=some v->RT cm m H t v)->RT cm m H (.dct ks ts) (.ref a)
 |scr {a:Addr}(ns:List Int):ZcA K H a ns->RT cm m H (.scr ns) (.ref a)
abbrev RTs(cm:List Addr)(m:Mem)(H:Hp)(ts:List T)(vs:List V):Prop:=Paired (RT K cm m H) ts vs
def XF(cm:List Addr)(m:Mem)(H:Hp)(nms:List Str)(ts:List T)(dx:Option Addr):Prop:=match dx with
 |none=>nms=[]/\ts=[]
 |some d=>∃vs,H d=some (.xd (nms.zip vs))/\nms.length=vs.length/\RTs K cm m H ts vs
def RW(cm:List Addr)(m:Mem)(H:Hp):W->V->Prop
 |.t x,v=>RT K cm m H x v
 |.c i,v=>∃a,cm[i]?=some a/\v=.ref a
 |.f a,v=>v=.ref a
 |.x c nms ts,v=>∃a o u,v=.ref a/\H a=some (.frz o u)/\o.cls=.ref c/\(∃fs,o.data=.fields fs)/\XF K cm m H nms ts o.dict
abbrev RWs(cm:List Addr)(m:Mem)(H:Hp)(ws:List W)(vs:List V):Prop:=Paired (RW K cm m H) ws vs
structure MemR (cm:List Addr) (m:Mem) (H:Hp):Prop where
 len:cm.length=m.length
 inj:∀(i j:Nat) a p q,m[i]?=some (some p)->m[j]?=some (some q)->cm[i]?=some a->cm[j]?=some a->i=j
 at':∀(i:Nat) p,m[i]?=some (some p)->∃a vs,cm[i]?=some a/\H a=some (.lst vs)/\K.lookup a=none/\RTs K cm m H p.2 vs
 tab:TabR K H
def EnvR(cm:List Addr)(m:Mem)(H:Hp)(env:Env)(σ:L2.St):Prop:=∀(i:Nat) w,env[i]?=some (some w)->∃v,σ[i]?=some (some v)/\RW K cm m H w v
structure Ext (cm:List Addr) (m:Mem) (H:Hp) (cm':List Addr) (m':Mem) (H':Hp):Prop where
 pre:∀(i:Nat) a,cm[i]?=some a->cm'[i]?=some a
 len:m.length<=m'.length
 lent:∀(i:Nat) ts,m[i]?=some (some (true,ts))->m'[i]?=some (some (true,ts))
 keep:∀a o,H a=some o->Zt cm m a->ZdS o (H' a)/\Zt cm' m' a
end
section
variable{K:Frag}{cm cm' cm'':List Addr}{m m' m'':Mem}{H H' H'':Hp}
theorem Zat{α β:Type}{F:α->β->Prop}:∀{xs:List α}{ys:List β},xs.length=ys.length->(∀(i:Nat) x y,xs[i]?=some x->ys[i]?=some y->F x y)->Paired F xs ys
 |[],[],_,_=>.nil
 |x::xs,y::ys,hl,h=>.cons (h 0 x y rfl rfl) (Zat (by simpa using hl) λi a b ha hb=>h (i+1) a b (by simpa using ha) (by simpa using hb))
 |[],_::_,hl,_=>by simp at hl
 |_::_,[],hl,_=>by simp at hl
theorem Qq{α β:Type}{F:α->β->Prop}:∀{xs:List α}{ys:List β},Paired F xs ys->∀(i:Nat) x y,xs[i]?=some x->ys[i]?=some y->F x y
 |_,_,.nil,i,x,y,h,_=>by simp at h
 |_,_,.cons r t,0,x,y,h1,h2=>by simp at h1 h2;subst h1;subst h2;exact r
 |_,_,.cons r t,i+1,x,y,h1,h2=>Qq t i x y (by simpa using h1) (by simpa using h2)
theorem Zx{α β:Type}{F:α->β->Prop}{xs:List α}{ys:List β}(h:Paired F xs ys){i:Nat}{x:α}(hx:xs[i]?=some x):∃y,ys[i]?=some y/\F x y:=by
 have hl:=h.length
 have hi:=(Yi.mp hx).1
 have hy:ys[i]?=some (ys[i]'(by omega)):=Yn (by omega)
 exact⟨_,hy,Qq h i _ _ hx hy⟩
theorem ZZ{α β:Type}{F:α->β->Prop}:∀{xs xs':List α}{ys ys':List β},Paired F xs ys->Paired F xs' ys'->Paired F (xs++xs') (ys++ys')
 |_,_,_,_,.nil,h=>h
 |_,_,_,_,.cons r t,h=>.cons r (ZZ t h)
theorem ZbW{α β:Type}{F:α->β->Prop}:∀{xs:List α}{ys:List β}(n:Nat),Paired F xs ys->Paired F (xs.take n) (ys.take n)
 |_,_,0,_=>.nil
 |_,_,_+1,.nil=>.nil
 |_,_,n+1,.cons r t=>.cons r (ZbW n t)
theorem ZbX{α β:Type}{F:α->β->Prop}:∀{xs:List α}{ys:List β}(n:Nat),Paired F xs ys->Paired F (xs.drop n) (ys.drop n)
 |_,_,0,r=>r
 |_,_,_+1,.nil=>.nil
 |_,_,n+1,.cons _ t=>ZbX n t
theorem ZcT{α β:Type}{F:α->β->Prop}{x:α}{y:β}(r:F x y):∀{xs:List α}{ys:List β}(i:Nat),Paired F xs ys->Paired F (xs.set i x) (ys.set i y)
 |_,_,_,.nil=>.nil
 |_,_,0,.cons _ t=>.cons r t
 |_,_,i+1,.cons q t=>.cons q (ZcT r i t)
theorem Zi{α β:Type}{F G:α->β->Prop}(f:∀a b,F a b->G a b){xs:List α}{ys:List β}(h:Paired F xs ys):Paired G xs ys:=L2.Paired.mapP h f
theorem RT.mtup{a:Addr}{ts:List T}{vs:List V}(h:SqT K H a vs)(r:RTs K cm m H ts vs):RT K cm m H (.tup ts) (.ref a):=.tup h r.length λi t v h1 h2=>Qq r i t v h1 h2
theorem RT.mlst{a:Addr}{ts:List T}{vs:List V}(h:H a=some (.lst vs))(n:Zt cm m a)(r:RTs K cm m H ts vs):RT K cm m H (.lst ts) (.ref a):=.lst h n r.length λi t v h1 h2=>Qq r i t v h1 h2
theorem RT.itup{ts:List T}{v:V}(h:RT K cm m H (.tup ts) v):∃a vs,v=.ref a/\SqT K H a vs/\RTs K cm m H ts vs:=by
 cases h with
 |tup h1 h2 h3=>exact⟨_,_,rfl,h1,Zat h2 h3⟩
theorem RT.ilst{ts:List T}{v:V}(h:RT K cm m H (.lst ts) v):∃a vs,v=.ref a/\H a=some (.lst vs)/\Zt cm m a/\RTs K cm m H ts vs:=by
 cases h with
 |lst h1 h2 h3 h4=>exact⟨_,_,rfl,h1,h2,Zat h3 h4⟩
theorem QJ(M:MemR K cm m H){a:Addr}{o:HO}(h:H a=some o)(hn:∀vs,o≠.lst vs):Zt cm m a:=λi ts e z=>by
 obtain⟨b,vs,h1,h2,_,_⟩:=M.at' i ts e
 rw[h1]at z;cases z
 rw[h2]at h;cases h
 exact hn _ rfl
theorem Ext.sqT(x:Ext cm m H cm' m' H')(M:MemR K cm m H){a:Addr}{vs:List V}(h:SqT K H a vs):SqT K H' a vs:=by
 rcases h with(h|⟨o,h⟩)|h
 ·exact .inl (.inl (x.keep a _ h (QJ M h (λ_ z=>by cases z))).1)
 ·exact .inl (.inr ⟨o,(x.keep a _ h (QJ M h (λ_ z=>by cases z))).1⟩)
 ·exact .inr h
theorem Ext.scr(x:Ext cm m H cm' m' H')(M:MemR K cm m H){a:Addr}{ns:List Int}(h:ZcA K H a ns):ZcA K H' a ns:=by
 rcases h with⟨o,h⟩|h
 ·exact .inl ⟨o,(x.keep a _ h (QJ M h (λ_ z=>by cases z))).1⟩
 ·exact .inr h
theorem ZcA.sq{a:Addr}{ns:List Int}(h:ZcA K H a ns):SqL K H a (ns.map V.int):=by
 rcases h with⟨o,h⟩|h
 ·exact .inl (.inr ⟨o,h⟩)
 ·exact .inr h
theorem RT.ext(x:Ext cm m H cm' m' H')(M:MemR K cm m H)(M':MemR K cm' m' H'){t:T}{v:V}(h:RT K cm m H t v):RT K cm' m' H' t v:=by
 induction h with
 |non=>exact .non
 |bl b=>exact .bl b
 |int i=>exact .int i
 |str cs=>exact .str cs
 |tup h1 h2 _ ih=>exact .tup (x.sqT M h1) h2 ih
 |lst h1 h2 h3 _ ih=>exact .lst (x.keep _ _ h1 h2).1 (x.keep _ _ h1 h2).2 h3 ih
 |scr ns h=>exact .scr ns (x.scr M h)
 |dct h1 h2 h3 h4 _ ih=>exact .dct (x.keep _ _ h1 h2).1 (x.keep _ _ h1 h2).2 h3 h4 ih
theorem RTs.ext(x:Ext cm m H cm' m' H')(M:MemR K cm m H)(M':MemR K cm' m' H'){ts:List T}{vs:List V}(h:RTs K cm m H ts vs):RTs K cm' m' H' ts vs:=Zi (λ_ _ z=>z.ext x M M') h
theorem XF.ext(x:Ext cm m H cm' m' H')(M:MemR K cm m H)(M':MemR K cm' m' H'){nms:List Str}{ts:List T}{dx:Option Addr}(h:XF K cm m H nms ts dx):XF K cm' m' H' nms ts dx:=by
 cases dx with
 |none=>exact h
 |some d =>
  obtain⟨vs,h1,h2,h3⟩:=h
  exact⟨vs,(x.keep d _ h1 (QJ M h1 (λ_ z=>by cases z))).1,h2,h3.ext x M M'⟩
theorem RW.ext(x:Ext cm m H cm' m' H')(M:MemR K cm m H)(M':MemR K cm' m' H'){w:W}{v:V}(h:RW K cm m H w v):RW K cm' m' H' w v:=by
 cases w with
 |t t=>exact RT.ext x M M' h
 |c i=>obtain⟨a,h1,h2⟩:=h;exact⟨a,x.pre i a h1,h2⟩
 |f a=>exact h
 |x c nms ts=>obtain⟨a,o,u,h1,h2,h3,h3',h4⟩:=h;exact⟨a,o,u,h1,(x.keep a _ h2 (QJ M h2 (λ_ z=>by cases z))).1,h3,h3',h4.ext x M M'⟩
theorem RWs.ext(x:Ext cm m H cm' m' H')(M:MemR K cm m H)(M':MemR K cm' m' H'){ws:List W}{vs:List V}(h:RWs K cm m H ws vs):RWs K cm' m' H' ws vs:=Zi (λ_ _ z=>RW.ext x M M' z) h
theorem EnvR.ext(x:Ext cm m H cm' m' H')(M:MemR K cm m H)(M':MemR K cm' m' H'){env:Env}{σ:L2.St}(h:EnvR K cm m H env σ):EnvR K cm' m' H' env σ:=λi w e=>by
 obtain⟨v,h1,h2⟩:=h i w e
 exact⟨v,h1,h2.ext x M M'⟩
theorem Ext.refl:Ext cm m H cm m H:=⟨λ_ _ h=>h,Yj _,λ_ _ h=>h,λ_ _ h n=>⟨.of h,n⟩⟩
theorem Ext.trans(x:Ext cm m H cm' m' H')(y:Ext cm' m' H' cm'' m'' H''):Ext cm m H cm'' m'' H'':=
 ⟨λi a h=>y.pre i a (x.pre i a h),YJ x.len y.len,λi ts h=>y.lent i ts (x.lent i ts h),λa o h n=>⟨(x.keep a o h n).1.trans λo' e=>(y.keep a o' e (x.keep a o h n).2).1,(x.keep a o h n).1.some.elim λo' e=>(y.keep a o' e (x.keep a o h n).2).2⟩⟩
abbrev XR:=Exc->List Addr->Mem->Hp->Prop
def xr0:XR:=λ_ _ _ _=>False
variable(K) in
def OkR{α:Type}(r:Res α)(xr:XR)(cm:List Addr)(m:Mem)(H:Hp)(k:α->List Addr->Mem->Hp->Prop):Prop:=match r with
 |.ok a m'=>∀cm' H',Ext cm m H cm' m' H'->MemR K cm' m' H'->k a cm' m' H'
 |.exc x m'=>∀cm' H',Ext cm m H cm' m' H'->MemR K cm' m' H'->xr x cm' m' H'
 |.stuck=>False
variable{xr:XR}
theorem OkR.shift{α:Type}{r:Res α}{k:α->List Addr->Mem->Hp->Prop}(h:OkR K r xr cm m H k)(x:Ext cm m H cm' m' H'):OkR K r xr cm' m' H' k:=by
 cases r with
 |ok a m2=>exact λc h' e M=>h c h' (x.trans e) M
 |exc a m2=>exact λc h' e M=>h c h' (x.trans e) M
 |stuck=>exact h
theorem OkR.bind{α β:Type}{r:Res α}{f:α->Mem->Res β}{k:β->List Addr->Mem->Hp->Prop}(h:OkR K (r.bind f) xr cm m H k):
  OkR K r xr cm m H λa cm' m' H'=>OkR K (f a m') xr cm' m' H' k:=by
 cases r with
 |ok a m2=>exact λc h' e M=>OkR.shift (show OkR K (f a m2) xr cm m H k from h) e
 |exc a m2=>exact h
 |stuck=>exact h
theorem OkR.bind0{α β:Type}{r:Res α}{f:α->Mem->Res β}{k:β->List Addr->Mem->Hp->Prop}(h:OkR K (r.bind f) xr cm m H k):
  OkR K r xr cm m H λa _ m' _=>OkR K (f a m') xr cm m H k:=by
 cases r with
 |ok a m2=>exact λc h' e M=>h
 |exc a m2=>exact h
 |stuck=>exact h
theorem OkR.mono{α:Type}{r:Res α}{k k':α->List Addr->Mem->Hp->Prop}(h:OkR K r xr cm m H k)(f:∀a cm' m' H',Ext cm m H cm' m' H'->MemR K cm' m' H'->k a cm' m' H'->k' a cm' m' H'):OkR K r xr cm m H k':=by
 cases r with
 |ok a m2=>exact λc h' e M=>f a c m2 h' e M (h c h' e M)
 |exc a m2=>exact h
 |stuck=>exact h
theorem OkR.now{α:Type}{a:α}{k:α->List Addr->Mem->Hp->Prop}(h:OkR K (.ok a m) xr cm m H k)(M:MemR K cm m H):k a cm m H:=h cm H .refl M
theorem OkR.to{α:Type}{a:α}{m':Mem}{k:α->List Addr->Mem->Hp->Prop}(h:OkR K (.ok a m') xr cm m H k)(x:Ext cm m H cm' m' H')(M:MemR K cm' m' H'):k a cm' m' H':=h cm' H' x M
end
section
variable(K:Frag) (call:Nat->List W->Mem->Res W) (gv:List T) (xr:XR)
def tE(e:E):TE:=λσ H Q=>∃env cm m,EnvR K cm m H env σ/\MemR K cm m H/\OkR K (ev call gv e env m) xr cm m H λw cm' m' H'=>∀v,RW K cm' m' H' w v->Q v H'
def tA(es:Es):TA:=λσ H Q=>∃env cm m,EnvR K cm m H env σ/\MemR K cm m H/\OkR K (evs call gv es env m) xr cm m H λws cm' m' H'=>∀vs,RWs K cm' m' H' ws vs->Q vs H'
def tT(e:E):TT:=λσ H Q=>∃env cm m,EnvR K cm m H env σ/\MemR K cm m H/\OkR K ((ev call gv e env m).bind Jg) xr cm m H λk _ _ H'=>Q k H'
def r2(f:W->W->Mem->Res W):R2:=λx y H Q=>∃cm m a b,MemR K cm m H/\RW K cm m H a x/\RW K cm m H b y/\OkR K (f a b m) xr cm m H λw cm' m' H'=>∀v,RW K cm' m' H' w v->Q v H'
def r1(f:W->Mem->Res W):V->Hp->VK->Prop:=λx H Q=>∃cm m a,MemR K cm m H/\RW K cm m H a x/\OkR K (f a m) xr cm m H λw cm' m' H'=>∀v,RW K cm' m' H' w v->Q v H'
def rN(f:List W->Mem->Res W):List V->Hp->VK->Prop:=λxs H Q=>∃cm m ws,MemR K cm m H/\RWs K cm m H ws xs/\OkR K (f ws m) xr cm m H λw cm' m' H'=>∀v,RW K cm' m' H' w v->Q v H'
end
section
variable{K:Frag}{call:Nat->List W->Mem->Res W}{gv:List T}{xr:XR}{X:Cx}
theorem PE.mono{e:Expr}{t t':TE}(h:PE X e t)(f:∀σ H Q,t' σ H Q->t σ H Q):PE X e t':=λpins s σ H Q I q=>h pins s σ H Q I (f σ H Q q)
theorem PT.mono{e:Expr}{t t':TT}(h:PT X e t)(f:∀σ H Q,t' σ H Q->t σ H Q):PT X e t':=λpins s σ H Q I q=>h pins s σ H Q I (f σ H Q q)
theorem PA.mono{e:List Expr}{t t':TA}(h:PA X e t)(f:∀σ H Q,t' σ H Q->t σ H Q):PA X e t':=λpos pins s σ H Q I q=>h pos pins s σ H Q I (f σ H Q q)
theorem Zld{a b e:E}{f:W->W->Mem->Res W}(h:∀env m,ev call gv e env m=(ev call gv a env m).bind λx m=>(ev call gv b env m).bind λy m=>f x y m)(σ:L2.St)(H:Hp)(Q:VK)(q:tE K call gv xr e σ H Q):
  tOp (r2 K xr f) (tE K call gv xr a) (tE K call gv xr b) σ H Q:=by
 obtain⟨env,cm,m,hE,hM,ho⟩:=q
 rw[h]at ho
 refine⟨env,cm,m,hE,hM,ho.bind.mono λw cm1 m1 H1 x1 M1 o1 v rv=>?_⟩
 refine⟨env,cm1,m1,hE.ext x1 hM M1,M1,o1.bind.mono λw2 cm2 m2 H2 x2 M2 o2 v2 rv2=>?_⟩
 exact⟨cm2,m2,w,w2,M2,rv.ext x2 M1 M2,rv2,o2⟩
theorem t1_of{a e:E}{f:W->Mem->Res W}(h:∀env m,ev call gv e env m=(ev call gv a env m).bind λx m=>f x m)(σ:L2.St)(H:Hp)(Q:VK)(q:tE K call gv xr e σ H Q):
  tUn (r1 K xr f) (tE K call gv xr a) σ H Q:=by
 obtain⟨env,cm,m,hE,hM,ho⟩:=q
 rw[h]at ho
 exact⟨env,cm,m,hE,hM,ho.bind.mono λw cm1 m1 H1 x1 M1 o1 v rv=>⟨cm1,m1,w,M1,rv,o1⟩⟩
end
end Mi
namespace Mi
open PySem PySem.Spec PyProof.Rows L2
section
variable{K:Frag}{cm:List Addr}{m:Mem}{H:Hp}{xr:XR}{X:Cx}
theorem Ze{w:W}{v:V}{t:T}(h:RW K cm m H w v)(e:view w m=some t)(n:∀ts,t≠.lst ts):RT K cm m H t v:=by
 cases w with
 |t x=>cases e;exact h
 |f a=>cases e
 |x _ _ _=>cases e
 |c i =>
  unfold view at e
  dsimp only at e
  split at e
  ·cases e;exact absurd rfl (n _)
  ·cases e
theorem ZJ{w:W}{v:V}{ts:List T}(M:MemR K cm m H)(h:RW K cm m H w v)(e:view w m=some (.lst ts)):∃a vs,v=.ref a/\H a=some (.lst vs)/\RTs K cm m H ts vs:=by
 cases w with
 |t x =>
  cases e
  obtain⟨a,vs,h1,h2,_,h3⟩:=RT.ilst h
  exact⟨a,vs,h1,h2,h3⟩
 |f a=>cases e
 |x _ _ _=>cases e
 |c i =>
  unfold view at e
  dsimp only at e
  split at e
  ·rename_i fl us hu
   cases e
   obtain⟨a,h1,h2⟩:=h
   obtain⟨b,vs,h3,h4,_,h5⟩:=M.at' i _ hu
   rw[h1]at h3;cases h3
   exact⟨a,vs,h2,h4,h5⟩
  ·cases e
theorem RT.vint{i:Int}{v:V}(h:RT K cm m H (.int i) v):v=.int i:=by cases h;rfl
theorem RT.vbl{b:Bool}{v:V}(h:RT K cm m H (.bl b) v):v=.bl b:=by cases h;rfl
theorem RT.vnon{v:V}(h:RT K cm m H .non v):v=.non:=by cases h;rfl
theorem RT.vstr{cs:List Nat}{v:V}(h:RT K cm m H (.str cs) v):v=.str ⟨cs.toArray⟩:=by cases h;rfl
theorem RT.vscr{ns:List Int}{v:V}(h:RT K cm m H (.scr ns) v):∃a,v=.ref a/\ZcA K H a ns:=by
 cases h with
 |scr _ h=>exact⟨_,rfl,h⟩
theorem Zb0(M:MemR K cm m H){p:Addr}(hp:H p=none):Zt cm m p:=λi ts e z=>by
 obtain⟨a,vs,h1,h2,_⟩:=M.at' i ts e
 rw[h1]at z;cases z
 rw[hp]at h2;cases h2
theorem Ext.new{p:Addr}{o:HO}(hp:H p=none):Ext cm m H cm m (upd H p o):=
 ⟨λ_ _ h=>h,Yj _,λ_ _ h=>h,λa u h n=>⟨.of (by rw[ZL (Qy h hp)];exact h),n⟩⟩
theorem RT.same{H':Hp}{cm':List Addr}{m':Mem}(h1:∀a o,H a=some o->H' a=some o)(h2:∀a,Zt cm m a->H a≠none->Zt cm' m' a){t:T}{v:V}(h:RT K cm m H t v):RT K cm' m' H' t v:=by
 induction h with
 |non=>exact .non
 |bl b=>exact .bl b
 |int i=>exact .int i
 |str cs=>exact .str cs
 |tup q1 q2 _ ih =>
  refine .tup ?_ q2 ih
  rcases q1 with(q|⟨o,q⟩)|q
  ·exact .inl (.inl (h1 _ _ q))
  ·exact .inl (.inr ⟨o,h1 _ _ q⟩)
  ·exact .inr q
 |lst q1 q2 q3 _ ih=>exact .lst (h1 _ _ q1) (h2 _ q2 (by rw[q1];simp)) q3 ih
 |dct q1 q2 q3 q4 _ ih=>exact .dct (h1 _ _ q1) (h2 _ q2 (by rw[q1];simp)) q3 q4 ih
 |scr ns q =>
  refine .scr ns ?_
  rcases q with⟨o,q⟩|q
  ·exact .inl ⟨o,h1 _ _ q⟩
  ·exact .inr q
theorem XF.same{H':Hp}{cm':List Addr}{m':Mem}(h1:∀a o,H a=some o->H' a=some o)(f:∀t v,RT K cm m H t v->RT K cm' m' H' t v){nms:List Str}{ts:List T}{dx:Option Addr}(h:XF K cm m H nms ts dx):XF K cm' m' H' nms ts dx:=by
 cases dx with
 |none=>exact h
 |some d =>
  obtain⟨vs,q1,q2,q3⟩:=h
  exact⟨vs,h1 _ _ q1,q2,Zi (λt v z=>f t v z) q3⟩
theorem XF.wsame{cm':List Addr}{m':Mem}(f:∀t v,RT K cm m H t v->RT K cm' m' H t v){c:Nat}{nms:List Str}{ts:List T}{v:V}(h:RW K cm m H (.x c nms ts) v):RW K cm' m' H (.x c nms ts) v:=by
 obtain⟨a,o,u,q1,q2,q3,q3',q4⟩:=h
 exact⟨a,o,u,q1,q2,q3,q3',q4.same (λ_ _ z=>z) f⟩
theorem Q6{p:Addr}{o:HO}(hp:H p=none):∀a u,H a=some u->upd H p o a=some u:=λa u h=>by rw[ZL (Qy h hp)];exact h
theorem MemR.new(M:MemR K cm m H){p:Addr}{o:HO}(hp:H p=none):MemR K cm m (upd H p o):=
 ⟨M.len,M.inj,λi ts e=>by
  obtain⟨a,vs,h1,h2,h3,h4⟩:=M.at' i ts e
  exact⟨a,vs,h1,Q6 hp _ _ h2,h3,Zi (λ_ _ z=>z.same (Q6 hp) λ_ n _=>n) h4⟩,M.tab.upd λu z=>by rw[hp]at z;cases z⟩
theorem RTs.new{ts:List T}{vs:List V}(r:RTs K cm m H ts vs){p:Addr}{o:HO}(hp:H p=none):RTs K cm m (upd H p o) ts vs:=Zi (λ_ _ z=>z.same (Q6 hp) λ_ n _=>n) r
theorem RT.newTup{ts:List T}{vs:List V}(r:RTs K cm m H ts vs){p:Addr}(hp:H p=none):RT K cm m (upd H p (.tup vs)) (.tup ts) (.ref p):=.mtup (.of QQ) (RTs.new r hp)
theorem RT.newLst(M:MemR K cm m H){ts:List T}{vs:List V}(r:RTs K cm m H ts vs){p:Addr}(hp:H p=none):RT K cm m (upd H p (.lst vs)) (.lst ts) (.ref p):=.mlst QQ (Zb0 M hp) (RTs.new r hp)
theorem Zb4{p:Addr}{c:Bool×List T}(hl:cm.length=m.length){a:Addr}(n:Zt cm m a)(ne:a≠p):Zt (cm++[p]) (m++[some c]) a:=λi us e z=>by
 by_cases hi:i<m.length
 ·rw[YL hi]at e
  rw[YL (by omega)]at z
  exact n i us e z
 ·by_cases hj:i=m.length
  ·subst hj
   rw[<-hl,YS (Yj _)]at z
   simp at z
   exact ne z.symm
  ·rw[G6 (by simp;omega)]at e
   cases e
theorem ZmF(M:MemR K cm m H){ts:List T}{vs:List V}(r:RTs K cm m H ts vs){p:Addr}(hp:H p=none)(hk:K.lookup p=none):
  Ext cm m H (cm++[p]) (m++[some (false,ts)]) (upd H p (.lst vs))/\MemR K (cm++[p]) (m++[some (false,ts)]) (upd H p (.lst vs))/\RW K (cm++[p]) (m++[some (false,ts)]) (upd H p (.lst vs)) (.c m.length) (.ref p):=by
 have sm:∀{t:T}{v:V},RT K cm m H t v->RT K (cm++[p]) (m++[some (false,ts)]) (upd H p (.lst vs)) t v:=λh =>
  h.same (Q6 hp) λa n hn=>Zb4 M.len n λz=>by subst z;exact hn hp
 have cs:∀{i:Nat}{c:Bool×List T},(m++[some (false,ts)])[i]?=some (some c)->(m[i]?=some (some c)/\i<m.length)∨(i=m.length/\c=(false,ts)):=λ{i c} e=>by
  by_cases hi:i<m.length
  ·rw[YL hi]at e
   exact .inl ⟨e,hi⟩
  ·by_cases hj:i=m.length
   ·subst hj
    simp at e
    exact .inr ⟨rfl,e.symm⟩
   ·rw[G6 (by simp;omega)]at e
    cases e
 have cl:∀{i:Nat},i<m.length->(cm++[p])[i]?=cm[i]?:=λ{i} h=>YL (by rw[M.len];exact h)
 have cp:(cm++[p])[m.length]?=some p:=by rw[<-M.len];simp
 have np:∀{i:Nat}{c:Bool×List T}{a:Addr},m[i]?=some (some c)->cm[i]?=some a->a≠p:=λ{i c a} e1 e2 z=>by
  subst z
  obtain⟨b,ws,q1,q2,_⟩:=M.at' i c e1
  rw[e2]at q1;cases q1
  rw[hp]at q2;cases q2
 refine⟨⟨λi a h=>?_,by simp,λi us h=>?_,λa o h n=>⟨.of (Q6 hp _ _ h),Zb4 M.len n (Qy h hp)⟩⟩,⟨by simp[M.len],λi j a us us' e1 e2 f1 f2=>?_,λi us e=>?_,M.tab.upd λu z=>by rw[hp]at z;cases z⟩,⟨p,cp,rfl⟩⟩
 ·rw[YL (Yi.mp h).1];exact h
 ·rw[YL (Yi.mp h).1];exact h
 ·rcases cs e1 with⟨g1,l1⟩|⟨k1,_⟩
  ·rw[cl l1]at f1
   rcases cs e2 with⟨g2,l2⟩|⟨k2,_⟩
   ·rw[cl l2]at f2
    exact M.inj i j a _ _ g1 g2 f1 f2
   ·rw[k2,cp]at f2;cases f2
    exact absurd rfl (np g1 f1)
  ·rw[k1,cp]at f1;cases f1
   rcases cs e2 with⟨g2,l2⟩|⟨k2,_⟩
   ·rw[cl l2]at f2
    exact absurd rfl (np g2 f2)
   ·rw[k1,k2]
 ·rcases cs e with⟨g,l⟩|⟨k,z⟩
  ·obtain⟨a,ws,q1,q2,q3,q4⟩:=M.at' i us g
   exact⟨a,ws,by rw[cl l];exact q1,Q6 hp _ _ q2,q3,Zi (λ_ _ z=>sm z) q4⟩
  ·rw[k,z]
   exact⟨p,vs,cp,QQ,hk,Zi (λ_ _ z=>sm z) r⟩
theorem Xw{i:Nat}{c c':Bool×List T}(e:m[i]?=some (some c)){j:Nat}{d:Bool×List T}(q:(m.set i (some c'))[j]?=some (some d)):∃d',m[j]?=some (some d'):=by
 by_cases hj:j=i
 ·subst hj;exact⟨c,e⟩
 ·rw[Yv (Ui hj)]at q;exact⟨d,q⟩
theorem Xz(M:MemR K cm m H){i:Nat}{ts ts':List T}{a:Addr}{vs':List V}(e:m[i]?=some (some (false,ts)))(hc:cm[i]?=some a)(r:RTs K cm m H ts' vs'):
  Ext cm m H cm (m.set i (some (false,ts'))) (upd H a (.lst vs'))/\MemR K cm (m.set i (some (false,ts'))) (upd H a (.lst vs')):=by
 have hi:i<m.length:=(Yi.mp e).1
 have nl:∀{b:Addr},Zt cm m b->Zt cm (m.set i (some (false,ts'))) b:=λ{b} n j us q=>by
  obtain⟨us',q'⟩:=Xw e q
  exact n j us' q'
 have ne:∀{b:Addr},Zt cm m b->b≠a:=λ{b} n z=>by subst z;exact n i _ e hc
 have x:Ext cm m H cm (m.set i (some (false,ts'))) (upd H a (.lst vs')):=⟨λ_ _ h=>h,by simp,λj us h=>by
  by_cases hj:j=i
  ·subst hj;rw[e]at h;cases h
  ·rw[Yv (Ui hj)];exact h,λb o h n=>⟨.of (by rw[ZL (ne n)];exact h),nl n⟩⟩
 have sm:∀{t:T}{v:V},RT K cm m H t v->RT K cm (m.set i (some (false,ts'))) (upd H a (.lst vs')) t v:=λ{t v} h=>by
  induction h with
  |non=>exact .non
  |bl b=>exact .bl b
  |int i=>exact .int i
  |str cs=>exact .str cs
  |tup q1 q2 _ ih=>exact .tup (x.sqT M q1) q2 ih
  |lst q1 q2 q3 _ ih=>exact .lst (x.keep _ _ q1 q2).1 (x.keep _ _ q1 q2).2 q3 ih
  |dct q1 q2 q3 q4 _ ih=>exact .dct (x.keep _ _ q1 q2).1 (x.keep _ _ q1 q2).2 q3 q4 ih
  |scr ns q=>exact .scr ns (x.scr M q)
 refine⟨x,⟨by simp[M.len],λj k b us us' e1 e2 f1 f2=>?_,λj us q=>?_,by
  obtain⟨b0,vs0,w1,w2,_⟩:=M.at' i _ e
  rw[hc]at w1;cases w1
  exact M.tab.upd λu z=>by rw[w2]at z;cases z;exact⟨_,rfl⟩⟩⟩
 ·obtain⟨_,e1⟩:=Xw e e1
  obtain⟨_,e2⟩:=Xw e e2
  exact M.inj j k b _ _ e1 e2 f1 f2
 ·by_cases hj:j=i
  ·subst hj
   rw[YX hi]at q
   cases q
   obtain⟨b,ws,q1,_,q3,_⟩:=M.at' j _ e
   rw[hc]at q1;cases q1
   exact⟨a,vs',hc,QQ,q3,Zi (λ_ _ z=>sm z) r⟩
  ·rw[Yv (Ui hj)]at q
   obtain⟨b,ws,q1,q2,q3,q4⟩:=M.at' j us q
   have hb:b≠a:=λz=>by
    subst z
    exact hj (M.inj j i b _ _ q e q1 hc)
   exact⟨b,ws,q1,by rw[ZL hb];exact q2,q3,Zi (λ_ _ z=>sm z) q4⟩
theorem ZkM(M:MemR K cm m H){i:Nat}{ts:List T}(e:m[i]?=some (some (false,ts))):
  ∃a vs,cm[i]?=some a/\H a=some (.lst vs)/\K.lookup a=none/\Ext cm m H cm (m.set i none) H/\MemR K cm (m.set i none) H/\RTs K cm (m.set i none) H ts vs/\RT K cm (m.set i none) H (.lst ts) (.ref a):=by
 obtain⟨a,vs,q1,q2,q3,q4⟩:=M.at' i _ e
 have hi:i<m.length:=(Yi.mp e).1
 have lv:∀{j:Nat}{us:Bool×List T},(m.set i none)[j]?=some (some us)->m[j]?=some (some us)/\j≠i:=λ{j us} q=>by
  by_cases hj:j=i
  ·subst hj;rw[YX hi]at q;cases q
  ·rw[Yv (Ui hj)]at q;exact⟨q,hj⟩
 have nl:∀{b:Addr},Zt cm m b->Zt cm (m.set i none) b:=λ{b} n j us q=>n j us (lv q).1
 have sm:∀{t:T}{v:V},RT K cm m H t v->RT K cm (m.set i none) H t v:=λh=>h.same (λ_ _ z=>z) λ_ n _=>nl n
 have na:Zt cm (m.set i none) a:=λj us q z=>(lv q).2 (M.inj j i a _ _ (lv q).1 e z q1)
 have rs:RTs K cm (m.set i none) H ts vs:=Zi (λ_ _ z=>sm z) q4
 refine⟨a,vs,q1,q2,q3,⟨λ_ _ h=>h,by simp,λj us h=>?_,λb o h n=>⟨.of h,nl n⟩⟩,⟨by simp[M.len],λj k b us us' e1 e2=>M.inj j k b _ _ (lv e1).1 (lv e2).1,λj us q=>?_,M.tab⟩,rs,.mlst q2 na rs⟩
 ·by_cases hj:j=i
  ·subst hj;rw[e]at h;cases h
  ·rw[Yv (Ui hj)];exact h
 ·obtain⟨b,ws,p1,p2,p3,p4⟩:=M.at' j us (lv q).1
  exact⟨b,ws,p1,p2,p3,Zi (λ_ _ z=>sm z) p4⟩
theorem Zcl(M:MemR K cm m H){i:Nat}{b b':Bool}{ts:List T}(e:m[i]?=some (some (b,ts))):
  (∀a,Zt cm m a↔Zt cm (m.set i (some (b',ts))) a)/\MemR K cm (m.set i (some (b',ts))) H/\(∀t v,RT K cm m H t v->RT K cm (m.set i (some (b',ts))) H t v):=by
 have hi:i<m.length:=(Yi.mp e).1
 have nl:∀a,Zt cm m a↔Zt cm (m.set i (some (b',ts))) a:=λa=>by
  constructor
  ·intro n j us q
   obtain⟨d,q'⟩:=Xw e q
   exact n j d q'
  ·intro n j us q
   by_cases hj:j=i
   ·subst hj
    exact n j _ (YX hi)
   ·exact n j us (by rw[Yv (Ui hj)];exact q)
 have sm:∀t v,RT K cm m H t v->RT K cm (m.set i (some (b',ts))) H t v:=λt v h=>h.same (λ_ _ z=>z) λa n _=>(nl a).mp n
 refine⟨nl,⟨by simp[M.len],λj k a us us' e1 e2 f1 f2=>?_,λj us q=>?_,M.tab⟩,sm⟩
 ·obtain⟨_,e1⟩:=Xw e e1
  obtain⟨_,e2⟩:=Xw e e2
  exact M.inj j k a _ _ e1 e2 f1 f2
 ·by_cases hj:j=i
  ·subst hj
   rw[YX hi]at q
   cases q
   obtain⟨a,vs,q1,q2,q3,q4⟩:=M.at' j _ e
   exact⟨a,vs,q1,q2,q3,Zi (λ_ _ z=>sm _ _ z) q4⟩
  ·rw[Yv (Ui hj)]at q
   obtain⟨a,vs,q1,q2,q3,q4⟩:=M.at' j us q
   exact⟨a,vs,q1,q2,q3,Zi (λ_ _ z=>sm _ _ z) q4⟩
theorem ZkL(M:MemR K cm m H){i:Nat}{b:Bool}{ts:List T}(e:m[i]?=some (some (b,ts))):Ext cm m H cm (m.set i (some (true,ts))) H/\MemR K cm (m.set i (some (true,ts))) H:=by
 have hi:i<m.length:=(Yi.mp e).1
 obtain⟨nl,M',_⟩:=Zcl (b':=true) M e
 refine⟨⟨λ_ _ h=>h,by simp,λj us h=>?_,λa o h n=>⟨.of h,(nl a).mp n⟩⟩,M'⟩
 by_cases hj:j=i
 ·subst hj
  rw[e]at h;cases h
  exact YX hi
 ·rw[Yv (Ui hj)];exact h
theorem ZaD{cm':List Addr}{m1 m':Mem}{H':Hp}{w:W}{ts:List T}(M:MemR K cm m H)(e:Z3 w m=.ok ts m1)(x:Ext cm m1 H cm' m' H')(M':MemR K cm' m' H'):
  Ext cm m H cm' (giveBack w m m') H'/\MemR K cm' (giveBack w m m') H'/\∀t v,RT K cm' m' H' t v->RT K cm' (giveBack w m m') H' t v:=by
 cases w with
 |t t =>
  unfold Z3 at e
  dsimp only at e
  split at e<;>cases e
  exact⟨x,M',λ_ _ h=>h⟩
 |f a=>cases e
 |x _ _ _=>cases e
 |c i =>
  unfold Z3 at e
  dsimp only at e
  split at e
  ·rename_i b us h
   cases e
   have hi:i<m.length:=(Yi.mp h).1
   have h':m'[i]?=some (some (true,ts)):=x.lent i ts (YX hi)
   have hi':i<m'.length:=(Yi.mp h').1
   obtain⟨nl,M2,sm⟩:=Zcl (b':=b) M' h'
   have eg:giveBack (.c i) m m'=m'.set i (some (b,ts)):=by unfold giveBack;dsimp only;rw[h]
   rw[eg]
   obtain⟨nl0,M1,_⟩:=Zcl (b':=true) M h
   refine⟨⟨λj a q=>x.pre j a q,by rw[WK];have:=x.len;rw[WK]at this;exact this,λj vs q=>?_,λa o q n=>?_⟩,M2,sm⟩
   ·by_cases hj:j=i
    ·subst hj
     rw[h]at q;cases q
     exact YX hi'
    ·rw[Yv (Ui hj)]
     exact x.lent j vs (by rw[Yv (Ui hj)];exact q)
   ·obtain⟨q1,q2⟩:=x.keep a o q ((nl0 a).mp n)
    exact⟨q1,(nl a).mp q2⟩
  ·cases e
theorem ZV:lim<=YM:=by rw[WW];decide
theorem Jl{o:Option T}{k:W->List Addr->Mem->Hp->Prop}(h:OkR K (pur o m) xr cm m H k):∃t,o=some t/\OkR K (.ok (.t t) m) xr cm m H k:=by
 cases o with
 |none=>exact h.elim
 |some t=>exact⟨t,rfl,h⟩
theorem ZdP{α:Type}{o p:Option T}{f:T->T->Option α}{z:α}(h:(o.bind λx=>p.bind λy=>f x y)=some z):∃x y,o=some x/\p=some y/\f x y=some z:=by
 cases o with
 |none=>cases h
 |some x =>
  cases p with
  |none=>cases h
  |some y=>exact⟨x,y,rfl,rfl,h⟩
theorem strApp(a b:List Nat):(⟨a.toArray⟩:Str)++⟨b.toArray⟩=⟨(a++b).toArray⟩:=by
 show(⟨a.toArray++b.toArray⟩:Str)=_
 simp
theorem Zae(a:List Nat):(⟨a.toArray⟩:Str).length=a.length:=by simp[Str.length]
theorem ans{t:T}{Q:VK}(ho:OkR K (.ok (.t t) m) xr cm m H λw cm' m' H'=>∀v,RW K cm' m' H' w v->Q v H')(M:MemR K cm m H){v:V}(r:RT K cm m H t v):Q v H:=ho.now M v r
theorem Zc8{ts:List T}{Q:VK}(ho:OkR K (.ok (.t (.tup ts)) m) xr cm m H λw cm' m' H'=>∀v,RW K cm' m' H' w v->Q v H')(M:MemR K cm m H){vs:List V}(r:RTs K cm m H ts vs){p:Addr}(hp:H p=none):
 Q (.ref p) (upd H p (.tup vs)):=ho.to (.new hp) (M.new hp) _ (RT.newTup r hp)
theorem Zcy{ts:List T}{Q:VK}(ho:OkR K (.ok (.t (.lst ts)) m) xr cm m H λw cm' m' H'=>∀v,RW K cm' m' H' w v->Q v H')(M:MemR K cm m H){vs:List V}(r:RTs K cm m H ts vs){p:Addr}(hp:H p=none):
 Q (.ref p) (upd H p (.lst vs)):=ho.to (.new hp) (M.new hp) _ (RT.newLst M r hp)
theorem ZoE{i j:Int}(h1:i.natAbs<bigN)(h2:j.natAbs<bigN):IntMulOk i j:=by
 have b:∀{k:Int},k.natAbs<bigN->Builtin.Int.intBits k<=2000:=λ{k} h=>intBits_le (by
  have e:bigN=2^(250*8):=by unfold bigN;rw[<-Nat.pow_mul]
  rw[e]at h
  exact h)
 exact mulOk_of_bits (b h1) (b h2) (by decide)
theorem Zd0{i:Int}(h:small i=true):-(2^64)<i/\i<2^64:=by
 have h':i.natAbs<2^64:=of_decide_eq_true h
 omega
theorem Zl0{i j:Int}(h:Za3 i j=true):IntMulOk i j:=by
 unfold Za3 at h
 simp only[Ue,Yo,decide_eq_true_eq]at h
 rcases h with(h|h)|⟨h1,h2⟩
 ·exact CMul.ok (.inl (Zd0 h))
 ·exact CMul.ok (.inr (Zd0 h))
 ·exact ZoE h1 h2
theorem Zov:OpR X (W9 .Mult) (rI (λi j=>Za3 i j=true) λi j=>.int (i*j)):=opI λ_ _ _ _ _ _ _ hc q=>mul_int q (Zl0 hc)
theorem Zpd{prog:YK}{w:World}{A:Around}{E:Value->Shared->Prop}{s:Shared}{t b:Addr}{ws:List Value}{Q:Value->Shared->Prop}(ht:IsTup s.heap t ([]:List Value).toArray)(hb:IsTup s.heap b ws.toArray)(h:Q (.ref b) s):wpAny (model prog w) A (W9 .Add (.ref t) (.ref b)) Q E s:=by
 obtain⟨⟨cls,dd,data,sl⟩,ho,hc,n,hd⟩:=id ht
 obtain⟨⟨cls2,dd2,data2,sl2⟩,ho2,hc2,n2,hd2⟩:=id hb
 simp only at hc hd hc2 hd2
 subst hc hd hc2 hd2
 exact YbP ⟨_,ho,rfl⟩ ⟨_,ho2,rfl⟩ Ya4 Ybx VL VB (Vo _ _)
  (tuple_addW0 t b ([]:List Value).toArray ws.toArray n n2 dd dd2 sl sl2 (by simp)) ⟨ho,ho2,h⟩
theorem Zou:OpR X (W9 .Add) (λx y H Q=>∃a b ys,x=.ref a/\y=.ref b/\SqT X.K H a []/\SqT X.K H b ys/\Q (.ref b) H):=by
 intro pins s σ H x y v u Q I rx ry h
 obtain⟨a,b,ys,rfl,rfl,ha,hb,q⟩:=h
 cases rx
 cases ry
 obtain⟨its,r1,p1,_⟩:=I.tuple ha
 obtain⟨its2,r2,p2,_⟩:=I.tuple hb
 cases r1
 exact Zpd p1 p2 ⟨.ref b,H,I,rfl,q⟩
theorem Zaz{f:Int->Int->Option T}{x y t:T}(e:intT f x y=some t):∃i j,x=.int i/\y=.int j/\f i j=some t:=by
 cases x with
 |int i=>cases y with
  |int j=>exact⟨i,j,rfl,rfl,e⟩
  |_=>cases e
 |_=>cases e
theorem Za7{f:Int->Int->Bool}{x y:T}{c:Bool}(e:Zmg f x y=some c):∃i j,x=.int i/\y=.int j/\f i j=c:=by
 cases x with
 |int i=>cases y with
  |int j=>exact⟨i,j,rfl,rfl,YG e⟩
  |_=>cases e
 |_=>cases e
def fBin(op:Yav)(x y:W)(m:Mem):Res W:=pur ((view x m).bind λx=>(view y m).bind λy=>binT op x y) m
theorem Zht:OpR X (W9 .Add) (r2 X.K xr (fBin .Add)):=by
 rintro pins s σ H x y v u Q I rx ry ⟨cm,m,a,b,M,ra,rb,ho⟩
 obtain⟨t,e,ho⟩:=Jl ho
 obtain⟨ta,tb,ea,eb,e⟩:=ZdP e
 change addT ta tb=some t at e
 unfold addT at e
 have hz:=ZV
 split at e
 ·cases e
  cases(Ze ra ea (λ_ z=>by cases z)).vint
  cases(Ze rb eb (λ_ z=>by cases z)).vint
  exact op_add pins s σ H _ _ v u Q I rx ry ⟨_,_,rfl,rfl,ans ho M (.int _)⟩
 ·split at e<;>cases e
  cases(Ze ra ea (λ_ z=>by cases z)).vstr
  cases(Ze rb eb (λ_ z=>by cases z)).vstr
  exact Zhu pins s σ H _ _ v u Q I rx ry ⟨_,_,rfl,rfl,by rw[Zae,Zae];omega,by rw[strApp];exact ans ho M (.str _)⟩
 ·split at e<;>cases e
  obtain⟨p,vs,rfl,h1,r1⟩:=(Ze ra ea (λ_ z=>by cases z)).itup
  obtain⟨q,us,rfl,h2,r2⟩:=(Ze rb eb (λ_ z=>by cases z)).itup
  have l1:=r1.length
  have l2:=r2.length
  cases vs with
  |nil =>
   cases r1
   exact Zou pins s σ H _ _ v u Q I rx ry ⟨p,q,us,rfl,rfl,h1,h2,ans ho M (.mtup h2 r2)⟩
  |cons v1 vs =>
   refine Zox pins s σ H _ _ v u Q I rx ry ⟨p,q,_,us,rfl,rfl,h1,h2,by simp,by omega,λz=>?_,λz l hl=>Zc8 ho M (ZZ r1 r2) hl⟩
   subst z
   cases r2
   rw[Ua]at ho
   exact ans ho M (.mtup h1 r1)
 ·split at e<;>cases e
  obtain⟨p,vs,rfl,h1,r1⟩:=ZJ M ra ea
  obtain⟨q,us,rfl,h2,r2⟩:=ZJ M rb eb
  have l1:=r1.length
  have l2:=r2.length
  exact op_cat pins s σ H _ _ v u Q I rx ry ⟨p,q,vs,us,rfl,rfl,h1,h2,by omega,λl hl=>Zcy ho M (ZZ r1 r2) hl⟩
 all_goals cases e
theorem Zhp:OpR X (W9 .Sub) (r2 X.K xr (fBin .Sub)):=by
 rintro pins s σ H x y v u Q I rx ry ⟨cm,m,a,b,M,ra,rb,ho⟩
 obtain⟨t,e,ho⟩:=Jl ho
 obtain⟨ta,tb,ea,eb,e⟩:=ZdP e
 obtain⟨i,j,rfl,rfl,e2⟩:=Zaz e
 cases(Ze ra ea (λ_ z=>by cases z)).vint
 cases(Ze rb eb (λ_ z=>by cases z)).vint
 cases e2
 exact op_sub pins s σ H _ _ v u Q I rx ry ⟨_,_,rfl,rfl,ans ho M (.int _)⟩
theorem Zfq:OpR X (W9 .FloorDiv) (r2 X.K xr (fBin .FloorDiv)):=by
 rintro pins s σ H x y v u Q I rx ry ⟨cm,m,a,b,M,ra,rb,ho⟩
 obtain⟨t,e,ho⟩:=Jl ho
 obtain⟨ta,tb,ea,eb,e⟩:=ZdP e
 obtain⟨i,j,rfl,rfl,e2⟩:=Zaz e
 cases(Ze ra ea (λ_ z=>by cases z)).vint
 cases(Ze rb eb (λ_ z=>by cases z)).vint
 split at e2<;>cases e2
 exact Zow pins s σ H _ _ v u Q I rx ry ⟨_,_,rfl,rfl,‹_/\_›,ans ho M (.int _)⟩
theorem Zhs:OpR X (W9 .Mod) (r2 X.K xr (fBin .Mod)):=by
 rintro pins s σ H x y v u Q I rx ry ⟨cm,m,a,b,M,ra,rb,ho⟩
 obtain⟨t,e,ho⟩:=Jl ho
 obtain⟨ta,tb,ea,eb,e⟩:=ZdP e
 obtain⟨i,j,rfl,rfl,e2⟩:=Zaz e
 cases(Ze ra ea (λ_ z=>by cases z)).vint
 cases(Ze rb eb (λ_ z=>by cases z)).vint
 split at e2<;>cases e2
 exact op_mod pins s σ H _ _ v u Q I rx ry ⟨_,_,rfl,rfl,‹_›,ans ho M (.int _)⟩
theorem Zhq:OpR X (W9 .Pow) (r2 X.K xr (fBin .Pow)):=by
 rintro pins s σ H x y v u Q I rx ry ⟨cm,m,a,b,M,ra,rb,ho⟩
 obtain⟨t,e,ho⟩:=Jl ho
 obtain⟨ta,tb,ea,eb,e⟩:=ZdP e
 obtain⟨i,j,rfl,rfl,e2⟩:=Zaz e
 cases(Ze ra ea (λ_ z=>by cases z)).vint
 cases(Ze rb eb (λ_ z=>by cases z)).vint
 have hc:0<=j/\j<=1000/\i.natAbs<2^64:=by
  by_cases hc:0<=j/\j<=1000/\i.natAbs<2^64
  ·exact hc
  ·rw[if_neg hc]at e2;cases e2
 rw[if_pos hc]at e2
 cases e2
 exact op_pow pins s σ H _ _ v u Q I rx ry ⟨_,_,rfl,rfl,⟨hc.1,by omega,hc.2.2⟩,ans ho M (.int _)⟩
theorem Za1{α β:Type}{F:α->β->Prop}{xs:List α}{ys:List β}(h:Paired F xs ys):∀k:Nat,Paired F (repT xs k) (Yy k ys).flatten
 |0=>.nil
 |k+1=>by
  unfold repT
  rw[WL,WL,W4,W4]
  exact ZZ h (Za1 h k)
def fCmp(op:CmpOp)(x y:W)(m:Mem):Res W:=pur (((view x m).bind λx=>(view y m).bind λy=>cmpT op x y).map .bl) m
theorem XM{op:CmpOp}{a b:W}{k:W->List Addr->Mem->Hp->Prop}(h:OkR K (fCmp op a b m) xr cm m H k):∃ta tb c,view a m=some ta/\view b m=some tb/\cmpT op ta tb=some c/\OkR K (.ok (.t (.bl c)) m) xr cm m H k:=by
 obtain⟨t,e,ho⟩:=Jl h
 cases q:((view a m).bind λx=>(view b m).bind λy=>cmpT op x y)with
 |none=>rw[q]at e;cases e
 |some c =>
  rw[q]at e;cases e
  obtain⟨ta,tb,ea,eb,e⟩:=ZdP q
  exact⟨ta,tb,c,ea,eb,e,ho⟩
def flV:T->V
 |.bl b=>.bl b
 |.int i=>.int i
 |.str cs=>.str ⟨cs.toArray⟩
 |_=>.non
theorem RT.fl{t:T}{v:V}(h:RT K cm m H t v)(f:flat t=true):v=flV t:=by
 cases h<;>first|rfl|cases f
theorem JC{w:W}{v:V}{t:T}(h:RW K cm m H w v)(e:view w m=some t)(f:flat t=true):v=flV t:=
 (Ze h e (λts z=>by subst z;cases f)).fl f
theorem Zfa{a b:List Nat}:(⟨a.toArray⟩:Str)=⟨b.toArray⟩↔a=b:=by
 constructor
 ·intro h
  injection h with h
  simpa using h
 ·intro h;rw[h]
theorem Zmr{a b:List Nat}:decide (V.str ⟨a.toArray⟩=V.str ⟨b.toArray⟩)=(a==b):=by
 by_cases h:a=b
 ·subst h;simp
 ·rw[beq_eq_false_iff_ne.mpr h]
  exact decide_eq_false λz=>h (Zfa.mp (V.str.inj z))
theorem ZiF{x y:T}(h:Zdf x y=true):flat x=true/\flat y=true/\scal (flV x) (flV y)=true/\decide (flV x=flV y)=eqT x y:=by
 cases x<;>cases y<;>first
  |(cases h;done)
  |(refine⟨rfl,rfl,rfl,?_⟩;unfold eqT;first|exact ZfJ|exact Zkz|exact Zmr|exact decide_eq_true rfl|exact decide_eq_false (λz=>nomatch z))
theorem Zo8(x y:T):cmpT .Eq x y=if Zdf x y || (Zg 60 x&&Zg 60 y)then some (eqT x y)else none:=by cases x<;>cases y<;>rfl
theorem Zo7(x y:T):cmpT .NotEq x y=if Zdf x y || (Zg 60 x&&Zg 60 y)then some (!eqT x y)else none:=by cases x<;>cases y<;>rfl
mutual
def pyT:T->PyData
 |.bl b=>.bool b
 |.int i=>.int i
 |.str cs=>.str ⟨cs.toArray⟩
 |.tup ts=>.tuple (pyTs ts)
 |.lst ts=>.list (pyTs ts)
 |_=>.none
def pyTs:List T->List PyData
 |[]=>[]
 |t::ts=>pyT t::pyTs ts
end
mutual
theorem ZbU:∀(n:Nat) (t:T),Zg n t=true->GQ (pyT t)=true/\Vr (pyT t)<=n
 |n,.non,h=>⟨by simp[pyT,GQ],by simp[pyT,Vr]⟩
 |n,.bl b,h=>⟨by rw[pyT];simp[GQ],by rw[pyT];simp[Vr]⟩
 |n,.int i,h=>⟨by rw[pyT];simp[GQ],by rw[pyT];simp[Vr]⟩
 |n,.str cs,h=>⟨by rw[pyT,GQ];rw[Zg]at h;exact h,by rw[pyT];simp[Vr]⟩
 |0,.tup ts,h=>by simp[Zg]at h
 |0,.lst ts,h=>by simp[Zg]at h
 |n+1,.tup ts,h=>by
  rw[Zg]at h
  have:=Zfh n ts h
  exact⟨by rw[pyT,GQ];exact this.1,by rw[pyT];simp only[Vr];omega⟩
 |n+1,.lst ts,h=>by
  rw[Zg]at h
  have:=Zfh n ts h
  exact⟨by rw[pyT,GQ];exact this.1,by rw[pyT];simp only[Vr];omega⟩
 |n,.dct _ _,h=>by cases n<;>simp[Zg]at h
 |n,.scr _,h=>by cases n<;>simp[Zg]at h
theorem Zfh:∀(n:Nat) (ts:List T),Zk n ts=true->YaM (pyTs ts)=true/\Ybc (pyTs ts)<=n
 |n,[],h=>⟨by rw[pyTs];simp[YaM],by rw[pyTs];simp[Ybc]⟩
 |n,t::ts,h=>by
  rw[Zk,Yo]at h
  have h1:=ZbU n t h.1
  have h2:=Zfh n ts h.2
  refine⟨by rw[pyTs,YaM,h1.1,h2.1];rfl,?_⟩
  rw[pyTs,Ybc]
  omega
end
theorem str_beq{a b:List Nat}:((⟨a.toArray⟩:Str)==⟨b.toArray⟩)=(a==b):=by
 by_cases h:a=b
 ·subst h;simp
 ·rw[beq_eq_false_iff_ne.mpr h,beq_eq_false_iff_ne.mpr λz=>h (Zfa.mp z)]
mutual
theorem Zgl:∀(n k:Nat) (x y:T),Zg n x=true->Zg k y=true->Ww (pyT x) (pyT y)=eqT x y
 |n,k,.tup xs,.tup ys,h1,h2=>by
  cases n with
  |zero=>simp[Zg]at h1
  |succ n=>cases k with
   |zero=>simp[Zg]at h2
   |succ k =>
    rw[Zg]at h1 h2
    rw[pyT,pyT,Ww,eqT]
    exact Zfi n k xs ys h1 h2
 |n,k,.lst xs,.lst ys,h1,h2=>by
  cases n with
  |zero=>simp[Zg]at h1
  |succ n=>cases k with
   |zero=>simp[Zg]at h2
   |succ k =>
    rw[Zg]at h1 h2
    rw[pyT,pyT,Ww,eqT]
    exact Zfi n k xs ys h1 h2
 |n,k,.str xs,.str ys,_,_=>by rw[pyT,pyT,Ww,eqT];exact str_beq
 |n,k,.non,y,_,h2=>by cases y<;>first|(simp[pyT,Ww,eqT];done)|(cases k<;>simp[Zg]at h2)
 |n,k,.bl b,y,_,h2=>by cases y<;>first|(simp[pyT,Ww,eqT,b2i];done)|(cases k<;>simp[Zg]at h2)
 |n,k,.int b,y,_,h2=>by cases y<;>first|(simp[pyT,Ww,eqT,b2i];done)|(cases k<;>simp[Zg]at h2)
 |n,k,.str xs,.non,_,_=>by simp[pyT,Ww,eqT]
 |n,k,.str xs,.bl _,_,_=>by simp[pyT,Ww,eqT]
 |n,k,.str xs,.int _,_,_=>by simp[pyT,Ww,eqT]
 |n,k,.str xs,.tup _,_,_=>by simp[pyT,Ww,eqT]
 |n,k,.str xs,.lst _,_,_=>by simp[pyT,Ww,eqT]
 |n,k,.tup xs,.non,_,_=>by simp[pyT,Ww,eqT]
 |n,k,.tup xs,.bl _,_,_=>by simp[pyT,Ww,eqT]
 |n,k,.tup xs,.int _,_,_=>by simp[pyT,Ww,eqT]
 |n,k,.tup xs,.str _,_,_=>by simp[pyT,Ww,eqT]
 |n,k,.tup xs,.lst _,_,_=>by simp[pyT,Ww,eqT]
 |n,k,.lst xs,.non,_,_=>by simp[pyT,Ww,eqT]
 |n,k,.lst xs,.bl _,_,_=>by simp[pyT,Ww,eqT]
 |n,k,.lst xs,.int _,_,_=>by simp[pyT,Ww,eqT]
 |n,k,.lst xs,.str _,_,_=>by simp[pyT,Ww,eqT]
 |n,k,.lst xs,.tup _,_,_=>by simp[pyT,Ww,eqT]
 |n,k,x,.dct _ _,_,h2=>by cases k<;>simp[Zg]at h2
 |n,k,x,.scr _,_,h2=>by cases k<;>simp[Zg]at h2
 |n,k,.dct _ _,y,h1,_=>by cases n<;>simp[Zg]at h1
 |n,k,.scr _,y,h1,_=>by cases n<;>simp[Zg]at h1
theorem Zfi:∀(n k:Nat) (xs ys:List T),Zk n xs=true->Zk k ys=true->Yah (pyTs xs) (pyTs ys)=eqTs xs ys
 |n,k,[],[],_,_=>by rw[pyTs,Yah,eqTs]
 |n,k,[],_::_,_,_=>by rw[pyTs,pyTs,Yah,eqTs]<;>simp
 |n,k,_::_,[],_,_=>by rw[pyTs,pyTs,Yah,eqTs]<;>simp
 |n,k,x::xs,y::ys,h1,h2=>by
  rw[Zk,Yo]at h1 h2
  rw[pyTs,pyTs,Yah,eqTs,Zgl n k x y h1.1 h2.1,Zfi n k xs ys h1.2 h2.2]
end
theorem Zao{pins:List (Addr×Obj)}{σ:L2.St}{s:Shared}(I:Inv X pins σ H s):∀{ts:List T}{vs:List V}{us:List Value},ts.length=vs.length->(∀(i:Nat) t v u,ts[i]?=some t->vs[i]?=some v->RelV v u->∃as,Reads s.heap u (pyT t) as)->Vals vs us->∃as,ReadsAll s.heap us (pyTs ts) as
 |[],[],_,_,_,.nil=>⟨_,by rw[pyTs];exact .nil⟩
 |t::ts,v::vs,_,hl,h,.cons r rs=>by
  obtain⟨as,h1⟩:=h 0 t v _ rfl rfl r
  obtain⟨bs,h2⟩:=Zao I (ts:=ts) (vs:=vs) (by simpa using hl) (λi t v u a b c=>h (i+1) t v u (by simpa using a) (by simpa using b) c) rs
  exact⟨_,by rw[pyTs];exact .cons h1 h2⟩
 |[],_::_,_,hl,_,_=>by simp at hl
 |_::_,[],_,hl,_,_=>by simp at hl
theorem RT.reads{pins:List (Addr×Obj)}{σ:L2.St}{s:Shared}{K:Frag}(hK:X.K=K)(I:Inv X pins σ H s){t:T}{v:V}(h:RT K cm m H t v):∀{n:Nat}{u:Value},Zg n t=true->RelV v u->∃as,Reads s.heap u (pyT t) as:=by
 subst hK
 induction h with
 |non=>intro n u _ r;cases r;exact⟨[],by simp only[pyT];exact .none⟩
 |bl b=>intro n u _ r;cases r;exact⟨_,by rw[pyT];exact .bool b⟩
 |int i=>intro n u _ r;obtain⟨t,rfl⟩:=r;exact⟨_,by rw[pyT];exact .int i t⟩
 |str cs=>intro n u _ r;obtain⟨t,rfl⟩:=r;exact⟨_,by rw[pyT];exact .str _ t⟩
 |@tup a ts vs h1 h2 h3 ih =>
  intro n u hd r
  cases n with
  |zero=>simp[Zg]at hd
  |succ n =>
   rw[Zg]at hd
   cases r
   obtain⟨its,rv,⟨o,ho,hc,k,hdt⟩,hz⟩:=I.tuple h1
   have hall:∀(i:Nat) t,ts[i]?=some t->Zg n t=true:=λi t e=>by
    have:∀{l:List T},Zk n l=true->∀x∈l,Zg n x=true:=λ{l}=>by
     induction l with
     |nil=>intro _ x hx;cases hx
     |cons y l ih=>intro h x hx;rw[Zk,Yo]at h;rcases Yh.mp hx with rfl|hx;exact h.1;exact ih h.2 x hx
    exact this hd t (Wx e)
   obtain⟨as,hr⟩:=Zao I h2 (λi t v u e1 e2 r=>ih i t v e1 e2 (hall i t e1) r) rv
   exact⟨_,by rw[pyT];exact .tuple ho hc hdt (by simpa using hr)⟩
 |@lst a ts vs h1 h2 h3 h4 ih =>
  intro n u hd r
  cases n with
  |zero=>simp[Zg]at hd
  |succ n =>
   rw[Zg]at hd
   cases r
   obtain⟨its,k,rv,ho,hz⟩:=I.lst h1
   have hall:∀(i:Nat) t,ts[i]?=some t->Zg n t=true:=λi t e=>by
    have:∀{l:List T},Zk n l=true->∀x∈l,Zg n x=true:=λ{l}=>by
     induction l with
     |nil=>intro _ x hx;cases hx
     |cons y l ih=>intro h x hx;rw[Zk,Yo]at h;rcases Yh.mp hx with rfl|hx;exact h.1;exact ih h.2 x hx
    exact this hd t (Wx e)
   obtain⟨as,hr⟩:=Zao I h3 (λi t v u e1 e2 r=>ih i t v e1 e2 (hall i t e1) r) rv
   exact⟨_,by rw[pyT];exact .list ho rfl rfl (by simpa using hr)⟩
 |dct _ _ _ _ _ _=>intro n u hd _;cases n<;>simp[Zg]at hd
 |scr _ _=>intro n u hd _;cases n<;>simp[Zg]at hd
theorem Jt{pins:List (Addr×Obj)}{σ:L2.St}{s:Shared}(I:Inv X pins σ H s)(M:MemR X.K cm m H){w:W}{t:T}{v:V}{u:Value}(r:RW X.K cm m H w v)(e:view w m=some t)(rv:RelV v u){n:Nat}(hd:Zg n t=true):∃as,Reads s.heap u (pyT t) as:=by
 cases t with
 |lst ts =>
  cases n with
  |zero=>simp[Zg]at hd
  |succ n =>
   rw[Zg]at hd
   obtain⟨a,vs,rfl,h1,rr⟩:=ZJ M r e
   cases rv
   obtain⟨its,k,rv,ho,hz⟩:=I.lst h1
   obtain⟨as,hr⟩:=Zao I rr.length (λi t v u e1 e2 r=>RT.reads rfl I (Qq rr i t v e1 e2) (n:=n) (by
    have:∀{l:List T},Zk n l=true->∀x∈l,Zg n x=true:=λ{l}=>by
     induction l with
     |nil=>intro _ x hx;cases hx
     |cons y l ih=>intro h x hx;rw[Zk,Yo]at h;rcases Yh.mp hx with rfl|hx;exact h.1;exact ih h.2 x hx
    exact this hd t (Wx e1)) r) rv
   exact⟨_,by rw[pyT];exact .list ho rfl rfl (by simpa using hr)⟩
 |_=>exact RT.reads rfl I (Ze r e (λ_ z=>by cases z)) hd rv
theorem Zjo(hu:X.A.units+64<cLine):OpR X (Wl .Eq) (r2 X.K xr (fCmp .Eq)):=by
 rintro pins s σ H x y v u Q I rx ry ⟨cm,m,a,b,M,ra,rb,ho⟩
 obtain⟨ta,tb,c,ea,eb,e,ho⟩:=XM ho
 rw[Zo8]at e
 split at e<;>cases e
 rename_i hs
 rw[Ue]at hs
 rcases hs with hs|hs
 ·obtain⟨f1,f2,f3,f4⟩:=ZiF hs
  cases JC ra ea f1
  cases JC rb eb f2
  exact op_eq pins s σ H _ _ v u Q I rx ry ⟨f3,by rw[f4];exact ans ho M (.bl _)⟩
 ·rw[Yo]at hs
  obtain⟨as,ha⟩:=Jt I M ra ea rx hs.1
  obtain⟨bs,hb⟩:=Jt I M rb eb ry hs.2
  have d1:=ZbU 60 ta hs.1
  have d2:=ZbU 60 tb hs.2
  refine SeqAt.compareEq_reads ha hb d1.1 d2.1 (by omega) ⟨.bl (eqT ta tb),H,I,?_,ans ho M (.bl _)⟩
  rw[Zgl 60 60 ta tb hs.1 hs.2]
  rfl
theorem Zjh(hu:X.A.units+64<cLine):OpR X (Wl .NotEq) (r2 X.K xr (fCmp .NotEq)):=by
 rintro pins s σ H x y v u Q I rx ry ⟨cm,m,a,b,M,ra,rb,ho⟩
 obtain⟨ta,tb,c,ea,eb,e,ho⟩:=XM ho
 rw[Zo7]at e
 split at e<;>cases e
 rename_i hs
 rw[Ue]at hs
 rcases hs with hs|hs
 ·obtain⟨f1,f2,f3,f4⟩:=ZiF hs
  cases JC ra ea f1
  cases JC rb eb f2
  exact op_ne pins s σ H _ _ v u Q I rx ry ⟨f3,by rw[f4];exact ans ho M (.bl _)⟩
 ·rw[Yo]at hs
  obtain⟨as,ha⟩:=Jt I M ra ea rx hs.1
  obtain⟨bs,hb⟩:=Jt I M rb eb ry hs.2
  have d1:=ZbU 60 ta hs.1
  have d2:=ZbU 60 tb hs.2
  refine SeqAt.compareNe_reads ha hb d1.1 d2.1 (by omega) ⟨.bl (!eqT ta tb),H,I,?_,ans ho M (.bl _)⟩
  rw[Zgl 60 60 ta tb hs.1 hs.2]
  rfl
theorem Zgt:∀a b:List Nat,nlt a b=decide (a<b)
 |[],[]=>by simp[nlt]
 |[],_::_=>by simp[nlt]
 |_::_,[]=>by simp[nlt]
 |a::x,b::y=>by
  unfold nlt
  rw[Zgt x y]
  by_cases h:a<b
  ·rw[if_pos h]
   exact(decide_eq_true (List.cons_lt_cons_iff.mpr (.inl h))).symm
  ·rw[if_neg h]
   by_cases h2:b<a
   ·rw[if_pos h2]
    refine(decide_eq_false λz=>?_).symm
    rcases List.cons_lt_cons_iff.mp z with z|⟨z,_⟩<;>omega
   ·rw[if_neg h2]
    have e:a=b:=by omega
    subst e
    simp
theorem Zji:OpR X (Wl .Lt) (r2 X.K xr (fCmp .Lt)):=by
 rintro pins s σ H x y v u Q I rx ry ⟨cm,m,a,b,M,ra,rb,ho⟩
 obtain⟨ta,tb,c,ea,eb,e,ho⟩:=XM ho
 change ltT ta tb=some c at e
 cases ta with
 |int i=>cases tb with
  |int j =>
   cases e
   cases(Ze ra ea (λ_ z=>by cases z)).vint
   cases(Ze rb eb (λ_ z=>by cases z)).vint
   exact op_lt pins s σ H _ _ v u Q I rx ry ⟨_,_,rfl,rfl,ans ho M (.bl _)⟩
  |_=>cases e
 |str i=>cases tb with
  |str j =>
   cases e
   cases(Ze ra ea (λ_ z=>by cases z)).vstr
   cases(Ze rb eb (λ_ z=>by cases z)).vstr
   refine Zjf pins s σ H _ _ v u Q I rx ry ⟨_,_,rfl,rfl,?_⟩
   have:=ans ho M (.bl _)
   rw[Zgt]at this
   exact this
  |_=>cases e
 |_=>cases e
theorem Zjj:OpR X (Wl .LtE) (r2 X.K xr (fCmp .LtE)):=by
 rintro pins s σ H x y v u Q I rx ry ⟨cm,m,a,b,M,ra,rb,ho⟩
 obtain⟨ta,tb,c,ea,eb,e,ho⟩:=XM ho
 obtain⟨i,j,rfl,rfl,rfl⟩:=Za7 e
 cases(Ze ra ea (λ_ z=>by cases z)).vint
 cases(Ze rb eb (λ_ z=>by cases z)).vint
 exact op_le pins s σ H _ _ v u Q I rx ry ⟨_,_,rfl,rfl,ans ho M (.bl _)⟩
theorem Zjm:OpR X (Wl .Gt) (r2 X.K xr (fCmp .Gt)):=by
 rintro pins s σ H x y v u Q I rx ry ⟨cm,m,a,b,M,ra,rb,ho⟩
 obtain⟨ta,tb,c,ea,eb,e,ho⟩:=XM ho
 obtain⟨i,j,rfl,rfl,rfl⟩:=Za7 e
 cases(Ze ra ea (λ_ z=>by cases z)).vint
 cases(Ze rb eb (λ_ z=>by cases z)).vint
 exact op_gt pins s σ H _ _ v u Q I rx ry ⟨_,_,rfl,rfl,ans ho M (.bl _)⟩
theorem Zjn:OpR X (Wl .GtE) (r2 X.K xr (fCmp .GtE)):=by
 rintro pins s σ H x y v u Q I rx ry ⟨cm,m,a,b,M,ra,rb,ho⟩
 obtain⟨ta,tb,c,ea,eb,e,ho⟩:=XM ho
 obtain⟨i,j,rfl,rfl,rfl⟩:=Za7 e
 cases(Ze ra ea (λ_ z=>by cases z)).vint
 cases(Ze rb eb (λ_ z=>by cases z)).vint
 exact op_ge pins s σ H _ _ v u Q I rx ry ⟨_,_,rfl,rfl,ans ho M (.bl _)⟩
theorem Zmo{a b:List Nat}:eqV (.str ⟨a.toArray⟩) (.str ⟨b.toArray⟩)=(a==b):=by
 show((⟨a.toArray⟩:Str)==⟨b.toArray⟩)=(a==b)
 by_cases h:a=b
 ·subst h;simp
 ·rw[beq_eq_false_iff_ne.mpr h,beq_eq_false_iff_ne.mpr λz=>h (Zfa.mp z)]
theorem fl_eqV{x y:T}(f:flat x=true)(g:flat y=true):eqV (flV y) (flV x)=eqT y x:=by
 cases x<;>cases y<;>first
  |(cases f;done)
  |(cases g;done)
  |(unfold eqT;exact Zmo)
  |(unfold eqT;rfl)
theorem RTs.fl{ts:List T}{vs:List V}(h:RTs K cm m H ts vs)(f:ts.all flat=true):vs=ts.map flV/\vs.all Zbw=true:=by
 induction h with
 |nil=>exact⟨rfl,rfl⟩
 |@cons t v _ _ r _ ih =>
  rw[G9,Yo]at f
  obtain⟨h1,h2⟩:=ih f.2
  have h3:=r.fl f.1
  subst h3
  refine⟨by rw[Yq,h1],?_⟩
  rw[G9,h2,YbB]
  cases t<;>first|rfl|(cases f.1)
theorem ZkX{x:T}(f:flat x=true):∀{ts:List T},ts.all flat=true->inV (flV x) (ts.map flV)=ts.any λt=>eqT t x
 |[],_=>rfl
 |t::ts,g=>by
  rw[G9,Yo]at g
  have ih:=ZkX f g.2
  unfold inV at ih ⊢
  rw[Yq,Va,Va,ih,fl_eqV f g.1]
theorem ZbH{x:T}(f:flat x=true):Zbw (flV x)=true:=by cases x<;>first|rfl|cases f
theorem found1(b:List Nat)(a:Nat):(!(Uy ⟨b.toArray⟩ ⟨#[a]⟩ 0 (⟨b.toArray⟩:Str).length 1).isEmpty)=decide (a∈b):=by
 have:=PySem.StrLaws.found_one (⟨b.toArray⟩:Str) a
 simpa using this
theorem ZaH{x y:T}{c:Bool}(e:cmpT .In x y=some c):(∃a b,x=.str a/\y=.str b/\c=!(Uy ⟨b.toArray⟩ ⟨a.toArray⟩ 0 (⟨b.toArray⟩:Str).length 1).isEmpty)∨(flat x=true/\∃ts,(y=.tup ts∨y=.lst ts)/\ts.all flat=true/\c=ts.any λt=>eqT t x)∨∃ts,y=.lst ts/\Zg 59 x=true/\Zk 59 ts=true/\c=ts.any λt=>eqT t x:=by
 have hh:∀{x y:T}{c:Bool},hasT x y=some c->(flat x=true/\∃ts,(y=.tup ts∨y=.lst ts)/\ts.all flat=true/\c=ts.any λt=>eqT t x)∨∃ts,y=.lst ts/\Zg 59 x=true/\Zk 59 ts=true/\c=ts.any λt=>eqT t x:=by
  intro x y c e
  unfold hasT at e
  split at e
  ·split at e<;>cases e
   rename_i h
   rw[Yo]at h
   exact .inl ⟨h.1,_,.inl rfl,h.2,rfl⟩
  ·split at e
   ·cases e
    rename_i h
    rw[Yo]at h
    exact .inl ⟨h.1,_,.inr rfl,h.2,rfl⟩
   ·split at e<;>cases e
    rename_i h
    rw[Yo]at h
    exact .inr ⟨_,rfl,h.1,h.2,rfl⟩
  ·cases e
 cases x with
 |str cs =>
  cases cs with
  |nil=>cases y<;>exact .inr (hh e)
  |cons a r =>
   cases r with
   |nil =>
    cases y with
    |str b=>cases e;exact .inl ⟨[a],b,rfl,rfl,(found1 b a).symm⟩
    |_=>exact .inr (hh e)
   |cons a' r =>
    cases y with
    |str b=>cases e;exact .inl ⟨_,b,rfl,rfl,rfl⟩
    |_=>exact .inr (hh e)
 |_=>cases y<;>exact .inr (hh e)
theorem Zmq{ts:List T}{n:Nat}(h:Zk n ts=true):∀x∈ts,Zg n x=true:=by
 induction ts with
 |nil=>intro x hx;cases hx
 |cons y l ih =>
  intro x hx
  rw[Zk,Yo]at h
  rcases Yh.mp hx with rfl|hx
  ·exact h.1
  ·exact ih h.2 x hx
theorem Zk5{vs:List V}{us:List Value}(r:Vals vs us):∀(i:Nat) (u:Value),us[i]?=some u->∃v,vs[i]?=some v/\RelV v u:=by
 induction r with
 |nil=>intro i u h;simp at h
 |cons r rs ih =>
  intro i u h
  cases i with
  |zero=>simp at h;subst h;exact⟨_,rfl,r⟩
  |succ i=>exact ih i u (by simpa using h)
theorem Zkw{pins:List (Addr×Obj)}{σ:L2.St}{s:Shared}{H:Hp}{w:W}{tx:T}{xv:V}{v:Value}{p:Addr}{ts:List T}{vs:List V}(hu:X.A.units+64<cLine)(I:Inv X pins σ H s)(M:MemR X.K cm m H)(ra:RW X.K cm m H w xv)(ea:view w m=some tx)(rx:RelV xv v)(dx:Zg 59 tx=true)(h1:H p=some (.lst vs))(r:RTs X.K cm m H ts vs)(dt:Zk 59 ts=true):
  ∃(its:Array Value) (e:Value->Bool),s.heap.IsList p its/\(∀y,y∈its->YbK X.A.in1 s y v (e y))/\its.any e=ts.any λt=>eqT t tx:=by
 classical
 obtain⟨as,hx⟩:=Jt I M ra ea rx dx
 obtain⟨its,k,rv,ho,hz⟩:=I.lst h1
 have hlen:ts.length=its.length:=r.length.trans rv.length
 have at_:∀(i:Nat) (t:T) (y:Value),ts[i]?=some t->its[i]?=some y->YbK X.A.in1 s y v (eqT t tx):=by
  intro i t y e1 e2
  obtain⟨u,e3,e4⟩:=Zk5 rv i y e2
  have d:=Zmq dt t (Wx e1)
  obtain⟨bs,hb⟩:=RT.reads rfl I (Qq r i t u e1 e3) (n:=59) d e4
  have l1:=ZbU 59 t d
  have l2:=ZbU 59 tx dx
  have:=SeqAt.eqAt_reads (pyT t) (pyT tx) X.A.in1 s y v bs as hb hx l1.1 l2.1 (by
   have:X.A.in1.units<=X.A.units+1:=by simp[Around.in1]
   omega)
  rw[Zgl 59 59 t tx d dx]at this
  exact this
 refine⟨its.toArray,λy=>decide (∃(i:Nat) (t:T),ts[i]?=some t/\its[i]?=some y/\eqT t tx=true),⟨_,ho,rfl,k,rfl⟩,λy hy=>?_,?_⟩
 ·by_cases q:∃(i:Nat) (t:T),ts[i]?=some t/\its[i]?=some y/\eqT t tx=true
  ·dsimp only;rw[decide_eq_true q]
   obtain⟨i,t,e1,e2,e3⟩:=q
   have:=at_ i t y e1 e2
   rw[e3]at this
   exact this
  ·dsimp only;rw[decide_eq_false q]
   obtain⟨i,hi,e2⟩:=GC (show y∈its by simpa using hy)
   have hi':i<ts.length:=by omega
   have e1:ts[i]?=some ts[i]:=Yn hi'
   have e2:its[i]?=some y:=by rw[<-e2];exact Yn hi
   have:=at_ i ts[i] y e1 e2
   cases q2:eqT ts[i] tx with
   |false=>rw[q2]at this;exact this
   |true=>exact absurd ⟨i,ts[i],e1,e2,q2⟩ q
 ·rw[Vx,List.any_toArray,GK,GK]
  constructor
  ·rintro ⟨y,hy,q⟩
   obtain⟨i,t,e1,_,e3⟩:=of_decide_eq_true q
   exact⟨t,Wx e1,e3⟩
  ·rintro ⟨t,ht,e3⟩
   obtain⟨i,hi,e1⟩:=GC ht
   have hi':i<its.length:=by omega
   exact⟨its[i],V7 hi',decide_eq_true ⟨i,t,by rw[<-e1];exact Yn hi,Yn hi',e3⟩⟩
theorem ZhP(x y:T):cmpT .NotIn x y=(cmpT .In x y).map (!·):=by
 cases x with
 |str cs =>
  cases cs with
  |nil=>cases y<;>rfl
  |cons a r=>cases r<;>cases y<;>rfl
 |_=>cases y<;>rfl
theorem Zjl(hu:X.A.units+64<cLine):OpR X (Wl .In) (r2 X.K xr (fCmp .In)):=by
 rintro pins s σ H x y v u Q I rx ry ⟨cm,m,a,b,M,ra,rb,ho⟩
 obtain⟨ta,tb,c,ea,eb,e,ho⟩:=XM ho
 rcases ZaH e with⟨p,q,rfl,rfl,rfl⟩|⟨f,ts,hy,g,rfl⟩|⟨ts,rfl,dx,dt,rfl⟩
 ·cases(Ze ra ea (λ_ z=>by cases z)).vstr
  cases(Ze rb eb (λ_ z=>by cases z)).vstr
  exact Zjg pins s σ H _ _ v u Q I rx ry ⟨_,_,rfl,rfl,ans ho M (.bl _)⟩
 ·cases JC ra ea f
  have fin:∀{vs:List V},RTs X.K cm m H ts vs->vs=ts.map flV/\vs.all Zbw=true/\Q (.bl (inV (flV ta) vs)) H:=λr=>by
   obtain⟨h1,h2⟩:=RTs.fl r g
   exact⟨h1,h2,by rw[h1,ZkX f g];exact ans ho M (.bl _)⟩
  rcases hy with rfl|rfl
  ·obtain⟨p,vs,rfl,h1,r⟩:=(Ze rb eb (λ_ z=>by cases z)).itup
   obtain⟨_,f2,f3⟩:=fin r
   exact Zel pins s σ H _ _ v u Q I rx ry ⟨p,vs,rfl,.inr h1,ZbH f,f2,f3⟩
  ·obtain⟨p,vs,rfl,h1,r⟩:=ZJ M rb eb
   obtain⟨_,f2,f3⟩:=fin r
   exact Zel pins s σ H _ _ v u Q I rx ry ⟨p,vs,rfl,.inl (.of h1),ZbH f,f2,f3⟩
 ·obtain⟨p,vs,rfl,h1,r⟩:=ZJ M rb eb
  cases ry
  obtain⟨its,e,hl,he,ha⟩:=Zkw hu I M ra ea rx dx h1 r dt
  refine SeqAt.in_listAt e hl he ?_
  rw[ha]
  exact⟨.bl _,H,I,rfl,ans ho M (.bl _)⟩
theorem Zem(hu:X.A.units+64<cLine):OpR X (Wl .NotIn) (r2 X.K xr (fCmp .NotIn)):=by
 rintro pins s σ H x y v u Q I rx ry ⟨cm,m,a,b,M,ra,rb,ho⟩
 obtain⟨ta,tb,c',ea,eb,e,ho⟩:=XM ho
 rw[ZhP]at e
 cases e2:cmpT .In ta tb with
 |none=>rw[e2]at e;cases e
 |some c =>
 rw[e2]at e;cases e
 rcases ZaH e2 with⟨p,q,rfl,rfl,rfl⟩|⟨f,ts,hy,g,rfl⟩|⟨ts,rfl,dx,dt,rfl⟩
 ·cases(Ze ra ea (λ_ z=>by cases z)).vstr
  cases(Ze rb eb (λ_ z=>by cases z)).vstr
  exact Zek pins s σ H _ _ v u Q I rx ry ⟨_,_,rfl,rfl,ans ho M (.bl _)⟩
 ·cases JC ra ea f
  have fin:∀{vs:List V},RTs X.K cm m H ts vs->vs=ts.map flV/\vs.all Zbw=true/\Q (.bl (!inV (flV ta) vs)) H:=λr=>by
   obtain⟨h1,h2⟩:=RTs.fl r g
   exact⟨h1,h2,by rw[h1,ZkX f g];exact ans ho M (.bl _)⟩
  rcases hy with rfl|rfl
  ·obtain⟨p,vs,rfl,h1,r⟩:=(Ze rb eb (λ_ z=>by cases z)).itup
   obtain⟨_,f2,f3⟩:=fin r
   exact Zbl pins s σ H _ _ v u Q I rx ry ⟨p,vs,rfl,.inr h1,ZbH f,f2,f3⟩
  ·obtain⟨p,vs,rfl,h1,r⟩:=ZJ M rb eb
   obtain⟨_,f2,f3⟩:=fin r
   exact Zbl pins s σ H _ _ v u Q I rx ry ⟨p,vs,rfl,.inl (.of h1),ZbH f,f2,f3⟩
 ·obtain⟨p,vs,rfl,h1,r⟩:=ZJ M rb eb
  cases ry
  obtain⟨its,e,hl,he,ha⟩:=Zkw hu I M ra ea rx dx h1 r dt
  refine SeqAt.notIn_listAt e hl he ?_
  rw[ha]
  exact⟨.bl _,H,I,rfl,ans ho M (.bl _)⟩
def hdV:V->Option (Option Bool)
 |.non=>some none
 |.bl b=>some (some b)
 |_=>none
def hdT:T->Option (Option Bool)
 |.non=>some none
 |.bl b=>some (some b)
 |_=>none
theorem RW.hd{w:W}{v:V}{t:T}(M:MemR K cm m H)(h:RW K cm m H w v)(e:view w m=some t):hdV v=hdT t:=by
 cases t with
 |lst ts=>obtain⟨a,vs,rfl,_⟩:=ZJ M h e;rfl
 |_=>cases Ze h e (λ_ z=>by cases z)<;>rfl
theorem is_bl{prog:YK}{w:World}{A:Around}{E:Value->Shared->Prop}{s:Shared}{x:V}{v:Value}{b:Bool}{Q:Value->Shared->Prop}(rx:RelV x v)(h:Q (.bool (hdV x==some (some b))) s):
  wpAny (model prog w) A (Wl .Is v (.bool b)) Q E s:=by
 cases x with
 |bl c =>
  cases rx
  refine wpAny_is_plain rfl ?_
  have e:((Wh c)==(Wh b))=(hdV (.bl c)==some (some b)):=by cases c<;>cases b<;>rfl
  rw[e];exact h
 |non=>cases rx;exact GR rfl (λz=>nomatch z) h
 |int i=>obtain⟨t,rfl⟩:=rx;exact GR rfl (λz=>nomatch z) h
 |str i=>obtain⟨t,rfl⟩:=rx;exact GR rfl (λz=>nomatch z) h
 |byt i=>obtain⟨t,rfl⟩:=rx;exact GR rfl (λz=>nomatch z) h
 |flt i=>obtain⟨t,rfl⟩:=rx;exact GR rfl (λz=>nomatch z) h
 |ref a=>cases rx;exact GR rfl (λz=>nomatch z) h
 |ty n=>cases rx;exact GR rfl (λz=>nomatch z) h
theorem Zmd{prog:YK}{w:World}{A:Around}{E:Value->Shared->Prop}{s:Shared}{x:V}{v:Value}{b:Bool}{Q:Value->Shared->Prop}(rx:RelV x v)(h:Q (.bool (!(hdV x==some (some b)))) s):
  wpAny (model prog w) A (Wl .IsNot v (.bool b)) Q E s:=by
 cases x with
 |bl c =>
  cases rx
  refine wpAny_isNot_plain rfl ?_
  have e:((Wh c)==(Wh b))=(hdV (.bl c)==some (some b)):=by cases c<;>cases b<;>rfl
  rw[e];exact h
 |non=>cases rx;exact UW rfl (λz=>nomatch z) h
 |int i=>obtain⟨t,rfl⟩:=rx;exact UW rfl (λz=>nomatch z) h
 |str i=>obtain⟨t,rfl⟩:=rx;exact UW rfl (λz=>nomatch z) h
 |byt i=>obtain⟨t,rfl⟩:=rx;exact UW rfl (λz=>nomatch z) h
 |flt i=>obtain⟨t,rfl⟩:=rx;exact UW rfl (λz=>nomatch z) h
 |ref a=>cases rx;exact UW rfl (λz=>nomatch z) h
 |ty n=>cases rx;exact UW rfl (λz=>nomatch z) h
theorem ZkE{x y:T}{c:Bool}(e:cmpT .Is x y=some c):(y=.non/\c=(hdT x==some none))∨∃b,y=.bl b/\c=(hdT x==some (some b)):=by
 cases y with
 |non=>cases x<;>(cases e;exact .inl ⟨rfl,rfl⟩)
 |bl b =>
  refine .inr ⟨b,rfl,?_⟩
  cases x with
  |bl a=>cases e;cases a<;>cases b<;>rfl
  |_=>cases e;rfl
 |_=>cases x<;>cases e
theorem ZhQ(x y:T):cmpT .IsNot x y=(cmpT .Is x y).map (!·):=by
 cases y with
 |non=>cases x<;>rfl
 |bl b=>cases x<;>first|rfl|(rename_i a;cases a<;>cases b<;>rfl)
 |_=>cases x<;>rfl
theorem Znj{x:V}:decide (x=.non)=(hdV x==some none):=by cases x<;>first|rfl|exact decide_eq_true rfl|exact decide_eq_false (λz=>nomatch z)
theorem Zjk:OpR X (Wl .Is) (r2 X.K xr (fCmp .Is)):=by
 rintro pins s σ H x y v u Q I rx ry ⟨cm,m,a,b,M,ra,rb,ho⟩
 obtain⟨ta,tb,c,ea,eb,e,ho⟩:=XM ho
 have hx:=RW.hd M ra ea
 rcases ZkE e with⟨rfl,rfl⟩|⟨k,rfl,rfl⟩
 ·cases(Ze rb eb (λ_ z=>by cases z)).vnon
  refine op_isN pins s σ H _ _ v u Q I rx ry ⟨rfl,?_⟩
  rw[Znj,hx]
  exact ans ho M (.bl _)
 ·cases(Ze rb eb (λ_ z=>by cases z)).vbl
  cases ry
  refine is_bl rx ⟨.bl _,H,I,rfl,?_⟩
  rw[hx]
  exact ans ho M (.bl _)
theorem Zen:OpR X (Wl .IsNot) (r2 X.K xr (fCmp .IsNot)):=by
 rintro pins s σ H x y v u Q I rx ry ⟨cm,m,a,b,M,ra,rb,ho⟩
 obtain⟨ta,tb,c',ea,eb,e,ho⟩:=XM ho
 have hx:=RW.hd M ra ea
 rw[ZhQ]at e
 cases e2:cmpT .Is ta tb with
 |none=>rw[e2]at e;cases e
 |some c =>
 rw[e2]at e;cases e
 rcases ZkE e2 with⟨rfl,rfl⟩|⟨k,rfl,rfl⟩
 ·cases(Ze rb eb (λ_ z=>by cases z)).vnon
  refine Zot pins s σ H _ _ v u Q I rx ry ⟨rfl,?_⟩
  rw[Znj,hx]
  exact ans ho M (.bl _)
 ·cases(Ze rb eb (λ_ z=>by cases z)).vbl
  cases ry
  refine Zmd rx ⟨.bl _,H,I,rfl,?_⟩
  rw[hx]
  exact ans ho M (.bl _)
theorem Zm2(hu:X.A.units+64<cLine):∀op:CmpOp,OpR X (Wl op) (r2 X.K xr (fCmp op))
 |.Eq=>Zjo hu
 |.NotEq=>Zjh hu
 |.Lt=>Zji
 |.LtE=>Zjj
 |.Gt=>Zjm
 |.GtE=>Zjn
 |.Is=>Zjk
 |.IsNot=>Zen
 |.In=>Zjl hu
 |.NotIn=>Zem hu
def fIx(x y:W)(m:Mem):Res W:=pur ((view x m).bind λx=>(view y m).bind λy=>ixT x y) m
theorem ZoP(n:Nat)(i:Int):ixOf n i=ixN n i:=rfl
theorem Zbe{α β:Type}{F:α->β->Prop}{xs:List α}{ys:List β}(h:Paired F xs ys){i:Int}{x:α}(e:atT xs i=some x):∃y,atI ys i=some y/\F x y:=by
 unfold atT at e
 unfold atI
 rw[<-h.length]
 cases q:ixOf xs.length i with
 |none=>rw[q]at e;cases e
 |some j =>
  rw[q]at e
  rw[ZoP]at q
  obtain⟨y,e1,e2⟩:=Zx h e
  exact⟨y,by rw[q];exact e1,e2⟩
theorem ZaX(ns:List Int):RTs K cm m H (ns.map .int) (ns.map V.int):=by
 induction ns with
 |nil=>exact .nil
 |cons n ns ih=>exact .cons (.int n) ih
theorem Zpi{α β:Type}(f:α->β)(xs:List α)(i:Int):atT (xs.map f) i=(atT xs i).map f:=by
 unfold atT
 rw[Yc]
 cases ixOf xs.length i with
 |none=>rfl
 |some j=>simp
theorem ix_ix:IxR X (r2 X.K xr fIx):=by
 rintro value slice pins s σ H x y v u Q I rx ry ⟨cm,m,a,b,M,ra,rb,ho⟩ hs
 obtain⟨t,e,ho⟩:=Jl ho
 obtain⟨ta,tb,ea,eb,e⟩:=ZdP e
 unfold ixT at e
 have hz:=ZV
 split at e
 ·cases(Ze rb eb (λ_ z=>by cases z)).vint
  obtain⟨p,vs,rfl,h1,r⟩:=(Ze ra ea (λ_ z=>by cases z)).itup
  obtain⟨z,e1,e2⟩:=Zbe r e
  exact ix_tup value slice pins s σ H _ _ v u Q I rx ry ⟨p,vs,_,z,rfl,rfl,h1,e1,ans ho M e2⟩ hs
 ·cases(Ze rb eb (λ_ z=>by cases z)).vint
  obtain⟨p,vs,rfl,h1,r⟩:=ZJ M ra ea
  obtain⟨z,e1,e2⟩:=Zbe r e
  exact ZjX value slice pins s σ H _ _ v u Q I rx ry ⟨p,vs,_,z,rfl,rfl,.of h1,e1,ans ho M e2⟩ hs
 ·cases(Ze rb eb (λ_ z=>by cases z)).vint
  obtain⟨p,rfl,h1⟩:=(Ze ra ea (λ_ z=>by cases z)).vscr
  rw[<-Zpi]at e
  obtain⟨z,e1,e2⟩:=Zbe (ZaX (K:=X.K) (cm:=cm) (m:=m) (H:=H) _) e
  exact ZjX value slice pins s σ H _ _ v u Q I rx ry ⟨p,_,_,z,rfl,rfl,h1.sq,e1,ans ho M e2⟩ hs
 ·split at e
  ·rename_i cs k hl
   cases(Ze rb eb (λ_ z=>by cases z)).vint
   cases(Ze ra ea (λ_ z=>by cases z)).vstr
   cases q:atT cs k with
   |none=>rw[q]at e;cases e
   |some c =>
    rw[q]at e;cases e
    exact ix_str value slice pins s σ H _ _ v u Q I rx ry ⟨_,k,c,rfl,rfl,by rw[Zae];omega,q,ans ho M (.str [c])⟩ hs
  ·cases e
 ·cases e
end
section
variable{P:YK}{w:World}{A:Around}{E:Value->Shared->Prop}{s:Shared}
structure Side (z TI TO i j a b:Addr) (k:Nat) (h:Heap):Prop where
 zip:IsZip h z TI TO .none
 its:IsPair h TI (.ref i) (.ref j)
 out:∃p q,IsPair h TO p q
 one:h.IsTupleIter i a k
 two:h.IsTupleIter j b k
end
theorem Inv.turnedL{X:Cx}{pins:List (Addr×Obj)}{σ:L2.St}{H:Hp}{s:Shared}{g:Heap}{t':Nat}{ch:List Addr}(I:Inv X pins σ H s)(k:∀b o,b∉ch->s.heap.get? b=some o->g.get? b=some o)(hf:∀b∈ch,FpOk X pins H b):
  Inv X pins σ H { s with heap:=g,toks:=t' }:=by
 have nit:∀b u,H b=some u->b∉ch:=λb u e z=>by rw[(hf b z).1]at e;cases e
 obtain⟨m0,hm0,_⟩:=id I.loc
 refine I.step (g':=s.gens) (d':=s.drawn) (ch:=ch) (λb hb=>⟨(hf b hb).2.2.2.1,(hf b hb).2.1,(hf b hb).2.2.2.2.1,(hf b hb).2.2.2.2.2⟩) (λb o _ _ hc e _=>k b o hc e) (λb o _ _ hc e _=>⟨o.slots,k b o hc e⟩) (λ_ _ _ _ n=>n)
  (λb o hc e=>⟨o,k b o hc e⟩) (λ_ _ e=>e) (λ_ _ _ e=>e) (λb ps e=>⟨#[],by rw[e];simp⟩) (λm hm=>?_) (λb u e=>?_) I.bare
 ·obtain⟨o,es,ep,ho,r⟩:=hm
  exact⟨o,es,ep,k _ o (λz=>(hf _ z).2.1 rfl) ho,r⟩
 ·refine(I.hok b u e).stay (λc v hc q=>k c v ?_ q) (λ_ q=>q) λ_ _ q=>q
  rcases hc with z|z
  ·rw[z];exact nit b u e
  ·exact nit c _ z
def Itz(K:Frag)(a b:Addr):It:=
 ⟨λi H=>∃xs ys x y,SqT K H a xs/\SqT K H b ys/\xs[i]?=some x/\ys[i]?=some y,
  λi H v H'=>∃x y c,(∀xs,SqT K H a xs->xs[i]?=some x)/\(∀ys,SqT K H b ys->ys[i]?=some y)/\H c=none/\v=.ref c/\H'=upd H c (.tup [x,y]),
  λi H=>∃xs,SqT K H a xs/\xs.length<=i⟩
def It4(n:Nat)(l:Nat->Nat)(xs:Nat->Array Value)(p:Nat->Nat)(h:Heap):Prop:=∀j:Nat,j<4->h.IsListIter (n+j) (l j) (p j)/\h.IsList (l j) (xs j)/\l j<n
abbrev IsZ(h:Heap)(n:Nat)(f0:Value)(f1:Bool):Prop:=
 h.get? (n+6)=some { cls:=.type "zip",dict:=none,data:=.fields #[f0,.bool f1,.bool false,.ref (n+4),.ref (n+5)],slots:=#[] }
abbrev IsQ(h:Heap)(t:Nat)(a b c d:Value):Prop:=h.get? t=some { cls:=.type "tuple",data:=.seq #[a,b,c,d] }
section
variable{P:YK}{w:World}{A:Around}{E:Value->Shared->Prop}{s:Shared}{n:Nat}{l:Nat->Nat}{xs:Nat->Array Value}{p:Nat->Nat}
def Free(h:Heap)(n:Nat):Prop:=∃f1,IsZ h n .none f1∨∃a:Nat,IsZ h n (rawInt a) f1
structure Sd (n:Nat) (l:Nat->Nat) (k:Nat) (h:Heap):Prop where
 zip:Free h n
 its:IsQ h (n+4) (.ref (n+0)) (.ref (n+1)) (.ref (n+2)) (.ref (n+3))
 out:∃a b c d,IsQ h (n+5) a b c d
 pos:∀j:Nat,j<4->h.IsListIter (n+j) (l j) k/\l j<n
def Kp(n:Nat)(h g:Heap):Prop:=g.objs.size=h.objs.size/\∀c o,(c<n∨n+7<=c)->h.get? c=some o->g.get? c=some o
end
abbrev fp4(n:Nat):List Addr:=[n+6,n+4,n+5,n+0,n+1,n+2,n+3]
def Itz4(K:Frag)(l:Nat->Nat):It:=
 ⟨λi H=>∃(xs:Nat->List V) (x:Nat->V),∀j:Nat,j<4->SqL K H (l j) (xs j)/\(xs j)[i]?=some (x j),
  λi H v H'=>∃(x:Nat->V) (c:Addr),(∀j:Nat,j<4->∀ys,SqL K H (l j) ys->ys[i]?=some (x j))/\H c=none/\v=.ref c/\H'=upd H c (.tup [x 0,x 1,x 2,x 3]),
  λi H=>∃xs,SqL K H (l 0) xs/\xs.length<=i⟩
def pick4{α:Type}(a b c d:α):Nat->α
 |0=>a
 |1=>b
 |2=>c
 |_=>d
theorem all4{Q:Nat->Prop}(h0:Q 0)(h1:Q 1)(h2:Q 2)(h3:Q 3):∀j:Nat,j<4->Q j
 |0,_=>h0
 |1,_=>h1
 |2,_=>h2
 |3,_=>h3
def Ite(K:Frag)(l:Addr):It:=
 ⟨λi H=>∃xs x,SqL K H l xs/\xs[i]?=some x,
  λi H v H'=>∃x c,(∀xs,SqL K H l xs->xs[i]?=some x)/\H c=none/\v=.ref c/\H'=upd H c (.tup [.int (i:Int),x]),
  λi H=>∃xs,SqL K H l xs/\xs.length<=i⟩
theorem Zih{P:YK}{w:World}{K:Frag}{es:List Expr}{kk}{pos:Pos}{e it l:Addr}(hei:e≠it):
  Turn P w K (.Tuple es kk pos) (Ite K l) [e,it] e (λk h=>(∃old,IsEnum h e it (k:Int) old)/\h.IsListIter it l k) where
 mem:=by simp
 obj:=λk h st c hc=>by
  obtain⟨⟨old,he⟩,⟨o1,e1,c1,d1⟩⟩:=st
  simp only[Yh,YC,or_false]at hc
  rcases hc with rfl|rfl
  ·exact⟨_,he,λv y=>by cases(show Data.fields _=Data.cell v from y)⟩
  ·exact⟨o1,e1,λv y=>by rw[d1]at y;cases y⟩
 keep:=λk h h' st f=>by
  obtain⟨⟨old,he⟩,h1⟩:=st
  exact⟨⟨old,f e (by simp) _ he⟩,h1.at λo q=>f it (by simp) o q⟩
 item:=by
  intro X hP hw hK hc k pins s σ H E I hf st hg
  subst hP hw hK
  obtain⟨xs,x,q1,hx⟩:=hg
  obtain⟨its,rv,p,_⟩:=I.list q1
  obtain⟨u,hu,ru⟩:=rv.get hx
  obtain⟨⟨old,he⟩,hit⟩:=st
  obtain⟨oi,ei,_⟩:=id hit
  refine wpAny_pyNext_enum_item he hit p.isList (x:=u) (by simpa using hu) hei λh' heo hit' ht hz kp=>?_
  refine⟨_,rfl,?_⟩
  have fr:∀{c:Addr}{o:Obj},s.heap.get? c=some o->c≠s.heap.objs.size:=λq=>YH (Ys q)
  have fresh:H s.heap.objs.size=none:=I.hok.fresh (Yj _)
  have I6:Inv X pins σ (upd H s.heap.objs.size (.tup [.int (k:Int),x])) { s with heap:=s.heap.push { cls:=.type "tuple",data:=.seq #[.int k s.toks,u] },toks:=s.toks }:=
   I.laid (t':=s.toks) (λc o q=>Ye _ q) (Yj _) ⟨by unfold YM;simp,[.int k s.toks,u],.cons ⟨_,rfl⟩ (.cons ru .nil),⟨_,Yt _ rfl,rfl,⟨_,rfl⟩,rfl⟩⟩
  have hf6:∀b∈[e,it],FpOk X pins (upd H s.heap.objs.size (.tup [.int (k:Int),x])) b:=λb hb=>by
   refine⟨?_,(hf b hb).2⟩
   have nb:b≠s.heap.objs.size:=by
    simp only[Yh,YC,or_false]at hb
    rcases hb with rfl|rfl
    ·exact fr he
    ·exact fr ei
   rw[ZL nb]
   exact(hf b hb).1
  have up:∀c o,c∉[e,it]->(s.heap.push { cls:=.type "tuple",data:=.seq #[.int k s.toks,u] }).get? c=some o->h'.get? c=some o:=λc o hc q=>by
   rcases Heap.get?_push_cases q with⟨rfl,rfl⟩|q
   ·exact ht
   ·exact kp c o (λy=>hc (by simp[y])) (λy=>hc (by simp[y])) q
  have I8:Inv X pins σ (upd H s.heap.objs.size (.tup [.int (k:Int),x])) { s with heap:=h',toks:=s.toks+1 }:=
   Inv.turnedL (s:={ s with heap:=s.heap.push { cls:=.type "tuple",data:=.seq #[.int k s.toks,u] },toks:=s.toks }) (t':=s.toks+1) (ch:=[e,it]) I6 up hf6
  refine wpAny_letOwnedTupleGo_enum heo λh2 he2 sb=>?_
  have I9:=Inv.turnedL (s:={ s with heap:=h',toks:=s.toks+1 }) (g:=h2) (t':=s.toks+1) (ch:=[e]) I8 (λc o hc q=>sb.extBut c o (λy=>hc (by simp[y])) q) (λb hb=>hf6 b (by
   have z:b=e:=by simpa using hb
   simp[z]))
  exact⟨.ref s.heap.objs.size,upd H s.heap.objs.size (.tup [.int (k:Int),x]),I9,rfl,⟨x,_,λys q=>by rw[<-I.list_inj q1 q];exact hx,fresh,rfl,rfl⟩,⟨⟨_,he2⟩,hit'.extBut sb.extBut hei.symm⟩,λb hb=>(hf6 b hb).1⟩
 done:=by
  intro X hP hw hK hc k pins s σ H E I hf st hg
  subst hP hw hK
  obtain⟨xs,q1,hx⟩:=hg
  obtain⟨its,rv,p,_⟩:=I.list q1
  have hl:=rv.length
  obtain⟨⟨old,he⟩,hit⟩:=st
  refine wpAny_pyNext_enum_end (I.ok.hd hc) he hit p.isList (by simp;omega) λh' kp=>⟨rfl,?_⟩
  exact Inv.turnedL (t':=s.toks) (ch:=[it]) I (λc o hc q=>kp c o (λy=>hc (by simp[y])) q) (λb hb=>hf b (by
   have z:b=it:=by simpa using hb
   simp[z]))
 self:=λ_ _ _ _ _ st h=>by
  obtain⟨⟨old,he⟩,_⟩:=st
  exact wpAny_pyIter_enum he h
def Its(cs:List Nat):It:=⟨λi _=>i<cs.length,λi H x H'=>H'=H/\∃c,cs[i]?=some c/\x=.str ⟨#[c]⟩,λi _=>cs.length<=i⟩
theorem Zf6{P:YK}{w:World}{K:Frag}{tg:Expr}{cs:List Nat}{it:Addr}{cl:String}{t:Tok}(hcl:["enumerate","zip","dict_itemiterator","dict_reverseitemiterator","odict_iterator","itertools.zip_longest","itertools.pairwise"].contains cl=false)(hself:∀(A:Around) (i:Nat) (s:Shared) (Q:Value->Shared->Prop) (E:Value->Shared->Prop),s.heap.IsStrIter it cl ⟨cs.toArray⟩ t i->Q (.ref it) s->wpAny (model P w) A (pyIter (.ref it)) Q E s)(W:∀A':Around,A'.handled=none->Walks P w A' it [it] [it] cs.length (SignAt ⟨cs.toArray⟩) (λi h=>h.IsStrIter it cl ⟨cs.toArray⟩ t i)):Turn P w K tg (Its cs) [it] it (λi h=>h.IsStrIter it cl ⟨cs.toArray⟩ t i/\i<=cs.length) where
 mem:=by simp
 obj:=λi h st b hb=>by
  have e:b=it:=by simpa using hb
  subst e
  obtain⟨⟨o,e,c,d⟩,_⟩:=st
  exact⟨o,e,λv z=>by rw[d]at z;cases z⟩
 keep:=λi h h' st k=>⟨let⟨⟨o,ho,r⟩,_⟩:=st;⟨o,k it (by simp) o ho,r⟩,st.2⟩
 item:=by
  intro X hP hw hK hc i pins s σ H E I hf st hg
  subst hP hw hK
  obtain⟨f0,f1,f2,f3,f4,f5⟩:=hf it (by simp)
  have hg':i<cs.length:=hg
  refine(W X.A (I.ok.hd hc)).item i s _ _ hg' st.1 λv h' tk hv st' kk=>?_
  obtain⟨c,u,hc',rfl⟩:=hv
  have I1:Inv X pins σ H { s with heap:=h',toks:=tk }:=I.turned (λb o hb e=>kk b o (by simpa using hb) e) f0 f1 f3 f4 f5
  obtain⟨o,e,cc,d⟩:=id st'
  refine⟨_,rfl,Zml (s:={ s with heap:=h',toks:=tk }) e cc d hcl ⟨.str ⟨#[c]⟩,H,I1,⟨u,rfl⟩,⟨rfl,c,by simpa using hc',rfl⟩,⟨st',by omega⟩,λb hb=>(hf b hb).1⟩⟩
 done:=by
  intro X hP hw hK hc i pins s σ H E I hf st hg
  subst hP hw hK
  obtain⟨f0,f1,f2,f3,f4,f5⟩:=hf it (by simp)
  have hg':cs.length<=i:=hg
  have e:i=cs.length:=by have:=st.2;omega
  subst e
  exact(W X.A (I.ok.hd hc)).done s _ _ st.1 λh' tk kk=>⟨rfl,I.turned (λb o hb e=>kk b o (by simpa using hb) e) f0 f1 f3 f4 f5⟩
 self:=λA i s Q E st h=>hself A i s Q E st.1 h
section
variable{K:Frag}{cm cm':List Addr}{m m':Mem}{H H':Hp}{xr:XR}{X:Cx}
variable(K) in
inductive Src (cm:List Addr) (m:Mem) (H:Hp):It->List T->Prop where
 |tup {a:Addr}{vs:List V}{ts:List T}:SqT K H a vs->RTs K cm m H ts vs->Src cm m H (Itt K a) ts
 |lst {a:Addr}{vs:List V}{ts:List T}:H a=some (.lst vs)->Zt cm m a->RTs K cm m H ts vs->Src cm m H (Itl K a) ts
 |cel {a:Addr}{i:Nat}{ts:List T}:m[i]?=some (some (true,ts))->cm[i]?=some a->Src cm m H (Itl K a) ts
 |scr {a:Addr}(ns:List Int):ZcA K H a ns->Src cm m H (Itl K a) (ns.map .int)
 |str (cs:List Nat):Src cm m H (Its cs) (cs.map λc=>.str [c])
 |rng (lo:Int) (n:Nat):Src cm m H (Itr lo n) (rangeT lo n)
 |zip {a b:Addr}{xs ys:List V}{ts us:List T}:SqT K H a xs->SqT K H b ys->RTs K cm m H ts xs->RTs K cm m H us ys->ts.length=us.length->Src cm m H (Itz K a b) (zipL ts us)
 |zip4 {l:Nat->Nat}{vs:Nat->List V}{ts:Nat->List T}:(∀j:Nat,j<4->H (l j)=some (.lst (vs j))/\Zt cm m (l j)/\RTs K cm m H (ts j) (vs j))->(∀j:Nat,j<4->(ts 0).length=(ts j).length)->Src cm m H (Itz4 K l) (Zh8 (ts 0) (ts 1) (ts 2) (ts 3))
 |enm {a:Addr}{vs:List V}{ts:List T}:H a=some (.lst vs)->Zt cm m a->RTs K cm m H ts vs->Src cm m H (Ite K a) (ZcG ts)
theorem Src.ext(x:Ext cm m H cm' m' H')(M:MemR K cm m H)(M':MemR K cm' m' H'){J:It}{ts:List T}(h:Src K cm m H J ts):Src K cm' m' H' J ts:=by
 cases h with
 |tup h1 h2=>exact .tup (x.sqT M h1) (RTs.ext x M M' h2)
 |lst h1 h2 h3=>exact .lst (x.keep _ _ h1 h2).1 (x.keep _ _ h1 h2).2 (RTs.ext x M M' h3)
 |cel h1 h2=>exact .cel (x.lent _ _ h1) (x.pre _ _ h2)
 |scr ns h=>exact .scr ns (x.scr M h)
 |str cs=>exact .str cs
 |rng lo n=>exact .rng lo n
 |zip h1 h2 h3 h4 h5=>exact .zip (x.sqT M h1) (x.sqT M h2) (RTs.ext x M M' h3) (RTs.ext x M M' h4) h5
 |zip4 h1 h2=>exact .zip4 (λj hj=>let⟨a,b,c⟩:=h1 j hj;⟨(x.keep _ _ a b).1,(x.keep _ _ a b).2,RTs.ext x M M' c⟩) h2
 |enm h1 h2 h3=>exact .enm (x.keep _ _ h1 h2).1 (x.keep _ _ h1 h2).2 (RTs.ext x M M' h3)
theorem stay(M:MemR K cm m H)(z:H'=H){t:T}{x:V}(r:RT K cm m H t x):Ext cm m H cm m H'/\MemR K cm m H'/\RT K cm m H' t x:=by
 subst z
 exact⟨.refl,M,r⟩
theorem Zk4{xs ys:List T}{i:Nat}{t:T}(e:(zipL xs ys)[i]?=some t):∃x y,xs[i]?=some x/\ys[i]?=some y/\t=.tup [x,y]:=by
 unfold zipL at e
 rw[List.getElem?_zipWith]at e
 split at e
 ·rename_i x y h1 h2
  cases e
  exact⟨x,y,h1,h2,rfl⟩
 ·cases e
theorem Zh7{a b c d:List T}{i:Nat}{t:T}(e:(Zh8 a b c d)[i]?=some t):∃x y z w,a[i]?=some x/\b[i]?=some y/\c[i]?=some z/\d[i]?=some w/\t=.tup [x,y,z,w]:=by
 unfold Zh8 at e
 rw[YZ]at e
 obtain⟨p,h1,h2⟩:=Option.map_eq_some_iff.mp e
 obtain⟨q1,q2⟩:=Vi.mp h1
 obtain⟨q3,q4⟩:=Vi.mp q2
 obtain⟨q5,q6⟩:=Vi.mp q4
 exact⟨_,_,_,_,q1,q3,q5,q6,h2.symm⟩
theorem Zkn{xs:List T}{i:Nat}{t:T}(e:(ZcG xs)[i]?=some t):∃x,xs[i]?=some x/\t=.tup [.int (i:Int),x]:=by
 unfold ZcG at e
 rw[List.getElem?_zipWith]at e
 split at e
 ·rename_i k y h1 h2
  cases e
  have hi:=(Yi.mp h1).1
  rw[W6]at hi
  rw[Yas hi]at h1
  cases h1
  exact⟨y,h2,rfl⟩
 ·cases e
theorem ZeO(xs:List T):(ZcG xs).length=xs.length:=by
 unfold ZcG
 rw[List.length_zipWith,W6,Ybd]
theorem Src.go(M:MemR K cm m H){J:It}{ts:List T}(h:Src K cm m H J ts){i:Nat}{t:T}(e:ts[i]?=some t):J.go i H/\∀x H',J.yld i H x H'->Ext cm m H cm m H'/\MemR K cm m H'/\RT K cm m H' t x:=by
 cases h with
 |tup h1 h2 =>
  obtain⟨v,e1,e2⟩:=Zx h2 e
  refine⟨⟨_,v,h1,e1⟩,λx H' ⟨z,q⟩=>stay M z ?_⟩
  have:=q _ h1
  rw[e1]at this;cases this
  exact e2
 |lst h1 h2 h3 =>
  obtain⟨v,e1,e2⟩:=Zx h3 e
  refine⟨⟨_,v,.of h1,e1⟩,λx H' ⟨z,q⟩=>stay M z ?_⟩
  have:=q _ (.of h1)
  rw[e1]at this;cases this
  exact e2
 |cel h1 h2 =>
  obtain⟨b,vs,q1,q2,q3,q4⟩:=M.at' _ _ h1
  rw[h2]at q1;cases q1
  obtain⟨v,e1,e2⟩:=Zx q4 e
  refine⟨⟨_,v,.of q2,e1⟩,λx H' ⟨z,q⟩=>stay M z ?_⟩
  have:=q _ (.of q2)
  rw[e1]at this;cases this
  exact e2
 |scr ns h =>
  obtain⟨v,e1,e2⟩:=Zx (ZaX (K:=K) (cm:=cm) (m:=m) (H:=H) ns) e
  refine⟨⟨_,v,h.sq,e1⟩,λx H' ⟨z,q⟩=>stay M z ?_⟩
  have:=q _ h.sq
  rw[e1]at this;cases this
  exact e2
 |str cs =>
  rw[YZ]at e
  cases q:cs[i]? with
  |none=>rw[q]at e;cases e
  |some c =>
   rw[q]at e;cases e
   refine⟨(Yi.mp q).1,λx H' ⟨z,c',q',e'⟩=>stay M z ?_⟩
   rw[q]at q';cases q'
   subst e'
   exact .str [c]
 |rng lo n =>
  unfold rangeT at e
  rw[YZ]at e
  cases q:(YF n)[i]? with
  |none=>rw[q]at e;cases e
  |some k =>
   rw[q]at e;cases e
   have hi:=(Yi.mp q).1
   rw[W6]at hi
   rw[Yas hi]at q
   cases q
   exact⟨hi,λx H' ⟨z,e'⟩=>stay M z (by subst e';exact .int _)⟩
 |zip h1 h2 h3 h4 h5 =>
  obtain⟨x,y,hx,hy,rfl⟩:=Zk4 e
  obtain⟨u,e1,r1⟩:=Zx h3 hx
  obtain⟨v,e2,r2⟩:=Zx h4 hy
  refine⟨⟨_,_,u,v,h1,h2,e1,e2⟩,?_⟩
  rintro x' H' ⟨u',v',c,q1,q2,hc,rfl,rfl⟩
  have z1:=q1 _ h1
  rw[e1]at z1;cases z1
  have z2:=q2 _ h2
  rw[e2]at z2;cases z2
  exact⟨.new hc,M.new hc,RT.newTup (.cons r1 (.cons r2 .nil)) hc⟩
 |@zip4 l vs ts h1 h2 =>
  obtain⟨x0,x1,x2,x3,e0,e1,e2,e3,rfl⟩:=Zh7 e
  obtain⟨q0,_,p0⟩:=h1 0 (by decide)
  obtain⟨q1,_,p1⟩:=h1 1 (by decide)
  obtain⟨q2,_,p2⟩:=h1 2 (by decide)
  obtain⟨q3,_,p3⟩:=h1 3 (by decide)
  obtain⟨u0,f0,r0⟩:=Zx p0 e0
  obtain⟨u1,f1,r1⟩:=Zx p1 e1
  obtain⟨u2,f2,r2⟩:=Zx p2 e2
  obtain⟨u3,f3,r3⟩:=Zx p3 e3
  refine⟨⟨vs,pick4 u0 u1 u2 u3,all4 ⟨.of q0,f0⟩ ⟨.of q1,f1⟩ ⟨.of q2,f2⟩ ⟨.of q3,f3⟩⟩,?_⟩
  rintro x' H' ⟨x,c,q,hc,rfl,rfl⟩
  have z0:=q 0 (by decide) _ (.of q0)
  rw[f0]at z0
  have z1:=q 1 (by decide) _ (.of q1)
  rw[f1]at z1
  have z2:=q 2 (by decide) _ (.of q2)
  rw[f2]at z2
  have z3:=q 3 (by decide) _ (.of q3)
  rw[f3]at z3
  rw[<-YG z0,<-YG z1,<-YG z2,<-YG z3]
  exact⟨.new hc,M.new hc,RT.newTup (.cons r0 (.cons r1 (.cons r2 (.cons r3 .nil)))) hc⟩
 |enm h1 h2 h3 =>
  obtain⟨x,hx,rfl⟩:=Zkn e
  obtain⟨u,e1,r1⟩:=Zx h3 hx
  refine⟨⟨_,u,.of h1,e1⟩,?_⟩
  rintro x' H' ⟨u',c,q1,hc,rfl,rfl⟩
  have z1:=q1 _ (.of h1)
  rw[e1]at z1;cases z1
  exact⟨.new hc,M.new hc,RT.newTup (.cons (.int _) (.cons r1 .nil)) hc⟩
theorem Src.stop(M:MemR K cm m H){J:It}{ts:List T}(h:Src K cm m H J ts){i:Nat}(e:ts[i]?=none):J.stop i H:=by
 have l:=Vj.mp e
 cases h with
 |tup h1 h2=>exact⟨_,h1,by rw[<-h2.length];exact l⟩
 |lst h1 h2 h3=>exact⟨_,.of h1,by rw[<-h3.length];exact l⟩
 |cel h1 h2 =>
  obtain⟨b,vs,q1,q2,q3,q4⟩:=M.at' _ _ h1
  rw[h2]at q1;cases q1
  exact⟨_,.of q2,by rw[<-q4.length];exact l⟩
 |scr ns h=>exact⟨_,h.sq,by rw[Yc]at l ⊢;exact l⟩
 |str cs=>rw[Yc]at l;exact l
 |rng lo n =>
  unfold rangeT at l
  rw[Yc,W6]at l
  exact l
 |zip h1 h2 h3 h4 h5 =>
  refine⟨_,h1,?_⟩
  unfold zipL at l
  rw[List.length_zipWith]at l
  rw[<-h3.length]
  omega
 |@zip4 l vs ts h1 h2 =>
  obtain⟨q0,_,p0⟩:=h1 0 (by decide)
  refine⟨_,.of q0,?_⟩
  have l1:=h2 1 (by decide)
  have l2:=h2 2 (by decide)
  have l3:=h2 3 (by decide)
  unfold Zh8 at l
  rw[Yc,Wo,Wo,Wo]at l
  rw[<-p0.length]
  omega
 |enm h1 h2 h3 =>
  refine⟨_,.of h1,?_⟩
  rw[ZeO]at l
  rw[<-h3.length]
  exact l
variable(K) in
def tI(call:Nat->List W->Mem->Res W)(gv:List T)(xr:XR)(it:E):TI:=λσ H R=>∃env cm m,EnvR K cm m H env σ/\MemR K cm m H /\
 OkR K (ev call gv it env m) xr cm m H λx cm1 m1 H1=>∃ts m2,Z3 x m1=.ok ts m2/\∀J,Src K cm1 m2 H1 J ts->R J H1
theorem PI.mono{tg iter:Expr}{t t':TI}(h:PI X tg iter t)(f:∀σ H R,t' σ H R->t σ H R):PI X tg iter t':=λpins s σ H R I q=>h pins s σ H R I (f σ H R q)
theorem pi_of{tg iter:Expr}{call:Nat->List W->Mem->Res W}{gv:List T}{it:E}(h:PE X iter (tE X.K call gv xr it)):PI X tg iter (tI X.K call gv xr it):=by
 rintro pins s σ H R I ⟨env,cm,m,hE,hM,ho⟩
 refine thn (h pins s σ H (λv H1=>∃cm1 m1 w,MemR X.K cm1 m1 H1/\RW X.K cm1 m1 H1 w v/\∃ts m2,Z3 w m1=.ok ts m2/\∀J,Src X.K cm1 m2 H1 J ts->R J H1) I
  ⟨env,cm,m,hE,hM,ho.mono λw cm1 m1 H1 x1 M1 o1 v rv=>⟨cm1,m1,w,M1,rv,o1⟩⟩) λv s1 ⟨x,H1,I1,r1,cm1,m1,w,M1,rw1,ts0,m2,eb,o1⟩=>?_
 -- an iterator over a list that stands at a
 have onList:∀(a:Addr) (vs:List V),x=.ref a->SqL X.K H1 a vs->R (Itl X.K a) H1->wpAny (model X.prog X.w) X.A (pyIter v) (PIE X pins σ tg R) X.xe s1:=λa vs e hq q=>by
  subst e
  cases r1
  obtain⟨its,rv,p,hz⟩:=I1.list hq
  refine YaN p.isList ?_
  refine⟨s1.heap.objs.size,[s1.heap.objs.size],_,_,H1,rfl,I1.kept (t':=s1.toks) λb o e=>Ye _ e,Zig a _,⟨_,Yt _ rfl,rfl,rfl⟩,λb hb=>?_,q⟩
  have e:b=s1.heap.objs.size:=by simpa using hb
  subst e
  exact I1.fpOk (Yj _) (I1.hok.fresh (Yj _))
 cases w with
 |f a=>cases eb
 |x _ _ _=>cases eb
 |c i =>
  unfold Z3 at eb
  dsimp only at eb
  split at eb
  ·rename_i fl ts e
   cases eb
   obtain⟨a,vs,q1,q2,_⟩:=M1.at' i _ e
   obtain⟨b,h1,h2⟩:=rw1
   rw[q1]at h1;cases h1
   exact onList a vs h2 (.of q2) (o1 _ (.cel (YX (Yi.mp e).1) q1))
  ·cases eb
 |t t =>
  unfold Z3 at eb
  dsimp only at eb
  cases t with
  |tup ts =>
   cases eb
   obtain⟨a,vs,e,h1,h2⟩:=RT.itup rw1
   subst e
   cases r1
   obtain⟨its,rv,p,hz⟩:=I1.tuple h1
   refine Yaz (show s1.heap.IsTuple a its.toArray from p) ?_
   refine⟨s1.heap.objs.size,[s1.heap.objs.size],_,_,H1,rfl,I1.kept (t':=s1.toks) λb o e=>Ye _ e,ZgV a _,⟨_,Yt _ rfl,rfl,rfl⟩,λb hb=>?_,o1 _ (.tup h1 h2)⟩
   have e:b=s1.heap.objs.size:=by simpa using hb
   subst e
   exact I1.fpOk (Yj _) (I1.hok.fresh (Yj _))
  |lst ts =>
   cases eb
   obtain⟨a,vs,e,h1,h2,h3⟩:=RT.ilst rw1
   exact onList a vs e (.of h1) (o1 _ (.lst h1 h2 h3))
  |scr ns =>
   cases eb
   obtain⟨a,e,h1⟩:=RT.vscr rw1
   exact onList a _ e h1.sq (o1 _ (.scr ns h1))
  |str cs =>
   unfold Znd at eb
   dsimp only at eb
   split at eb
   ·rename_i ts e
    split at e<;>cases e
    cases eb
    cases RT.vstr rw1
    obtain⟨t,rfl⟩:=r1
    have q:=o1 _ (.str cs)
    have I2:∀o:Obj,Inv X pins σ H1 { s1 with heap:=s1.heap.push o }:=λo=>I1.kept (t':=s1.toks) λb o e=>Ye _ e
    have fpk:∀b∈[s1.heap.objs.size],FpOk X pins H1 b:=λb hb=>by
     have e:b=s1.heap.objs.size:=by simpa using hb
     subst e
     exact I1.fpOk (Yj _) (I1.hok.fresh (Yj _))
    cases ha:(⟨cs.toArray⟩:Str).cps.all (·<128)
    ·refine wpAny_pyIter_wide ha ?_
     exact⟨s1.heap.objs.size,[s1.heap.objs.size],_,_,H1,rfl,I2 _,Zf6 (cl:="str_iterator") (t:=t) (by decide) (λA i s Q E st h=>wpAny_pyIter_striter_wide st h) (λA' hA=>by simpa using Walks.strWide hA _ ⟨cs.toArray⟩ t),⟨⟨_,Yt _ rfl,rfl,rfl⟩,Wy _⟩,fpk,q⟩
    ·refine wpAny_pyIter_ascii ha ?_
     exact⟨s1.heap.objs.size,[s1.heap.objs.size],_,_,H1,rfl,I2 _,Zf6 (cl:="str_ascii_iterator") (t:=t) (by decide) (λA i s Q E st h=>wpAny_pyIter_striter_ascii st h) (λA' hA=>by simpa using Walks.strAscii hA _ ⟨cs.toArray⟩ t),⟨⟨_,Yt _ rfl,rfl,rfl⟩,Wy _⟩,fpk,q⟩
   ·cases eb
  |_=>cases eb
end
theorem ZdK{elt:Expr}{gens:List We}{scope:Scope}{pos:Pos}{d:Nat}{target iter:Expr}{ifs:List Expr}{it acc:Value}{env:Ws}(hg:gens[d]?=some ⟨target,iter,ifs,0⟩)(hn:gens[d+1]?=none):
  Yai (.ListComp elt gens scope pos) d it acc env=(do
   Gz iter.pos
   match <-pyNext it with
   |none=>pure (.done .next)
   |some v =>
    U0 target it v
    assign target env v
    let mut ok:=true
    for c in ifs do
     if ok then ok <-isTrue c env (eval c env)
    if ok then
     (do let _ <-call (.builtin "list.append") [acc,<-eval elt env])
    again (.compLoop (.ListComp elt gens scope pos) d it acc env)):=by
 unfold Yai
 simp only[hg,hn]
 rfl
theorem ZdJ{elt:Expr}{gens:List We}{scope:Scope}{pos:Pos}{d:Nat}{target iter:Expr}{ifs:List Expr}{it acc:Value}{env:Ws}{target' iter':Expr}{ifs':List Expr}(hg:gens[d]?=some ⟨target,iter,ifs,0⟩)(hn:gens[d+1]?=some ⟨target',iter',ifs',0⟩):
  Yai (.ListComp elt gens scope pos) d it acc env=(do
   Gz iter.pos
   match <-pyNext it with
   |none=>pure (.done .next)
   |some v =>
    U0 target it v
    assign target env v
    let mut ok:=true
    for c in ifs do
     if ok then ok <-isTrue c env (eval c env)
    if ok then
     let x <-eval iter' env
     Gz iter'.pos
     let x <-WR iter' env x
     let _ <-runOwn (.compStart (.ListComp elt gens scope pos) (d+1) (<-V5 [x] (pyIter x)) acc env) env
    again (.compLoop (.ListComp elt gens scope pos) d it acc env)):=by
 unfold Yai
 simp only[hg,hn]
 rfl
section
variable{K:Frag}{cm cm':List Addr}{m m':Mem}{H H':Hp}{xr:XR}{Y:Cx}
def AccAt(h:Heap)(D:Addr)(vs:List V):Prop:=vs.length<=YM/\∃(its:List Value) (n:Nat),Vals vs its/\h.get? D=some { cls:=.type "list",data:=.seq its.toArray n }
structure DOk (Y:Cx) (pins:List (Addr×Obj)) (H:Hp) (D:Addr):Prop where
 free:H D=none
 loc:D≠Y.env.locals
 nofs:D∉Y.fs
 own:D∈Y.ex∨Y.s₀.heap.objs.size<=D
 cell:∀x c,Y.env.cells.lookup x=some c->c≠D
 pin:∀p∈Y.pn++pins,p.1≠D
theorem Zgo{e:Expr}{call:Nat->List W->Mem->Res W}{gv:List T}{a:E}(h:PE Y e (tE Y.K call gv xr a)){pins:List (Addr×Obj)}{s:Shared}{σ:L2.St}{env:Env}{w:W}(I:Inv Y pins σ H s)(hE:EnvR Y.K cm m H env σ)(M:MemR Y.K cm m H)(ok:ev call gv a env m=.ok w m'):wpAny (model Y.prog Y.w) Y.A (eval e Y.env) (EP Y pins σ λv H'=>∃cm',Ext cm m H cm' m' H'/\MemR Y.K cm' m' H'/\RW Y.K cm' m' H' w v) Y.xe s:=by
 refine h pins s σ H _ I ⟨env,cm,m,hE,M,?_⟩
 rw[ok]
 exact λcm' H' x M' v r=>⟨cm',x,M',r⟩
theorem pt_run{e:Expr}{call:Nat->List W->Mem->Res W}{gv:List T}{a:E}(h:PT Y e (tT Y.K call gv xr a)){pins:List (Addr×Obj)}{s:Shared}{σ:L2.St}{env:Env}{k:Bool}(I:Inv Y pins σ H s)(hE:EnvR Y.K cm m H env σ)(M:MemR Y.K cm m H)(ok:(ev call gv a env m).bind Jg=.ok k m'):wpAny (model Y.prog Y.w) Y.A (isTrue e Y.env (eval e Y.env)) (TP Y pins σ λb H'=>b=k/\∃cm',Ext cm m H cm' m' H'/\MemR Y.K cm' m' H') Y.xe s:=by
 refine h pins s σ H _ I ⟨env,cm,m,hE,M,?_⟩
 rw[ok]
 exact λcm' H' x M'=>⟨rfl,cm',x,M'⟩
def PTs(Y:Cx)(call:Nat->List W->Mem->Res W)(gv:List T)(xr:XR):Es->List Expr->Prop
 |.nil,[]=>True
 |.cons a es,e::r=>PT Y e (tT Y.K call gv xr a)/\PTs Y call gv xr es r
 |_,_=>False
theorem ZbQ{env:Ws}{M:Model}{A:Around}{E:Value->Shared->Prop}{s:Shared}{Q:Bool->Shared->Prop}(h:Q false s):∀ifs:List Expr,
  wpAny M A (forIn ifs false λc r=>if r=true then do let ok <-isTrue c env (eval c env);pure (Ug ok)else pure (Ug r)) Q E s
 |[]=>Yd h
 |_::r=>by
  simp only[VD,YD,if_false]
  exact Yb (Yd (ZbQ h r))
theorem ZdX{call:Nat->List W->Mem->Res W}{gv:List T}{pins:List (Addr×Obj)}{σ:L2.St}{env:Env}:∀{cs:Es}{ifs:List Expr}{cm:List Addr}{m m':Mem}{H:Hp}{s:Shared}{k:Bool},PTs Y call gv xr cs ifs->Inv Y pins σ H s->EnvR Y.K cm m H env σ->MemR Y.K cm m H ->
  tests call gv cs env m=.ok k m' ->
  wpAny (model Y.prog Y.w) Y.A (forIn ifs true λc r=>if r=true then do let ok <-isTrue c Y.env (eval c Y.env);pure (Ug ok)else pure (Ug r))
   (λb s'=>b=k/\∃H' cm',Inv Y pins σ H' s'/\Ext cm m H cm' m' H'/\MemR Y.K cm' m' H') Y.xe s
 |.nil,[],cm,m,m',H,s,k,_,I,hE,M,ok=>by
  unfold tests at ok
  cases ok
  exact Yd ⟨rfl,H,cm,I,.refl,M⟩
 |.cons a es,e::r,cm,m,m',H,s,k,hp,I,hE,M,ok=>by
  unfold tests at ok
  obtain⟨h1,h2⟩:=hp
  simp only[VD,if_true]
  cases e1:ev call gv a env m with
  |ok w m1 =>
   rw[e1]at ok
   change (Jg w m1).bind _=_ at ok
   cases e2:Jg w m1 with
   |ok b m2 =>
    rw[e2]at ok
    change (if b=true then _ else _)=_ at ok
    refine Yb (Yb (thn (pt_run h1 I hE M (m':=m2) (k:=b) (by rw[e1];exact e2)) λc s1 ⟨H1,I1,hb,cm1,x1,M1⟩=>Yd ?_))
    subst hb
    cases c with
    |true =>
     rw[if_pos rfl]at ok
     exact thn (ZdX h2 I1 (hE.ext x1 M M1) M1 ok) λb' s2 ⟨hb',H2,cm2,I2,x2,M2⟩=>⟨hb',H2,cm2,I2,x1.trans x2,M2⟩
    |false =>
     rw[if_neg Yl]at ok
     cases ok
     exact ZbQ (Q:=λb s'=>b=false/\∃H' cm',Inv Y pins σ H' s'/\Ext cm m H cm' m' H'/\MemR Y.K cm' m' H') ⟨rfl,H1,cm1,I1,x1,M1⟩ r
   |exc _ _=>rw[e2]at ok;cases ok
   |stuck=>rw[e2]at ok;cases ok
  |exc _ _=>rw[e1]at ok;cases ok
  |stuck=>rw[e1]at ok;cases ok
 |.nil,_::_,_,_,_,_,_,_,hp,_,_,_,_=>hp.elim
 |.cons _ _,[],_,_,_,_,_,_,hp,_,_,_,_=>hp.elim
def tgS:Tg->List Nat
 |.nm i=>[i]
 |.tp is=>is
def Agree(S:List Nat)(σ σ':L2.St):Prop:=∀i,i∉S->σ'[i]?=σ[i]?
def setAll:List Nat->List V->L2.St->L2.St
 |i::is,v::vs,σ=>setAll is vs (σ.set i (some v))
 |_,_,σ=>σ
variable(K) in
def gT:Tg->TG
 |.nm i=>ZoT i
 |.tp is=>λv σ H Q=>∃a xs,v=.ref a/\SqT K H a xs/\xs.length=is.length/\Q (setAll is xs σ) H
theorem Zbg:∀(is:List Nat) (vs:List V) (σ:L2.St),Agree is σ (setAll is vs σ)
 |[],_,_=>λ_ _=>by unfold setAll;rfl
 |_::_,[],_=>λ_ _=>by unfold setAll;rfl
 |i::is,v::vs,σ=>λj hj=>by
  unfold setAll
  rw[Yh]at hj
  rw[Zbg is vs _ j λz=>hj (.inr z),Yv λz=>hj (.inl z.symm)]
theorem EnvR.set{env:Env}{σ:L2.St}(h:EnvR K cm m H env σ){w:W}{v:V}(r:RW K cm m H w v)(i:Nat)(hi:i<σ.length):EnvR K cm m H (env.set i (some w)) (σ.set i (some v)):=λj u e=>by
 by_cases hj:j=i
 ·subst hj
  have hl:j<env.length:=by
   have:=(Yi.mp e).1
   rwa [WK]at this
  rw[YX hl]at e
  cases e
  exact⟨v,YX hi,r⟩
 ·rw[Yv (Ui hj)]at e
  obtain⟨v',h1,h2⟩:=h j u e
  exact⟨v',by rw[Yv (Ui hj)];exact h1,h2⟩
theorem EnvR.setAll:∀{is:List Nat}{ts:List T}{vs:List V}{env:Env}{σ:L2.St},EnvR K cm m H env σ->RTs K cm m H ts vs->(∀i∈is,i<σ.length) ->
  EnvR K cm m H ((is.zip ts).foldl (λenv p=>env.set p.1 (some (.t p.2))) env) (Mi.setAll is vs σ)
 |[],_,_,_,_,h,_,_=>by unfold Mi.setAll;exact h
 |_::_,[],_,_,_,h,.nil,_=>by unfold Mi.setAll;exact h
 |i::is,t::ts,v::vs,env,σ,h,.cons r rs,hi=>by
  unfold Mi.setAll
  rw[Gi,Ut]
  refine EnvR.setAll (h.set (w:=.t t) r i (hi i Yp)) rs λj hj=>?_
  rw[WK]
  exact hi j (Yg _ hj)
theorem ZoS{tg:Tg}{t:T}{v:V}{env env':Env}{σ:L2.St}(hE:EnvR K cm m H env σ)(hi:∀i∈tgS tg,i<σ.length)(r:RT K cm m H t v)(e:Qn tg t env=some env'){Q:L2.St->Hp->Prop}(q:∀σ',EnvR K cm m H env' σ'->Agree (tgS tg) σ σ'->Q σ' H):gT K tg v σ H Q:=by
 cases tg with
 |nm i =>
  cases e
  refine q _ (hE.set (w:=.t t) r i (hi i (by simp[tgS]))) λj hj=>?_
  rw[Yv]
  intro z
  exact hj (by simp[tgS,z])
 |tp is =>
  unfold Qn at e
  dsimp only at e
  split at e
  ·split at e<;>cases e
   rename_i ts hl
   obtain⟨a,vs,rfl,h1,h2⟩:=RT.itup r
   exact⟨a,vs,rfl,h1,by rw[<-h2.length];exact hl,q _ (EnvR.setAll hE h2 hi) (Zbg is vs σ)⟩
  ·cases e
end
def innS:E->List Nat
 |.more _ tg _ inner=>tgS tg++innS inner
 |_=>[]
section
variable{xr:XR}{Y:Cx}{call:Nat->List W->Mem->Res W}{gv:List T}
variable(Y call gv xr) in
def Ins(elt:Expr)(gens:List We):Nat->E->Prop
 |d,.emit a=>gens[d+1]?=none/\PE Y elt (tE Y.K call gv xr a)
 |d,.more it tg cs inner=>(∃target iter ifs,gens[d+1]?=some ⟨target,iter,ifs,0⟩/\PI Y target iter (tI Y.K call gv xr it)/\(∀x,WR iter Y.env x=pure x)/\PG Y target (gT Y.K tg)/\PTs Y call gv xr cs ifs) /\
  (∀i∈tgS tg,i∉innS inner)/\(∀i∈tgS tg++innS inner,i<Y.N.length)/\Ins elt gens (d+1) inner
 |_,_=>False
theorem Zhv{α:Type}{M:Model}{A:Around}{t:Sem α}{Q:α->Shared->Prop}{E:Value->Shared->Prop}{s:Shared}(hxe:∀e s,¬Y.xe e s)(h:wpAny M A t Q Y.xe s):wpAny M A t Q E s:=W2 h (λ_ _ q=>q) λ_ _ z=>(hxe _ _ z).elim
abbrev turnF(call:Nat->List W->Mem->Res W)(gv:List T)(cs:Es)(inner:E):Env->Mem->Res (List T):=λenv m=>(tests call gv cs env m).bind λk m=>if k then(ev call gv inner env m).bind Ze7 else .ok [] m
def Zf1(Y:Cx)(Acc:Heap->List V->Prop)(D:Addr)(S:List Nat)(pins:List (Addr×Obj))(σ:L2.St)(cm:List Addr)(m:Mem)(H:Hp)(vs:List V)(out:List T)(m':Mem)(s':Shared):Prop:=
 ∃σ' H' cm' vs',Inv Y pins σ' H' s'/\Ext cm m H cm' m' H'/\MemR Y.K cm' m' H'/\RTs Y.K cm' m' H' out vs'/\Acc s'.heap (vs++vs')/\Agree S σ σ'/\H' D=none
abbrev CEnd(Y:Cx)(D:Addr):=Zf1 Y (λh vs=>AccAt h D vs) D
theorem AccAt.keep{h h':Heap}{D:Addr}{vs:List V}(a:AccAt h D vs)(k:∀o,h.get? D=some o->h'.get? D=some o):AccAt h' D vs:=by
 obtain⟨z,its,n,r,e⟩:=a
 exact⟨z,its,n,r,k _ e⟩
theorem EnvR.agree{K:Frag}{cm:List Addr}{m:Mem}{H:Hp}{env:Env}{σ σ':L2.St}{S:List Nat}(h:EnvR K cm m H env σ)(a:Agree S σ σ')(n:∀i∈S,∀w,env[i]?≠some (some w)):EnvR K cm m H env σ':=λi w e=>by
 obtain⟨v,h1,h2⟩:=h i w e
 refine⟨v,?_,h2⟩
 rw[a i λz=>n i z w e]
 exact h1
theorem Agree.trans{S:List Nat}{a b c:L2.St}(h:Agree S a b)(g:Agree S b c):Agree S a c:=λi hi=>(g i hi).trans (h i hi)
theorem Agree.mono{S S':List Nat}{a b:L2.St}(h:Agree S a b)(g:∀i∈S,i∈S'):Agree S' a b:=λi hi=>h i λz=>hi (g i z)
theorem Agree.refl{S:List Nat}{a:L2.St}:Agree S a a:=λ_ _=>rfl
theorem ZfW{tg:Tg}{t:T}{env env':Env}(e:Qn tg t env=some env'){i:Nat}(hi:i∉tgS tg):env'[i]?=env[i]?:=by
 cases tg with
 |nm j =>
  cases e
  rw[Yv]
  intro z;exact hi (by simp[tgS,z])
 |tp is =>
  unfold Qn at e
  dsimp only at e
  split at e
  ·split at e<;>cases e
   rename_i ts hl
   have:∀(is:List Nat) (ts:List T) (env:Env),i∉is->((is.zip ts).foldl (λenv p=>env.set p.1 (some (.t p.2))) env)[i]?=env[i]?:=by
    intro is
    induction is with
    |nil=>intro ts env _;rfl
    |cons j is ih =>
     intro ts env h
     cases ts with
     |nil=>rfl
     |cons t ts =>
      rw[Yh]at h
      rw[Gi,Ut,ih ts _ λz=>h (.inr z),Yv λz=>h (.inl z.symm)]
   exact this is ts env hi
  ·cases e
theorem Zj{α β:Type}{r:Res α}{f:α->Mem->Res β}{y:β}{m':Mem}(h:r.bind f=.ok y m'):∃x m,r=.ok x m/\f x m=.ok y m':=by
 cases r with
 |ok x m=>exact⟨x,m,rfl,h⟩
 |exc _ _=>cases h
 |stuck=>cases h
theorem ZaT{w:W}{m m':Mem}{ts:List T}(h:Ze7 w m=.ok ts m'):w=.t (.lst ts)/\m'=m:=by
 unfold Ze7 at h
 split at h<;>cases h
 exact⟨rfl,rfl⟩
theorem ZeK{K:Frag}{cm:List Addr}{m m':Mem}{H:Hp}{w:W}{v:V}{t:T}(M:MemR K cm m H)(r:RW K cm m H w v)(e:frz w m=.ok t m'):Ext cm m H cm m' H/\MemR K cm m' H/\RT K cm m' H t v:=by
 cases w with
 |t x=>cases e;exact⟨.refl,M,r⟩
 |f a=>cases e
 |x _ _ _=>cases e
 |c i =>
  unfold frz at e
  dsimp only at e
  split at e
  ·rename_i ts h
   cases e
   obtain⟨a,vs,q1,q2,q3,q4,q5,q6,q7⟩:=ZkM M h
   obtain⟨b,h1,h2⟩:=r
   rw[q1]at h1;cases h1
   subst h2
   exact⟨q4,q5,q7⟩
  ·cases e
theorem Zke{pins:List (Addr×Obj)}{H:Hp}{b:Addr}{fp:List Addr}{h:Heap}(f:FpOk Y pins H b)(n:b∉fp):FpOk Y (pins++XJ fp h) H b:=
 ⟨f.1,f.2.1,f.2.2.1,f.2.2.2.1,f.2.2.2.2.1,λp hp z=>by
  rw[<-Wm]at hp
  rcases Gs.mp hp with hp|hp
  ·exact f.2.2.2.2.2 p hp z
  ·exact n (by rw[<-z];exact(Zeo hp).1)⟩
structure AccK (D:Addr) (Acc:Heap->List V->Prop):Prop where
 obj:∀{h vs},Acc h vs->∃o,h.get? D=some o/\∀v,o.data≠.cell v
 keep:∀{h h' vs},Acc h vs->(∀o,h.get? D=some o->h'.get? D=some o)->Acc h' vs
theorem ZbN(D:Addr):AccK D (λh vs=>AccAt h D vs):=⟨λ⟨_,_,_,_,e⟩=>⟨_,e,λv z=>by cases z⟩,λa k=>a.keep k⟩
theorem ZbM{pins:List (Addr×Obj)}{s:Shared}{σ:L2.St}{H:Hp}{D:Addr}{Acc:Heap->List V->Prop}(hA:AccK D Acc){vs:List V}(I:Inv Y pins σ H s)(f:FpOk Y pins H D)(a:Acc s.heap vs):Inv Y (pins++XJ [D] s.heap) σ H s:=by
 refine I.pinned (λb hb=>?_) λb hb=>?_
 ·have e:b=D:=by simpa using hb
  rw[e];exact f
 ·have e:b=D:=by simpa using hb
  obtain⟨o,q,n⟩:=hA.obj a
  rw[e]
  exact⟨_,q,n⟩
theorem Zbf{pins:List (Addr×Obj)}{h:Heap}{s:Shared}{σ:L2.St}{H:Hp}{D:Addr}{Acc:Heap->List V->Prop}(hA:AccK D Acc){vs:List V}(a:Acc h vs)(I:Inv Y pins σ H s)(hp:∀o,h.get? D=some o->(D,o)∈pins):Acc s.heap vs/\H D=none:=by
 obtain⟨o,q,_⟩:=hA.obj a
 obtain⟨h1,h2,_⟩:=I.pin _ (Ym _ (hp _ q))
 refine⟨hA.keep a λo' e=>?_,h2⟩
 rw[q]at e;cases e
 exact h1
theorem ZkY{pins:List (Addr×Obj)}{s:Shared}{σ:L2.St}{H:Hp}{D:Addr}{vs:List V}(I:Inv Y pins σ H s)(f:FpOk Y pins H D)(a:AccAt s.heap D vs):Inv Y (pins++XJ [D] s.heap) σ H s:=ZbM (ZbN D) I f a
theorem Znu{pins:List (Addr×Obj)}{h:Heap}{s:Shared}{σ:L2.St}{H:Hp}{D:Addr}{vs:List V}(a:AccAt h D vs)(I:Inv Y pins σ H s)(hp:∀o,h.get? D=some o->(D,o)∈pins):AccAt s.heap D vs/\H D=none:=Zbf (ZbN D) a I hp
abbrev Zk8(target iter:Expr)(ifs:List Expr)(env:Ws)(it:Value)(c:Code)(br:Sem YbC):Sem YbC:=
 Gz iter.pos >>= λ_=>pyNext it >>= λr=>match r with
  |none=>pure (.done .next)
  |some v=>U0 target it v >>= λ_=>assign target env v >>= λ_ =>
   (forIn ifs true λc r=>if r=true then do let ok <-isTrue c env (eval c env);pure (Ug ok)else pure (Ug r)) >>= λok=>if ok=true then br else again c
theorem ZbF(hc:Y.calm=true)(hxe:∀e s,¬Y.xe e s){ce:Expr}{D:Addr}{Acc:Heap->List V->Prop}(hA:AccK D Acc){L:Nat}{Pt:T->Prop}{inner:E}{d:Nat}{target iter:Expr}{ifs:List Expr}{tg:Tg}{cs:Es}{it:Addr}{br:Sem YbC}(hu:Y.A.under (.compLoop ce d (.ref it) (.ref D) Y.env)=Y.A)(hd:(model Y.prog Y.w).den (.compLoop ce d (.ref it) (.ref D) Y.env)=(Yai ce d (.ref it) (.ref D) Y.env).onRaise (λx=>do YaO x Y.env;theTreesLotGoes x))(code:Yai ce d (.ref it) (.ref D) Y.env=Zk8 target iter ifs Y.env (.ref it) (.compLoop ce d (.ref it) (.ref D) Y.env) br)(hg:PG Y target (gT Y.K tg))(ht:PTs Y call gv xr cs ifs)(hdis:∀i∈tgS tg,i∉innS inner)(hlt:∀i∈tgS tg++innS inner,i<Y.N.length)(hbr:∀{pins:List (Addr×Obj)}{s:Shared}{σ:L2.St}{H:Hp}{cm:List Addr}{m m':Mem}{env:Env}{out:List T}{vs:List V},Inv Y pins σ H s->FpOk Y pins H D->Acc s.heap vs->EnvR Y.K cm m H env σ->(∀i∈innS inner,∀w,env[i]?≠some (some w))->MemR Y.K cm m H ->
   (ev call gv inner env m).bind Ze7=.ok out m'->vs.length+out.length<=L->(∀t∈out,Pt t) ->
   wpAny (model Y.prog Y.w) Y.A br (λfin s'=>fin=.again (.compLoop ce d (.ref it) (.ref D) Y.env)/\Zf1 Y Acc D (innS inner) pins σ cm m H vs out m' s') Y.xe s){pins:List (Addr×Obj)}{s:Shared}{σ:L2.St}{H:Hp}{cm:List Addr}{m m':Mem}{env:Env}{ts out:List T}{J:It}{fp:List Addr}{tn:Nat->Heap->Prop}{vs:List V}(I:Inv Y pins σ H s)(hD:FpOk Y pins H D)(ha:Acc s.heap vs)(hT:Turn Y.prog Y.w Y.K target J fp it tn)(h0:tn 0 s.heap)(hf:∀b∈fp,FpOk Y pins H b)(hDf:D∉fp)(hE:EnvR Y.K cm m H env σ)(hn:∀i∈tgS tg++innS inner,∀w,env[i]?≠some (some w))(M:MemR Y.K cm m H)(hs:Src Y.K cm m H J ts)(ok:QW (turnF call gv cs inner) tg ts env m=.ok out m')(hl:vs.length+out.length<=L)(hpt:∀t∈out,Pt t):
  Vd (model Y.prog Y.w) Y.A (.compLoop ce d (.ref it) (.ref D) Y.env) (λr s'=>r=.ok .next/\Zf1 Y Acc D (tgS tg++innS inner) pins σ cm m H vs out m' s') s:=by
 have statD:∀{H1:Hp},H1 D=none->FpOk Y pins H1 D:=λh=>⟨h,hD.2⟩
 have stat:∀{H1:Hp},(∀b∈fp,H1 b=none)->∀b∈fp,FpOk Y pins H1 b:=λh b hb=>⟨h b hb,(hf b hb).2⟩
 refine codeAny_loop rfl (λn s1=>∃i σ1 H1 cm1 m1 vs1 done rest,Inv Y pins σ1 H1 s1/\tn i s1.heap/\(∀b∈fp,H1 b=none)/\H1 D=none/\Ext cm m H cm1 m1 H1/\MemR Y.K cm1 m1 H1/\Agree (tgS tg++innS inner) σ σ1 /\
   Acc s1.heap (vs++vs1)/\RTs Y.K cm1 m1 H1 done vs1/\QW (turnF call gv cs inner) tg (ts.drop i) env m1=.ok rest m'/\out=done++rest/\n=ts.length+1-i/\i<=ts.length) ?_ (ts.length+1)
  ⟨0,σ,H,cm,m,[],[],out,I,h0,λb hb=>(hf b hb).1,hD.1,.refl,M,.refl,by rw[Ua];exact ha,.nil,by rw[YaG];exact ok,rfl,rfl,Wy _⟩
 rintro n s1 ⟨i,σ1,H1,cm1,m1,vs1,done,rest,I1,st1,fr1,d1,x1,M1,ag1,a1,r1,ok1,eo,rfl,hi⟩
 rw[hu,hd]
 refine wpAny_noted ?_
 rw[code]
 refine Yb (W8 (Yb ?_))
 have hE1:EnvR Y.K cm1 m1 H1 env σ1:=(hE.ext x1 M M1).agree ag1 hn
 have s1':=hs.ext x1 M M1
 have I1D:=ZbM hA I1 (statD d1) a1
 have fpD:∀{H1:Hp},(∀b∈fp,H1 b=none)->∀b∈fp,FpOk Y (pins++XJ [D] s1.heap) H1 b:=λh b hb=>Zke (stat h b hb) λz=>hDf (by
  have e:b=D:=by simpa using z
  rw[<-e];exact hb)
 have inD:∀o,s1.heap.get? D=some o->(D,o)∈pins++XJ [D] s1.heap:=λo e=>Ym _ (ZX (by simp) e)
 cases et:ts[i]? with
 |none =>
  refine Zhv hxe (thn (hT.done Y rfl rfl rfl hc i _ s1 σ1 H1 Y.xe I1D (fpD fr1) st1 (Src.stop M1 s1' et)) λr s2 ⟨hr,I2⟩=>?_)
  subst hr
  have hd:ts.drop i=[]:=Uk (Vj.mp et)
  rw[hd]at ok1
  unfold QW at ok1
  cases ok1
  rw[Ua]at eo
  subst eo
  exact Yd ⟨rfl,σ1,H1,cm1,vs1,I2.unpinned,x1,M1,r1,(Zbf hA a1 I2 inD).1,ag1,(Zbf hA a1 I2 inD).2⟩
 |some t =>
  obtain⟨go,yl⟩:=Src.go M1 s1' et
  have hit:i<ts.length:=(Yi.mp et).1
  have hd:ts.drop i=t::ts.drop (i+1):=by
   rw[WT hit]
   congr 1
   exact YG ((Yn hit).symm.trans et)
  rw[hd]at ok1
  unfold QW at ok1
  split at ok1
  ·cases ok1
  ·rename_i env' eb
   obtain⟨xs,m2,ok2,ok3⟩:=Zj ok1
   obtain⟨ys,m3,ok4,ok5⟩:=Zj ok3
   cases ok5
   obtain⟨k,m4,okt,okb⟩:=Zj ok2
   refine Zhv hxe (thn (hT.item Y rfl rfl rfl hc i _ s1 σ1 H1 Y.xe I1D (fpD fr1) st1 go) λr s2 ⟨u,hr,h2⟩=>?_)
   subst hr
   refine Yb (Zhv hxe (thn h2 λ_ s3 ⟨x,H3,I3,rx,y3,st3,fr3⟩=>?_))
   obtain⟨xy,My,rt⟩:=yl x H3 y3
   have hE1:=hE1.ext xy M1 My
   have x1:=x1.trans xy
   have r1:=RTs.ext xy M1 My r1
   have M1:=My
   -- pinned: the list that is filled,and the iterator
   have I3':=I3.pinned (fpD fr3) (hT.obj _ _ st3)
   refine Yb (Zhv hxe (thn (hg _ s3 σ1 H3 x u (λσ' H'=>H'=H3/\EnvR Y.K cm1 m1 H3 env' σ'/\Agree (tgS tg) σ1 σ') I3' rx (ZoS hE1 (λj hj=>by rw[I3.len];exact hlt j (Wi _ hj)) rt eb λσ' h1 h2=>⟨rfl,h1,h2⟩)) λ_ s4 ⟨σ4,H4,I4,e4,hE4,ag4⟩=>?_))
   subst e4
   refine Yb (Zhv hxe (thn (ZdX ht I4 hE4 M1 okt) λb s5 ⟨hb,H5,cm5,I5,x5,M5⟩=>?_))
   subst hb
   have a5:=Zbf hA a1 I5 λo e=>Wi _ (inD o e)
   have st5:tn (i+1) s5.heap:=hT.keep _ _ _ st3 λb hb o e=>(I5.pin (b,o) (Ym _ (Ym _ (ZX hb e)))).1
   have f5:∀b∈fp,H5 b=none:=λb hb=>by
    obtain⟨o,e,dd⟩:=hT.obj _ _ st3 b hb
    exact(I5.pin (b,o) (Ym _ (Ym _ (ZX hb e)))).2.1
   have ag45:Agree (tgS tg++innS inner) σ σ4:=ag1.trans (ag4.mono λi hi=>Wi _ hi)
   cases b with
   |false =>
    rw[if_neg Yl]at okb ⊢
    cases okb
    rw[G4]at eo
    exact Yd ⟨rfl,_,by omega,i+1,σ4,H5,cm5,m2,vs1,done,ys,I5.unpinned.unpinned,st5,f5,a5.2,x1.trans x5,M5,ag45,a5.1,RTs.ext x5 M1 M5 r1,ok4,eo,rfl,hit⟩
   |true =>
    rw[if_pos rfl]at okb ⊢
    have I6:Inv Y (pins++XJ fp s5.heap) σ4 H5 s5:=I5.unpinned.unpinned.pinned (stat f5) (hT.obj _ _ st5)
    have hv:=r1.length
    have hz:(vs++vs1).length+xs.length<=L:=by
     rw[Yr,<-hv]
     rw[eo,Yr,Yr]at hl
     omega
    have hn6:∀j∈innS inner,∀w,env'[j]?≠some (some w):=λj hj w=>by
     rw[ZfW eb λz=>hdis j z hj]
     exact hn j (Ym _ hj) w
    refine Zhv hxe (thn (hbr I6 (Zke (statD a5.2) hDf) a5.1 (hE4.ext x5 M1 M5) hn6 M5 okb hz λt ht'=>hpt t (by rw[eo];exact Ym _ (Wi _ ht'))) λfin s7 ⟨hfin,σ7,H7,cm7,vs7,I7,x7,M7,r7,a7,ag7,d7⟩=>?_)
    subst hfin
    have keep7:∀b∈fp,∀o,s5.heap.get? b=some o->s7.heap.get? b=some o:=λb hb o e=>(I7.pin (b,o) (Ym _ (Ym _ (ZX hb e)))).1
    refine⟨rfl,_,by omega,i+1,σ7,H7,cm7,m2,vs1++vs7,done++xs,ys,I7.unpinned,hT.keep _ _ _ st5 keep7,λb hb=>?_,?_,(x1.trans x5).trans x7,M7,ag45.trans (ag7.mono λi hi=>Ym _ hi),by rw[<-Wm];exact a7,
     ZZ (RTs.ext x7 M5 M7 (RTs.ext x5 M1 M5 r1)) r7,ok4,by rw[eo,Wm],rfl,hit⟩
    ·obtain⟨o,e,dd⟩:=hT.obj _ _ st5 b hb
     exact(I7.pin (b,o) (Ym _ (Ym _ (ZX hb e)))).2.1
    ·exact d7
theorem ZdL{prog:YK}{w:World}{A:Around}{R:Result->Shared->Prop}{s:Shared}{elt:Expr}{gens:List We}{scope:Scope}{pos:Pos}{d:Nat}{target iter:Expr}{ifs:List Expr}{it acc:Value}{env:Ws}(hg:gens[d]?=some ⟨target,iter,ifs,0⟩)(h0:Vd (model prog w) A (.compLoop (.ListComp elt gens scope pos) d it acc env) R s)(h:wpAny (model prog w) A (pyIter it) (λit' s'=>Vd (model prog w) A (.compLoop (.ListComp elt gens scope pos) d it' acc env) R s') (notedBy (model prog w) A env λx s'=>R (.error x) s') s):
  Vd (model prog w) A (.compStart (.ListComp elt gens scope pos) d it acc env) R s:=by
 refine codeAny_of_tree ?_
 show wpAny _ _ ((YbD (.ListComp elt gens scope pos) d it acc env).onRaise (λx=>do YaO x env;Gz Ybe)) _ _ s
 refine wpAny_notedAt ?_
 unfold YbD
 have e:(Ycs (.ListComp elt gens scope pos))[d]?=some ⟨target,iter,ifs,0⟩:=hg
 rw[e]
 show wpAny _ _ (ask >>= _) _ _ s
 refine Yb (GJ (wpAny_ite ?_))
 split
 ·first
   |exact Yb (Yd (Yd (Y4 rfl h0)))
   |exact Yd (Y4 rfl h0)
 ·first
   |exact Yb (Vq (Yb (W8 (Yb (W2 h (λit' s' h'=>Yd (Y4 rfl h')) λ_ _ x=>x)))))
   |(refine Yb (Vq ?_);show wpAny _ _ (Gz iter.pos >>= _) _ _ s;exact Yb (W8 (Yb (W2 h (λit' s' h'=>Yd (Y4 rfl h')) λ_ _ x=>x))))
theorem Zh4{pins:List (Addr×Obj)}{s:Shared}{σ:L2.St}{H:Hp}{D:Addr}{vs:List V}{v:V}{u:Value}{E:Value->Shared->Prop}{Q:Value->Shared->Prop}(I:Inv Y pins σ H s)(f:FpOk Y pins H D)(a:AccAt s.heap D vs)(r:RelV v u)(hz:vs.length<YM)(q:∀s',Inv Y pins σ H s'->AccAt s'.heap D (vs++[v])->Q .none s'):wpAny (model Y.prog Y.w) Y.A (U8 (.builtin "list.append") [.ref D,u]) Q E s:=by
 obtain⟨z,its,n,rv,e⟩:=a
 have hl:=rv.length
 refine GP F.slot_list_append ⟨_,e,rfl⟩ F.entry_list_append (F.args_list_append_2 _ _) (PySem.list_append D its.toArray n u (by rw[Yk];omega)) ⟨e,?_⟩
 have e2:=PySem.IsL.update e (·.push u)
 have hf:its.toArray.push u=(its++[u]).toArray:=by simp
 rw[hf]at e2
 obtain⟨f0,f1,f2,f3,f4,f5⟩:=f
 refine q _ (I.turned (t':=s.toks) (it:=D) (λb o hb eb=>(Wd s.heap (YT (·.push u)) (Ui hb)).trans eb) f0 f1 f3 f4 f5) ⟨?_,its++[u],_,rv.append (.cons r .nil),e2⟩
 rw[Yr,Y5]
 omega
theorem Zcp{K:Frag}{cm:List Addr}{m m1:Mem}{H:Hp}{w:W}{ts:List T}(M:MemR K cm m H)(e:Z3 w m=.ok ts m1):Ext cm m H cm m1 H/\MemR K cm m1 H:=by
 cases w with
 |t t =>
  unfold Z3 at e
  dsimp only at e
  split at e<;>cases e
  exact⟨.refl,M⟩
 |f a=>cases e
 |x _ _ _=>cases e
 |c i =>
  unfold Z3 at e
  dsimp only at e
  split at e
  ·cases e
   exact ZkL M (by assumption)
  ·cases e
theorem ZjF(hc:Y.calm=true)(hxe:∀e s,¬Y.xe e s){elt:Expr}{gens:List We}{scope:Scope}{pos:Pos}{D:Addr}:∀(inner:E) (d:Nat) (target iter:Expr) (ifs:List Expr) (tg:Tg) (cs:Es),gens[d]?=some ⟨target,iter,ifs,0⟩ ->
  PG Y target (gT Y.K tg)->PTs Y call gv xr cs ifs->Ins xr Y call gv elt gens d inner->(∀i∈tgS tg,i∉innS inner)->(∀i∈tgS tg++innS inner,i<Y.N.length) ->
  ∀{pins:List (Addr×Obj)}{s:Shared}{σ:L2.St}{H:Hp}{cm:List Addr}{m m':Mem}{env:Env}{ts out:List T}{J:It}{it:Addr}{fp:List Addr}{tn:Nat->Heap->Prop}{vs:List V},Inv Y pins σ H s->FpOk Y pins H D->AccAt s.heap D vs ->
   Turn Y.prog Y.w Y.K target J fp it tn->tn 0 s.heap->(∀b∈fp,FpOk Y pins H b)->D∉fp->EnvR Y.K cm m H env σ->(∀i∈tgS tg++innS inner,∀w,env[i]?≠some (some w))->MemR Y.K cm m H->Src Y.K cm m H J ts ->
   QW (turnF call gv cs inner) tg ts env m=.ok out m'->vs.length+out.length<=lim ->
   Vd (model Y.prog Y.w) Y.A (.compLoop (.ListComp elt gens scope pos) d (.ref it) (.ref D) Y.env) (λr s'=>r=.ok .next/\CEnd Y D (tgS tg++innS inner) pins σ cm m H vs out m' s') s
 |.emit a=>@λd target iter ifs tg cs hg pg pt hin hdis hlt pins s σ H cm m m' env ts out J it fp tn vs I hD ha hT h0 hf hDf hE hn M hs ok hl=>by
  obtain⟨hnx,pe⟩:=hin
  refine ZbF hc hxe (ZbN D) (br:=do(do let _ <-U8 (.builtin "list.append") [.ref D,<-eval elt Y.env]);again (.compLoop (.ListComp elt gens scope pos) d (.ref it) (.ref D) Y.env)) rfl rfl (ZdK hg hnx) pg pt hdis hlt ?_ I hD ha hT h0 hf hDf hE hn M hs ok hl (Pt:=λ_=>True) (λ_ _=>trivial)
  intro pins s σ H cm m m' env out vs I hD ha hE hn M ok hl _
  obtain⟨w,m1,ok1,ok2⟩:=Zj ok
  obtain⟨rfl,rfl⟩:=ZaT ok2
  unfold ev at ok1
  obtain⟨w1,m2,ok3,ok4⟩:=Zj ok1
  obtain⟨t,m3,ok5,ok6⟩:=Zj ok4
  cases ok6
  have hz:=ZV
  refine Yb (Yb (thn (Zgo pe (ZkY I hD ha) hE M ok3) λu s1 ⟨v,H1,I1,rv,cm1,x1,M1,r1⟩=>?_))
  obtain⟨a1,d1⟩:=Znu ha I1 λo e=>Ym _ (ZX (by simp) e)
  obtain⟨x2,M2,r2⟩:=ZeK M1 r1 ok5
  have I1':Inv Y pins σ H1 s1:=I1.unpinned
  refine Yb (Zh4 I1' ⟨d1,hD.2⟩ a1 rv (by simp at hl;omega) λs2 I2 a2=>Yd (Yd ⟨rfl,σ,H1,cm1,[v],I2,x1.trans x2,M2,.cons r2 .nil,a2,.refl,d1⟩))
 |.more it' tg' cs' inner'=>@λd target iter ifs tg cs hg pg pt hin hdis hlt pins s σ H cm m m' env ts out J it fp tn vs I hD ha hT h0 hf hDf hE hn M hs ok hl=>by
  obtain⟨⟨target',iter',ifs',hnx,pi,hfs,pg',pt'⟩,hdis',hlt',hin'⟩:=hin
  have rec_:=@ZjF hc hxe elt gens scope pos D inner' (d+1) target' iter' ifs' tg' cs' hnx pg' pt' hin' hdis' hlt'
  refine ZbF hc hxe (ZbN D) rfl rfl (ZdJ hg hnx) pg pt hdis hlt ?_ I hD ha hT h0 hf hDf hE hn M hs ok hl (Pt:=λ_=>True) (λ_ _=>trivial)
  intro pins s σ H cm m m' env out vs I hD ha hE hn M ok hl _
  obtain⟨w,m1,ok1,ok2⟩:=Zj ok
  obtain⟨rfl,rfl⟩:=ZaT ok2
  unfold ev at ok1
  obtain⟨w1,m2,ok3,ok4⟩:=Zj ok1
  obtain⟨ts',m3,ok5,ok6⟩:=Zj ok4
  obtain⟨out',m4,ok7,ok8⟩:=Zj ok6
  cases ok8
  have hz:=ZV
  refine Yb (thn (pi _ s σ H (λJ H1=>∃cm1,Ext cm m H cm1 m2 H1/\MemR Y.K cm1 m2 H1/\Src Y.K cm1 m3 H1 J ts') (ZkY I hD ha) ⟨env,cm,m,hE,M,by
   rw[ok3]
   exact λcm1 H1 x M1=>⟨ts',m3,ok5,λJ hs=>⟨cm1,x,M1,hs⟩⟩⟩) λxv s1 h1=>?_)
  refine Yb (W8 (Yb (wpAny_of_eq (hfs xv) (Yb (Wj (thn h1 λitv s2 h2=>?_))))))
  obtain⟨it2,fp2,tn2,J2,H2,rfl,I2,T2,st2,f2,cm2,x2,M2,hs2⟩:=h2
  obtain⟨a2,d2⟩:=Znu ha I2 λo e=>Ym _ (ZX (by simp) e)
  have hDf2:D∉fp2:=λz=>by
   obtain⟨_,its,n,_,e⟩:=id ha
   exact(f2 D z).2.2.2.2.2 (D,_) (Ym _ (Ym _ (ZX (by simp) e))) rfl
  have f2':∀b∈fp2,FpOk Y pins H2 b:=λb hb=>⟨(f2 b hb).1,(f2 b hb).2.1,(f2 b hb).2.2.1,(f2 b hb).2.2.2.1,(f2 b hb).2.2.2.2.1,λp hp=>(f2 b hb).2.2.2.2.2 p (by rw[<-Wm];exact Wi _ hp)⟩
  have hb3:Ext cm2 m2 H2 cm2 m3 H2/\MemR Y.K cm2 m3 H2:=Zcp M2 ok5
  have E2:EnvR Y.K cm2 m3 H2 env σ:=(hE.ext x2 M M2).ext hb3.1 M2 hb3.2
  have go:=rec_ I2.unpinned ⟨d2,hD.2⟩ a2 T2 st2 f2' hDf2 E2 hn hb3.2 hs2 ok7 hl
  have self:Vd (model Y.prog Y.w) Y.A (.compStart (.ListComp elt gens scope pos) (d+1) (.ref it2) (.ref D) Y.env) _ s2:=ZdL hnx go (T2.self Y.A 0 s2 _ _ st2 go)
  refine Yb (wpAny_runOwn (V2 self λr s3 ⟨hr,σ3,H3,cm3,vs3,I3,x3,M3,r3,a3,ag3,d3⟩=>?_))
  subst hr
  obtain⟨x4,M4,sm⟩:=ZaD M2 ok5 x3 M3
  exact Yd ⟨rfl,σ3,H3,cm3,vs3,I3,x2.trans x4,M4,Zi (λ_ _ z=>sm _ _ z) r3,a3,ag3,d3⟩
 |.var _=>@λd target iter ifs tg cs hg pg pt hin=>hin.elim
 |.gl _=>@λd target iter ifs tg cs hg pg pt hin=>hin.elim
 |.con _=>@λd target iter ifs tg cs hg pg pt hin=>hin.elim
 |.bin _ _ _=>@λd target iter ifs tg cs hg pg pt hin=>hin.elim
 |.neg _=>@λd target iter ifs tg cs hg pg pt hin=>hin.elim
 |.not _=>@λd target iter ifs tg cs hg pg pt hin=>hin.elim
 |.and _ _=>@λd target iter ifs tg cs hg pg pt hin=>hin.elim
 |.or _ _=>@λd target iter ifs tg cs hg pg pt hin=>hin.elim
 |.one _=>@λd target iter ifs tg cs hg pg pt hin=>hin.elim
 |.cmp _ _ _=>@λd target iter ifs tg cs hg pg pt hin=>hin.elim
 |.chn _ _ _ _ _=>@λd target iter ifs tg cs hg pg pt hin=>hin.elim
 |.ite _ _ _=>@λd target iter ifs tg cs hg pg pt hin=>hin.elim
 |.tup _=>@λd target iter ifs tg cs hg pg pt hin=>hin.elim
 |.lst _=>@λd target iter ifs tg cs hg pg pt hin=>hin.elim
 |.cel _=>@λd target iter ifs tg cs hg pg pt hin=>hin.elim
 |.celL _=>@λd target iter ifs tg cs hg pg pt hin=>hin.elim
 |.celb _ _=>@λd target iter ifs tg cs hg pg pt hin=>hin.elim
 |.celA _ _=>@λd target iter ifs tg cs hg pg pt hin=>hin.elim
 |.dsp _ _=>@λd target iter ifs tg cs hg pg pt hin=>hin.elim
 |.ix _ _=>@λd target iter ifs tg cs hg pg pt hin=>hin.elim
 |.slc _ _ _=>@λd target iter ifs tg cs hg pg pt hin=>hin.elim
 |.rev _=>@λd target iter ifs tg cs hg pg pt hin=>hin.elim
 |.hole=>@λd target iter ifs tg cs hg pg pt hin=>hin.elim
 |.call _ _=>@λd target iter ifs tg cs hg pg pt hin=>hin.elim
 |.blt _ _=>@λd target iter ifs tg cs hg pg pt hin=>hin.elim
 |.mth _ _ _=>@λd target iter ifs tg cs hg pg pt hin=>hin.elim
 |.isi _ _=>@λd target iter ifs tg cs hg pg pt hin=>hin.elim
 |.comp _ _ _ _ _ _=>@λd target iter ifs tg cs hg pg pt hin=>hin.elim
 |.tr _=>@λd target iter ifs tg cs hg pg pt hin=>hin.elim
 |.fnv _=>@λd target iter ifs tg cs hg pg pt hin=>hin.elim
 |.callV _ _ _=>@λd target iter ifs tg cs hg pg pt hin=>hin.elim
 |.fst _=>@λd target iter ifs tg cs hg pg pt hin=>hin.elim
 |.xat _ _ _=>@λd target iter ifs tg cs hg pg pt hin=>hin.elim
 |.xis _ _ _=>@λd target iter ifs tg cs hg pg pt hin=>hin.elim
 |.gdg _ _=>@λd target iter ifs tg cs hg pg pt hin=>hin.elim
 |.ptd _ _=>@λd target iter ifs tg cs hg pg pt hin=>hin.elim
 |.gdn _ _ _=>@λd target iter ifs tg cs hg pg pt hin=>hin.elim
 |.dsn _ _=>@λd target iter ifs tg cs hg pg pt hin=>hin.elim
 |.emit2 _ _=>@λd target iter ifs tg cs hg pg pt hin=>hin.elim
 |.sortk _ _ _=>@λd target iter ifs tg cs hg pg pt hin=>hin.elim
end
theorem Zc4{scope:Scope}{env:Ws}(h:∀x,(x,YW)∈scope.names->∃c,env.cells.lookup x=some c):
  ∃cl,Ycg scope env=pure cl/\(∀x c,cl.lookup x=some c->env.cells.lookup x=some c)/\∀x,(x,YW)∈scope.names->∃c,cl.lookup x=some c:=by
 have go:∀(ns:List (Str×G8)) (acc:List (Str×Addr)),(∀x,(x,YW)∈ns->∃c,env.cells.lookup x=some c)->(∀x c,acc.lookup x=some c->env.cells.lookup x=some c) ->
   ∃cl,(forIn ns acc λ(x:Str×G8) cs=>(match x with|(name,kind)=>if(kind==YW)=true then do let a <-cellOf env name;pure (Ug ((name,a)::cs))else pure (Ug cs):Sem (ForInStep (List (Str×Addr)))))=pure cl /\
    (∀x c,cl.lookup x=some c->env.cells.lookup x=some c)/\(∀x,(x,YW)∈ns->∃c,cl.lookup x=some c)/\∀x c,acc.lookup x=some c->∃c,cl.lookup x=some c:=by
  intro ns
  induction ns with
  |nil=>intro acc _ h2;exact⟨acc,rfl,h2,λx hx=>absurd hx (by simp),λx c e=>⟨c,e⟩⟩
  |cons p ns ih =>
   intro acc h1 h2
   obtain⟨n,k⟩:=p
   have h1':∀x,(x,YW)∈ns->∃c,env.cells.lookup x=some c:=λx hx=>h1 x (Yg _ hx)
   by_cases hk:k=.free
   ·subst hk
    obtain⟨c,hc⟩:=h1 n Yp
    have h2':∀x d,((n,c)::acc).lookup x=some d->env.cells.lookup x=some d:=λx d e=>by
     rw[Wk]at e
     cases hx:x==n with
     |true=>rw[hx]at e;cases e;rw[eq_of_beq hx];exact hc
     |false=>rw[hx]at e;exact h2 x d e
    obtain⟨cl,e1,e2,e3,e4⟩:=ih ((n,c)::acc) h1' h2'
    refine⟨cl,?_,e2,λx hx=>?_,λx d e=>?_⟩
    ·rw[VD]
     simp only[beq_self_eq_true,if_true,cellOf,hc,pure_bind]
     exact e1
    ·rcases Yh.mp hx with z|z
     ·cases z
      exact e4 n c (by rw[Wk,beq_self_eq_true])
     ·exact e3 x z
    ·by_cases hx:x=n
     ·subst hx;exact e4 x c (by rw[Wk,beq_self_eq_true])
     ·exact e4 x d (by rw[Wk,beq_eq_false_iff_ne.mpr hx];exact e)
   ·obtain⟨cl,e1,e2,e3,e4⟩:=ih acc h1' h2
    have hb:(k==YW)=false:=beq_eq_false_iff_ne.mpr hk
    refine⟨cl,?_,e2,λx hx=>?_,e4⟩
    ·rw[VD]
     simp only[hb,YD,if_false,pure_bind]
     exact e1
    ·rcases Yh.mp hx with z|z
     ·cases z;exact absurd rfl hk
     ·exact e3 x z
 obtain⟨cl,e1,e2,e3,_⟩:=go scope.names [] h (λx c e=>by simp at e)
 refine⟨cl,?_,e2,e3⟩
 unfold Ycg
 have:(forIn scope.names ([]:List (Str×Addr)) λ(x:Str×G8) cs=>(match x with|(name,kind)=>if(kind==YW)=true then do let a <-cellOf env name;pure (Ug ((name,a)::cs))else pure (Ug cs):Sem (ForInStep (List (Str×Addr))))) >>= (λcs=>pure cs)=(pure cl:Sem (List (Str×Addr))):=by rw[e1];rfl
 exact this
section
variable{xr:XR}{X:Cx}{call:Nat->List W->Mem->Res W}{gv:List T}
abbrev QB(X:Cx)(N':List Str)(scope:Scope)(cl:List (Str×Addr))(C:Addr)(s2:Shared)(H2:Hp)(fp:List Addr):Cx:=
 { X with N:=N',s₀:=s2,H₀:=H2,env:=compEnvC scope cl C X.env,outer:=X.stack,stack:=X.stack,ex:=fp,fn:=λx=>scope.names.lookup x==some .cell,pn:=[],xe:=λ_ _=>False }
structure CompSc (X:Cx) (N':List Str) (scope:Scope):Prop where
 kind:scope.kind=.function
 look:∀p∈scope.names,scope.names.lookup p.1=some p.2
 free:∀x,(x,YW)∈scope.names->X.env.kindOf x=some .cell∨X.env.kindOf x=some .free
theorem Zbi{scope:Scope}{env:Ws}(look:∀p∈scope.names,scope.names.lookup p.1=some p.2){x:Str}{k:G8}(h:(relabel scope env).names.lookup x=some k):
  ∃k',scope.names.lookup x=some k'/\(k=k'∨(k'=.free/\k=.cell)):=by
 have go:∀(ns:List (Str×G8)),(ns.map λ(n,k)=>if(k==YW&&env.scope.kind==.function&&env.kindOf n==some .cell)then(n,YaZ)else(n,k)).lookup x=some k->∃k',ns.lookup x=some k'/\(k=k'∨(k'=.free/\k=.cell)):=by
  intro ns
  induction ns with
  |nil=>intro h;simp at h
  |cons p r ih =>
   obtain⟨n,q⟩:=p
   intro h
   rw[Yq]at h
   by_cases hc:(q==YW&&env.scope.kind==.function&&env.kindOf n==some .cell)=true
   ·simp only[hc,if_true]at h
    rw[Wk]at h ⊢
    cases hx:x==n with
    |true =>
     rw[hx]at h;cases h
     rw[Yo,Yo]at hc
     exact⟨q,rfl,.inr ⟨eq_of_beq hc.1.1,rfl⟩⟩
    |false=>rw[hx]at h;exact ih h
   ·simp only[hc,YD,if_false]at h
    rw[Wk]at h ⊢
    cases hx:x==n with
    |true=>rw[hx]at h;cases h;exact⟨_,rfl,.inl rfl⟩
    |false=>rw[hx]at h;exact ih h
 exact go scope.names h
theorem Zb3{ns:List (Str×G8)}{x:Str}{k:G8}(h:ns.lookup x=some k):(x,k)∈ns:=WX h
structure CA (h:Heap) (lo:Nat) (cs:List (Str×Addr)):Prop where
 lt:∀x c,cs.lookup x=some c->c<h.objs.size
 inj:∀x y c,cs.lookup x=some c->cs.lookup y=some c->x=y
 new:∀x c,cs.lookup x=some c->lo<=c->h.IsCell c none
theorem Xb{α:Type}{x y:Str}{a c:α}{l:List (Str×α)}(h:List.lookup x ((y,a)::l)=some c):(x=y/\c=a)∨l.lookup x=some c:=by
 rw[Wk]at h
 cases e:x==y with
 |true=>rw[e]at h;cases h;exact .inl ⟨eq_of_beq e,rfl⟩
 |false=>rw[e]at h;exact .inr h
theorem ZfV:∀(names:List (Str×G8)) (h:Heap) (lo:Nat) (acc:List (Str×Addr)),CA h lo acc->lo<=h.objs.size->CA (pushCells h names) lo (Vz h.objs.size names acc)
 |[],_,_,_,x,_=>x
 |(name,kind)::r,h,lo,acc,x,hlo=>by
  unfold pushCells Vz
  split
  ·have:=ZfV r (h.push { cls:=.type "cell",data:=.cell none }) lo ((name,h.objs.size)::acc)
    ⟨λn c hm=>by
      rw[Us]
      rcases Xb hm with⟨_,rfl⟩|hm
      ·exact Vl _
      ·exact Wf (x.lt n c hm),
     λn n' c h1 h2=>by
      rcases Xb h1 with⟨e1,z1⟩|h1<;>rcases Xb h2 with⟨e2,z2⟩|h2
      ·rw[e1,e2]
      ·exact absurd (x.lt _ _ h2) (by rw[z1];exact Y9 _)
      ·exact absurd (x.lt _ _ h1) (by rw[z2];exact Y9 _)
      ·exact x.inj n n' c h1 h2,
     λn c hm hc=>by
      rcases Xb hm with⟨_,rfl⟩|hm
      ·exact⟨_,Yt _ rfl,rfl⟩
      ·exact(x.new n c hm hc).keeps λb o e=>Ye _ e⟩ (by rw[Us];omega)
   rwa [Us]at this
  ·exact ZfV r h lo acc x hlo
theorem ZbJ{x:Str}{c:Addr}:∀(names:List (Str×G8)) (n:Nat) (acc:List (Str×Addr)),(Vz n names acc).lookup x=some c->(n<=c/\(x,YaZ)∈names)∨acc.lookup x=some c
 |[],_,_,h=>.inr h
 |(y,k)::r,n,acc,h=>by
  unfold Vz at h
  split at h
  ·rename_i hk
   have hk:k=.cell:=eq_of_beq hk
   rcases ZbJ r (n+1) _ h with⟨h1,h2⟩|h1
   ·exact .inl ⟨by omega,Yg _ h2⟩
   ·rcases Xb h1 with⟨rfl,rfl⟩|h1
    ·exact .inl ⟨Yj _,by rw[hk];exact Yp⟩
    ·exact .inr h1
  ·rcases ZbJ r n _ h with⟨h1,h2⟩|h1
   ·exact .inl ⟨h1,Yg _ h2⟩
   ·exact .inr h1
theorem Zck{x:Str}{c:Addr}:∀(names:List (Str×G8)) (n:Nat) (acc:List (Str×Addr)),names.lookup x=some .cell->(Vz n names acc).lookup x=some c->n<=c
 |[],_,_,h,_=>by cases h
 |(y,k)::r,n,acc,h,e=>by
  unfold Vz at e
  rw[Wk]at h
  cases q:x==y with
  |true =>
   rw[q]at h
   cases h
   have e:(Vz (n+1) r ((y,n)::acc)).lookup x=some c:=e
   rcases ZbJ r (n+1) _ e with⟨h1,_⟩|h1
   ·omega
   ·rw[Wk,q]at h1
    cases h1
    exact Yj _
  |false =>
   rw[q]at h
   split at e
   ·have:=Zck r (n+1) _ h e
    omega
   ·exact Zck r n _ h e
structure Clo (X:Cx) (scope:Scope) (cl:List (Str×Addr)) (C:Addr) (h:Heap):Prop where
 one:∀x c,cl.lookup x=some c->(C<c/\(x,YaZ)∈scope.names/\h.IsCell c none)∨X.env.cells.lookup x=some c
 own:∀x c,scope.names.lookup x=some .cell->cl.lookup x=some c->C<c
 inj:∀x y c,cl.lookup x=some c->cl.lookup y=some c->x=y
 has:∀x,(x,YW)∈scope.names∨scope.names.lookup x=some .cell->∃c,cl.lookup x=some c
theorem Clo.ne{scope:Scope}{cl:List (Str×Addr)}{C:Addr}{h:Heap}(k:Clo X scope cl C h){b:Addr}(hb:b<C)(hx:∀x c,X.env.cells.lookup x=some c->c≠b):∀x c,cl.lookup x=some c->c≠b:=λx c e=>by
 rcases k.one x c e with⟨h1,_⟩|h1
 ·exact GZ (Gj hb h1)
 ·exact hx x c h1
theorem ZgQ{M:Model}{A:Around}{E:Value->Shared->Prop}{s:Shared}{scope:Scope}{cl0:List (Str×Addr)}{Q:Ws->Shared->Prop}(hcl1:∀x c,cl0.lookup x=some c->X.env.cells.lookup x=some c)(hcl2:∀x,(x,YW)∈scope.names->∃c,cl0.lookup x=some c)(hlt:∀x c,X.env.cells.lookup x=some c->c<s.heap.objs.size)(hinj:∀x y c,X.env.cells.lookup x=some c->X.env.cells.lookup y=some c->x=y)(h:∀h1 cl,(∃m,h1.Ns s.heap.objs.size m)->(∀b o,s.heap.get? b=some o->h1.get? b=some o)->Clo X scope cl s.heap.objs.size h1->Q (newEnv scope s.heap.objs.size X.env.globals cl X.env.qual none .none (some X.env) VM) { s with heap:=h1 }):
  wpAny M A (newFunctionEnv scope X.env.globals cl0 [] X.env.qual none .none (some X.env)) Q E s:=by
 simp only[newFunctionEnv,Option.isSome_some,if_true]
 refine Yb (wpAny_alloc ?_)
 refine Yb (wpAny_layCells _ (λname kind cells=>by cases hkc:kind==YaZ<;>simp[hkc]) _ _ _ _ ?_)
 have hz:(s.heap.push { cls:=.type "dict",data:=.dict #[] }).objs.size=s.heap.objs.size+1:=Us ..
 have ok:=ZfV scope.names (s.heap.push { cls:=.type "dict",data:=.dict #[] }) (s.heap.objs.size+1) cl0
  ⟨λx c e=>by rw[hz];exact Wf (hlt x c (hcl1 x c e)),λx y c e1 e2=>hinj x y c (hcl1 x c e1) (hcl1 y c e2),λx c e z=>absurd (hlt x c (hcl1 x c e)) (Yal.mpr (Nat.le_of_succ_le z))⟩ (by rw[hz];exact Yj _)
 rw[List.forIn_nil]
 refine Yb (Yd (Yd ?_))
 refine h _ _ ⟨_,(Heap.Ns.new s.heap (.type "dict")).keeps (pushCells_keeps _ _)⟩ (λb o e=>pushCells_keeps _ _ b o (Ye _ e)) ⟨λx c e=>?_,λx c hx e=>?_,ok.inj,λx hx=>?_⟩
 ·rcases ZbJ _ _ _ e with⟨h1,h2⟩|h1
  ·rw[show({ s with heap:=s.heap.push { cls:=.type "dict",data:=.dict #[] } }:Shared).heap.objs.size=s.heap.objs.size+1 from hz]at h1
   exact .inl ⟨h1,h2,ok.new x c e h1⟩
  ·exact .inr (hcl1 x c h1)
 ·have:=Zck _ _ _ hx e
  rw[show({ s with heap:=s.heap.push { cls:=.type "dict",data:=.dict #[] } }:Shared).heap.objs.size=s.heap.objs.size+1 from hz]at this
  exact this
 ·refine Option.isSome_iff_exists.mp (Ybo _ _ _ ?_)
  rcases hx with hx|hx
  ·obtain⟨c,e⟩:=hcl2 x hx
   exact .inr (by rw[e];rfl)
  ·exact .inl hx
theorem ZhO{pins:List (Addr×Obj)}{s:Shared}{σ σ':L2.St}{H:Hp}{fp:List Addr}{N':List Str}{scope:Scope}{cl:List (Str×Addr)}{C:Addr}{h1:Heap}{t:Nat}(I:Inv X pins σ H s)(S:CompSc X N' scope)(hf:∀b∈fp,FpOk X pins H b)(hlt:∀b∈fp,b<s.heap.objs.size)(hC:s.heap.objs.size<=C)(hns:∃m,h1.Ns C m)(hk:∀b o,s.heap.get? b=some o->h1.get? b=some o)(kc:Clo X scope cl C h1)(hl:σ'.length=N'.length)(hσ:∀(i:Nat) (x:Str) (v:V),N'[i]?=some x->σ'[i]?=some (some v)->∃j:Nat,X.N[j]?=some x/\σ[j]?=some (some v)/\(x,YW)∈scope.names):
  Inv (QB X N' scope cl C s H fp) [] σ' H { s with heap:=h1,toks:=t }:=by
 have hfree:∀x k,(relabel scope X.env).names.lookup x=some k->(k=.cell∨k=.free)->(x,YW)∈scope.names∨scope.names.lookup x=some .cell:=λx k h hk'=>by
  obtain⟨k',h1,h2⟩:=Zbi S.look h
  rcases h2 with rfl|⟨rfl,_⟩
  ·rcases hk' with rfl|rfl
   ·exact .inr h1
   ·exact .inl (Zb3 h1)
  ·exact .inl (Zb3 h1)
 obtain⟨mm,hns⟩:=hns
 refine⟨⟨I.ok.mod,S.kind,I.ok.glob,I.ok.blt,hC,kc.inj,λx hx=>?_,λx c h e=>?_,I.ok.hd,I.ok.frames,.inl rfl,λb hb=>⟨YH (Yu (hlt b hb) hC),kc.ne (Yu (hlt b hb) hC) (hf b hb).2.2.2.2.1⟩,I.bs,YJ I.ok.bsz I.sz,λb o e hb=>?_,λb hb z=>?_,I.stack,I.stkFree⟩,
  rfl,I.bare,Un.kept hk,⟨mm,hns,λi x v e1 e2 e3=>?_⟩,λx c e=>?_,I.hok.fresh hC,λx c e=>?_,λp hp=>absurd (show p∈([]:List (Addr×Obj))from hp) (by simp),I.hok.kept hk,hl⟩
 ·rcases hx with hx|hx
  ·exact kc.has x (hfree x _ hx (.inl rfl))
  ·exact kc.has x (hfree x _ hx (.inr rfl))
 ·have h:(scope.names.lookup x==some .cell)=true:=h
  exact YJ hC (Gd (kc.own x c (eq_of_beq h) e))
 ·rcases(hf b hb).2.2.2.1 with z|z
  ·exact I.ok.noex b o e z
  ·exact absurd (Yu (Ys e) (YJ I.ok.bsz z)) (Y9 _)
 ·rcases Yh.mp (I.stkSub b z)with q|q
  ·exact(hf b hb).2.1 q
  ·exact(hf b hb).2.2.1 q
 ·obtain⟨j,h1',h2',h3'⟩:=hσ i x v e1 e2
  obtain⟨m0,hn0,hl0⟩:=I.loc
  have kx:=S.free x h3'
  obtain⟨u,ru,lu⟩:=hl0 j x v h1' h2' (kx.elim (λz=>.inr (.inl z)) λz=>.inr (.inr z))
  refine⟨u,ru,.inr ?_⟩
  obtain⟨c,ec,ic⟩:∃c,X.env.cells.lookup x=some c/\s.heap.IsCell c (some u):=by
   rcases lu with⟨q,_⟩|⟨_,c,q1,q2⟩
   ·rcases kx with z|z
    ·rw[z]at q;cases q
    ·rw[z]at q;cases q
   ·exact⟨c,q1,q2⟩
  obtain⟨c',ec'⟩:=kc.has x (.inl h3')
  have:c'=c:=by
   rcases kc.one x c' ec' with⟨_,q,_⟩|this
   ·have q1:=S.look _ q
    rw[S.look _ h3']at q1
    cases q1
   ·rw[ec]at this;exact(YG this).symm
  subst this
  obtain⟨o,ho,hd⟩:=ic
  refine⟨?_,c',ec',o,hk _ _ ho,hd⟩
  rcases e3 with e3|e3|e3
  ·obtain⟨k',q1,q2⟩:=Zbi S.look e3
   rw[S.look _ h3']at q1;cases q1
   rcases q2 with q2|⟨_,q2⟩<;>cases q2
  ·exact .inl e3
  ·exact .inr e3
 ·rcases kc.one x c e with⟨_,_,q⟩|q
  ·exact⟨_,q⟩
  ·obtain⟨v,o,ho,hd⟩:=I.cell x c q
   exact⟨v,o,hk _ _ ho,hd⟩
 ·rcases kc.one x c e with⟨q,_⟩|q
  ·exact I.hok.fresh (YJ hC (Gd q))
  ·exact I.freeC x c q
theorem ZhN{pins:List (Addr×Obj)}{s s':Shared}{σ σ':L2.St}{H H':Hp}{fp:List Addr}{N':List Str}{scope:Scope}{cl:List (Str×Addr)}{C:Addr}(I:Inv X pins σ H s)(hf:∀b∈fp,FpOk X pins H b)(J:Inv (QB X N' scope cl C s H fp) [] σ' H' s'):
  Inv X pins σ H' s':=
 I.call' J.os J.base J.hok J.bare λb hb=>⟨(hf b hb).2.2.2.1,(hf b hb).2.1,(hf b hb).2.2.2.2.1,(hf b hb).2.2.2.2.2⟩
theorem Inv.adopt{pins:List (Addr×Obj)}{s:Shared}{σ:L2.St}{H:Hp}{D:Addr}{ho:HO}(I:Inv X pins σ H s)(f:FpOk X pins H D)(a:JZ X.prog X.w (upd H D ho) s.heap D ho):Inv X pins σ (upd H D ho) s:=by
 obtain⟨f0,f1,f2,f3,f4,f5⟩:=f
 have hne:∀b u,H b=some u->b≠D:=λb u e z=>by subst z;rw[f0]at e;cases e
 refine I.call' (ch:=[D]) rfl ⟨λb o e _ _ _=>e,λb o e _ _ _=>⟨o.slots,e⟩,λb o e n hx=>by rw[ZL (by simpa using hx)];exact n,λb o e _=>⟨o,e⟩,λb xs e=>by rw[ZL (hne b _ e)];exact e,λb o u e=>by rw[ZL (hne b _ e)];exact e,
  λb ps e=>⟨#[],by rw[ZL (hne b _ e),e];simp⟩⟩ (λb u e=>?_) I.bare λb hb=>?_
 ·by_cases hb:b=D
  ·subst hb
   rw[QQ]at e;cases e
   exact a
  ·rw[ZL hb]at e
   exact(I.hok b u e).stay (λ_ _ _ q=>q) (λc q=>by rw[ZL (hne c _ q)];exact q) λc xs q=>by rw[ZL (hne c _ q)];exact q
 ·have e:b=D:=by simpa using hb
  subst e
  exact⟨f3,f1,f4,f5⟩
def ZgP(X:Cx)(xr:XR)(call:Nat->List W->Mem->Res W)(gv:List T)(N':List Str)(scope:Scope)(elt target:Expr)(ifs:List Expr)(gens:List We)(tg:Tg)(cs:Es)(inner:E):Prop:=
 ∀(cl:List (Str×Addr)) (C:Addr) (s2:Shared) (H2:Hp) (fp:List Addr),PG (QB X N' scope cl C s2 H2 fp) target (gT X.K tg)/\PTs (QB X N' scope cl C s2 H2 fp) call gv xr cs ifs/\Ins xr (QB X N' scope cl C s2 H2 fp) call gv elt gens 0 inner
def envC(own:Nat)(keep:List Nat)(env:Env):Env:=Yy own none++keep.map λi=>(env[i]?).join
def stC(own:Nat)(keep:List Nat)(σ:L2.St):L2.St:=Yy own none++keep.map λi=>(σ[i]?).join
theorem envC_R{K:Frag}{cm:List Addr}{m:Mem}{H:Hp}{env:Env}{σ:L2.St}{own:Nat}{keep:List Nat}(h:EnvR K cm m H env σ):EnvR K cm m H (envC own keep env) (stC own keep σ):=λi w e=>by
 unfold envC at e
 unfold stC
 by_cases hi:i<own
 ·rw[YL (by simpa using hi),Uz]at e
  split at e<;>cases e
 ·rw[YS (by simpa using hi),Gf,YZ]at e
  rw[YS (by simpa using hi),Gf,YZ]
  cases q:keep[i-own]? with
  |none=>rw[q]at e;cases e
  |some j =>
   rw[q]at e
   have e':(env[j]?).join=some w:=YG e
   cases r:env[j]? with
   |none=>rw[r]at e';cases e'
   |some o =>
    rw[r]at e'
    have e2:o=some w:=e'
    subst e2
    obtain⟨v,h1,h2⟩:=h j w r
    exact⟨v,by simp[h1],h2⟩
theorem Zgp{α:Type}{r:Res α}{x:α}{m:Mem}(h:r.only=.ok x m):r=.ok x m:=by
 cases r with
 |ok _ _=>exact h
 |exc _ _=>cases h
 |stuck=>cases h
theorem ZcU{α β:Type}{r:Res α}{f:α->Mem->Res β}(hf:∀x m e m',f x m≠.exc e m')(e:Exc)(m':Mem):r.only.bind f≠.exc e m':=by
 cases r with
 |ok x m=>exact hf x m e m'
 |exc _ _=>intro h;cases h
 |stuck=>intro h;cases h
theorem JD{own:Nat}{keep:List Nat}{it:E}{tg:Tg}{cs:Es}{inner:E}{env:Env}{m:Mem}(e:Exc)(m':Mem):ev call gv (.comp own keep it tg cs inner) env m≠.exc e m':=by
 unfold ev
 refine ZcU (λx m0 e m'=>?_) e m'
 cases h:Z3 x m0 with
 |ok ts m1 =>
  refine ZcU (λout m2 e m'=>?_) e m'
  split<;>(intro h;cases h)
 |exc _ _ =>
  unfold Z3 at h
  split at h<;>first
   |(cases h;done)
   |(split at h<;>cases h)
 |stuck=>intro h;cases h
theorem Xh{own:Nat}{keep:List Nat}{it:E}{tg:Tg}{cs:Es}{inner:E}{env:Env}{m m':Mem}{w:W}(h:ev call gv (.comp own keep it tg cs inner) env m=.ok w m'):∃out,w=.t (.lst out):=by
 unfold ev at h
 obtain⟨_,_,_,h⟩:=Zj h
 obtain⟨_,_,_,h⟩:=Zj h
 obtain⟨out,_,_,h⟩:=Zj h
 split at h<;>cases h
 exact⟨_,rfl⟩
theorem ZcI{prog:YK}{w:World}{A:Around}{R:Result->Shared->Prop}{s:Shared}{node:Expr}{d:Nat}{target iter:Expr}{ifs:List Expr}{it acc:Value}{env:Ws}(hg:(Ycs node)[d]?=some ⟨target,iter,ifs,0⟩)(hd:(model prog w).den (.compStart node d it acc env)=(YbD node d it acc env).onRaise (λx=>do YaO x env;Gz Ybe))(hA:A.under (.compStart node d it acc env)=A)(h0:Vd (model prog w) A (.compLoop node d it acc env) R s)(h:wpAny (model prog w) A (pyIter it) (λit' s'=>Vd (model prog w) A (.compLoop node d it' acc env) R s') (notedBy (model prog w) A env λx s'=>R (.error x) s') s):
  Vd (model prog w) A (.compStart node d it acc env) R s:=by
 refine codeAny_of_tree ?_
 rw[hd,hA]
 refine wpAny_notedAt ?_
 unfold YbD
 rw[hg]
 show wpAny _ _ (ask >>= _) _ _ s
 refine Yb (GJ (wpAny_ite ?_))
 split
 ·first
   |exact Yb (Yd (Yd (Y4 rfl h0)))
   |exact Yd (Y4 rfl h0)
 ·first
   |exact Yb (Vq (Yb (W8 (Yb (W2 h (λit' s' h'=>Yd (Y4 rfl h')) λ_ _ x=>x)))))
   |(refine Yb (Vq ?_);show wpAny _ _ (Gz iter.pos >>= _) _ _ s;exact Yb (W8 (Yb (W2 h (λit' s' h'=>Yd (Y4 rfl h')) λ_ _ x=>x))))
theorem Zba{node target iter:Expr}{ifs:List Expr}{gs:List We}{scope:Scope}{pos':Pos}{N':List Str}{own:Nat}{keep:List Nat}{it:E}{tg:Tg}{cs:Es}{inner:E}{use:Option (Value->Sem Unit)}{nw:Sem Value}{oN:Obj}{Acc:Addr->Heap->List V->Prop}(hc:X.calm=true)(S:CompSc X N' scope)(hown:N'.length=own+keep.length)(hkeep:∀(i:Nat) x,N'[own+i]?=some x->∃j,keep[i]?=some j/\X.N[j]?=some x/\(x,YW)∈scope.names)(hlocal:∀x∈scope.names,x.2=NameKind.local->scope.names.lookup x.1=some .local)(pi:PI X target iter (tI X.K call gv xr it))(hfs:∀x,WR iter X.env x=pure x)(hcl:Ycs node=⟨target,iter,ifs,0⟩::gs)(hal:oN.isFreed=false)(hd:∀it acc env,(model X.prog X.w).den (.compStart node 0 it acc env)=(YbD node 0 it acc env).onRaise (λx=>do YaO x env;Gz Ybe))(hA:∀it acc env,X.A.under (.compStart node 0 it acc env)=X.A)(hnw:∀{A:Around}{E:Value->Shared->Prop}{s:Shared}{Q:Value->Shared->Prop},Q (.ref s.heap.objs.size) { s with heap:=s.heap.push oN }->wpAny (model X.prog X.w) A nw Q E s)(h0:∀{h:Heap}{D:Addr},h.get? D=some oN->Acc D h [])(hdis:∀i∈tgS tg,i∉innS inner)(hsl:∀i∈tgS tg++innS inner,i<own){pins:List (Addr×Obj)}{s:Shared}{σ:L2.St}{H:Hp}{cm:List Addr}{m m':Mem}{env:Env}{out:List T}{Q:Value->Shared->Prop}(I:Inv X pins σ H s)(hE:EnvR X.K cm m H env σ)(M:MemR X.K cm m H)(loop:∀(cl:List (Str×Addr)) (C:Addr) (s2:Shared) (H2:Hp) (fp:List Addr) {D:Addr}{pins:List (Addr×Obj)}{s:Shared}{σ:L2.St}{H:Hp}{cm:List Addr}{m m':Mem}{env:Env}{ts:List T}{J:It}{it:Addr}{fp':List Addr}{tn:Nat->Heap->Prop},Inv (QB X N' scope cl C s2 H2 fp) pins σ H s->FpOk (QB X N' scope cl C s2 H2 fp) pins H D->Acc D s.heap [] ->
   Turn X.prog X.w X.K target J fp' it tn->tn 0 s.heap->(∀b∈fp',FpOk (QB X N' scope cl C s2 H2 fp) pins H b)->D∉fp'->EnvR X.K cm m H env σ->(∀i∈tgS tg++innS inner,∀w,env[i]?≠some (some w))->MemR X.K cm m H->Src X.K cm m H J ts->QW (turnF call gv cs inner) tg ts env m=.ok out m'->out.length<=lim ->
   Vd (model X.prog X.w) X.A (.compLoop node 0 (.ref it) (.ref D) (compEnvC scope cl C X.env)) (λr s'=>r=.ok .next/\Zf1 (QB X N' scope cl C s2 H2 fp) (Acc D) D (tgS tg++innS inner) pins σ cm m H [] out m' s') s)(ok:ev call gv (.comp own keep it tg cs inner) env m=.ok (.t (.lst out)) m')(fin:∀(D C:Addr) (s3:Shared) (H3:Hp) (cm3:List Addr) (vs:List V),Inv X pins σ H3 s3->Acc D s3.heap vs->FpOk X pins H3 D->X.s₀.heap.objs.size<=D->X.K.lookup D=none->Ext cm m H cm3 m' H3->MemR X.K cm3 m' H3->RTs X.K cm3 m' H3 out vs->(∃mm,s3.heap.Ns C mm)->FpOk X pins H3 C->D≠C ->
   Ycl (model X.prog X.w) X.A X.xe use Q (.ref D) C (.ok .next) s3):
  wpAny (model X.prog X.w) X.A (Ya0 node scope X.env pos' nw false (eval iter X.env) use) Q X.xe s:=by
 obtain⟨cl0,hclos,hcl1,hcl2⟩:=Zc4 (scope:=scope) (env:=X.env) λx hx=>I.ok.has x (S.free x hx)
 unfold ev at ok
 obtain⟨w1,m1,ok0,ok2⟩:=Zj ok
 have ok1:=Zgp ok0
 obtain⟨ts,m2,ok3,ok4⟩:=Zj ok2
 obtain⟨out',m3,ok5,ok6⟩:=Zj ok4
 split at ok6<;>cases ok6
 rename_i hlen
 have ok5':QW (turnF call gv cs inner) tg ts (envC own keep env) m2=.ok out m3:=Zgp ok5
 have hz:=ZV
 refine wpAny_comprehension_free hcl hfs hclos S.kind hlocal (thn (pi pins s σ H (λJ H1=>∃cm1,Ext cm m H cm1 m1 H1/\MemR X.K cm1 m1 H1/\Src X.K cm1 m2 H1 J ts) I ⟨env,cm,m,hE,M,by
   rw[ok1]
   exact λcm1 H1 x M1=>⟨ts,m2,ok3,λJ hs=>⟨cm1,x,M1,hs⟩⟩⟩) λxv s1 h1=>thn h1 λitv s2 h2=>?_)
 obtain⟨it2,fp,tn,J,H2,rfl,I2,T2,st2,f2,cm2,x2,M2,hs2⟩:=h2
 refine hnw (ZgQ hcl1 hcl2 (λx c e=>?_) I2.ok.inj λh₁ cl hns₁ hsb₁ kc=>?_)
 ·obtain⟨v,q⟩:=I2.cell x c e
  exact Yu q.lt (by show _<=(Heap.push _ _).objs.size;rw[Us];exact U4 _)
 dsimp only at hns₁ hsb₁ kc ⊢
 generalize hH2:s2.heap.push oN=P2 at hns₁ hsb₁ kc ⊢
 have hCs:P2.objs.size=s2.heap.objs.size+1:=by rw[<-hH2,Us]
 have hDC:s2.heap.objs.size≠P2.objs.size:=by omega
 have below:∀b,b<s2.heap.objs.size->b≠P2.objs.size:=λb hb=>by omega
 have old:∀b o,s2.heap.get? b=some o->h₁.get? b=some o:=λb o e=>hsb₁ b o (hH2▸Ye _ e)
 have hacc:h₁.get? s2.heap.objs.size=some oN:=hsb₁ _ _ (hH2▸Yt _ hal)
 have flt:∀b∈fp,b<s2.heap.objs.size:=λb hb=>by
  obtain⟨o,e,_⟩:=T2.obj _ _ st2 b hb
  exact Ys e
 have hb3:=Zcp M2 ok3
 have E2:EnvR X.K cm2 m2 H2 env σ:=(hE.ext x2 M M2).ext hb3.1 M2 hb3.2
 have hσl:(stC own keep σ).length=N'.length:=by unfold stC;simp[hown]
 have J0:Inv (QB X N' scope cl P2.objs.size s2 H2 fp) [] (stC own keep σ) H2 { s2 with heap:=h₁ }:=
  ZhO (t:=s2.toks) I2 S f2 flt (by omega) hns₁ old kc hσl λi x v e1 e2=>by
   unfold stC at e2
   by_cases hi:i<own
   ·rw[YL (by simpa using hi),Uz]at e2
    split at e2<;>cases e2
   ·rw[YS (by simpa using hi),Gf,YZ]at e2
    have ei:N'[own+(i-own)]?=some x:=by rw[show own+(i-own)=i by omega];exact e1
    obtain⟨j,q1,q2,q3⟩:=hkeep (i-own) x ei
    rw[q1]at e2
    have e3:(σ[j]?).join=some v:=YG e2
    refine⟨j,q2,?_,q3⟩
    cases r:σ[j]? with
    |none=>rw[r]at e3;cases e3
    |some o=>rw[r]at e3;exact congrArg some e3
 have fD:FpOk (QB X N' scope cl P2.objs.size s2 H2 fp) [] H2 s2.heap.objs.size:=by
  refine⟨I2.hok.fresh (Yj _),hDC,λz=>?_,.inr (Yj _),λx c e z=>?_,λp hp=>absurd (show p∈([]:List (Addr×Obj))from hp) (by simp)⟩
  ·have:=I2.stkSub _ z
   rcases Yh.mp this with q|q
   ·exact absurd I2.lt (by rw[<-q];exact Y9 _)
   ·exact I2.nofs (Yj _) q
  ·rcases kc.one x c e with⟨q,_⟩|q
   ·exact absurd q (by rw[z,hCs];exact Yal.mpr (U4 _))
   ·obtain⟨v,q⟩:=I2.cell x c q
    exact absurd q.lt (by rw[z];exact Y9 _)
 have fF:∀b∈fp,FpOk (QB X N' scope cl P2.objs.size s2 H2 fp) [] H2 b:=λb hb=>by
  refine⟨(f2 b hb).1,below b (flt b hb),λz=>?_,.inl hb,kc.ne (Yu (flt b hb) (by rw[hCs];exact U4 _)) (f2 b hb).2.2.2.2.1,λp hp=>absurd (show p∈([]:List (Addr×Obj))from hp) (by simp)⟩
  rcases Yh.mp (I2.stkSub b z)with q|q
  ·exact(f2 b hb).2.1 q
  ·exact(f2 b hb).2.2.1 q
 have st2':tn 0 h₁:=T2.keep _ _ _ st2 λb _ o e=>old b o e
 have hDf:s2.heap.objs.size∉fp:=λz=>absurd (flt _ z) (Y9 _)
 have hnone:∀i∈tgS tg++innS inner,∀w,(envC own keep env)[i]?≠some (some w):=λi hi w e=>by
  unfold envC at e
  rw[YL (by simpa using hsl i hi),Uz]at e
  split at e<;>cases e
 have go:=loop cl P2.objs.size s2 H2 fp J0 fD (h0 hacc) T2 st2' fF hDf (envC_R E2) hnone hb3.2 hs2 ok5' hlen
 have fine:∀r s3,(r=.ok .next/\Zf1 (QB X N' scope cl P2.objs.size s2 H2 fp) (Acc s2.heap.objs.size) s2.heap.objs.size (tgS tg++innS inner) [] (stC own keep σ) cm2 m2 H2 [] out m3 s3)->Ycl (model X.prog X.w) X.A X.xe use Q (.ref s2.heap.objs.size) P2.objs.size r s3:=λr s3 ⟨hr,σ3,H3,cm3,vs3,J3,x3,M3,r3,a3,ag3,d3⟩=>by
  subst hr
  rw[G4]at a3
  obtain⟨x4,M4,sm⟩:=ZaD M2 ok3 x3 M3
  have I3:Inv X pins σ H3 s3:=ZhN I2 f2 J3
  have fX:∀b,s2.heap.objs.size<=b->∀H',H' b=none->FpOk X pins H' b:=λb hb H' hn=>I2.fpOk hb hn
  obtain⟨mm,hmm,_⟩:=J3.loc
  refine fin s2.heap.objs.size P2.objs.size s3 H3 cm3 vs3 I3 a3 (fX _ (Yj _) _ d3) I2.sz ?_ (x2.trans x4) M4 (Zi (λ_ _ z=>sm _ _ z) r3) ⟨mm,hmm⟩ (fX _ (by omega) _ J3.free) hDC
  cases q:X.K.lookup s2.heap.objs.size with
  |none=>rfl
  |some o=>exact absurd (Ys (I2.kIn _ _ q)) (Y9 _)
 exact V2 (ZcI (by rw[hcl];rfl) (hd _ _ _) (hA _ _ _) go (T2.self X.A 0 { s2 with heap:=h₁ } _ _ st2' go)) fine
theorem ZeR{elt target iter:Expr}{ifs:List Expr}{gs:List We}{scope:Scope}{pos pos':Pos}{N':List Str}{own:Nat}{keep:List Nat}{it:E}{tg:Tg}{cs:Es}{inner:E}{use:Option (Value->Sem Unit)}(hc:X.calm=true)(S:CompSc X N' scope)(hown:N'.length=own+keep.length)(hkeep:∀(i:Nat) x,N'[own+i]?=some x->∃j,keep[i]?=some j/\X.N[j]?=some x/\(x,YW)∈scope.names)(hlocal:∀x∈scope.names,x.2=NameKind.local->scope.names.lookup x.1=some .local)(pi:PI X target iter (tI X.K call gv xr it))(hfs:∀x,WR iter X.env x=pure x)(hY:ZgP X xr call gv N' scope elt target ifs (⟨target,iter,ifs,0⟩::gs) tg cs inner)(hdis:∀i∈tgS tg,i∉innS inner)(hsl:∀i∈tgS tg++innS inner,i<own){pins:List (Addr×Obj)}{s:Shared}{σ:L2.St}{H:Hp}{cm:List Addr}{m m':Mem}{env:Env}{out:List T}{Q:Value->Shared->Prop}(I:Inv X pins σ H s)(hE:EnvR X.K cm m H env σ)(M:MemR X.K cm m H)(ok:ev call gv (.comp own keep it tg cs inner) env m=.ok (.t (.lst out)) m')(fin:∀(D C:Addr) (s3:Shared) (H3:Hp) (cm3:List Addr) (vs:List V),Inv X pins σ (upd H3 D (.lst vs)) s3->H3 D=none->X.K.lookup D=none->Ext cm m H cm3 m' H3->MemR X.K cm3 m' H3->RTs X.K cm3 m' H3 out vs->(∃mm,s3.heap.Ns C mm)->FpOk X pins (upd H3 D (.lst vs)) C ->
   Ycl (model X.prog X.w) X.A X.xe use Q (.ref D) C (.ok .next) s3):
  wpAny (model X.prog X.w) X.A (Ya0 (.ListComp elt (⟨target,iter,ifs,0⟩::gs) scope pos) scope X.env pos' (newList []) false (eval iter X.env) use) Q X.xe s:=
 Zba (node:=.ListComp elt (⟨target,iter,ifs,0⟩::gs) scope pos) (oN:={ cls:=.type "list",dict:=none,data:=.seq ([]:List Value).toArray }) (Acc:=λD h vs=>AccAt h D vs) hc S hown hkeep hlocal pi hfs rfl rfl (λ_ _ _=>rfl) (λ_ _ _=>rfl) (λh=>Wv h) (λh=>⟨Wy _,[],0,.nil,h⟩) hdis hsl I hE M
  (λcl C s2 H2 fp D pins s σ H cm m m' env ts J it fp' tn J0 fD h0 hT ht hf hDf hE hn M hs ok hl=>let⟨pg,pt,hin⟩:=hY cl C s2 H2 fp
   ZjF (Y:=QB X N' scope cl C s2 H2 fp) hc (λ_ _ z=>z) inner 0 target iter ifs tg cs rfl pg pt hin hdis (λi hi=>by
    show i<N'.length
    rw[hown]
    have:=hsl i hi
    omega) J0 fD h0 hT ht hf hDf hE hn M hs ok (by rw[Wn,Ybf];exact hl)) ok
  λD C s3 H3 cm3 vs I3 a3 f3 _ k3 x3 M3 r3 n3 c3 ne=>fin D C s3 H3 cm3 vs (Inv.adopt I3 f3 a3) f3.1 k3 x3 M3 r3 n3 ⟨by rw[ZL (Ui ne)];exact c3.1,c3.2⟩
structure CompK (X:Cx) (xr:XR) (call:Nat->List W->Mem->Res W) (gv:List T) (N':List Str) (scope:Scope) (own:Nat) (keep:List Nat) (elt target iter:Expr) (ifs:List Expr) (gs:List We) (it:E) (tg:Tg) (cs:Es) (inner:E):Prop where
 sc:CompSc X N' scope
 hown:N'.length=own+keep.length
 hkeep:∀(i:Nat) x,N'[own+i]?=some x->∃j,keep[i]?=some j/\X.N[j]?=some x/\(x,YW)∈scope.names
 pi:PI X target iter (tI X.K call gv xr it)
 fs:∀x,WR iter X.env x=pure x
 ins:ZgP X xr call gv N' scope elt target ifs (⟨target,iter,ifs,0⟩::gs) tg cs inner
 dis:∀i∈tgS tg,i∉innS inner
 slt:∀i∈tgS tg++innS inner,i<own
variable{elt target iter:Expr}{ifs:List Expr}{gs:List We}{scope:Scope}{pos:Pos}{N':List Str}{own:Nat}{keep:List Nat}{it:E}{tg:Tg}{cs:Es}{inner:E}
theorem Qo(hc:X.calm=true)(k:CompK X xr0 call gv N' scope own keep elt target iter ifs gs it tg cs inner):
  PE X (.ListComp elt (⟨target,iter,ifs,0⟩::gs) scope pos) (tE X.K call gv xr (.comp own keep it tg cs inner)):=by
 rintro pins s σ H Q I ⟨env,cm,m,hE,M,ho⟩
 cases h:ev call gv (.comp own keep it tg cs inner) env m with
 |stuck=>rw[h]at ho;exact ho.elim
 |exc e m'=>exact absurd h (JD e m')
 |ok w m' =>
  obtain⟨out,rfl⟩:=Xh h
  rw[h]at ho
  rw[eval_ListComp]
  refine ZeR (use:=none) hc k.sc k.hown k.hkeep (λx hx e=>by rw[k.sc.look x hx,e]) k.pi k.fs k.ins k.dis k.slt I hE M h ?_
  rintro D C s3 H3 cm3 vs I3 hD _ x3 M3 r3 ⟨mm,hm⟩ fC
  refine⟨mm,hm,λh' hs'=>?_⟩
  have I4:Inv X pins σ (upd H3 D (.lst vs)) { s3 with heap:=h' }:=I3.turned (t':=s3.toks) (it:=C) (λb o hb e=>(hs'.2 b hb).trans e) fC.1 fC.2.1 fC.2.2.2.1 fC.2.2.2.2.1 fC.2.2.2.2.2
  exact⟨.ref D,_,I4,rfl,OkR.to ho (x3.trans (.new hD)) (M3.new hD) _ (RT.newLst M3 r3 hD)⟩
theorem Zmt{i:Nat}{x:Str}{px spos:Pos}(hc:X.calm=true)(k:CompK X xr0 call gv N' scope own keep elt target iter ifs gs it tg cs inner)(hN:X.N.Nodup)(hi:X.N[i]?=some x)(hx:X.env.scope.names.lookup x=some .local)(hsw:YaH (.ListComp elt (⟨target,iter,ifs,0⟩::gs) scope pos) (some (.Name x px)) spos.line X.env=pure true){pins:List (Addr×Obj)}{s:Shared}{σ:L2.St}{H:Hp}{cm:List Addr}{m m':Mem}{env:Env}{out:List T}{D:Ends}(I:Inv X pins σ H s)(hE:EnvR X.K cm m H env σ)(M:MemR X.K cm m H)(ok:ev call gv (.comp own keep it tg cs inner) env m=.ok (.t (.lst out)) m')(q:∀(p:Addr) (H3:Hp) (cm3:List Addr) (vs:List V),H3 p=none->X.K.lookup p=none->Ext cm m H cm3 m' H3->MemR X.K cm3 m' H3->RTs X.K cm3 m' H3 out vs->D.nx (σ.set i (some (.ref p))) (upd H3 p (.lst vs))):
  wpAny (model X.prog X.w) X.A (exec (.Assign [.Name x px] (.ListComp elt (⟨target,iter,ifs,0⟩::gs) scope pos) spos) X.env) (SP X pins D) X.xe s:=by
 rw[exec_Assign_Name_used _ _ _ _ hsw]
 refine Yb (W8 (Yb ?_))
 show wpAny _ _ (do let _ <-Ya0 (.ListComp elt (⟨target,iter,ifs,0⟩::gs) scope pos) scope X.env _ (newList []) false (eval iter X.env) (some (assign (.Name x px) X.env))) _ _ s
 refine Yb (thn (ZeR (use:=some (assign (.Name x px) X.env)) (Q:=λ_ s'=>SP X pins D .next s') hc k.sc k.hown k.hkeep (λx hx e=>by rw[k.sc.look x hx,e]) k.pi k.fs k.ins k.dis k.slt I hE M ok ?_) λ_ s' h=>Yd (Yd h))
 rintro p C s3 H3 cm3 vs I3 hD hK x3 M3 r3 ⟨mm,hm⟩ fC
 show wpAny _ _ (assign (.Name x px) X.env (.ref p)) _ _ s3
 refine wpAny_assign_Name (ZdY I3 hN hi (.inl hx) (v:=.ref p) rfl (λs4 I4 ⟨a,hs4,ha⟩=>?_) (.inr hx))
 have hac:C≠a:=by
  rcases ha with rfl|ha
  ·exact fC.2.1
  ·exact λz=>fC.2.2.2.2.1 x a ha z.symm
 refine⟨mm,hm.sameBut hs4 hac,λh' hs'=>?_⟩
 have I5:Inv X pins (σ.set i (some (.ref p))) (upd H3 p (.lst vs)) { s4 with heap:=h' }:=I4.turned (t':=s4.toks) (it:=C) (λb o hb e=>(hs'.2 b hb).trans e) fC.1 fC.2.1 fC.2.2.2.1 fC.2.2.2.2.1 fC.2.2.2.2.2
 exact⟨_,_,I5,q p H3 cm3 vs hD hK x3 M3 r3⟩
end
theorem ZeS{elt:Expr}{gens:List We}{scope:Scope}{pos:Pos}{d:Nat}{target iter:Expr}{ifs:List Expr}{it acc:Value}{env:Ws}(hg:gens[d]?=some ⟨target,iter,ifs,0⟩)(hn:gens[d+1]?=none):
  Yai (.SetComp elt gens scope pos) d it acc env=(do
   Gz iter.pos
   match <-pyNext it with
   |none=>pure (.done .next)
   |some v =>
    U0 target it v
    assign target env v
    let mut ok:=true
    for c in ifs do
     if ok then ok <-isTrue c env (eval c env)
    if ok then
     (do let v <-eval elt env;Gz elt.pos;let _ <-call (.builtin "set.add") [acc,v])
    again (.compLoop (.SetComp elt gens scope pos) d it acc env)):=by
 unfold Yai
 simp only[hg,hn]
 rfl
def dl(ss:List Str):List Str:=ss.foldl (λD x=>if x∈D then D else D++[x]) []
theorem Zo5(ss:List Str)(x:Str):dl (ss++[x])=if x∈dl ss then dl ss else dl ss++[x]:=by
 unfold dl
 rw[List.foldl_append]
 rfl
theorem Zkt(ss:List Str):(dl ss).length<=ss.length:=by
 have:∀(ss D:List Str),(ss.foldl (λD x=>if x∈D then D else D++[x]) D).length<=D.length+ss.length:=by
  intro ss
  induction ss with
  |nil=>intro D;exact Yj _
  |cons x r ih =>
   intro D
   rw[Ut,YB]
   refine YJ (ih _) ?_
   split
   ·omega
   ·rw[Yr,Y5];omega
 have h:=this ss []
 rw[Wn,Ybf]at h
 exact h
abbrev ledS(w:World):Bool:=!w.params.followText "set-order"
def AccS(prog:YK)(w:World)(D:Addr)(h:Heap)(vs:List V):Prop:=∃ss:List Str,vs=ss.map V.str/\SetS prog w (Zfv w) h D (dl ss)
theorem ZdQ(prog:YK)(w:World)(D:Addr):AccK D (AccS prog w D):=⟨λ⟨ss,_,o,es,ep,t,e,hE⟩=>⟨o,e,λv z=>by rw[hE.data]at z;cases z⟩,λ⟨ss,q,o,es,ep,t,e,r⟩ k=>⟨ss,q,o,es,ep,t,k o e,r⟩⟩
theorem Zkd{prog:YK}{w:World}{h:Heap}{a:Addr}(ha:h.get? a=some { cls:=.type "set",dict:=none,data:=.set #[] 0 (.fresh 0 0 (Zfv w)) }):AccS prog w a h []:=
 ⟨[],rfl,Zkc ha⟩
section
variable{xr:XR}{Y:Cx}{call:Nat->List W->Mem->Res W}{gv:List T}
theorem Zpl{pins:List (Addr×Obj)}{s:Shared}{σ:L2.St}{H:Hp}{D:Addr}{vs:List V}{x:Str}{t:Tok}{E:Value->Shared->Prop}{Q:Value->Shared->Prop}(I:Inv Y pins σ H s)(f:FpOk Y pins H D)(a:AccS Y.prog Y.w D s.heap vs)(hz:vs.length<64)(q:∀s',Inv Y pins σ H s'->AccS Y.prog Y.w D s'.heap (vs++[.str x])->Q .none s'):wpAny (model Y.prog Y.w) Y.A (U8 (.builtin "set.add") [.ref D,.str x t]) Q E s:=by
 obtain⟨ss,rfl,hS⟩:=a
 have hl:=Zkt ss
 rw[Yc]at hz
 have ht:YbA s (.ref D) "set":=by
  obtain⟨o,es,ep,t,e,hE⟩:=hS
  exact⟨o,e,hE.ex.1⟩
 refine WQ PySem.F.slot_set_add ht PySem.F.entry_set_add ?_ (PySem.F.args_set_add_2 _ _)
 unfold Builtin.«set.add» Builtin.Frozenset.oneOther
 simp only[Uv,bind_assoc]
 unfold Builtin.Frozenset.addrOf setAdd
 refine Yb (Yd ?_)
 try dsimp only
 refine Yb (Yd ?_)
 try dsimp only
 refine Yb ?_
 refine Wj ?_
 refine Yb ((Wz Y.prog Y.w).pyHash (k:=x) (by show Ga x (.str x t)=true;simp[Ga]) ?_)
 refine add_str (s:={ s with toks:=s.toks+1 }) hS (by unfold Ybz;omega) λh' b sb hS'=>?_
 obtain⟨f0,f1,f2,f3,f4,f5⟩:=f
 have fin:=q _ (I.turned (t':=s.toks+1) (it:=D) (λb o hb e=>(sb.2 b hb).trans e) f0 f1 f3 f4 f5) ⟨ss++[x],by simp,by rw[Zo5];exact hS'⟩
 exact Yd ⟨_,rfl,fin⟩
theorem Zl3(hc:Y.calm=true)(hxe:∀e s,¬Y.xe e s){elt:Expr}{gens:List We}{scope:Scope}{pos:Pos}{D:Addr}{ea:E}{target iter:Expr}{ifs:List Expr}{tg:Tg}{cs:Es}(hg:gens[0]?=some ⟨target,iter,ifs,0⟩)(pg:PG Y target (gT Y.K tg))(pt:PTs Y call gv xr cs ifs)(hin:Ins xr Y call gv elt gens 0 (.emit ea))(hdis:∀i∈tgS tg,i∉innS (.emit ea))(hlt:∀i∈tgS tg++innS (.emit ea),i<Y.N.length){pins:List (Addr×Obj)}{s:Shared}{σ:L2.St}{H:Hp}{cm:List Addr}{m m':Mem}{env:Env}{ts out:List T}{J:It}{it:Addr}{fp:List Addr}{tn:Nat->Heap->Prop}{vs:List V}(I:Inv Y pins σ H s)(hD:FpOk Y pins H D)(ha:AccS Y.prog Y.w D s.heap vs)(hT:Turn Y.prog Y.w Y.K target J fp it tn)(h0:tn 0 s.heap)(hf:∀b∈fp,FpOk Y pins H b)(hDf:D∉fp)(hE:EnvR Y.K cm m H env σ)(hn:∀i∈tgS tg++innS (.emit ea),∀w,env[i]?≠some (some w))(M:MemR Y.K cm m H)(hs:Src Y.K cm m H J ts)(ok:QW (turnF call gv cs (.emit ea)) tg ts env m=.ok out m')(hl:vs.length+out.length<=63)(hst:∀t∈out,∃c,t=.str c):
  Vd (model Y.prog Y.w) Y.A (.compLoop (.SetComp elt gens scope pos) 0 (.ref it) (.ref D) Y.env) (λr s'=>r=.ok .next/\Zf1 Y (AccS Y.prog Y.w D) D (tgS tg++innS (.emit ea)) pins σ cm m H vs out m' s') s:=by
 obtain⟨hnx,pe⟩:=hin
 refine ZbF hc hxe (ZdQ Y.prog Y.w D) (Pt:=λt=>∃c,t=.str c) (br:=do(do let v <-eval elt Y.env;Gz elt.pos;let _ <-U8 (.builtin "set.add") [.ref D,v]);again (.compLoop (.SetComp elt gens scope pos) 0 (.ref it) (.ref D) Y.env)) rfl rfl (ZeS hg hnx) pg pt hdis hlt ?_ I hD ha hT h0 hf hDf hE hn M hs ok hl hst
 intro pins s σ H cm m m' env out vs I hD ha hE hn M ok hl hst
 obtain⟨w,m1,ok1,ok2⟩:=Zj ok
 obtain⟨rfl,rfl⟩:=ZaT ok2
 unfold ev at ok1
 obtain⟨w1,m2,ok3,ok4⟩:=Zj ok1
 obtain⟨t,m3,ok5,ok6⟩:=Zj ok4
 cases ok6
 obtain⟨c,rfl⟩:=hst t (by simp)
 refine Yb (Yb (thn (Zgo pe (ZbM (ZdQ Y.prog Y.w D) I hD ha) hE M ok3) λu s1 ⟨v,H1,I1,rv,cm1,x1,M1,r1⟩=>?_))
 obtain⟨a1,d1⟩:=Zbf (ZdQ Y.prog Y.w D) ha I1 λo e=>Ym _ (ZX (by simp) e)
 obtain⟨x2,M2,r2⟩:=ZeK M1 r1 ok5
 have I1':Inv Y pins σ H1 s1:=I1.unpinned
 cases RT.vstr r2
 obtain⟨tk,rfl⟩:=rv
 refine Yb (W8 (Yb (Zpl I1' ⟨d1,hD.2⟩ a1 (by simp at hl;omega) λs2 I2 a2=>Yd (Yd ⟨rfl,σ,H1,cm1,[_],I2,x1.trans x2,M2,.cons r2 .nil,a2,.refl,d1⟩))))
end
section
variable{xr:XR}{X:Cx}{call:Nat->List W->Mem->Res W}{gv:List T}
theorem ZdT{P:YK}{w:World}{A:Around}{E:Value->Shared->Prop}{s:Shared}{Q:Value->Shared->Prop}(h:Q (.ref s.heap.objs.size) { s with heap:=s.heap.push { cls:=.type "set",dict:=none,data:=.set #[] 0 (.fresh 0 0 (ledS w)) } }):wpAny (model P w) A (newSet (.type "set")) Q E s:=by
 unfold newSet Yce
 refine Yb (Yb (GJ (Yd ?_)))
 dsimp only
 simp only[newObj]
 exact Yb (wpAny_alloc (Yd h))
theorem Zc3{elt target iter:Expr}{ifs:List Expr}{gs:List We}{scope:Scope}{pos pos':Pos}{N':List Str}{own:Nat}{keep:List Nat}{it:E}{tg:Tg}{cs:Es}{ea:E}(hc:X.calm=true)(S:CompSc X N' scope)(hown:N'.length=own+keep.length)(hkeep:∀(i:Nat) x,N'[own+i]?=some x->∃j,keep[i]?=some j/\X.N[j]?=some x/\(x,YW)∈scope.names)(hlocal:∀x∈scope.names,x.2=NameKind.local->scope.names.lookup x.1=some .local)(pi:PI X target iter (tI X.K call gv xr it))(hfs:∀x,WR iter X.env x=pure x)(hY:ZgP X xr call gv N' scope elt target ifs (⟨target,iter,ifs,0⟩::gs) tg cs (.emit ea))(hdis:∀i∈tgS tg,i∉innS (.emit ea))(hsl:∀i∈tgS tg++innS (.emit ea),i<own){pins:List (Addr×Obj)}{s:Shared}{σ:L2.St}{H:Hp}{cm:List Addr}{m m':Mem}{env:Env}{out:List T}{Q:Value->Shared->Prop}(I:Inv X pins σ H s)(hE:EnvR X.K cm m H env σ)(M:MemR X.K cm m H)(h63:out.length<64)(hst:∀t∈out,∃c,t=.str c)(ok:ev call gv (.comp own keep it tg cs (.emit ea)) env m=.ok (.t (.lst out)) m')(fin:∀(D C:Addr) (s3:Shared) (H3:Hp) (cm3:List Addr) (vs:List V),Inv X pins σ H3 s3->AccS X.prog X.w D s3.heap vs->Ext cm m H cm3 m' H3->MemR X.K cm3 m' H3->RTs X.K cm3 m' H3 out vs->(∃mm,s3.heap.Ns C mm)->FpOk X pins H3 C->D≠C ->
   Ycl (model X.prog X.w) X.A X.xe none Q (.ref D) C (.ok .next) s3):
  wpAny (model X.prog X.w) X.A (Ya0 (.SetComp elt (⟨target,iter,ifs,0⟩::gs) scope pos) scope X.env pos' (newSet (.type "set")) false (eval iter X.env) none) Q X.xe s:=
 Zba (node:=.SetComp elt (⟨target,iter,ifs,0⟩::gs) scope pos) (oN:={ cls:=.type "set",dict:=none,data:=.set #[] 0 (.fresh 0 0 (ledS X.w)) }) (Acc:=AccS X.prog X.w) hc S hown hkeep hlocal pi hfs rfl rfl (λ_ _ _=>rfl) (λ_ _ _=>rfl) ZdT Zkd hdis hsl I hE M
  (λcl C s2 H2 fp D pins s σ H cm m m' env ts J it fp' tn J0 fD h0 hT ht hf hDf hE hn M hs ok _=>let⟨pg,pt,hin⟩:=hY cl C s2 H2 fp
   Zl3 (Y:=QB X N' scope cl C s2 H2 fp) hc (λ_ _ z=>z) rfl pg pt hin hdis (λi hi=>by
    show i<N'.length
    rw[hown]
    have:=hsl i hi
    omega) J0 fD h0 hT ht hf hDf hE hn M hs ok (by rw[Wn,Ybf];omega) hst) ok λD C s3 H3 cm3 vs I3 a3 _ _ _=>fin D C s3 H3 cm3 vs I3 a3
end
section
variable{K:Frag}{cm:List Addr}{m:Mem}{H:Hp}{xr:XR}{X:Cx}{call:Nat->List W->Mem->Res W}{gv:List T}
theorem RTs.nil_iff{ts:List T}{vs:List V}(h:RTs K cm m H ts vs):(!ts.isEmpty)=!vs.isEmpty:=by cases h<;>rfl
theorem tru_of{w:W}{v:V}{t:T}(M:MemR K cm m H)(r:RW K cm m H w v)(e:view w m=some t)(f:fitT t=true):TruV K v H (Zf8 t):=by
 have hz:=ZV
 cases t with
 |lst ts =>
  obtain⟨a,vs,rfl,h1,h2⟩:=ZJ M r e
  exact .inl ⟨vs,.of h1,h2.nil_iff⟩
 |non=>cases(Ze r e (λ_ z=>by cases z)).vnon;exact rfl
 |bl b=>cases(Ze r e (λ_ z=>by cases z)).vbl;exact rfl
 |int i=>cases(Ze r e (λ_ z=>by cases z)).vint;exact rfl
 |str cs =>
  cases(Ze r e (λ_ z=>by cases z)).vstr
  have hl:cs.length<=lim:=of_decide_eq_true f
  refine⟨by rw[Zae];omega,?_⟩
  rw[Zae]
  cases cs with
  |nil=>rfl
  |cons c cs =>
   show true=_
   symm
   simp
   omega
 |tup ts =>
  obtain⟨a,vs,rfl,h1,h2⟩:=(Ze r e (λ_ z=>by cases z)).itup
  exact .inr (.inl ⟨vs,h1,h2.nil_iff⟩)
 |dct ks ts =>
  have h:=Ze r e (λ_ z=>by cases z)
  cases h with
  |@dct a ks ts vs h1 h2 h3 h4 h5 =>
   refine .inr (.inr ⟨_,h1,?_⟩)
   cases ks with
   |nil=>rfl
   |cons k ks =>
    cases vs with
    |nil=>simp at h3
    |cons v vs=>rfl
 |scr ns =>
  obtain⟨a,rfl,h1⟩:=(Ze r e (λ_ z=>by cases z)).vscr
  exact .inl ⟨_,h1.sq,by cases ns<;>rfl⟩
theorem Zil{w:W}{k:Bool->List Addr->Mem->Hp->Prop}(h:OkR K (Jg w m) xr cm m H k):∃t,view w m=some t/\fitT t=true/\OkR K (.ok (Zf8 t) m) xr cm m H k:=by
 unfold Jg at h
 split at h
 ·split at h
  ·exact⟨_,‹_›,‹_›,h⟩
  ·exact h.elim
 ·exact h.elim
theorem ZgN{w:W}{k:Bool->List Addr->Mem->Hp->Prop}(h:OkR K (Ze0 w m) xr cm m H k):∃b,w=.t (.bl b)/\OkR K (.ok b m) xr cm m H k:=by
 unfold Ze0 at h
 split at h
 ·exact⟨_,rfl,h⟩
 ·exact h.elim
theorem pt_of{e:Expr}{a:E}(h:PE X e (tE X.K call gv xr a))(he:∀whole,isTrue e X.env whole=(do let v <-whole;Gz e.pos;V5 [v] (truthy v))):PT X e (tT X.K call gv xr a):=by
 refine PT.mono (Zlq h he) λσ H Q ⟨env,cm,m,hE,M,ho⟩=>⟨env,cm,m,hE,M,ho.bind.mono λw cm1 m1 H1 x1 M1 o1 v rv=>?_⟩
 obtain⟨t,e1,f1,o2⟩:=Zil o1
 exact⟨Zf8 t,tru_of M1 rv e1 f1,OkR.now o2 M1⟩
theorem Zjc{a b:Expr}{rest:List Expr}{pos:Pos}{ea eb:E}(ha:PE X a (tE X.K call gv xr ea))(hb:PE X (.BoolOp .And (b::rest) pos) (tE X.K call gv xr eb)):PE X (.BoolOp .And (a::b::rest) pos) (tE X.K call gv xr (.and ea eb)):=by
 refine PE.mono (pe_and ha hb) ?_
 rintro σ H Q ⟨env,cm,m,hE,M,ho⟩
 unfold ev at ho
 refine⟨env,cm,m,hE,M,ho.bind.mono λw cm1 m1 H1 x1 M1 o1 v rv=>?_⟩
 obtain⟨c,rfl,o2⟩:=ZgN o1.bind
 cases RT.vbl rv
 have o3:=OkR.now o2 M1
 refine⟨c,rfl,?_⟩
 cases c with
 |true=>exact iteT ⟨env,cm1,m1,hE.ext x1 M M1,M1,o3⟩
 |false=>exact iteF (OkR.now o3 M1 _ (.bl false))
theorem Zi8{a:Expr}{pos:Pos}{ea:E}(ha:PE X a (tE X.K call gv xr ea)):PE X (.UnaryOp .Not a pos) (tE X.K call gv xr (.not ea)):=by
 refine PE.mono (pe_not ha) ?_
 rintro σ H Q ⟨env,cm,m,hE,M,ho⟩
 unfold ev at ho
 refine⟨env,cm,m,hE,M,ho.bind.mono λw cm1 m1 H1 x1 M1 o1 v rv=>?_⟩
 obtain⟨c,rfl,o2⟩:=ZgN o1.bind
 cases RT.vbl rv
 exact⟨c,rfl,OkR.now (OkR.now o2 M1) M1 _ (.bl _)⟩
theorem Ze9{a:E}{σ:L2.St}{H:Hp}{env:Env}{cm:List Addr}{m:Mem}{f:Bool->Mem->Res W}{Q:Bool->Hp->Prop}(hE:EnvR K cm m H env σ)(M:MemR K cm m H)(ho:OkR K (((ev call gv a env m).bind λx m=>(Ze0 x m).bind f).bind Jg) xr cm m H λk _ _ H'=>Q k H'):
  tT K call gv xr a σ H λc H1=>∃cm1 m1,Ext cm m H cm1 m1 H1/\MemR K cm1 m1 H1/\OkR K ((f c m1).bind Jg) xr cm1 m1 H1 λk _ _ H'=>Q k H':=by
 refine⟨env,cm,m,hE,M,?_⟩
 cases h:ev call gv a env m with
 |stuck=>rw[h]at ho;exact ho.elim
 |exc e m'=>rw[h]at ho;exact ho
 |ok w m1 =>
  rw[h]at ho
  have ho':OkR K (((Ze0 w m1).bind f).bind Jg) xr cm m H λk _ _ H'=>Q k H':=ho
  cases w with
  |f a=>exact ho'.elim
  |x _ _ _=>exact ho'.elim
  |c i=>exact ho'.elim
  |t x =>
   cases x with
   |bl b=>exact λcm1 H1 x1 M1=>⟨cm1,m1,x1,M1,OkR.shift ho' x1⟩
   |_=>exact ho'.elim
theorem ZiN{a b:Expr}{rest:List Expr}{pos:Pos}{ea eb:E}(ha:PT X a (tT X.K call gv xr ea))(hb:PW X (.BoolOp .And (b::rest) pos) (tT X.K call gv xr eb)):PW X (.BoolOp .And (a::b::rest) pos) (tT X.K call gv xr (.and ea eb)):=by
 rintro whole pins s σ H Q I ⟨env,cm,m,hE,M,ho⟩
 unfold ev at ho
 obtain⟨env',cm',m',hE',M',ho'⟩:=Ze9 hE M ho
 refine pw_and ha hb whole pins s σ H Q I ⟨env',cm',m',hE',M',ho'.mono λc cm1 m1 H1 _ _ ⟨cm2,m2,x2,M2,o2⟩=>?_⟩
 cases c with
 |true=>exact iteT ⟨env,cm2,m2,hE.ext x2 M M2,M2,o2⟩
 |false=>exact iteF (OkR.now (show OkR X.K (.ok false m2) xr cm2 m2 H1 _ from o2) M2)
theorem ZmR{a b:Expr}{rest:List Expr}{pos:Pos}{ea eb:E}(ha:PT X a (tT X.K call gv xr ea))(hb:PW X (.BoolOp .Or (b::rest) pos) (tT X.K call gv xr eb)):PW X (.BoolOp .Or (a::b::rest) pos) (tT X.K call gv xr (.or ea eb)):=by
 rintro whole pins s σ H Q I ⟨env,cm,m,hE,M,ho⟩
 unfold ev at ho
 obtain⟨env',cm',m',hE',M',ho'⟩:=Ze9 hE M ho
 refine pw_or ha hb whole pins s σ H Q I ⟨env',cm',m',hE',M',ho'.mono λc cm1 m1 H1 _ _ ⟨cm2,m2,x2,M2,o2⟩=>?_⟩
 cases c with
 |true=>exact iteT (OkR.now (show OkR X.K (.ok true m2) xr cm2 m2 H1 _ from o2) M2)
 |false=>exact iteF ⟨env,cm2,m2,hE.ext x2 M M2,M2,o2⟩
theorem ZnV{a:Expr}{pos:Pos}{ea:E}(ha:PT X a (tT X.K call gv xr ea)):PT X (.UnaryOp .Not a pos) (tT X.K call gv xr (.not ea)):=by
 refine PT.mono (pt_not ha) ?_
 rintro σ H Q ⟨env,cm,m,hE,M,ho⟩
 unfold ev at ho
 obtain⟨env',cm',m',hE',M',ho'⟩:=Ze9 hE M ho
 exact⟨env',cm',m',hE',M',ho'.mono λc cm1 m1 H1 _ _ ⟨cm2,m2,x2,M2,o2⟩=>OkR.now (show OkR X.K (.ok (!c) m2) xr cm2 m2 H1 _ from o2) M2⟩
end
end Mi
namespace Mi
open PySem PySem.Spec PyProof.Rows L2
open Builtin
theorem Zbv:fillsNumberSlot (.type "tuple") "mul" = pure false:=
 PySem.fillsNumberSlot_seq (id:="tuple.__mul__") (r:=some (.builtin "tuple.__rmul__")) F.slot_tuple_mul.lookup (by decide +kernel) F.slot_tuple_rmul.lookup (by decide +kernel)
theorem Zeb:seqRepeat? (.type "tuple")=pure (some (.builtin "tuple.__mul__")):=by
 unfold seqRepeat?
 rw[PySem.seqSlot_of (T:="tuple") (name:="__mul__") (id:="tuple.__mul__") F.slot_tuple_mul.lookup (by decide +kernel),PySem.seqSlot_of (T:="tuple") (name:="__rmul__") (id:="tuple.__rmul__") F.slot_tuple_rmul.lookup (by decide +kernel)]
 rfl
theorem Zg9(a:Int)(t:Tok)(l:Addr)(items:Array Value)(n:Nat)(dd:Option Addr)(sl:Array (Option Value)):
  Meets (Builtin.«int.__rmul__» ⟨[.int a t,.ref l],[]⟩) (λ_ R s=>s.heap.get? l=some { cls:=.type "tuple",dict:=dd,data:=.seq items n,slots:=sl }/\R (.ok (.ret Value.notImplemented)) s):=
 .of_wp λprog w A R s h=>by obtain⟨hp,g,d,tk,os⟩:=s;obtain⟨hl,h⟩:=h;wp_walk;exact⟨_,rfl,h⟩
theorem tmul0(l:Addr)(items:Array Value)(n:Nat)(dd:Option Addr)(sl:Array (Option Value))(k:Int)(u:Tok)(h1:(decide (k < -(2^63)) || decide (k ≥ 2^63))=false)(hc:(items.isEmpty || k==1)=true):
  Meets (Builtin.«tuple.__mul__» ⟨[.ref l,.int k u],[]⟩) (λ_ R s=>s.heap.get? l=some { cls:=.type "tuple",dict:=dd,data:=.seq items n,slots:=sl }/\R (.ok (.ret (GF l))) s):=
 .of_wp λprog w A R s h=>by obtain⟨hp,g,d,tk,os⟩:=s;obtain⟨hl,h⟩:=h;have f1:=Ya6;have f2:=Vs;wp_walk;refine Yat (decide_eq_false (YaP.mp h1)) ?_;wp_walk using Wc hl;exact⟨_,rfl,h⟩
theorem tmul1(l:Addr)(items:Array Value)(n:Nat)(dd:Option Addr)(sl:Array (Option Value))(k:Int)(u:Tok)(h1:(decide (k < -(2^63)) || decide (k ≥ 2^63))=false)(hc:¬(items.isEmpty || k==1)=true)(hc1:(decide (k<=0) || items.isEmpty)=true):
  Meets (Builtin.«tuple.__mul__» ⟨[.ref l,.int k u],[]⟩) (λ_ R s=>s.heap.get? l=some { cls:=.type "tuple",dict:=dd,data:=.seq items n,slots:=sl }/\R (.ok (.ret (GF s.heap.objs.size))) { s with heap:=s.heap.push { cls:=Yaj "tuple",data:=Data.seq #[] },toks:=s.toks }):=
 .of_wp λprog w A R s h=>by obtain⟨hp,g,d,tk,os⟩:=s;obtain⟨hl,h⟩:=h;have f1:=Ya6;have f2:=Vs;wp_walk;refine Yat (decide_eq_false (YaP.mp h1)) ?_;wp_walk using Wc hl;exact⟨_,rfl,h⟩
theorem tmul2(l:Addr)(items:Array Value)(n:Nat)(dd:Option Addr)(sl:Array (Option Value))(k:Int)(u:Tok)(h1:(decide (k < -(2^63)) || decide (k ≥ 2^63))=false)(hc:¬(items.isEmpty || k==1)=true)(hc1:¬(decide (k<=0) || items.isEmpty)=true)(hc2:¬(items.size:Int)*k>(2^63-1) / 8)(hc3:¬Tuple.tupleTooMany ((items.size:Int)*k)=true)(hz:(YaI (λx1 x2=>x1++x2) #[] (Yy k.toNat items)).size<=YM):
  Meets (Builtin.«tuple.__mul__» ⟨[.ref l,.int k u],[]⟩) (λ_ R s=>s.heap.get? l=some { cls:=.type "tuple",dict:=dd,data:=.seq items n,slots:=sl }/\R (.ok (.ret (GF s.heap.objs.size))) { s with heap:=s.heap.push { cls:=Yaj "tuple",data:=Data.seq (YaI (λx1 x2=>x1++x2) #[] (Yy k.toNat items)) },toks:=s.toks }):=
 .of_wp λprog w A R s h=>by obtain⟨hp,g,d,tk,os⟩:=s;obtain⟨hl,h⟩:=h;have f1:=Ya6;have f2:=Vs;wp_walk;refine Yat (decide_eq_false (YaP.mp h1)) ?_;wp_walk using Wc hl;refine Yat (decide_eq_false hc2) ?_;wp_walk using Wc hl;exact⟨_,rfl,h⟩
section
variable{X:Cx}
theorem ZgY{n:Nat}(h:n<=YM):¬Tuple.tupleTooMany (n:Int)=true:=by
 unfold Tuple.tupleTooMany
 intro hc
 have:=of_decide_eq_true hc
 have e:=WW
 omega
theorem Zos:OpR X (W9 .Mult) (λx y H Q=>∃l k xs,x=.ref l/\y=.int k/\SqT X.K H l xs/\(-(2^63)<=k/\k<2^63)/\xs.length*k.toNat<=YM/\((xs=[]∨k=1)->Q (.ref l) H) /\
  (¬(xs=[]∨k=1)->∀p,H p=none->Q (.ref p) (upd H p (.tup (Yy k.toNat xs).flatten)))):=by
 intro pins s σ H x y v u Q I rx ry h
 obtain⟨l,k,xs,rfl,rfl,hH,⟨h1,h2⟩,hz,q1,q2⟩:=h
 cases rx
 obtain⟨t,rfl⟩:=ry
 obtain⟨its,r,⟨⟨cls,dd,data,sl⟩,ho,hc,n,hd⟩,hz2⟩:=I.tuple hH
 simp only at hc hd
 subst hc hd
 have hl:=r.length
 have g1:(decide (k < -(2^63)) || decide (k ≥ 2^63))=false:=by
  rw[decide_eq_false (by omega),decide_eq_false (by omega)];rfl
 have road:∀{Q':Value->Shared->Prop},wpAny (model X.prog X.w) X.A (call (.builtin "tuple.__mul__") [.ref l,.int k t]) Q' X.xe s->wpAny (model X.prog X.w) X.A (W9 .Mult (.ref l) (.int k t)) Q' X.xe s:=λhq =>
  wpAny_binaryOp_repeat_ref (T:="tuple") (U:="int") (by decide) ⟨_,ho,rfl⟩ (λs'=>Ybj s' k t) Zbv F.fills_int_mul Yap Zeb F.slot_int_index.lookup
   (GP Yap (Ybj s k t) F.entry_int_rmul (F.args_int_rmul_2 _ _) (Zg9 k t l its.toArray n dd sl) ⟨ho,rfl,⟨_,ho,rfl⟩,hq⟩)
 refine road ?_
 by_cases hc:xs=[]∨k=1
 ·have g2:(its.toArray.isEmpty || k==1)=true:=by
   rcases hc with rfl|rfl
   ·cases r;rfl
   ·simp
  exact GP Ya7 ⟨_,ho,rfl⟩ YaQ (YaA _ _) (tmul0 l its.toArray n dd sl k t g1 g2) ⟨ho,.ref l,H,I,rfl,q1 hc⟩
 ·have hne:its≠[]:=λe=>hc (.inl (r.nil_iff.mp e))
  have g2:¬(its.toArray.isEmpty || k==1)=true:=by
   intro hh
   rw[Ue]at hh
   rcases hh with hh|hh
   ·exact hne (by simpa using hh)
   ·exact hc (.inr (eq_of_beq hh))
  have fin:∀arr:Array Value,arr=(Yy k.toNat its).flatten.toArray->EP X pins σ Q (.ref s.heap.objs.size) { s with heap:=s.heap.push { cls:=.type "tuple",data:=.seq arr } }:=λarr e=>by
   subst e
   refine⟨.ref s.heap.objs.size,_,I.laid (t':=s.toks) (o:=.tup (Yy k.toNat xs).flatten) (λb ob q=>Ye _ q) (Yj _) ?_,rfl,q2 hc _ (I.hok.fresh (Yj _))⟩
   exact⟨by rw[len_rep,YbS];exact hz,_,r.rep k.toNat,TupP.new _ _⟩
  by_cases h0:k<=0
  ·have g3:(decide (k<=0) || its.toArray.isEmpty)=true:=by rw[decide_eq_true h0];rfl
   refine GP Ya7 ⟨_,ho,rfl⟩ YaQ (YaA _ _) (tmul1 l its.toArray n dd sl k t g1 g2 g3) ⟨ho,fin #[] ?_⟩
   have:k.toNat=0:=by omega
   rw[this];rfl
  ·have g3:¬(decide (k<=0) || its.toArray.isEmpty)=true:=by
    intro hh
    rw[Ue]at hh
    rcases hh with hh|hh
    ·exact h0 (of_decide_eq_true hh)
    ·exact hne (by simpa using hh)
   have hk:(k.toNat:Int)=k:=by omega
   have hs:(its.toArray.size:Int)*k=((xs.length*k.toNat:Nat):Int):=by
    rw[Yk,<-hl,Int.natCast_mul,hk]
   have hsl:(YM:Nat)=16777216:=WW
   have hf:YaI (λx1 x2=>x1++x2) #[] (Yy k.toNat its.toArray)=(Yy k.toNat its).flatten.toArray:=by
    have:=foldl_rep its k.toNat []
    rw[G4]at this
    exact this
   refine GP Ya7 ⟨_,ho,rfl⟩ YaQ (YaA _ _) (tmul2 l its.toArray n dd sl k t g1 g2 g3 (by rw[hs];omega) (by rw[hs];exact ZgY hz) ?_) ⟨ho,fin _ hf⟩
   rw[hf,Yk,len_rep,<-hl,YbS]
   exact hz
end
end Mi
namespace Mi
open PySem PySem.Spec PyProof.Rows L2
section
variable{K:Frag}{cm:List Addr}{m:Mem}{H:Hp}{xr:XR}{X:Cx}{call:Nat->List W->Mem->Res W}{gv:List T}
theorem Zn7{i:Nat}{x:Str}{pos:Pos}(hN:X.N[i]?=some x)(hv:Vis X.env.scope x)(hd:(x==("__debug__" : Str))=false)(hcd:(x==("__classdict__" : Str))=false):PE X (.Name x pos) (tE X.K call gv xr (.var i)):=by
 refine PE.mono (ZmZ hN hv hd hcd) ?_
 rintro σ H Q ⟨env,cm,m,hE,M,ho⟩
 unfold ev at ho
 split at ho
 ·rename_i w e
  obtain⟨v,h1,h2⟩:=hE i w e
  exact⟨v,h1,OkR.now ho M v h2⟩
 ·exact ho.elim
def Zk2(K:Frag)(mg:Str->Option Value)(x:Str)(t:T):Prop:=∃u v,mg x=some u/\RelV v u/\∀cm m H,RT K cm m H t v
theorem pe_glW{k:Nat}{x:Str}{t:T}{pos:Pos}(hg:Gl X x)(hk:gv[k]?=some t)(ok:Zk2 X.K X.mg x t)(hd:(x==("__debug__" : Str))=false):PE X (.Name x pos) (tE X.K call gv xr (.gl k)):=by
 obtain⟨u,v,h1,h2,h3⟩:=ok
 refine PE.mono (Zoi hg h1 h2 hd) ?_
 rintro σ H Q ⟨env,cm,m,hE,M,ho⟩
 unfold ev at ho
 rw[hk]at ho
 exact OkR.now (a:=W.t t) ho M v (h3 cm m H)
theorem Zoh{i:Int}{j pos}:PE X (.Constant (.int i) j pos) (tE X.K call gv xr (.con (.int i))):=PE.mono pe_int λσ H Q ⟨env,cm,m,hE,M,ho⟩=>by
 unfold ev at ho
 exact OkR.now ho M _ (.int i)
theorem pe_blW{b:Bool}{j pos}:PE X (.Constant (.bool b) j pos) (tE X.K call gv xr (.con (.bl b))):=PE.mono pe_bl λσ H Q ⟨env,cm,m,hE,M,ho⟩=>by
 unfold ev at ho
 exact OkR.now ho M _ (.bl b)
theorem Zoc{j pos}:PE X (.Constant .none j pos) (tE X.K call gv xr (.con .non)):=PE.mono pe_non λσ H Q ⟨env,cm,m,hE,M,ho⟩=>by
 unfold ev at ho
 exact OkR.now ho M _ .non
theorem ZmP{x:Str}{cs:List Nat}(h:x.cps.toList=cs):x=⟨cs.toArray⟩:=by
 subst h
 cases x
 simp
theorem Zn9{x:Str}{cs:List Nat}{j pos}(h:x.cps.toList=cs):PE X (.Constant (.str x) j pos) (tE X.K call gv xr (.con (.str cs))):=PE.mono pe_str λσ H Q ⟨env,cm,m,hE,M,ho⟩=>by
 unfold ev at ho
 have:=OkR.now ho M _ (.str cs)
 rw[ZmP h]
 exact this
theorem ZgC(cs:List Nat):∀(n:Nat) (acc:Array Nat),(Yy n cs.toArray).foldl (·++·) acc=acc++(Yy n cs).flatten.toArray
 |0,acc=>by simp
 |n+1,acc=>by
  rw[WL,Ut,ZgC cs n,WL,W4]
  apply Array.toList_inj.mp
  simp
theorem ZlZ{cs:List Nat}{k:Int}(h:0<=k):Txt.mul ⟨cs.toArray⟩ k=⟨(repT cs k.toNat).toArray⟩:=by
 unfold Txt.mul repT
 by_cases h1:k<1
 ·have:k=0:=by omega
  subst this
  rw[if_pos h1]
  rfl
 ·rw[if_neg h1]
  by_cases h2:(k==1 || (⟨cs.toArray⟩:Str).length==0)=true
  ·rw[if_pos h2]
   rcases Ue _ _▸h2 with h3|h3
   ·have:k=1:=eq_of_beq h3
    subst this
    simp
   ·have hl:cs.toArray.size=0:=eq_of_beq h3
    have:cs=[]:=by simpa using hl
    subst this
    simp
  ·rw[if_neg h2,ZgC]
   simp
theorem mul_fits{cs:List Nat}{k:Int}(h:0<=k/\k<=64)(hl:cs.length<=1000):MulOk ⟨cs.toArray⟩ k:=by
 have e:(⟨cs.toArray⟩:Str).length=cs.length:=by show cs.toArray.size=_;simp
 have hk:k.toNat<=64:=by omega
 have hm:cs.length*k.toNat<=1000*64:=Nat.mul_le_mul hl hk
 refine⟨?_,λh1 _=>?_,λh1 _=>?_⟩
 ·have a:¬k < -(2^63:Int):=by omega
  have b:¬k ≥ (2^63:Int):=by omega
  simp only[a,b,decide_false,Bool.or_self]
 ·rw[e]
  have:(1000:Int)<=(2^63-1) / k:=(Int.le_ediv_iff_mul_le (by omega)).mpr (by omega)
  omega
 ·rw[e]
  unfold Builtin.Str.tooLong
  have:=ZV
  unfold lim at this
  exact decide_eq_false (by omega)
theorem Zhr:OpR X (W9 .Mult) (r2 X.K xr (fBin .Mult)):=by
 rintro pins s σ H x y v u Q I rx ry ⟨cm,m,a,b,M,ra,rb,ho⟩
 obtain⟨t,e,ho⟩:=Jl ho
 obtain⟨ta,tb,ea,eb,e⟩:=ZdP e
 change mulT ta tb=some t at e
 unfold mulT at e
 split at e
 rotate_left
 ·cases e
 rename_i k
 split at e
 ·split at e<;>cases e
  cases(Ze ra ea (λ_ z=>by cases z)).vint
  cases(Ze rb eb (λ_ z=>by cases z)).vint
  exact Zov pins s σ H _ _ v u Q I rx ry ⟨_,_,rfl,rfl,‹_›,ans ho M (.int _)⟩
 ·split at e<;>cases e
  rename_i ts hc
  obtain⟨p,vs,rfl,h1,r1⟩:=(Ze ra ea (λ_ z=>by cases z)).itup
  cases(Ze rb eb (λ_ z=>by cases z)).vint
  have l1:=r1.length
  have hz:=ZV
  have hl:(lim:Int)<2^63:=by unfold lim;decide
  refine Zos pins s σ H _ _ v u Q I rx ry ⟨p,_,vs,rfl,rfl,h1,by omega,by rw[<-l1];omega,λhq=>?_,λ_ l hl=>Zc8 ho M (Za1 r1 _) hl⟩
  have e:repT ts k.toNat=ts:=by
   rcases hq with rfl|rfl
   ·cases r1;simp[repT]
   ·simp[repT]
  rw[e]at ho
  exact ans ho M (.mtup h1 r1)
 ·split at e<;>cases e
  rename_i hc
  obtain⟨p,vs,rfl,h1,r1⟩:=ZJ M ra ea
  cases(Ze rb eb (λ_ z=>by cases z)).vint
  have l1:=r1.length
  have hz:=ZV
  have hl:(lim:Int)<2^63:=by unfold lim;decide
  exact op_rep pins s σ H _ _ v u Q I rx ry ⟨p,_,vs,rfl,rfl,h1,by omega,by omega,by rw[<-l1];omega,λl hl=>Zcy ho M (Za1 r1 _) hl⟩
 ·split at e<;>cases e
  rename_i cs hc
  cases(Ze ra ea (λ_ z=>by cases z)).vstr
  cases(Ze rb eb (λ_ z=>by cases z)).vint
  obtain⟨tx,rfl⟩:=rx
  obtain⟨ty,rfl⟩:=ry
  refine SB.mul (mul_fits hc.1 hc.2) λt' k'=>⟨.str ⟨(repT cs k.toNat).toArray⟩,H,I.tok _,⟨t',?_⟩,ans ho M (.str _)⟩
  rw[ZlZ hc.1.1]
 all_goals cases e
theorem op_no{op:Yav}(h:∀x y,binT op x y=none):OpR X (W9 op) (r2 X.K xr (fBin op)):=by
 rintro pins s σ H x y v u Q I rx ry ⟨cm,m,a,b,M,ra,rb,ho⟩
 obtain⟨t,e,ho⟩:=Jl ho
 obtain⟨ta,tb,ea,eb,e⟩:=ZdP e
 rw[h]at e
 cases e
theorem op_bin(op:Yav):OpR X (W9 op) (r2 X.K xr (fBin op)):=by
 cases op<;>first|exact Zht|exact Zhp|exact Zhr|exact Zfq|exact Zhs|exact Zhq|exact op_no λx y=>by cases x<;>cases y<;>rfl
variable{a b c:Expr}{ea eb ec:E}{pos:Pos}
theorem Zop{op:Yav}(ha:PE X a (tE X.K call gv xr ea))(hb:PE X b (tE X.K call gv xr eb)):PE X (.BinOp a op b pos) (tE X.K call gv xr (.bin op ea eb)):=
 PE.mono (pe_op (op_bin op) ha hb) (Zld λenv m=>by rw[ev];rfl)
def fNeg(x:W)(m:Mem):Res W:=pur ((view x m).bind λx=>match x with
 |.int i=>some (.int (-i))
 |_=>none) m
theorem ZnC:UnR X (unaryOp .USub) (r1 X.K xr fNeg):=by
 rintro pins s σ H x v Q I rx ⟨cm,m,a,M,ra,ho⟩
 obtain⟨t,e,ho⟩:=Jl ho
 cases q:view a m with
 |none=>rw[q]at e;cases e
 |some ta =>
  rw[q]at e
  cases ta with
  |int i =>
   cases e
   cases(Ze ra q (λ_ z=>by cases z)).vint
   exact un_neg pins s σ H _ v Q I rx ⟨_,rfl,ans ho M (.int _)⟩
  |_=>cases e
theorem Zod(ha:PE X a (tE X.K call gv xr ea)):PE X (.UnaryOp .USub a pos) (tE X.K call gv xr (.neg ea)):=
 PE.mono (pe_un ZnC ha) (t1_of λenv m=>by rw[ev];rfl)
theorem Zok{op:CmpOp}(ha:PE X a (tE X.K call gv xr ea))(hb:PE X b (tE X.K call gv xr eb))(hm:YaV op b=false)(hu:X.A.units+64<cLine):PE X (.Compare a [op] [b] pos) (tE X.K call gv xr (.cmp op ea eb)):=
 PE.mono (Zol (Zm2 hu op) ha hb hm) (Zld λenv m=>by rw[ev];rfl)
theorem ZoW{op:CmpOp}{x y w:W}{m m':Mem}(h:fCmp op x y m=.ok w m'):∃k,w=.t (.bl k)/\m'=m:=by
 unfold fCmp at h
 cases q:((view x m).bind λx=>(view y m).bind λy=>cmpT op x y)with
 |none=>rw[q]at h;cases h
 |some k=>rw[q]at h;cases h;exact⟨k,rfl,rfl⟩
theorem ZnY{f:Env->Mem->Res W}{e:Expr}{te:TE}{a:E}(h:PT X e (tTest te))(hk:∀env m w m',ev call gv a env m=.ok w m'->∃k,w=.t (.bl k))(he:∀σ H Q,tE X.K call gv xr a σ H Q->te σ H Q):PT X e (tT X.K call gv xr a):=by
 refine PT.mono h λσ H Q ⟨env,cm,m,hE,M,ho⟩=>he σ H _ ⟨env,cm,m,hE,M,?_⟩
 cases q:ev call gv a env m with
 |stuck=>rw[q]at ho;exact ho.elim
 |exc e m'=>rw[q]at ho;exact ho
 |ok w m' =>
  obtain⟨k,rfl⟩:=hk env m w m' q
  rw[q]at ho
  intro cm1 H1 x1 M1 v rv
  cases RT.vbl rv
  exact⟨k,rfl,(show OkR X.K (.ok k m') xr cm m H _ from ho) cm1 H1 x1 M1⟩
theorem ZnW{op:CmpOp}(ha:PE X a (tE X.K call gv xr ea))(hb:PE X b (tE X.K call gv xr eb))(hm:YaV op b=false)(hu:X.A.units+64<cLine):PT X (.Compare a [op] [b] pos) (tT X.K call gv xr (.cmp op ea eb)):=by
 refine ZnY (f:=λ_ _=>.stuck) (ZnX (Zm2 hu op) ha hb hm) (λenv m w m' h=>?_) (Zld λenv m=>by rw[ev];rfl)
 rw[ev]at h
 obtain⟨x,m1,_,h⟩:=Zj h
 obtain⟨y,m2,_,h⟩:=Zj h
 obtain⟨k,hk,_⟩:=ZoW h
 exact⟨k,hk⟩
theorem pe_ixW(ha:PE X a (tE X.K call gv xr ea))(hb:PE X b (tE X.K call gv xr eb))(hs:ZkZ b):PE X (.Subscript a b pos) (tE X.K call gv xr (.ix ea eb)):=
 PE.mono (pe_ix ix_ix ha hb hs) (Zld λenv m=>by rw[ev];rfl)
end
section
variable{K:Frag}{cm:List Addr}{m:Mem}{H:Hp}{xr:XR}{X:Cx}{call:Nat->List W->Mem->Res W}{gv:List T}
variable{a b c e:Expr}{es:List Expr}{ea eb ec:E}{eas:Es}{pos p:Pos}
def notStar:Expr->Bool
 |.Starred _ _=>false
 |_=>true
theorem J8{env:Ws}(h:notStar e=true):W7 (e::es) env=(false,eval e env)::W7 es env:=by
 cases e<;>first|rfl|cases h
theorem Zip{env:Ws}:∀{es:List Expr},es.all notStar=true->(backTo pos (W7 es env)).all (λx=>!x.1)=true
 |[],_=>rfl
 |e::es,h=>by
  rw[G9,Yo]at h
  rw[J8 h.1]
  show(!false&&(backTo pos (W7 es env)).all (λx=>!x.1))=true
  rw[Zip h.2]
  rfl
theorem ZcL{env:Ws}{es:List Expr}(h:es.all notStar=true):(backTo pos (W7 es env)).any (·.1)=false:=by
 have h1:=Zip (pos:=pos) (env:=env) h
 rw[List.any_eq_false]
 intro x hx
 have:=Wa.mp h1 x hx
 simpa using this
theorem Zor:PA X [] (tA X.K call gv xr .nil):=PA.mono Zm1 λσ H Q ⟨env,cm,m,hE,M,ho⟩=>by
 rw[evs]at ho
 exact OkR.now ho M [] .nil
theorem ZlU(ha:PE X e (tE X.K call gv xr ea))(hr:PA X es (tA X.K call gv xr eas))(hs:notStar e=true):PA X (e::es) (tA X.K call gv xr (.cons ea eas)):=by
 refine PA.mono (Zje ha hr (J8 hs)) ?_
 rintro σ H Q ⟨env,cm,m,hE,M,ho⟩
 rw[evs]at ho
 refine⟨env,cm,m,hE,M,ho.bind.mono λw cm1 m1 H1 x1 M1 o1 v rv=>?_⟩
 exact⟨env,cm1,m1,hE.ext x1 M M1,M1,o1.bind.mono λws cm2 m2 H2 x2 M2 o2 vs rvs=>OkR.now o2 M2 (v::vs) (.cons (rv.ext x2 M1 M2) rvs)⟩
theorem ZeL{w:W}{m m':Mem}{x:Exc}:frz w m≠.exc x m':=by
 intro h
 unfold frz at h
 split at h
 ·cases h
 ·cases h
 ·cases h
 ·split at h<;>cases h
theorem Zc2:∀{ws:List W}{m m':Mem}{x:Exc},frzs ws m≠.exc x m'
 |[],_,_,_=>λh=>by cases h
 |w::ws,m,m',x=>λh=>by
  rw[frzs]at h
  cases q:frz w m with
  |stuck=>rw[q]at h;cases h
  |exc y m1=>exact ZeL q
  |ok t m1 =>
   rw[q]at h
   have h':((frzs ws m1).bind λts m=>Res.ok (t::ts) m)=.exc x m':=h
   cases q2:frzs ws m1 with
   |stuck=>rw[q2]at h';cases h'
   |exc y m2=>exact Zc2 q2
   |ok ts m2=>rw[q2]at h';cases h'
theorem X8:∀{ws:List W}{vs:List V}{ts:List T}{m m':Mem},MemR K cm m H->RWs K cm m H ws vs->frzs ws m=.ok ts m'->Ext cm m H cm m' H/\MemR K cm m' H/\RTs K cm m' H ts vs
 |[],_,_,_,_,M,.nil,e=>by cases e;exact⟨.refl,M,.nil⟩
 |w::ws,v::vs,ts,m,m',M,.cons r rs,e=>by
  rw[frzs]at e
  obtain⟨t,m1,e1,e⟩:=Zj e
  obtain⟨us,m2,e2,e⟩:=Zj e
  cases e
  obtain⟨x1,M1,r1⟩:=ZeK M r e1
  obtain⟨x2,M2,r2⟩:=X8 M1 (RWs.ext x1 M M1 rs) e2
  exact⟨x1.trans x2,M2,.cons (RT.ext x2 M1 M2 r1) r2⟩
theorem Xy{α:Type}{ws:List W}{f:List T->Mem->Res α}{k:α->List Addr->Mem->Hp->Prop}(h:OkR K ((frzs ws m).bind f) xr cm m H k):∃ts m',frzs ws m=.ok ts m'/\OkR K (f ts m') xr cm m H k:=by
 cases q:frzs ws m with
 |stuck=>rw[q]at h;exact h.elim
 |exc x m'=>exact absurd q Zc2
 |ok ts m'=>rw[q]at h;exact⟨ts,m',rfl,h⟩
theorem Zc1{α:Type}{c:Prop}[Decidable c]{r:Res α}{k:α->List Addr->Mem->Hp->Prop}(h:OkR K (if c then r else .stuck) xr cm m H k):c/\OkR K r xr cm m H k:=by
 by_cases hc:c
 ·rw[if_pos hc]at h;exact⟨hc,h⟩
 ·rw[if_neg hc]at h;exact h.elim
theorem Zn8{x1}(h:PA X es (tA X.K call gv xr eas)):PE X (.Tuple es x1 pos) (tE X.K call gv xr (.tup eas)):=by
 refine PE.mono (pe_tup h) ?_
 rintro σ H Q ⟨env,cm,m,hE,M,ho⟩
 rw[ev]at ho
 refine⟨env,cm,m,hE,M,ho.bind.mono λws cm1 m1 H1 x1 M1 o1 vs rvs=>?_⟩
 obtain⟨ts,m2,e2,o2⟩:=Xy o1
 obtain⟨hl,o3⟩:=Zc1 o2
 obtain⟨x2,M2,r2⟩:=X8 M1 rvs e2
 have l2:=r2.length
 have hz:=ZV
 exact⟨by omega,λp hp=>Zc8 (OkR.shift o3 x2) M2 r2 hp⟩
theorem Zoe(h:PA X es (tA X.K call gv xr eas)):PE X (.List es pos) (tE X.K call gv xr (.lst eas)):=by
 refine PE.mono (pe_lst h) ?_
 rintro σ H Q ⟨env,cm,m,hE,M,ho⟩
 rw[ev]at ho
 refine⟨env,cm,m,hE,M,ho.bind.mono λws cm1 m1 H1 x1 M1 o1 vs rvs=>?_⟩
 obtain⟨ts,m2,e2,o2⟩:=Xy o1
 obtain⟨hl,o3⟩:=Zc1 o2
 obtain⟨x2,M2,r2⟩:=X8 M1 rvs e2
 have l2:=r2.length
 have hz:=ZV
 exact⟨by omega,λp hp=>Zcy (OkR.shift o3 x2) M2 r2 hp⟩
def tLstN(K:Frag)(t:TA):TE:=λσ H Q=>t σ H λxs H1=>xs.length<=YM/\∀p,H1 p=none->K.lookup p=none->Q (.ref p) (upd H1 p (.lst xs))
theorem Inv.notK{pins:List (Addr×Obj)}{σ:L2.St}{H:Hp}{s:Shared}(I:Inv X pins σ H s):X.K.lookup s.heap.objs.size=none:=by
 cases q:X.K.lookup s.heap.objs.size with
 |none=>rfl
 |some o=>exact absurd (Ys (I.kIn _ _ q)) (Y9 _)
theorem Zof{t:TA}(h:PA X es t):PE X (.List es pos) (tLstN X.K t):=by
 intro pins s σ H Q I hq
 refine wpAny_List_spliced (thn (h pos pins s σ H _ I hq) λus s1 ⟨xs,H1,I1,r,z,q⟩=>⟨by rw[<-r.length];exact z,?_⟩)
 have hf:H1 s1.heap.objs.size=none:=I1.hok.fresh (Yj _)
 refine⟨.ref s1.heap.objs.size,upd H1 s1.heap.objs.size (.lst xs),I1.laid (t':=s1.toks) (λb u e=>Ye _ e) (Yj _) ?_,rfl,q _ hf (Mi.Inv.notK I1)⟩
 exact⟨z,us,0,r,Yt _ rfl⟩
theorem Zom(h:PA X es (tA X.K call gv xr eas)):PE X (.List es pos) (tE X.K call gv xr (.cel eas)):=by
 refine PE.mono (Zof h) ?_
 rintro σ H Q ⟨env,cm,m,hE,M,ho⟩
 rw[ev]at ho
 refine⟨env,cm,m,hE,M,ho.bind.mono λws cm1 m1 H1 x1 M1 o1 vs rvs=>?_⟩
 obtain⟨ts,m2,e2,o2⟩:=Xy o1
 obtain⟨hl,o3⟩:=Zc1 o2
 obtain⟨x2,M2,r2⟩:=X8 M1 rvs e2
 have l2:=r2.length
 have hz:=ZV
 refine⟨by omega,λp hp hk=>?_⟩
 obtain⟨x3,M3,r3⟩:=ZmF M2 r2 hp hk
 exact OkR.to o3 (x2.trans x3) M3 _ r3
theorem Zbo{α:Type}(xs:List α)(lo hi:Option Int):cut xs lo hi=(xs.drop (HT.sIx xs.length 0 lo)).take (HT.sIx xs.length xs.length hi-HT.sIx xs.length 0 lo):=by
 have e:∀n d o,ZkB n d o=HT.sIx n d o:=λn d o=>by cases o<;>rfl
 unfold cut
 rw[e,e]
theorem Za2{α β:Type}{F:α->β->Prop}{xs:List α}{ys:List β}(h:Paired F xs ys)(lo hi:Option Int):Paired F (cut xs lo hi) (cut ys lo hi):=by
 rw[Zbo,Zbo,<-h.length]
 exact ZbW _ (ZbX _ h)
theorem ZfK(xs:List V)(lo hi:Option Int):cutV xs lo hi=cut xs lo hi:=(Zbo xs lo hi).symm
theorem Zlp(x y:Nat):sliceRange (x:Int) (y:Int) 1=(YF (y-x)).map λk=>x+k:=by
 unfold sliceRange
 simp only[show((1:Int)>0)=True from by simp,if_true]
 by_cases h:(x:Int)<y
 ·have e3:(((y:Int)-x+1-1) / 1).toNat=y-x:=by first|omega|(simp;done)|(simp;omega)
  rw[if_pos h,e3]
  refine GD λk _=>?_
  omega
 ·have e3:y-x=0:=by omega
  rw[if_neg h,e3]
  rfl
theorem ZbI(n d:Nat)(v:Int):max 0 (min (if v<0 then v+n else v) (n:Int))=((HT.sIx n d (some v):Nat):Int):=by
 show max 0 (min (if v<0 then v+n else v) (n:Int))=(((if v<0 then(v+(n:Int)).toNat else min v.toNat n):Nat):Int)
 split<;>omega
theorem ZhG(lo hi:Option Int)(n:Nat):(Builtin.Str.strSliceIndices lo hi 1 n)=(YF (HT.sIx n n hi-HT.sIx n 0 lo)).map λk=>HT.sIx n 0 lo+k:=by
 rw[<-Zlp]
 unfold Builtin.Str.strSliceIndices
 cases lo with
 |none =>
  cases hi with
  |none=>rfl
  |some j =>
   rw[<-ZbI]
   rfl
 |some i =>
  cases hi with
  |none =>
   rw[<-ZbI]
   rfl
  |some j =>
   rw[<-ZbI,<-ZbI]
   rfl
def fSl(w:W)(lo hi:Option Int)(m:Mem):Res W:=pur ((view w m).bind λx=>slT x lo hi) m
def rSl(K:Frag)(xr:XR):V->Option Int->Option Int->Hp->VK->Prop:=λx lo hi H Q=>∃cm m w,MemR K cm m H/\RW K cm m H w x/\OkR K (fSl w lo hi m) xr cm m H λw cm' m' H'=>∀v,RW K cm' m' H' w v->Q v H'
theorem Zix{prog:YK}{w:World}{A:Around}{E:Value->Shared->Prop}{s:Shared}{cs:List Nat}{t:Tok}{sl:Addr}{vl vu:Value}{lo hi:Option Int}{Q:Value->Shared->Prop}(hs:s.heap.IsSliceOf sl vl vu .none)(pl:IsPart vl lo)(pu:IsPart vu hi)(hz:cs.length<=lim)(h:∀t' k,Q (.str ⟨(cut cs lo hi).toArray⟩ t') { s with toks:=k }):wpAny (model prog w) A (Yao (.str ⟨cs.toArray⟩ t) (.ref sl)) Q E s:=by
 have hl:=ZV
 obtain⟨l,e1,e2⟩:∃l:Option (Int×Tok),vl=partValue l/\l.map (·.1)=lo:=by
  cases pl with
  |none=>exact⟨none,rfl,rfl⟩
  |int i t=>exact⟨some (i,t),rfl,rfl⟩
 obtain⟨u,f1,f2⟩:∃l:Option (Int×Tok),vu=partValue l/\l.map (·.1)=hi:=by
  cases pu with
  |none=>exact⟨none,rfl,rfl⟩
  |int i t=>exact⟨some (i,t),rfl,rfl⟩
 subst e1 f1
 refine wpAny_getItem_str_slice (l:=l) (u:=u) (st:=none) hs (by rfl) ?_
 have pk:Ybu ⟨cs.toArray⟩ l u none=(YF (HT.sIx cs.length cs.length hi-HT.sIx cs.length 0 lo)).map λk=>HT.sIx cs.length 0 lo+k:=by
  unfold Ybu
  rw[e2,f2,Zae]
  exact ZhG lo hi cs.length
 have hn:HT.sIx cs.length cs.length hi<=cs.length:=HT.sIx_le _ _ (Yj _) hi
 have fm:((Ybu ⟨cs.toArray⟩ l u none).filterMap ((⟨cs.toArray⟩:Str).cps[·]?))=cut cs lo hi:=by
  rw[pk,Zbo]
  by_cases hle:HT.sIx cs.length 0 lo<=HT.sIx cs.length cs.length hi
  ·have:=StrLaws.picks cs (HT.sIx cs.length cs.length hi-HT.sIx cs.length 0 lo) (HT.sIx cs.length 0 lo) (by omega)
   rw[<-this]
   simp
  ·have:HT.sIx cs.length cs.length hi-HT.sIx cs.length 0 lo=0:=by omega
   rw[this]
   simp
 unfold sliceMade
 split
 ·rename_i hw
  rw[Yo]at hw
  have q:(Ybu ⟨cs.toArray⟩ l u none).length=cs.length:=by rw[eq_of_beq hw.2,Zae]
  rw[pk,Yc,W6]at q
  have e:cut cs lo hi=cs:=by
   rw[Zbo]
   have:HT.sIx cs.length 0 lo=0∨cs.length=0:=by omega
   rcases this with h0|h0
   ·rw[h0]at q ⊢
    rw[YaG,q]
    exact Ya8
   ·rw[List.length_eq_zero_iff]at h0
    subst h0
    simp
  have:=h t s.toks
  rw[e]at this
  exact this
 ·rw[fm]
  have hc:(cut cs lo hi).length<=cs.length:=by
   rw[Zbo,WP,V6];omega
  exact⟨by show(cut cs lo hi).toArray.size<=_;rw[Yk];omega,h _ _⟩
theorem Zia{prog:YK}{w:World}{A:Around}{E:Value->Shared->Prop}{s:Shared}{t sl:Addr}{items:Array Value}{vl vu:Value}{lo hi:Option Int}{Q:Value->Shared->Prop}(ht:IsTup s.heap t items)(hs:s.heap.IsSliceOf sl vl vu .none)(pl:IsPart vl lo)(pu:IsPart vu hi)(hw:HT.sIx items.size 0 lo=0/\HT.sIx items.size items.size hi=items.size)(h:Q (.ref t) s):wpAny (model prog w) A (Yao (.ref t) (.ref sl)) Q E s:=by
 obtain⟨os,hos,hcs,hds⟩:=id hs
 have hTs:s.TypeIs (.ref sl) "slice":=⟨os,hos,hcs⟩
 unfold Yao
 try with_reducible refine Wj ?_
 first|refine Yb (Yd ?_)|skip
 refine Yb (wpAny_sequenceKey ht.typeIs (by decide) ?_)
 refine Yb (Ub (name:=Gg "__getitem__") ht.typeIs Ul
  (WQ Ul ht.typeIs entry_tuple_getitem ?_ (args_tuple_getitem _ _)))
 show wpAny _ _ (Builtin.Tuple.tupleItemsOf (.ref t) >>= _) _ _ s
 refine Yb (tupleItemsOf_ ht ?_)
 refine Yb (Yay hTs ?_)
 rw[if_pos (by decide)]
 refine Yb (HT.sliceApplied_gen hs pl pu ?_)
 show wpAny _ _ (if(((HT.sIx items.size 0 lo:Nat):Int)==0&&(1:Int)==1&&(HT.sIx items.size items.size hi-HT.sIx items.size 0 lo)==items.size)=true then _ else _) _ _ s
 rw[if_pos (by rw[hw.1,hw.2];simp)]
 refine Yb ?_
 unfold Builtin.Tuple.tupleIsExact
 refine Yb (Yay ht.typeIs (Yd ?_))
 rw[if_pos (by decide)]
 exact Yb (Vq (Yd ⟨_,rfl,Yd h⟩))
theorem Zlh{pins:List (Addr×Obj)}{s:Shared}{σ:L2.St}{H:Hp}{x:V}{v vl vu:Value}{lo hi:Option Int}{sl:Addr}{Q:VK}{a:Addr}{xs:List V}(I:Inv X pins σ H s)(rx:RelV x v)(hs:s.heap.IsSliceOf sl vl vu .none)(pl:IsPart vl lo)(pu:IsPart vu hi)(e:x=.ref a)(hx:SqT X.K H a xs)(hw:HT.sIx xs.length 0 lo=0/\HT.sIx xs.length xs.length hi=xs.length)(q:Q (.ref a) H):∃T id,YbJ (.type T) "__getitem__" = pure (some (.builtin id))/\s.TypeIs v T/\wpAny (model X.prog X.w) X.A (Yao v (.ref sl)) (EP X pins σ Q) X.xe s:=by
 subst e
 cases rx
 obtain⟨its,r,ht,hz⟩:=I.tuple hx
 have hlen:its.toArray.size=xs.length:=by rw[Yk];exact r.length.symm
 exact⟨"tuple",_,PyProof.Rows.slot_tuple_getitem.lookup,ht.typeIs,Zia ht hs pl pu (by rw[hlen];exact hw) ⟨.ref a,H,I,rfl,q⟩⟩
theorem sl_any:SlR X (rSl X.K xr):=by
 rintro pins s σ H x v vl vu lo hi sl Q I rx hs pl pu ⟨cm,m,w,M,rw',ho⟩
 obtain⟨t,e,ho⟩:=Jl ho
 cases q:view w m with
 |none=>rw[q]at e;cases e
 |some tw =>
  rw[q]at e
  have e:slT tw lo hi=some t:=e
  cases tw with
  |tup ts =>
   cases e
   obtain⟨a,vs,rfl,h1,r1⟩:=(Ze rw' q (λ_ z=>by cases z)).itup
   have l1:=r1.length
   have e:∀n d o,ZkB n d o=HT.sIx n d o:=λn d o=>by cases o<;>rfl
   by_cases hc:HT.sIx vs.length 0 lo=0/\HT.sIx vs.length vs.length hi=vs.length
   ·refine Zlh I rx hs pl pu rfl h1 hc ?_
    have ec:cut ts lo hi=ts:=by
     unfold cut
     rw[e,e,l1,hc.1,hc.2,YaG,Nat.sub_zero,<-l1,Ya8]
    rw[ec]at ho
    exact ans ho M (.mtup h1 r1)
   ·refine sl_tup pins s σ H _ v vl vu lo hi sl Q I rx hs pl pu ⟨a,vs,rfl,h1,hc,λp hp=>?_⟩
    rw[ZfK];exact Zc8 ho M (Za2 r1 lo hi) hp
  |lst ts =>
   cases e
   obtain⟨a,vs,rfl,h1,r1⟩:=ZJ M rw' q
   exact Ziy pins s σ H _ v vl vu lo hi sl Q I rx hs pl pu ⟨a,vs,rfl,.of h1,λp hp=>by rw[ZfK];exact Zcy ho M (Za2 r1 lo hi) hp⟩
  |scr ns =>
   cases e
   obtain⟨a,rfl,h1⟩:=(Ze rw' q (λ_ z=>by cases z)).vscr
   refine Ziy pins s σ H _ v vl vu lo hi sl Q I rx hs pl pu ⟨a,_,rfl,h1.sq,λp hp=>?_⟩
   rw[ZfK]
   refine Zcy ho M ?_ hp
   have:=Za2 (ZaX (K:=X.K) (cm:=cm) (m:=m) (H:=H) ns) lo hi
   have e:cut (ns.map T.int) lo hi=(cut ns lo hi).map T.int:=by
    rw[Zbo,Zbo,Yc,List.map_take,List.map_drop]
   rw[e]at this
   exact this
  |str cs =>
   unfold slT at e
   dsimp only at e
   split at e<;>cases e
   rename_i hc
   cases(Ze rw' q (λ_ z=>by cases z)).vstr
   obtain⟨t,rfl⟩:=rx
   exact⟨"str",_,slot_str_getitem.lookup,Ycd s _ t,Zix hs pl pu hc λt' k=>⟨.str ⟨(cut cs lo hi).toArray⟩,H,I.tok _,⟨t',rfl⟩,ans ho M (.str _)⟩⟩
  |_=>cases e
def evP(call:Nat->List W->Mem->Res W)(gv:List T)(lo:E)(env:Env)(m:Mem):Res (Option Int):=if Zz lo then Res.ok none m else(ev call gv lo env m).bind intP
def tP(K:Frag)(call:Nat->List W->Mem->Res W)(gv:List T)(xr:XR)(lo:E):TO:=λσ H Q=>∃env cm m,EnvR K cm m H env σ/\MemR K cm m H/\OkR K (evP call gv lo env m) xr cm m H λo cm' m' H'=>Q o H'
theorem Zgn{lo:Expr}(h:PE X lo (tE X.K call gv xr ea))(hn:evP call gv ea=λenv m=>(ev call gv ea env m).bind intP):PO X (some lo) (tP X.K call gv xr ea):=λpins s σ H Q I ⟨env,cm,m,hE,M,ho⟩=>by
 rw[hn]at ho
 refine Zn5 h pins s σ H Q I ⟨env,cm,m,hE,M,(OkR.bind ho).mono λw cm1 m1 H1 x1 M1 o1 v rv=>?_⟩
 unfold intP at o1
 split at o1
 ·cases RT.vint rv
  exact⟨_,rfl,OkR.now o1 M1⟩
 ·exact o1.elim
theorem Zoa{lo hi:Option Expr}{p2:Pos}(he:PE X e (tE X.K call gv xr ea))(hl:PO X lo (tP X.K call gv xr eb))(hu:PO X hi (tP X.K call gv xr ec)):PE X (.Subscript e (.Slice lo hi none p2) pos) (tE X.K call gv xr (.slc ea eb ec)):=by
 refine PE.mono (ZlL (sl_any (xr:=xr)) he hl hu) ?_
 rintro σ H Q ⟨env,cm,m,hE,M,ho⟩
 have e:ev call gv (.slc ea eb ec) env m=(ev call gv ea env m).bind λx m=>(evP call gv eb env m).bind λl m=>(evP call gv ec env m).bind λh m=>fSl x l h m:=by
  rw[ev]
  rfl
 rw[e]at ho
 refine⟨env,cm,m,hE,M,ho.bind.mono λw cm1 m1 H1 x1 M1 o1 v rv=>?_⟩
 refine⟨env,cm1,m1,hE.ext x1 M M1,M1,o1.bind.mono λl cm2 m2 H2 x2 M2 o2=>?_⟩
 refine⟨env,cm2,m2,(hE.ext x1 M M1).ext x2 M1 M2,M2,o2.bind.mono λh cm3 m3 H3 x3 M3 o3=>?_⟩
 exact⟨cm3,m3,w,M3,(rv.ext x2 M1 M2).ext x3 M2 M3,o3⟩
def fBlt(b:B)(ws:List W)(m:Mem):Res W:=pur ((views ws m).bind λts=>bltT b ts) m
theorem ZmO{b:B}(σ:L2.St)(H:Hp)(Q:VK)(q:tE X.K call gv xr (.blt b eas) σ H Q):tCB (rN X.K xr (fBlt b)) (tA X.K call gv xr eas) σ H Q:=by
 obtain⟨env,cm,m,hE,M,ho⟩:=q
 rw[ev]at ho
 exact⟨env,cm,m,hE,M,ho.bind.mono λws cm1 m1 H1 x1 M1 o1 vs rvs=>⟨cm1,m1,ws,M1,rvs,o1⟩⟩
theorem X4{b:B}{id:String}{x:Str}(hc:Xm X (.builtin id) (rN X.K xr (fBlt b)))(hv:Gb x=some (.builtin id))(hg:Gl X x)(hm:X.mg x=none)(ha:PA X (e::es) (tA X.K call gv xr eas))(hn:x≠"__name__")(hdb:(x==("__debug__" : Str))=false)(he:notStar e=true)(hpl:es.all notStar=true):PE X (.Call (.Name x p) (e::es) [] pos) (tE X.K call gv xr (.blt b eas)):=
 PE.mono (ZlQ hc hg hm hv ha hn hdb (J8 he) (ZcL hpl)) ZmO
theorem Zjb{b:B}{id:String}{x:Str}(hc:Xm X (.type id) (rN X.K xr (fBlt b)))(hv:Gb x=some (.type id))(hg:Gl X x)(hm:X.mg x=none)(ha:PA X (e::es) (tA X.K call gv xr eas))(hn:x≠"__name__")(hdb:(x==("__debug__" : Str))=false)(he:notStar e=true)(hpl:es.all notStar=true):PE X (.Call (.Name x p) (e::es) [] pos) (tE X.K call gv xr (.blt b eas)):=
 PE.mono (Zja hc hg hm hv ha hn hdb (J8 he) (ZcL hpl)) ZmO
theorem blt1{b:B}{ws:List W}{vs:List V}{k:W->List Addr->Mem->Hp->Prop}(r:RWs K cm m H ws vs)(h1:∀ts t,bltT b ts=some t->ts.length=1)(h:OkR K (fBlt b ws m) xr cm m H k):
  ∃w v t r,ws=[w]/\vs=[v]/\RW K cm m H w v/\view w m=some t/\bltT b [t]=some r/\OkR K (.ok (.t r) m) xr cm m H k:=by
 obtain⟨t,e,ho⟩:=Jl h
 cases q:views ws m with
 |none=>rw[q]at e;cases e
 |some ts =>
  rw[q]at e
  have e:bltT b ts=some t:=e
  have hl:=h1 ts t e
  have hvl:∀(ws:List W) (ts:List T),views ws m=some ts->ts.length=ws.length:=λws=>by
   induction ws with
   |nil=>intro ts h;cases h;rfl
   |cons w ws ih =>
    intro ts h
    unfold views at h
    cases q1:view w m with
    |none=>rw[q1]at h;cases h
    |some t1 =>
     rw[q1]at h
     cases q2:views ws m with
     |none=>rw[q2]at h;cases h
     |some us=>rw[q2]at h;cases h;simp[ih us q2]
  have hw:=hvl ws ts q
  match ws,vs,r with
  |[],_,_=>rw[hl]at hw;simp at hw
  |w::w'::ws,_,_=>rw[hl]at hw;simp at hw
  |[w],_,.cons rv .nil =>
   unfold views at q
   cases q1:view w m with
   |none=>rw[q1]at q;cases q
   |some t1 =>
    rw[q1]at q
    cases q
    exact⟨w,_,t1,t,rfl,rfl,rv,q1,e,ho⟩
theorem Zjp{f:T->Option T}:∀{ts:List T}{t:T},one1 f ts=some t->∃x,ts=[x]/\f x=some t
 |[],_,h=>by cases h
 |[x],_,h=>⟨x,rfl,h⟩
 |_::_::_,_,h=>by cases h
theorem Zie{f:Int->Int->Option T}{ts:List T}{t:T}(h:two2 f ts=some t):∃i j,ts=[.int i,.int j]/\f i j=some t:=by
 unfold two2 at h
 split at h
 ·exact⟨_,_,rfl,h⟩
 ·cases h
theorem Js{b:B}(hb:b≠.min2/\b≠.max2/\b≠.range2/\b≠.zip2/\b≠.zip4/\b≠.dget/\b≠.din/\b≠.dnot):∀ts t,bltT b ts=some t->ts.length=1:=by
 intro ts t h
 have h1:∀f:T->Option T,one1 f ts=some t->ts.length=1:=λf h=>by
  obtain⟨x,rfl,_⟩:=Zjp h
  rfl
 cases b<;>first|exact h1 _ h|exact absurd hb (by decide)|cases h
theorem ZkQ:Xm X (.builtin "len") (rN X.K xr (fBlt .len)):=by
 rintro pins s σ H xs us Q I r ⟨cm,m,ws,M,rws,ho⟩
 obtain⟨w,v,t,rr,rfl,rfl,rv,e,eb,ho⟩:=blt1 rws (Js (by decide)) ho
 have hz:=ZV
 cases t with
 |str cs =>
  change (if cs.length<=lim then some (T.int cs.length)else none)=some rr at eb
  split at eb<;>cases eb
  cases(Ze rv e (λ_ z=>by cases z)).vstr
  exact ZbK pins s σ H _ us Q I r ⟨_,_,rfl,⟨by rw[Zae];omega,rfl⟩,by rw[Zae];exact ans ho M (.int _)⟩
 |tup ts =>
  cases eb
  obtain⟨a,vs,rfl,h1,r1⟩:=(Ze rv e (λ_ z=>by cases z)).itup
  exact ZbK pins s σ H _ us Q I r ⟨_,_,rfl,.inr ⟨vs,h1,r1.length⟩,ans ho M (.int _)⟩
 |lst ts =>
  cases eb
  obtain⟨a,vs,rfl,h1,r1⟩:=ZJ M rv e
  exact ZbK pins s σ H _ us Q I r ⟨_,_,rfl,.inl ⟨vs,.of h1,r1.length⟩,ans ho M (.int _)⟩
 |scr ns =>
  cases eb
  obtain⟨a,rfl,h1⟩:=(Ze rv e (λ_ z=>by cases z)).vscr
  exact ZbK pins s σ H _ us Q I r ⟨_,_,rfl,.inl ⟨_,h1.sq,by simp⟩,ans ho M (.int _)⟩
 |_=>cases eb
theorem ZkR:Xm X (.type "int") (rN X.K xr (fBlt .int)):=by
 rintro pins s σ H xs us Q I r ⟨cm,m,ws,M,rws,ho⟩
 obtain⟨w,v,t,rr,rfl,rfl,rv,e,eb,ho⟩:=blt1 rws (Js (by decide)) ho
 cases t with
 |int i =>
  cases eb
  cases(Ze rv e (λ_ z=>by cases z)).vint
  exact ZeU pins s σ H _ us Q I r (.inl ⟨_,rfl,ans ho M (.int _)⟩)
 |bl b =>
  cases eb
  cases(Ze rv e (λ_ z=>by cases z)).vbl
  exact ZeU pins s σ H _ us Q I r (.inr ⟨_,rfl,ans ho M (.int _)⟩)
 |str cs =>
  have eb:(if cs≠[]/\cs.length<=600/\cs.all (λc=>decide (48<=c)&&decide (c<=57))=true then some (T.int (figV cs))else none)=some rr:=eb
  split at eb<;>cases eb
  rename_i hc
  cases(Ze rv e (λ_ z=>by cases z)).vstr
  obtain⟨u,rfl,tt,rfl⟩:=vals1 r
  have hd:NumText.AllDigits (⟨cs.toArray⟩:Str).cps.toList:=λc hcm=>by
   have:=Wa.mp hc.2.2 c (by simpa using hcm)
   rw[Yo]at this
   exact⟨of_decide_eq_true this.1,of_decide_eq_true this.2⟩
  have ht:=PySem.intText_digits (x:=⟨cs.toArray⟩) hd (by simpa using hc.1) (by show cs.toArray.size<=_;rw[Yk];omega)
  refine W.KIN.call_text ht (by show cs.toArray.size<=_;rw[Yk];omega) ⟨.int (figV cs),H,I.tok _,⟨s.toks,?_⟩,ans ho M (.int _)⟩
  show V0 _ _=V0 (figV cs) _
  rw[show(⟨cs.toArray⟩:Str).cps.toList=cs from by simp]
  rfl
 |_=>cases eb
theorem Zmw(cs:List Nat):RTs K cm m H (cs.map λc=>T.str [c]) (cs.map λc=>V.str ⟨#[c]⟩):=by
 induction cs with
 |nil=>exact .nil
 |cons c cs ih=>exact .cons (.str [c]) ih
theorem Zc5{x:Str}:∀(cs:List Nat) (k:Nat) (vs:List Value),vs.length=cs.length->(∀(j:Nat) (v:Value),vs[j]?=some v->∃c u,cs[j]?=some c/\v=V1 ⟨#[c]⟩ u)->Vals (cs.map λc=>V.str ⟨#[c]⟩) vs
 |[],_,[],_,_=>.nil
 |[],_,_::_,h,_=>by simp at h
 |_::_,_,[],h,_=>by simp at h
 |c::cs,k,v::vs,hl,h=>by
  obtain⟨c',u,e1,e2⟩:=h 0 v rfl
  cases e1
  exact .cons ⟨u,e2⟩ (Zc5 (x:=x) cs k vs (by simpa using hl) λj w hw=>h (j+1) w (by simpa using hw))
theorem ZfS(hcalm:X.calm=true):Xm X (.type "tuple") (rN X.K xr (fBlt .tuple)):=by
 rintro pins s σ H xs us Q I r ⟨cm,m,ws,M,rws,ho⟩
 obtain⟨w,v,t,rr,rfl,rfl,rv,e,eb,ho⟩:=blt1 rws (Js (by decide)) ho
 cases t with
 |tup ts =>
  cases eb
  obtain⟨a,vs,rfl,h1,r1⟩:=(Ze rv e (λ_ z=>by cases z)).itup
  exact ZaK pins s σ H _ us Q I r ⟨a,vs,rfl,.inr ⟨h1,ans ho M (.mtup h1 r1)⟩⟩
 |lst ts =>
  cases eb
  obtain⟨a,vs,rfl,h1,r1⟩:=ZJ M rv e
  exact ZaK pins s σ H _ us Q I r ⟨a,vs,rfl,.inl ⟨.of h1,λl hl=>Zc8 ho M r1 hl⟩⟩
 |str cs =>
  change (if cs.length<=lim then some (T.tup (cs.map λc=>T.str [c]))else none)=some rr at eb
  split at eb<;>cases eb
  rename_i hc
  cases(Ze rv e (λ_ z=>by cases z)).vstr
  obtain⟨u,rfl,ru⟩:=vals1 r
  obtain⟨tk,rfl⟩:=ru
  have hz:=ZV
  refine call_tuple_str (I.ok.hd hcalm) ⟨cs.toArray⟩ tk (λh' tk' acc hk hit=>?_) (by show cs.toArray.size<=_;rw[Yk];omega)
  obtain⟨h1,h2⟩:=hit
  have I1:Inv X pins σ H { s with heap:=h',toks:=tk' }:=I.kept hk
  have rv2:Vals (cs.map λc=>V.str ⟨#[c]⟩) acc.toList:=Zc5 (x:=⟨cs.toArray⟩) cs 0 acc.toList (by simpa using h1) λj w hw=>by
   obtain⟨c,u,e1,e2⟩:=h2 j w (by simpa using hw)
   exact⟨c,u,by simpa using e1,e2⟩
  refine⟨.ref h'.objs.size,_,I1.laid (t':=tk') (o:=.tup (cs.map λc=>V.str ⟨#[c]⟩)) (λb ob q=>Ye _ q) (Yj _) ?_,rfl,Zc8 ho M (Zmw cs) (I1.hok.fresh (Yj _))⟩
  refine⟨by rw[Yc];omega,acc.toList,rv2,?_⟩
  have:=TupP.new h' acc.toList.toArray
  simpa using this
 |_=>cases eb
theorem RTs.bools:∀{ts:List T}{vs:List V}{bs:List Bool},RTs K cm m H ts vs->bools? ts=some bs->vs=bs.map V.bl
 |[],_,_,.nil,e=>by cases e;rfl
 |t::ts,_,bs,.cons r rs,e=>by
  cases t with
  |bl c =>
   unfold bools? at e
   cases q:bools? ts with
   |none=>rw[q]at e;cases e
   |some cs =>
    rw[q]at e;cases e
    cases RT.vbl r
    rw[RTs.bools rs q]
    rfl
  |_=>cases e
theorem Ju:∀{bs:List Bool}{us:List Value},Vals (bs.map V.bl) us->us=bs.map Wh
 |[],_,.nil=>rfl
 |b::bs,_,.cons r rs=>by
  cases r
  rw[Ju rs]
  rfl
theorem ZdE{s:Shared}{h':Heap}{o:Obj}(hk:∀b x,b∉[s.heap.objs.size]->(s.heap.push o).get? b=some x->h'.get? b=some x):∀b x,s.heap.get? b=some x->h'.get? b=some x:=
 λb x e=>hk b x (λhm=>by rw[Ud.mp hm]at e;exact Y9 _ (Ys e)) (Ye _ e)
theorem Zgk{α:Type}(f:List α->Bool)(bs:List Bool)(d:Bool):(YF bs.length).map (λi=>(bs[i]?).getD d)=bs:=by
 apply List.ext_getElem?
 intro i
 rw[YZ]
 by_cases h:i<bs.length
 ·rw[Yas h];simp[h]
 ·simp[h]
theorem ZkT(hc:X.calm=true):Xm X (.builtin "all") (rN X.K xr (fBlt .all)):=by
 rintro pins s σ H xs us Q I r ⟨cm,m,ws,M,rws,ho⟩
 obtain⟨w,v,t,rr,rfl,rfl,rv,e,eb,ho⟩:=blt1 rws (Js (by decide)) ho
 cases t with
 |lst ts =>
  have eb:(bools? ts).map (λbs=>T.bl (bs.all id))=some rr:=eb
  cases q:bools? ts with
  |none=>rw[q]at eb;cases eb
  |some bs =>
   rw[q]at eb;cases eb
   obtain⟨a,vs,rfl,h1,r1⟩:=ZJ M rv e
   obtain⟨u,rfl,ru⟩:=vals1 r
   cases ru
   obtain⟨its,rv',pl,hz⟩:=I.list (.of h1)
   cases RTs.bools r1 q
   cases Ju rv'
   have hl:=pl.isList
   have hlt:a<s.heap.objs.size:=by obtain⟨_,e,_⟩:=hl;exact Ys e
   refine call_all_walk (YaN hl ?_)
   refine⟨s.heap.objs.size,[s.heap.objs.size,a],[s.heap.objs.size],(bs.map Wh).toArray.size,_,_,λi=>(bs[i]?).getD true,rfl,Walks.list (A:=X.A.in1) (I.ok.hd hc) _ a (YH hlt) (bs.map Wh).toArray,
    ⟨⟨_,Yt _ rfl,rfl,rfl⟩,hl.push _⟩,λi v s' Q' E' hP hQ=>?_,λh' tk hk=>?_⟩
   ·have hP':(bs.map Wh)[i]?=some v:=by simpa using hP
    rw[YZ]at hP'
    cases qq:bs[i]? with
    |none=>rw[qq]at hP';cases hP'
    |some b =>
     rw[qq]at hP';cases hP'
     dsimp only at hQ
     rw[qq]at hQ
     exact W3 hQ
   ·have e:((YF (bs.map Wh).toArray.size).all λi=>(bs[i]?).getD true)=bs.all id:=by
     rw[Yk,Yc]
     have:=congrArg (λl=>l.all id) (Zgk (α:=Nat) (λ_=>true) bs true)
     rw[<-this,YbX]
     rfl
    rw[e]
    exact⟨.bl _,H,I.kept (ZdE hk),rfl,ans ho M (.bl _)⟩
 |tup ts =>
  have eb:(bools? ts).map (λbs=>T.bl (bs.all id))=some rr:=eb
  cases q:bools? ts with
  |none=>rw[q]at eb;cases eb
  |some bs =>
   rw[q]at eb;cases eb
   obtain⟨a,vs,rfl,h1,r1⟩:=RT.itup (Ze rv e (λ_ z=>by cases z))
   obtain⟨u,rfl,ru⟩:=vals1 r
   cases ru
   obtain⟨its,rv',pl,hz⟩:=I.tuple h1
   cases RTs.bools r1 q
   cases Ju rv'
   have hl:s.heap.IsTuple a (bs.map Wh).toArray:=pl
   have hlt:a<s.heap.objs.size:=by obtain⟨_,e,_⟩:=hl;exact Ys e
   refine call_all_walk (Yaz hl ?_)
   refine⟨s.heap.objs.size,[s.heap.objs.size,a],[s.heap.objs.size],(bs.map Wh).toArray.size,_,_,λi=>(bs[i]?).getD true,rfl,Walks.tuple (A:=X.A.in1) (I.ok.hd hc) _ a (YH hlt) (bs.map Wh).toArray,
    ⟨⟨_,Yt _ rfl,rfl,rfl⟩,(show Heap.IsTuple (s.heap.push _) a _ from let⟨o,ho,r⟩:=hl;⟨o,Ye _ ho,r⟩)⟩,λi v s' Q' E' hP hQ=>?_,λh' tk hk=>?_⟩
   ·have hP':(bs.map Wh)[i]?=some v:=by simpa using hP
    rw[YZ]at hP'
    cases qq:bs[i]? with
    |none=>rw[qq]at hP';cases hP'
    |some b =>
     rw[qq]at hP';cases hP'
     dsimp only at hQ
     rw[qq]at hQ
     exact W3 hQ
   ·have e:((YF (bs.map Wh).toArray.size).all λi=>(bs[i]?).getD true)=bs.all id:=by
     rw[Yk,Yc]
     have:=congrArg (λl=>l.all id) (Zgk (α:=Nat) (λ_=>true) bs true)
     rw[<-this,YbX]
     rfl
    rw[e]
    exact⟨.bl _,H,I.kept (ZdE hk),rfl,ans ho M (.bl _)⟩
 |_=>cases eb
theorem ZkS(hc:X.calm=true):Xm X (.builtin "any") (rN X.K xr (fBlt .any)):=by
 rintro pins s σ H xs us Q I r ⟨cm,m,ws,M,rws,ho⟩
 obtain⟨w,v,t,rr,rfl,rfl,rv,e,eb,ho⟩:=blt1 rws (Js (by decide)) ho
 cases t with
 |lst ts =>
  have eb:(bools? ts).map (λbs=>T.bl (bs.any id))=some rr:=eb
  cases q:bools? ts with
  |none=>rw[q]at eb;cases eb
  |some bs =>
   rw[q]at eb;cases eb
   obtain⟨a,vs,rfl,h1,r1⟩:=ZJ M rv e
   obtain⟨u,rfl,ru⟩:=vals1 r
   cases ru
   obtain⟨its,rv',pl,hz⟩:=I.list (.of h1)
   cases RTs.bools r1 q
   cases Ju rv'
   have hl:=pl.isList
   have hlt:a<s.heap.objs.size:=by obtain⟨_,e,_⟩:=hl;exact Ys e
   refine call_any_walk (YaN hl ?_)
   refine⟨s.heap.objs.size,[s.heap.objs.size,a],[s.heap.objs.size],(bs.map Wh).toArray.size,_,_,λi=>(bs[i]?).getD false,rfl,Walks.list (A:=X.A.in1) (I.ok.hd hc) _ a (YH hlt) (bs.map Wh).toArray,
    ⟨⟨_,Yt _ rfl,rfl,rfl⟩,hl.push _⟩,λi v s' Q' E' hP hQ=>?_,λh' tk hk=>?_⟩
   ·have hP':(bs.map Wh)[i]?=some v:=by simpa using hP
    rw[YZ]at hP'
    cases qq:bs[i]? with
    |none=>rw[qq]at hP';cases hP'
    |some b =>
     rw[qq]at hP';cases hP'
     dsimp only at hQ
     rw[qq]at hQ
     exact W3 hQ
   ·have e:((YF (bs.map Wh).toArray.size).any λi=>(bs[i]?).getD false)=bs.any id:=by
     rw[Yk,Yc]
     have:=congrArg (λl=>l.any id) (Zgk (α:=Nat) (λ_=>true) bs false)
     rw[<-this,YbY]
     rfl
    rw[e]
    exact⟨.bl _,H,I.kept (ZdE hk),rfl,ans ho M (.bl _)⟩
 |tup ts =>
  have eb:(bools? ts).map (λbs=>T.bl (bs.any id))=some rr:=eb
  cases q:bools? ts with
  |none=>rw[q]at eb;cases eb
  |some bs =>
   rw[q]at eb;cases eb
   obtain⟨a,vs,rfl,h1,r1⟩:=RT.itup (Ze rv e (λ_ z=>by cases z))
   obtain⟨u,rfl,ru⟩:=vals1 r
   cases ru
   obtain⟨its,rv',pl,hz⟩:=I.tuple h1
   cases RTs.bools r1 q
   cases Ju rv'
   have hl:s.heap.IsTuple a (bs.map Wh).toArray:=pl
   have hlt:a<s.heap.objs.size:=by obtain⟨_,e,_⟩:=hl;exact Ys e
   refine call_any_walk (Yaz hl ?_)
   refine⟨s.heap.objs.size,[s.heap.objs.size,a],[s.heap.objs.size],(bs.map Wh).toArray.size,_,_,λi=>(bs[i]?).getD false,rfl,Walks.tuple (A:=X.A.in1) (I.ok.hd hc) _ a (YH hlt) (bs.map Wh).toArray,
    ⟨⟨_,Yt _ rfl,rfl,rfl⟩,(show Heap.IsTuple (s.heap.push _) a _ from let⟨o,ho,r⟩:=hl;⟨o,Ye _ ho,r⟩)⟩,λi v s' Q' E' hP hQ=>?_,λh' tk hk=>?_⟩
   ·have hP':(bs.map Wh)[i]?=some v:=by simpa using hP
    rw[YZ]at hP'
    cases qq:bs[i]? with
    |none=>rw[qq]at hP';cases hP'
    |some b =>
     rw[qq]at hP';cases hP'
     dsimp only at hQ
     rw[qq]at hQ
     exact W3 hQ
   ·have e:((YF (bs.map Wh).toArray.size).any λi=>(bs[i]?).getD false)=bs.any id:=by
     rw[Yk,Yc]
     have:=congrArg (λl=>l.any id) (Zgk (α:=Nat) (λ_=>true) bs false)
     rw[<-this,YbY]
     rfl
    rw[e]
    exact⟨.bl _,H,I.kept (ZdE hk),rfl,ans ho M (.bl _)⟩
 |_=>cases eb
end
section
variable{K:Frag}{cm:List Addr}{m:Mem}{H:Hp}{xr:XR}{X:Cx}{call:Nat->List W->Mem->Res W}{gv:List T}
variable{a b c e:Expr}{es:List Expr}{ea eb ec:E}{eas:Es}{pos p p2:Pos}
def rM(K:Frag)(xr:XR)(b:Mt):V->List V->Hp->VK->Prop:=λx xs H Q=>∃cm m w ws,MemR K cm m H/\RW K cm m H w x/\RWs K cm m H ws xs/\OkR K (doM b w ws m) xr cm m H λw cm' m' H'=>∀v,RW K cm' m' H' w v->Q v H'
theorem RTs.strs:∀{ts:List T}{vs:List V}{bs:List (List Nat)},RTs K cm m H ts vs->strs? ts=some bs->vs=bs.map λc=>V.str ⟨c.toArray⟩
 |[],_,_,.nil,e=>by cases e;rfl
 |t::ts,_,bs,.cons r rs,e=>by
  cases t with
  |str c =>
   unfold strs? at e
   cases q:strs? ts with
   |none=>rw[q]at e;cases e
   |some cs =>
    rw[q]at e;cases e
    cases RT.vstr r
    rw[RTs.strs rs q]
    rfl
  |_=>cases e
theorem few1{cpos:Pos}(hs:notStar e=true):((backTo cpos (W7 [e] X.env)).all (λx=>!x.1)&&(backToKw cpos (keywordEach [] X.env)).all (λx=>x.1.isSome)
  && decide ([e].length+([]:List Yck).length+(if([]:List Yck).isEmpty then 0 else 1)<30))=true:=by
 rw[Zip (by rw[G9,hs];rfl)]
 rfl
structure At (X:Cx) (call:Nat->List W->Mem->Res W) (gv:List T) (e:Expr) (a:E) (f:L2.St->Option V):Prop where
 pe:PE X e (λσ H Q=>∃v,f σ=some v/\Q v H)
 rd:∀env cm m H σ,EnvR X.K cm m H env σ->(∃w v,ev call gv a env m=.ok w m/\f σ=some v/\RW X.K cm m H w v)∨ev call gv a env m=.stuck
theorem Zhj{tg:Expr}(hg:Gl X "range")(hm:X.mg "range" = none)(ha:PA X [a] (tA X.K call gv xr eas))(hs:notStar a=true:=by rfl):PI X tg (.Call (.Name "range" p) [a] [] pos) (tI X.K call gv xr (.blt .range1 eas)):=by
 refine PI.mono (Zi5 hg hm ha (J8 hs)) ?_
 rintro σ H R ⟨env,cm,m,hE,M,ho⟩
 rw[ev]at ho
 refine⟨env,cm,m,hE,M,ho.bind.mono λws cm1 m1 H1 x1 M1 o1 vs rvs=>?_⟩
 obtain⟨w,v,t,rr,rfl,rfl,rv,e,eb,o2⟩:=blt1 (b:=.range1) rvs (Js (by decide)) o1
 cases t with
 |int i =>
  change (if i<2^62/\-(2^62)<=i then some (T.lst (rangeT 0 i.toNat))else none)=some rr at eb
  split at eb<;>cases eb
  rename_i hc
  cases(Ze rv e (λ_ z=>by cases z)).vint
  obtain⟨ts,m2,q1,q2⟩:=OkR.now o2 M1
  cases q1
  exact⟨_,rfl,hc.2,hc.1,q2 _ (.rng 0 _)⟩
 |_=>cases eb
end
section
variable(K:Frag) (call:Nat->List W->Mem->Res W) (gv:List T) (xr:XR)
def Zkq(n:Nat)(D:Ends)(fl:Flow)(cm:List Addr)(m:Mem)(H:Hp):Prop:=match fl with
 |.next env=>∀σ:L2.St,σ.length=n->EnvR K cm m H env σ->D.nx σ H
 |.ret w=>∀v,RW K cm m H w v->D.rt v H
 |.brk env=>∀σ:L2.St,σ.length=n->EnvR K cm m H env σ->D.bk σ H
 |.cont env=>∀σ:L2.St,σ.length=n->EnvR K cm m H env σ->D.ct σ H
def tS(n:Nat)(s:S):TS:=λD σ H=>σ.length=n/\∃env cm m,EnvR K cm m H env σ/\MemR K cm m H/\OkR K (ex call gv s env m) xr cm m H λfl cm' m' H'=>Zkq K n D fl cm' m' H'
end
section
variable{K:Frag}{cm:List Addr}{m:Mem}{H:Hp}{xr:XR}{X:Cx}{call:Nat->List W->Mem->Res W}{gv:List T}
variable{a b c e:Expr}{es:List Expr}{ea eb ec:E}{eas:Es}{pos p p2:Pos}{rest:List Stmt}{k:S}{n:Nat}
theorem PSs.mono{sts:List Stmt}{t t':TS}(h:PSs X sts t)(f:∀D σ H,t' D σ H->t D σ H):PSs X sts t':=λpins s σ H D I q=>h pins s σ H D I (f D σ H q)
theorem Zlt:PSs X [] (tS X.K call gv xr n .done):=PSs.mono ZnZ λD σ H ⟨hl,env,cm,m,hE,M,ho⟩=>by
 rw[ex]at ho
 exact OkR.now ho M σ hl hE
theorem Zls(h:PE X e (tE X.K call gv xr ea)):PSs X (.Return (some e) pos::rest) (tS X.K call gv xr n (.ret ea k)):=PSs.mono (Q0 (ps_ret h) ZiP) λD σ H ⟨hl,env,cm,m,hE,M,ho⟩=>by
 rw[ex]at ho
 exact⟨env,cm,m,hE,M,ho.bind.mono λw cm1 m1 H1 x1 M1 o1 v rv=>OkR.now o1 M1 v rv⟩
theorem ZiQ(h:PE X e (tE X.K call gv xr ea))(hk:PSs X rest (tS X.K call gv xr n k))(hs:YaH e none pos.line X.env=pure false:=by rfl):PSs X (.Expr e pos::rest) (tS X.K call gv xr n (.expr ea k)):=PSs.mono (Q0 (Zn4 h hs) hk) λD σ H ⟨hl,env,cm,m,hE,M,ho⟩=>by
 rw[ex]at ho
 exact⟨env,cm,m,hE,M,ho.bind.mono λw cm1 m1 H1 x1 M1 o1 v rv=>⟨hl,env,cm1,m1,hE.ext x1 M M1,M1,o1⟩⟩
theorem Zlv{i:Nat}{x:Str}{px:Pos}(hN:X.N.Nodup)(hn:X.N.length=n)(hi:X.N[i]?=some x)(hx:Loc X.env.scope x)(h:PE X e (tE X.K call gv xr ea))(hk:PSs X rest (tS X.K call gv xr n k))(hs:YaH e (some (.Name x px)) pos.line X.env=pure false:=by rfl)(hf:X.fn x=true∨X.env.scope.names.lookup x=some .local:=by first|exact .inl rfl|exact .inr rfl|assumption):PSs X (.Assign [.Name x px] e pos::rest) (tS X.K call gv xr n (.asg i ea k)):=PSs.mono (Q0 (ps_set hN hi hx h hs hf) hk) λD σ H ⟨hl,env,cm,m,hE,M,ho⟩=>by
 rw[ex]at ho
 have hi':i<σ.length:=by rw[hl,<-hn];exact(Yi.mp hi).1
 exact⟨env,cm,m,hE,M,ho.bind.mono λw cm1 m1 H1 x1 M1 o1 v rv=>⟨by rw[WK];exact hl,env.set i (some w),cm1,m1,EnvR.set (hE.ext x1 M M1) rv i hi',M1,o1⟩⟩
theorem Zlr{o i v:Expr}{eo ei ev':E}{tp:Pos}(hv:PE X v (tE X.K call gv xr ev'))(ho:PE X o (tE X.K call gv xr eo))(hi:PE X i (tE X.K call gv xr ei))(hk:PSs X rest (tS X.K call gv xr n k))(ha:∀v,assign (.Subscript o i tp) X.env v=(do
   let ov <-V5 [v] (eval o X.env)
   let iv <-V5 [v,ov] (eval i X.env)
   Gz tp
   V5 [v,ov,iv] (setItem ov iv v)
   release [v,ov,iv] []):=by intro _;rfl)(hs:YaT [.Subscript o i tp] v pos.line X.env=pure false:=by rfl)(hw:YaU [.Subscript o i tp] v X.env=pure none:=by rfl)(h1:(Y7 [.Subscript o i tp] X.env).map (·.2)=[assign (.Subscript o i tp) X.env]:=by rfl):PSs X (.Assign [.Subscript o i tp] v pos::rest) (tS X.K call gv xr n (.set eo ei ev' k)):=
 PSs.mono (Q0 (ZiU hv (pg_sub ho hi set_list ha) hs hw h1) hk) λD σ H ⟨hl,env,cm,m,hE,M,hq⟩=>by
  rw[ex]at hq
  refine⟨env,cm,m,hE,M,hq.bind.mono λz cm1 m1 H1 x1 M1 o1 vz rz=>?_⟩
  refine⟨env,cm1,m1,hE.ext x1 M M1,M1,o1.bind.mono λx cm2 m2 H2 x2 M2 o2 vx rx=>?_⟩
  refine⟨env,cm2,m2,(hE.ext x1 M M1).ext x2 M1 M2,M2,o2.bind.mono λy cm3 m3 H3 x3 M3 o3 vy ry=>?_⟩
  unfold setM at o3
  split at o3
  ·rename_i cc kk
   cases q:frz z m3 with
   |stuck=>rw[q]at o3;exact o3.elim
   |exc e' m'=>exact absurd q ZeL
   |ok t m4 =>
    rw[q]at o3
    obtain⟨x4,M4,r4⟩:=ZeK M3 ((rz.ext x2 M1 M2).ext x3 M2 M3) q
    have rx':RW X.K cm3 m4 H3 (.c cc) vx:=(rx.ext x3 M2 M3).ext x4 M3 M4
    cases RT.vint ry
    obtain⟨a,ha1,rfl⟩:=rx'
    have o3:OkR X.K ((match m4[cc]? with
     |some (some (false,xs))=>match ixOf xs.length kk with
      |some j=>Res.ok () (m4.set cc (some (false,xs.set j t)))
      |none=>.stuck
     |_=>.stuck).bind λ_ m=>ex call gv k env m) xr cm3 m3 H3 _:=o3
    split at o3
    ·rename_i xs e1
     split at o3
     ·rename_i j e2
      obtain⟨b,vs,q1,q2,q3,q4⟩:=M4.at' cc _ e1
      rw[ha1]at q1;cases q1
      have l4:=q4.length
      dsimp only at l4
      obtain⟨x5,M5⟩:=Xz M4 e1 ha1 (ZcT r4 j q4)
      refine⟨a,vs,kk,j,rfl,rfl,q2,by rw[<-l4];exact e2,?_⟩
      have xx:=(x4.trans x5)
      exact⟨hl,env,cm3,_,(((hE.ext x1 M M1).ext x2 M1 M2).ext x3 M2 M3).ext xx M3 M5,M5,OkR.shift (show OkR X.K (ex call gv k env _) xr cm3 m3 H3 _ from o3) xx⟩
     ·exact o3.elim
    ·exact o3.elim
  ·exact o3.elim
theorem bind_assoc{α β γ:Type}(r:Res α)(f:α->Mem->Res β)(g:β->Mem->Res γ):(r.bind f).bind g=r.bind λa m=>(f a m).bind g:=by cases r<;>rfl
theorem Zn0{A B:List Stmt}{sa sb:S}(hc:PT X c (tT X.K call gv xr ec))(ha:PSs X A (tS X.K call gv xr n sa))(hb:PSs X B (tS X.K call gv xr n sb))(hk:PSs X rest (tS X.K call gv xr n k)):PSs X (.If c A B pos::rest) (tS X.K call gv xr n (.ife ec sa sb k)):=
 PSs.mono (Q0 (ps_if hc ha hb) hk) λD σ H ⟨hl,env,cm,m,hE,M,ho⟩=>by
  rw[ex,<-bind_assoc]at ho
  refine⟨env,cm,m,hE,M,ho.bind.mono λt cm1 m1 H1 x1 M1 o1=>?_⟩
  have go:∀s:S,OkR X.K ((ex call gv s env m1).bind λfl m=>match fl with|.next env=>ex call gv k env m|fl=>.ok fl m) xr cm1 m1 H1 (λfl cm' m' H'=>Zkq X.K n D fl cm' m' H')->tS X.K call gv xr n s { D with nx:=tS X.K call gv xr n k D } σ H1:=λs o=>by
   refine⟨hl,env,cm1,m1,hE.ext x1 M M1,M1,o.bind.mono λfl cm2 m2 H2 x2 M2 o2=>?_⟩
   cases fl with
   |next env'=>exact λσ' hl' hE'=>⟨hl',env',cm2,m2,hE',M2,o2⟩
   |ret w=>exact OkR.now (xr:=xr) (a:=Flow.ret w) o2 M2
   |brk env'=>exact OkR.now (xr:=xr) (a:=Flow.brk env') o2 M2
   |cont env'=>exact OkR.now (xr:=xr) (a:=Flow.cont env') o2 M2
  cases t with
  |true=>exact iteT (go sa o1)
  |false=>exact iteF (go sb o1)
theorem JP:∀(is:List Nat) (vs:List V) (σ:L2.St),(setAll is vs σ).length=σ.length
 |[],_,_=>by unfold setAll;rfl
 |_::_,[],_=>by unfold setAll;rfl
 |i::is,v::vs,σ=>by unfold setAll;rw[JP,WK]
theorem Znk{tg:Tg}{v:V}{σ:L2.St}{Q:L2.St->Hp->Prop}(h:gT K tg v σ H Q):gT K tg v σ H λσ' H'=>σ'.length=σ.length/\Q σ' H':=by
 cases tg with
 |nm i=>exact⟨WK,h⟩
 |tp is =>
  obtain⟨a,xs,h1,h2,h3,h4⟩:=h
  exact⟨a,xs,h1,h2,h3,JP _ _ _,h4⟩
theorem EnvR.same{cm:List Addr}{m m':Mem}{H:Hp}{env:Env}{σ:L2.St}(h:EnvR K cm m H env σ)(f:∀t v,RT K cm m H t v->RT K cm m' H t v):EnvR K cm m' H env σ:=λi w e=>by
 obtain⟨v,h1,h2⟩:=h i w e
 refine⟨v,h1,?_⟩
 cases w with
 |t t=>exact f t v h2
 |f a=>exact h2
 |x _ _ _=>exact XF.wsame f h2
 |c i=>exact h2
theorem Zlu{tgt iter:Expr}{body:List Stmt}{tg:Tg}{it:E}{sb:S}(hc:X.calm=true)(hp:Yco (model X.prog X.w) X.A X.env X.xe)(hi:PI X tgt iter (tI X.K call gv xr it))(hg:PG X tgt (gT X.K tg))(ht:∀i∈tgS tg,i<n)(hb:PSs X body (tS X.K call gv xr n sb))(hk:PSs X rest (tS X.K call gv xr n k))(hs:∀x,WR iter X.env x=pure x:=by intro _;rfl):PSs X (.For tgt iter body [] pos::rest) (tS X.K call gv xr n (.forr tg it sb k)):=
 PSs.mono (Q0 (ps_for hp hc hi hg hb hs) hk) λD σ0 H0 ⟨hl0,env0,cm0,m0,hE0,M0,ho⟩=>by
  rw[ex]at ho
  refine⟨env0,cm0,m0,hE0,M0,ho.bind.mono λx cm1 m1 H1 x1 M1 o1=>?_⟩
  cases hbr:Z3 x m1 with
  |stuck=>rw[hbr]at o1;exact o1.elim
  |exc e' m' =>
   exfalso
   unfold Z3 at hbr
   split at hbr<;>first|(cases hbr;done)|(split at hbr<;>cases hbr)
  |ok ts m2 =>
   rw[hbr]at o1
   obtain⟨xb,Mb⟩:=Zcp M1 hbr
   let g:Flow->Mem->Res Flow:=λfl m=>match fl with
    |.next env=>ex call gv k env (giveBack x m1 m)
    |.ret w=>.ok (.ret w) (giveBack x m1 m)
    |_=>.stuck
   have o1:OkR X.K ((Z2 (λenv m=>ex call gv sb env m) tg ts env0 m2).bind g) xr cm1 m1 H1 (λfl cm' m' H'=>Zkq X.K n D fl cm' m' H'):=o1
   refine⟨ts,m2,rfl,λJ hJ=>?_⟩
   let P:Flow->List Addr->Mem->Hp->Prop:=λfl _ m' _=>OkR X.K (g fl m') xr cm1 m1 H1 (λfl cm' m' H'=>Zkq X.K n D fl cm' m' H')
   -- behind the walk
   have fin:∀env cm m H σ,σ.length=n->EnvR X.K cm m H env σ->MemR X.K cm m H->Ext cm1 m2 H1 cm m H->P (.next env) cm m H->tS X.K call gv xr n k D σ H:=λenv cm m H σ hl hE M xx hP=>by
    obtain⟨xg,Mg,fg⟩:=ZaD M1 hbr xx M
    exact⟨hl,env,cm,_,EnvR.same hE fg,Mg,OkR.shift (show OkR X.K (ex call gv k env (giveBack x m1 m)) xr cm1 m1 H1 _ from hP) xg⟩
   refine⟨λi μ σ H=>μ=ts.length-i/\σ.length=n/\∃env cm m,EnvR X.K cm m H env σ/\MemR X.K cm m H/\Ext cm1 m2 H1 cm m H/\OkR X.K (Z2 (λenv m=>ex call gv sb env m) tg (ts.drop i) env m) xr cm m H P,⟨ts.length-0,rfl,hl0,env0,cm1,m2,(hE0.ext x1 M0 M1).ext xb M1 Mb,Mb,.refl,?_⟩,?_⟩
   ·rw[YaG]
    exact OkR.shift o1.bind0 xb
   ·rintro i μ σ H ⟨rfl,hl,env,cm,m,hE,M,xx,hq⟩
    have sJ:=hJ.ext xx Mb M
    cases e:ts[i]? with
    |none =>
     have ed:ts.drop i=[]:=List.drop_eq_nil_iff.mpr (Vj.mp e)
     rw[ed,Z2]at hq
     exact .inl ⟨sJ.stop M e,fin env cm m H σ hl hE M xx (OkR.now hq M)⟩
    |some t =>
     have hlt:=(Yi.mp e).1
     have ed:ts.drop i=t::ts.drop (i+1):=by
      rw[WT hlt]
      rw[(Yi.mp e).2]
     rw[ed,Z2]at hq
     obtain⟨go,hy⟩:=sJ.go M e
     refine .inr ⟨go,λσ' H'=>σ'.length=n/\∃env cm m,EnvR X.K cm m H' env σ'/\MemR X.K cm m H'/\Ext cm1 m2 H1 cm m H'/\OkR X.K (Z2 (λenv m=>ex call gv sb env m) tg (ts.drop (i+1)) env m) xr cm m H' P,
      λσ' H' hN=>⟨ts.length-(i+1),by omega,rfl,hN⟩,λv H' y=>?_⟩
     obtain⟨xy,My,rt⟩:=hy v H' y
     have hE:=hE.ext xy M My
     have xx:=xx.trans xy
     have hq:=OkR.shift hq xy
     have M:=My
     split at hq
     ·exact hq.elim
     ·rename_i env' eb
      have:=Znk (ZoS (Q:=λσ' H2=>H2=H'/\EnvR X.K cm m H' env' σ') hE (λj hj=>by rw[hl];exact ht j hj) rt eb λσ' hE' _=>⟨rfl,hE'⟩)
      have mono:∀{Q Q':L2.St->Hp->Prop},gT X.K tg v σ H' Q->(∀σ' H',Q σ' H'->Q' σ' H')->gT X.K tg v σ H' Q':=λ{Q Q'} h f=>by
       cases tg with
       |nm j=>exact f _ _ h
       |tp is =>
        obtain⟨a1,xs,z1,z2,z3,z4⟩:=h
        exact⟨a1,xs,z1,z2,z3,f _ _ z4⟩
      refine mono this ?_
      rintro σ2 H2 ⟨hl2,e2,hE2⟩
      subst e2
      refine⟨hl2.trans hl,env',cm,m,hE2,M,hq.bind.mono λfl cm3 m3 H3 x3 M3 o3=>?_⟩
      cases fl with
      |next env3=>exact λσ3 hl3 hE3=>⟨hl3,env3,cm3,m3,hE3,M3,xx.trans x3,o3⟩
      |cont env3=>exact λσ3 hl3 hE3=>⟨hl3,env3,cm3,m3,hE3,M3,xx.trans x3,o3⟩
      |brk env3=>exact λσ3 hl3 hE3=>fin env3 cm3 m3 H3 σ3 hl3 hE3 M3 (xx.trans x3) (OkR.now (a:=Flow.next env3) o3 M3)
      |ret w =>
       intro v3 rv3
       have hP:P (.ret w) cm3 m3 H3:=OkR.now (a:=Flow.ret w) o3 M3
       obtain⟨xg,Mg,fg⟩:=ZaD M1 hbr (xx.trans x3) M3
       refine OkR.to (a:=Flow.ret w) (m':=giveBack x m1 m3) hP xg Mg v3 ?_
       cases w with
       |t t=>exact fg t v3 rv3
       |f a=>exact rv3
       |x _ _ _=>exact XF.wsame fg rv3
       |c j=>exact rv3
theorem Zlx{elt target iter:Expr}{ifs:List Expr}{gs:List We}{scope:Scope}{N':List Str}{own:Nat}{keep:List Nat}{it:E}{tg:Tg}{cs:Es}{inner:E}{i:Nat}{x:Str}{px spos:Pos}(hc:X.calm=true)(kk:CompK X xr0 call gv N' scope own keep elt target iter ifs gs it tg cs inner)(hN:X.N.Nodup)(hn:X.N.length=n)(hi:X.N[i]?=some x)(hx:X.env.scope.names.lookup x=some .local)(hk:PSs X rest (tS X.K call gv xr n k))(hsw:YaH (.ListComp elt (⟨target,iter,ifs,0⟩::gs) scope pos) (some (.Name x px)) spos.line X.env=pure true:=by rfl):
  PSs X (.Assign [.Name x px] (.ListComp elt (⟨target,iter,ifs,0⟩::gs) scope pos) spos::rest) (tS X.K call gv xr n (.asg i (.comp own keep it tg cs inner) k)):=by
 have h1:PS X (.Assign [.Name x px] (.ListComp elt (⟨target,iter,ifs,0⟩::gs) scope pos) spos) (λD σ H=>∃env cm m m' out,EnvR X.K cm m H env σ/\MemR X.K cm m H/\ev call gv (.comp own keep it tg cs inner) env m=.ok (.t (.lst out)) m' /\
   ∀(p:Addr) (H3:Hp) (cm3:List Addr) (vs:List V),H3 p=none->X.K.lookup p=none->Ext cm m H cm3 m' H3->MemR X.K cm3 m' H3->RTs X.K cm3 m' H3 out vs->D.nx (σ.set i (some (.ref p))) (upd H3 p (.lst vs))):=
  λpins s σ H D I ⟨env,cm,m,m',out,hE,M,ok,q⟩=>Zmt hc kk hN hi hx hsw I hE M ok q
 refine PSs.mono (Q0 h1 hk) ?_
 rintro D σ H ⟨hl,env,cm,m,hE,M,ho⟩
 rw[ex]at ho
 cases h:ev call gv (.comp own keep it tg cs inner) env m with
 |stuck=>rw[h]at ho;exact ho.elim
 |exc e m'=>exact absurd h (JD e m')
 |ok w m' =>
  obtain⟨out,rfl⟩:=Xh h
  rw[h]at ho
  refine⟨env,cm,m,m',out,hE,M,h,λp H3 cm3 vs hp _ x3 M3 r3=>?_⟩
  have hi':i<σ.length:=by rw[hl,<-hn];exact(Yi.mp hi).1
  have x4:=x3.trans (Ext.new (o:=.lst vs) hp)
  have M4:=M3.new (o:=.lst vs) hp
  exact⟨by rw[WK];exact hl,_,cm3,m',EnvR.set (w:=.t (.lst out)) (hE.ext x4 M M4) (RT.newLst M3 r3 hp) i hi',M4,OkR.shift (show OkR X.K (ex call gv k (env.set i (some (.t (.lst out)))) m') xr cm m H _ from ho) x4⟩
end
def Ahead(h:Heap)(e:Addr)(mk hd:Value):Prop:=hd=.none∨∃T oT ts,hd=.ref T/\T≠e/\h.get? T=some oT/\oT.data=.fields ts/\ts[3]?=some mk
theorem Zbm{o:Obj}{vs:Array Value}(h:o.data=.fields vs)(f:Array Value->Array Value):o.mapFields f={ o with data:=.fields (f vs) }:=by
 obtain⟨c,d,dt,sl⟩:=o
 cases h
 rfl
structure Noted (fr:List Addr) (h:Heap) (e:Addr) (oe:Obj) (mk:Value) (h':Heap):Prop where
 keep:∀b o,b∉fr->b≠e->h.get? b=some o->h'.get? b=some o
 slot:∀b o,b∈fr->h.get? b=some o->∃sl,h'.get? b=some { o with slots:=sl }
 new:∃T oT ts vs,h.get? T=none/\T≠e/\h'.get? T=some oT/\oT.data=.fields ts/\ts[3]?=some mk/\h'.get? e=some { oe with data:=.fields vs }/\vs[1]?=some (.ref T)
section
variable{M:Model}{A:Around}{E:Value->Shared->Prop}{s:Shared}{base:Heap}{env:Ws}{outer:List Ws}{L e:Addr}{oe:Obj}{vs:Array Value}{hd:Value}{Q:Unit->Shared->Prop}
theorem Zko{before:Bool}(hfr:A.frames=some (env::outer))(hl:s.heap.FunFrames base (env::outer))(hf:env.frame=some L)(he:s.heap.get? e=some oe)(hv:oe.data=.fields vs)(h1:1<vs.size)(k:∀h':Heap,Noted (frs (env::outer)) s.heap e oe (rawInt L) h'->Q () { s with heap:=h' }):
  wpAny M A (do
   let a <-frameOf env
   let pl <-entryPlaceOf L before
   let b <-EntryCells.newEntry hd a .none (rawInt L) .none pl
   setField (.ref e) 1 b) Q E s:=by
 have ne:e∉frs (env::outer):=λhm=>by
  obtain⟨_,o,q,nf⟩:=hl.mem hm
  rw[he]at q;cases q
  exact nf vs hv
 refine Yb (wpAny_frameOf_fun hfr hl hf λh1' so=>?_)
 refine Yb (wpAny_entryPlaceOf λpl hp=>?_)
 unfold EntryCells.newEntry newFields
 refine Yb (Wv ?_ (hp.sizeOk5 _ _ _ _ _))
 have e1:h1'.get? e=some oe:=(so.2.1 e ne).trans he
 generalize hob:({ cls:=.type "traceback",dict:=none,data:=.fields ([hd,.ref L,.none,rawInt L,.none]++(if pl.isEmpty then Yy 6 Gr else pl)).toArray }:Obj)=ob
 have e2:=Ye (h:=h1') ob e1
 have obf:ob.isFreed=false:=by rw[<-hob];rfl
 refine Ur e2 hv h1 (k _ ?_)
 have nT:h1'.objs.size≠e:=GZ (Ys e1)
 have kp:∀b o,b≠e->h1'.get? b=some o->((h1'.push ob).update e (Vb (·.setIfInBounds 1 (GF h1'.objs.size)))).get? b=some o:=λb o hb q=>by
  rw[Wd _ _ (Ui hb)]
  exact Ye _ q
 refine⟨λb o hb hbe q=>kp b o hbe ((so.2.1 b hb).trans q),λb o hb q=>?_,?_⟩
 ·obtain⟨sl,z⟩:=so.2.2 b o q
  exact⟨sl,kp b _ (λy=>ne (y▸hb)) z⟩
 ·refine⟨h1'.objs.size,ob,_,vs.setIfInBounds 1 (GF h1'.objs.size),Yac (by rw[so.1];exact Yj _),nT,?_,by rw[<-hob],?_,?_,?_⟩
  ·rw[Wd _ _ (Ui nT)]
   exact Yt _ obf
  ·simp
  ·rw[Wr _ e2 (Uu (WD hv _)),Zbm hv]
  ·simp[h1]
theorem note_x(hfr:A.frames=some (env::outer))(hl:s.heap.FunFrames base (env::outer))(hf:env.frame=some L)(he:s.heap.get? e=some oe)(hv:oe.data=.fields vs)(h1:vs[1]?=some hd)(ah:Ahead s.heap e .none hd)(k:∀h':Heap,Noted (frs (env::outer)) s.heap e oe (rawInt L) h'->Q () { s with heap:=h' }):wpAny M A (YaO (.ref e) env) Q E s:=by
 have hz:1<vs.size:=(U7.mp h1).1
 unfold YaO
 simp only[hf]
 refine Yb (Yan he hv h1 ?_)
 rcases ah with rfl|⟨T,oT,ts,rfl,ne,hT,dT,mT⟩
 ·rw[if_neg (by decide)]
  exact Zko hfr hl hf he hv hz k
 ·rw[if_pos (show(GF T != Gr)=true from by simp)]
  refine Yb (Yan hT dT mT ?_)
  rw[if_neg (show ¬((Gr==rawInt L)=true)from by simp[rawInt])]
  refine Yb (Ur hT dT (U7.mp mT).1 ?_)
  rw[Heap.update_setField_same s.heap T oT ts 3 .none hT dT mT]
  exact Zko hfr hl hf he hv hz k
theorem Zmn{T:Addr}{oT:Obj}{ts:Array Value}{mk:Value}(he:s.heap.get? e=some oe)(hv:oe.data=.fields vs)(h1:vs[1]?=some (.ref T))(hT:s.heap.get? T=some oT)(dT:oT.data=.fields ts)(mT:ts[3]?=some mk)(k:∀h':Heap,(∀b,b≠T->h'.get? b=s.heap.get? b)->h'.get? T=some { oT with data:=.fields (ts.setIfInBounds 3 .none) }->Q () { s with heap:=h' }):wpAny M A (Yct (.ref e) none) Q E s:=by
 unfold Yct
 refine Yb (Yan he hv h1 ?_)
 rw[if_pos (show(GF T != Gr)=true from by simp)]
 refine Ur hT dT (U7.mp mT).1 (k _ (λb hb=>Wd _ _ (Ui hb)) ?_)
 rw[Wr _ hT (Uu (WD dT _)),Zbm dT]
 rfl
end
def xeP(e C:Addr)(dx:Option Addr)(hd:Value)(h:Heap):Prop:=∃oe vs,h.get? e=some oe/\oe.cls=.ref C/\oe.dict=dx/\oe.data=.fields vs/\vs[1]?=some hd
def xtP(T:Addr)(h:Heap):Prop:=∃oT ts,h.get? T=some oT/\oT.data=.fields ts/\ts[3]?=some .none
structure Air (P:YK) (w:World) (fr:List Addr) (H:Hp) (s:Shared) (H':Hp) (e C:Addr) (dx:Option Addr) (s':Shared):Prop where
 os:s'.os=s.os
 bare:YaS s'.gens
 un:Un fr [] H H' s.heap s'.heap
 hok:HOk P w H' s'.heap
 no:H' e=none
 new:s.heap.get? e=none
 at':∃hd,xeP e C dx hd s'.heap/\(hd=.none∨∃T,hd=.ref T/\T≠e/\xtP T s'.heap)
section
variable{P:YK}{w:World}{M:Model}{A:Around}{E:Value->Shared->Prop}{s s':Shared}{H H':Hp}{base:Heap}{env:Ws}{outer:List Ws}{L e C:Addr}{dx:Option Addr}{Q:Unit->Shared->Prop}
theorem land(a:Air P w (frs (env::outer)) H s H' e C dx s')(fre:∀b∈frs (env::outer),H' b=none)(hfr:A.frames=some (env::outer))(hl:s'.heap.FunFrames base (env::outer))(hf:env.frame=some L)(k:∀(h':Heap) (T:Addr),Air P w (frs (env::outer)) H s H' e C dx { s' with heap:=h' }->xeP e C dx (.ref T) h'->xtP T h'->T≠e->Q () { s' with heap:=h' }):
  wpAny M A (YaO (.ref e) env) (λ_ s1=>wpAny M A (Yct (.ref e) none) Q E s1) E s':=by
 obtain⟨hd,⟨oe,vs,q1,q2,q3,q4,q5⟩,ah⟩:=a.at'
 refine note_x hfr hl hf q1 q4 q5 ?_ λh1 N=>?_
 ·rcases ah with rfl|⟨T,rfl,ne,oT,ts,z⟩
  ·exact .inl rfl
  ·exact .inr ⟨T,oT,ts,rfl,ne,z⟩
 obtain⟨T,oT,ts,vs',a1,a2,a3,a4,a5,a6,a7⟩:=N.new
 refine Zmn (s:={ s' with heap:=h1 }) a6 rfl a7 a3 a4 a5 λh2 k2 hT=>?_
 have neT:∀b o,s'.heap.get? b=some o->b≠T:=λb o q z=>by rw[z,a1]at q;cases q
 have kp:∀b o,b∉frs (env::outer)->b≠e->s'.heap.get? b=some o->h2.get? b=some o:=λb o hb hbe q=>(k2 b (neT b o q)).trans (N.keep b o hb hbe q)
 have sl:∀b o,b∈frs (env::outer)->s'.heap.get? b=some o->∃sl,h2.get? b=some { o with slots:=sl }:=λb o hb q=>by
  obtain⟨sl,z⟩:=N.slot b o hb q
  exact⟨sl,(k2 b (neT b o q)).trans z⟩
 have nb:∀b o,s.heap.get? b=some o->b≠e:=λb o q z=>by rw[z,a.new]at q;cases q
 have xe2:xeP e C dx (.ref T) h2:=⟨_,vs',(k2 e (Ui a2)).trans a6,q2,q3,rfl,a7⟩
 have xt2:xtP T h2:=⟨_,_,hT,rfl,by simp[(U7.mp a5).1]⟩
 refine k h2 T ⟨a.os,a.bare,⟨λb o q n hb hx=>kp b o hb (nb b o q) (a.un.keep b o q n hb hx),λb o q n hb hx=>?_,a.un.free,λb o q hx=>?_,a.un.tups,a.un.frzs,a.un.tbls⟩,λb u q=>?_,a.no,a.new,_,xe2,.inr ⟨T,rfl,a2,xt2⟩⟩ xe2 xt2 a2
 ·obtain⟨s1,e1⟩:=a.un.slot b o q n hb hx
  obtain⟨s2,e2⟩:=sl b _ hb e1
  exact⟨s2,e2⟩
 ·obtain⟨o',e1⟩:=a.un.there b o q hx
  by_cases hb:b∈frs (env::outer)
  ·obtain⟨s2,e2⟩:=sl b _ hb e1
   exact⟨_,e2⟩
  ·exact⟨_,kp b o' hb (nb b o q) e1⟩
 ·refine(a.hok b u q).stay (λc v hc r=>kp c v ?_ ?_ r) (λ_ z=>z) λ_ _ z=>z
  ·intro hm
   rcases hc with rfl|hc
   ·rw[fre _ hm]at q;cases q
   ·rw[fre _ hm]at hc;cases hc
  ·rintro rfl
   rcases hc with rfl|hc
   ·rw[a.no]at q;cases q
   ·rw[a.no]at hc;cases hc
theorem ZjL(a:Air P w (frs (env::outer)) H s H' e C dx s')(fre:∀b∈frs (env::outer),H' b=none)(hfr:A.frames=some (env::outer))(hl:s'.heap.FunFrames base (env::outer))(hf:env.frame=some L)(k:∀h':Heap,Air P w (frs (env::outer)) H s H' e C dx { s' with heap:=h' }->Q () { s' with heap:=h' }):wpAny M A (leaving env (.ref e)) Q E s':=by
 unfold leaving
 exact Yb (land a fre hfr hl hf λh' T a' _ _ _=>k h' a')
end
def CXF(P:YK)(w:World):CXT:=λouter H s E ev s'=>∃e C dx H',ev=.ref e/\Air P w (frs outer) H s H' e C dx s'/\E (.ref C) dx H'
def Lk(X:Cx)(xr:XR):Prop:=∀(pins:List (Addr×Obj)) (σ:L2.St) (H:Hp) (s:Shared) (H':Hp) (e:Addr) (dx:Option Addr) (s':Shared) (cm:List Addr) (m:Mem) (x:Exc),Inv X pins σ H s ->
 Air X.prog X.w (frs X.stack) H s H' e x.cls dx s'->MemR X.K cm m H'->XF X.K cm m H' x.nms x.flds dx->xr x cm m H'->X.xe (.ref e) s'
theorem lk0{X:Cx}:Lk X xr0:=λ_ _ _ _ _ _ _ _ _ _ _ _ _ _ _ h=>h.elim
abbrev asX(X:Cx)(xe:Value->Shared->Prop)(pn:List (Addr×Obj)):Cx:={ X with xe:=xe,pn:=pn }
structure Go (X:Cx) (xr:XR):Prop where
 lk:Lk X xr
 po:Yco (model X.prog X.w) X.A X.env X.xe
section
variable{K:Frag}{cm cm':List Addr}{m m':Mem}{H H' H'':Hp}{X:Cx}
variable(K) in
def xrE(E:XK):XR:=λx cm m H=>∀dx,XF K cm m H x.nms x.flds dx->E (.ref x.cls) dx H
variable(K) in
def EX(xr:XR):XK:=λcls dx H=>∃cm m x,MemR K cm m H/\cls=.ref x.cls/\XF K cm m H x.nms x.flds dx/\xr x cm m H
theorem Lk.passes{xr:XR}(h:Lk X xr):Zk0 (CXF X.prog X.w) X (EX X.K xr):=λpins σ H s ev s' I ⟨e,C,dx,H',he,air,cm,m,x,M,hc,hf,q⟩=>by
 subst he
 cases hc
 exact h pins σ H s H' e dx s' cm m x I air M hf q
theorem OkR.monoX{α:Type}{r:Res α}{xr xr':XR}{k:α->List Addr->Mem->Hp->Prop}(h:OkR K r xr cm m H k)(f:∀x cm' m' H',Ext cm m H cm' m' H'->MemR K cm' m' H'->xr x cm' m' H'->xr' x cm' m' H'):OkR K r xr' cm m H k:=by
 cases r with
 |ok a m2=>exact h
 |exc a m2=>exact λc h' e M=>f _ _ _ _ e M (h c h' e M)
 |stuck=>exact h
theorem OkR.toE{α:Type}{r:Res α}{xr:XR}{k:α->List Addr->Mem->Hp->Prop}(h:OkR K r xr cm m H k):OkR K r (xrE K (EX K xr)) cm m H k:=
 h.monoX λx cm' m' H' _ M q dx hf=>⟨cm',m',x,M,rfl,hf,q⟩
theorem ZnB{fs:List Addr}{H0 H1 H2:Hp}{h0 h1 h2:Heap}{L:Addr}(a:Un fs [] H0 H1 h0 h1)(b:Un (L::fs) [] H1 H2 h1 h2)(hL:h0.get? L=none):Un fs [] H0 H2 h0 h2 where
 keep:=λc ob q n hc hx=>b.keep c ob (a.keep c ob q n hc hx) (a.free c ob q n hx) (λz=>(Yh.mp z).elim (λz=>by rw[z,hL]at q;cases q) hc) hx
 slot:=λc ob q n hc hx=>by
  obtain⟨sl,e1⟩:=a.slot c ob q n hc hx
  obtain⟨sl',e2⟩:=b.slot c _ e1 (a.free c ob q n hx) (Yg _ hc) hx
  exact⟨sl',e2⟩
 free:=λc ob q n hx=>by
  obtain⟨o',e1⟩:=a.there c ob q hx
  exact b.free c o' e1 (a.free c ob q n hx) hx
 there:=λc ob q hx=>by
  obtain⟨o',e1⟩:=a.there c ob q hx
  exact b.there c o' e1 hx
 tups:=λc xs q=>b.tups c xs (a.tups c xs q)
 frzs:=λc ob xs q=>b.frzs c ob xs (a.frzs c ob xs q)
 tbls:=λc ps q=>by
  obtain⟨m1,e1⟩:=a.tbls c ps q
  obtain⟨m2,e2⟩:=b.tbls c _ e1
  exact⟨m1++m2,by rw[e2,Array.append_assoc]⟩
end
theorem Inv.air{X:Cx}{pins:List (Addr×Obj)}{σ:L2.St}{H H':Hp}{s s':Shared}{e C:Addr}{dx:Option Addr}(I:Inv X pins σ H s)(a:Air X.prog X.w (frs X.stack) H s H' e C dx s'):Inv X pins σ H' s':=
 I.call' (ch:=[]) a.os a.un a.hok a.bare λb z=>absurd z (by simp)
theorem ZoR{P:YK}{w:World}{K:Frag}{mg:Str->Option Value}{base:Heap}{N:List Str}{qual:Str}{scope:Scope}{f:Addr}{cd:Value}{A:Around}{outer:List Ws}{s:Shared}{H:Hp}{E:XK}:
  Go (cxOf (CXF P w) P w K mg base N qual scope f cd A outer s H E) (xrE K E):=by
 refine⟨λpins σ H1 s1 H' e dx s' cm m x I a M hf q=>?_,PassesOwn.leaving⟩
 have I':=Inv.air I a
 have gone:s.heap.get? e=none:=by
  cases y:s.heap.get? e with
  |none=>rfl
  |some o =>
   obtain⟨o',y'⟩:=I.base.there e o y (by intro z;cases z)
   rw[a.new]at y';cases y'
 refine ZjL a I'.stkFree I'.ok.frames I'.stack rfl λh' a'=>?_
 exact⟨e,x.cls,dx,H',rfl,⟨I'.os,a'.bare,ZnB I.base a'.un (Yac (Yj _)),a'.hok,a'.no,gone,a'.at'⟩,q dx hf⟩
theorem ZoU{P:YK}{w:World}{K:Frag}{mg:Str->Option Value}{base:Heap}{x qual:Str}{st:Stmt}{f:Addr}{fd:Uj}{N ps:List Str}{k:Nat}{sp:Sp}(F:Fun K x qual st f fd)(S:FnScope N ps (Zc st))(len:∀vs H Q E,sp vs H Q E->vs.length=ps.length)(hbody:∀(cdv:Value),codeIn K cdv qual=true->∀(A:Around) (outer:List Ws) (s:Shared) (H:Hp) (vs:List V) (Q:VK) (E:XK),Room (k+1) A->HOk P w H s.heap->sp vs H Q E ->
  ∃t,PSs (cxOf (CXF P w) P w K mg base N qual (Zc st) f cdv A outer s H E) (Qp st) t/\t { nx:=λ_ H'=>Q .non H',rt:=Q } (start N vs) H):FnOk P w K mg base (CXF P w) (k+1) f fd ps sp:=by
 obtain⟨oc,od,kV,doc,pm,an,cdv,ct,osl,rfl,lk,hcd⟩:=F.ex
 exact fn_of lk hcd S len λA outer s H vs Q E hr hk hsp=>hbody cdv hcd A outer s H vs Q E hr hk hsp
def spF(K:Frag)(fns:List Fn)(gv:List T)(k f:Nat):Sp:=λvs H Q E=>∃cm m ws,MemR K cm m H/\RWs K cm m H ws vs/\OkR K (J7 fns gv k f ws m) (xrE K E) cm m H λw cm' m' H'=>∀v,RW K cm' m' H' w v->Q v H'
def FOk(P:YK)(w:World)(K:Frag)(mg:Str->Option Value)(base:Heap)(fns:List Fn)(gv:List T)(k:Nat)(x:Str)(fi:Nat):Prop:=
 ∃f fd ps,mg x=some (.ref f)/\keepIn K (.ref f)=true/\Binds K fd ps []/\FnOk P w K mg base (CXF P w) k f fd ps (spF K fns gv k fi)
section
variable{K:Frag}{cm cm':List Addr}{m m':Mem}{H H':Hp}{X:Cx}{fns:List Fn}{gv:List T}
variable{a b c e:Expr}{es:List Expr}{ea eb ec:E}{eas:Es}{pos p p2:Pos}{k n:Nat}
theorem ZlP{fi:Nat}{x:Str}{xr:XR}(lk:Lk X xr)(F:FOk X.prog X.w X.K X.mg X.base fns gv k x fi)(hr:Room k X.A)(hg:Gl X x)(ha:PA X (e::es) (tA X.K (J7 fns gv k) gv xr eas))(hdb:(x==("__debug__" : Str))=false:=by decide)(he:notStar e=true:=by rfl)(hpl:es.all notStar=true:=by rfl):
  PE X (.Call (.Name x p) (e::es) [] pos) (tE X.K (J7 fns gv k) gv xr (.call fi eas)):=by
 obtain⟨f,fd,ps,hm,hk,hb,F⟩:=F
 refine PE.mono (Zon F hr hg hm hk hb (dvs:=[]) .nil (E:=EX X.K xr) lk.passes ha hdb (J8 he) (ZcL hpl)) ?_
 rintro σ H Q ⟨env,cm,m,hE,M,ho⟩
 rw[ev]at ho
 refine⟨env,cm,m,hE,M,ho.bind.mono λws cm1 m1 H1 x1 M1 o1 vs rvs=>?_⟩
 show spF X.K fns gv k fi (vs++[]) H1 Q (EX X.K xr)
 rw[Ua]
 exact⟨cm1,m1,ws,M1,rvs,o1.toE⟩
theorem Jy{i n:Nat}{c:Bool×List T}(h:(m.take n)[i]?=some (some c)):m[i]?=some (some c)/\i<n:=by
 rw[YaB]at h
 split at h
 ·exact⟨h,‹_›⟩
 ·cases h
theorem QR{i n:Nat}(h:i<n):(cm.take n)[i]?=cm[i]?:=by rw[YaB,if_pos h]
theorem Xa{n:Nat}{a:Addr}(h:Zt cm m a):Zt (cm.take n) (m.take n) a:=λi q e=>by
 obtain⟨e1,hi⟩:=Jy e
 rw[QR hi]
 exact h i q e1
theorem Zla(M:MemR K cm m H)(n:Nat):MemR K (cm.take n) (m.take n) H/\∀t v,RT K cm m H t v->RT K (cm.take n) (m.take n) H t v:=by
 have sm:∀t v,RT K cm m H t v->RT K (cm.take n) (m.take n) H t v:=λt v r=>r.same (λ_ _ z=>z) λ_ z _=>Xa z
 refine⟨⟨by rw[WP,WP,M.len],λi j a q r e1 e2 f1 f2=>?_,λi q e=>?_,M.tab⟩,sm⟩
 ·obtain⟨e1,h1⟩:=Jy e1
  obtain⟨e2,h2⟩:=Jy e2
  rw[QR h1]at f1
  rw[QR h2]at f2
  exact M.inj i j a q r e1 e2 f1 f2
 ·obtain⟨e1,h1⟩:=Jy e
  obtain⟨a,vs,q1,q2,q3,q4⟩:=M.at' i q e1
  exact⟨a,vs,by rw[QR h1];exact q1,q2,q3,Zi (λ_ _ z=>sm _ _ z) q4⟩
theorem Zlb(M:MemR K cm m H)(x:Ext cm m H cm' m' H'):Ext cm m H (cm'.take m.length) (m'.take m.length) H':=by
 refine⟨λi a h=>?_,by rw[WP];have:=x.len;omega,λi ts h=>?_,λa o h n=>⟨(x.keep a o h n).1,Xa (x.keep a o h n).2⟩⟩
 ·have hi:=(Yi.mp h).1
  rw[M.len]at hi
  rw[QR hi]
  exact x.pre i a h
 ·have hi:=(Yi.mp h).1
  rw[YaB,if_pos hi]
  exact x.lent i ts h
theorem fin_ok{xr:XR}{cell:Bool}{fl:Flow}{Q:VK}{nn:Nat}(M:MemR K cm m H)(x:Ext cm m H cm' m' H')(M':MemR K cm' m' H')(ho:OkR K (fin m.length cell fl m') xr cm m H λw cm' m' H'=>∀v,RW K cm' m' H' w v->Q v H'):
  Zkq K nn { nx:=λ_ H'=>Q .non H',rt:=Q } fl cm' m' H':=by
 obtain⟨Mt,st⟩:=Zla M' m.length
 have xt:=Zlb M x
 cases fl with
 |next env=>exact λσ _ _=>OkR.to (a:=W.t .non) ho xt Mt _ .non
 |brk env=>exact ho.elim
 |cont env=>exact ho.elim
 |ret w =>
  intro v rv
  cases w with
  |t t=>exact OkR.to (a:=W.t t) ho xt Mt v (st t v rv)
  |f a=>exact ho.elim
  |x _ _ _=>exact ho.elim
  |c i =>
   unfold fin at ho
   dsimp only at ho
   split at ho
   ·rename_i hi
    obtain⟨a,h1,h2⟩:=rv
    exact OkR.to ho xt Mt v ⟨a,by rw[QR hi];exact h1,h2⟩
   ·rename_i hi
    split at ho
    ·rename_i ts e
     obtain⟨a,h1,h2⟩:=rv
     obtain⟨a',vs,q1,q2,q3,q4⟩:=M'.at' i _ e
     rw[h1]at q1;cases q1
     have na:Zt (cm'.take m.length) (m'.take m.length) a:=λj q ej z=>by
      obtain⟨ej,hj⟩:=Jy ej
      rw[QR hj]at z
      have:=M'.inj j i a _ _ ej e z h1
      omega
     have lt:(cm'.take m.length).length=m.length:=by rw[WP,M'.len];have:=x.len;omega
     have lm:(m'.take m.length).length=m.length:=by rw[WP];have:=x.len;omega
     split at ho
     ·-- a list that may change is handed back
      have nl:∀b,Zt cm' m' b->Zt (cm'.take m.length++[a]) (m'.take m.length++[some (false,ts)]) b:=λb n=>by
       refine Zb4 (by rw[lt,lm]) (Xa n) λz=>?_
       subst z
       exact n i _ e h1
      have sm:∀t v,RT K cm' m' H' t v->RT K (cm'.take m.length++[a]) (m'.take m.length++[some (false,ts)]) H' t v:=λt v r=>r.same (λ_ _ z=>z) λb z _=>nl b z
      have cs:∀{j:Nat}{c:Bool×List T},(m'.take m.length++[some (false,ts)])[j]?=some (some c)->((m'.take m.length)[j]?=some (some c)/\j<m.length)∨(j=m.length/\c=(false,ts)):=λ{j c} ej=>by
       by_cases hj:j<m.length
       ·rw[YL (by rw[lm];exact hj)]at ej
        exact .inl ⟨ej,hj⟩
       ·by_cases hj2:j=m.length
        ·subst hj2
         rw[YS (by rw[lm];exact Yj _),lm,G7]at ej
         cases ej
         exact .inr ⟨rfl,rfl⟩
        ·rw[G6 (by rw[Yr,lm];simp;omega)]at ej
         cases ej
      have cl:∀{j:Nat},j<m.length->(cm'.take m.length++[a])[j]?=(cm'.take m.length)[j]?:=λ{j} hj=>YL (by rw[lt];exact hj)
      have cp:(cm'.take m.length++[a])[m.length]?=some a:=by
       rw[YS (by rw[lt];exact Yj _),lt,G7]
       rfl
      refine OkR.to (cm':=cm'.take m.length++[a]) ho ⟨λj b h=>?_,by rw[Yr,lm];simp,λj us h=>?_,λb o h nb=>⟨(x.keep b o h nb).1,nl b (x.keep b o h nb).2⟩⟩ ⟨by rw[Yr,Yr,lt,lm];rfl,λj1 j2 b c1 c2 e1 e2 f1 f2=>?_,λj c ej=>?_,M'.tab⟩ v ⟨a,cp,h2⟩
      ·have hj:=(Yi.mp h).1
       rw[M.len]at hj
       rw[cl hj]
       exact xt.pre j b h
      ·have hj:=(Yi.mp h).1
       rw[YL (by rw[lm];exact hj)]
       exact xt.lent j us h
      ·rcases cs e1 with⟨g1,l1⟩|⟨k1,_⟩
       ·rw[cl l1]at f1
        rcases cs e2 with⟨g2,l2⟩|⟨k2,_⟩
        ·rw[cl l2]at f2
         exact Mt.inj j1 j2 b _ _ g1 g2 f1 f2
        ·rw[k2,cp]at f2;cases f2
         exact absurd f1 (na j1 _ g1)
       ·rw[k1,cp]at f1;cases f1
        rcases cs e2 with⟨g2,l2⟩|⟨k2,_⟩
        ·rw[cl l2]at f2
         exact absurd f2 (na j2 _ g2)
        ·rw[k1,k2]
      ·rcases cs ej with⟨g,l⟩|⟨kk,z⟩
       ·obtain⟨gg,_⟩:=Jy g
        obtain⟨b,ws,w1,w2,w3,w4⟩:=M'.at' j c gg
        exact⟨b,ws,by rw[cl l,QR l];exact w1,w2,w3,Zi (λ_ _ z=>sm _ _ z) w4⟩
       ·rw[kk,z]
        exact⟨a,vs,cp,q2,q3,Zi (λ_ _ z=>sm _ _ z) q4⟩
     ·subst h2
      exact OkR.to (a:=W.t (.lst ts)) ho xt Mt _ (RT.mlst q2 na (Zi (λ_ _ z=>st _ _ z) q4))
    ·exact ho.elim
theorem ZnH{N:List Str}{ws:List W}{vs:List V}{j:Nat}(r:RWs K cm m H ws vs)(hj:j=N.length-vs.length):EnvR K cm m H (ws.map some++Yy j none) (L2.start N vs):=λi w e=>by
 unfold L2.start
 have hl:=r.length
 by_cases hi:i<ws.length
 ·rw[YL (by simpa using hi),YZ]at e
  cases q:ws[i]? with
  |none=>rw[q]at e;cases e
  |some w' =>
   rw[q]at e;cases e
   obtain⟨v,h1,h2⟩:=Zx r q
   refine⟨v,?_,h2⟩
   rw[YL (by rw[Yc];omega),YZ,h1]
   rfl
 ·rw[YS (by simpa using hi),Uz]at e
  split at e<;>cases e
theorem Zio{N:List Str}{vs:List V}(h:vs.length<=N.length):(L2.start N vs).length=N.length:=by
 unfold L2.start
 rw[Yr,Yc,Gf]
 omega
theorem Znn{P:YK}{w:World}{mg:Str->Option Value}{base:Heap}{x qual:Str}{st:Stmt}{f:Addr}{fd:Uj}{N ps:List Str}{fi:Nat}{d:Fn}(F:Fun K x qual st f fd)(S:FnScope N ps (Zc st))(hd:fns[fi]?=some d)(hps:d.ps=ps.length)(hn:d.n=N.length)(hbody:∀(cdv:Value),codeIn K cdv qual=true->∀(A:Around) (outer:List Ws) (s:Shared) (H:Hp) (E:XK),Room (k+1) A->∀(xe:Value->Shared->Prop) (pn:List (Addr×Obj)) (xr:XR),
   Go (asX (cxOf (CXF P w) P w K mg base N qual (Zc st) f cdv A outer s H E) xe pn) xr->PSs (asX (cxOf (CXF P w) P w K mg base N qual (Zc st) f cdv A outer s H E) xe pn) (Qp st) (tS K (J7 fns gv k) gv xr N.length d.body)):
  FnOk P w K mg base (CXF P w) (k+1) f fd ps (spF K fns gv (k+1) fi):=by
 have hpl:ps.length<=N.length:=by have:=congrArg VN S.pre;rw[WP]at this;omega
 have len:∀{ws:List W}{m:Mem}{cm:List Addr}{H:Hp}{xr:XR}{post:W->List Addr->Mem->Hp->Prop},OkR K (J7 fns gv (k+1) fi ws m) xr cm m H post->ws.length=d.ps/\OkR K ((ex (J7 fns gv k) gv d.body (ws.map some++Yy (d.n-d.ps) none) m).bind λfl m'=>fin m.length d.cell fl m') xr cm m H post:=λ{ws m cm H xr post} h=>by
  rw[J7,hd]at h
  dsimp only at h
  by_cases hc:ws.length=d.ps
  ·rw[if_pos hc]at h;exact⟨hc,h⟩
  ·rw[if_neg hc]at h;exact h.elim
 refine ZoU F S (λvs H Q E ⟨cm,m,ws,M,r,ho⟩=>by rw[<-r.length,(len ho).1,hps]) (λcdv hcd A outer s H vs Q E hr hk ⟨cm,m,ws,M,r,ho⟩=>?_)
 obtain⟨hl,ho⟩:=len ho
 have hv:vs.length=ps.length:=by rw[<-r.length,hl,hps]
 refine⟨_,hbody cdv hcd A outer s H E hr _ _ (xrE K E) ZoR,Zio (by omega),ws.map some++Yy (d.n-d.ps) none,cm,m,ZnH r (by rw[hn,hps,hv]),M,?_⟩
 exact ho.bind0.mono λfl cm1 m1 H1 x1 M1 o1=>fin_ok M x1 M1 o1
theorem fn_okW{P:YK}{w:World}{mg:Str->Option Value}{base:Heap}{x qual:Str}{st:Stmt}{f:Addr}{fd:Uj}{N ps:List Str}{fi:Nat}{d:Fn}(F:Fun K x qual st f fd)(S:FnScope N ps (Zc st))(hd:fns[fi]?=some d)(hps:d.ps=ps.length)(hn:d.n=N.length)(hbody:∀(cdv:Value) (A:Around) (outer:List Ws) (s:Shared) (H:Hp) (E:XK),Room k (A.deeper (envOfC qual (Zc st) s.heap.objs.size f cdv))->∀(xe:Value->Shared->Prop) (pn:List (Addr×Obj)) (xr:XR),
   Go (asX (cxOf (CXF P w) P w K mg base N qual (Zc st) f cdv A outer s H E) xe pn) xr->PSs (asX (cxOf (CXF P w) P w K mg base N qual (Zc st) f cdv A outer s H E) xe pn) (Qp st) (tS K (J7 fns gv k) gv xr N.length d.body)):
  FnOk P w K mg base (CXF P w) (k+1) f fd ps (spF K fns gv (k+1) fi):=
 Znn F S hd hps hn λcdv _ A outer s H E hr=>hbody cdv A outer s H E (hr.deeper _)
theorem ZoV{P:YK}{w:World}{mg:Str->Option Value}{base:Heap}{f:Addr}{fd:Uj}{ps:List Str}{fi:Nat}:FnOk P w K mg base (CXF P w) 0 f fd ps (spF K fns gv 0 fi):=by
 have no:∀vs H Q E,¬spF K fns gv 0 fi vs H Q E:=λvs H Q E ⟨cm,m,ws,M,r,ho⟩=>by
  rw[J7]at ho
  exact ho
 exact⟨λvs H Q E h=>absurd h (no vs H Q E),λA outer s H args us vs Q E _ _ _ _ h=>absurd h (no vs H Q E)⟩
end
end Mi
namespace Mi
open PySem PySem.Spec PyProof.Rows L2 PySem.W
section
variable{X:Cx}{xr:XR}{call:Nat->List W->Mem->Res W}{gv:List T}{n:Nat}
def unS(i:Option Nat)(σ:L2.St):L2.St:=match i with
 |some j=>σ.set j none
 |none=>σ
end
end Mi
namespace Mi
open PySem PySem.Spec PyProof.Rows L2
section
variable{K:Frag}{xr:XR}{X:Cx}{call:Nat->List W->Mem->Res W}{gv:List T}
variable{e:Expr}{ea:E}{pos:Pos}{rest:List Stmt}{k:S}{n:Nat}
theorem vr(i:Nat){x:Str}{pos:Pos}(hN:X.N[i]?=some x:=by rfl)(hv:Vis X.env.scope x:=by first|exact Or.inl rfl|exact Or.inr (Or.inl rfl)|exact Or.inr (Or.inr rfl))(hd:(x==("__debug__" : Str))=false:=by decide)(hcd:(x==("__classdict__" : Str))=false:=by decide):PE X (.Name x pos) (tE X.K call gv xr (.var i)):=Zn7 hN hv hd hcd
theorem sg(i:Nat){x:Str}{px:Pos}(hN:X.N.Nodup)(h:PE X e (tE X.K call gv xr ea))(hk:PSs X rest (tS X.K call gv xr n k))(hn:X.N.length=n:=by rfl)(hi:X.N[i]?=some x:=by rfl)(hx:Loc X.env.scope x:=by first|exact Or.inl rfl|exact Or.inr rfl)(hs:YaH e (some (.Name x px)) pos.line X.env=pure false:=by rfl)(hf:X.fn x=true∨X.env.scope.names.lookup x=some .local:=by first|exact .inl rfl|exact .inr rfl):PSs X (.Assign [.Name x px] e pos::rest) (tS X.K call gv xr n (.asg i ea k)):=Zlv hN hn hi hx h hk hs hf
theorem Zu(i:Nat){x:Str}{pos:Pos}(hN:X.N.Nodup)(hi:X.N[i]?=some x:=by rfl)(hx:Loc X.env.scope x:=by first|exact Or.inl rfl|exact Or.inr rfl)(hf:X.fn x=true∨X.env.scope.names.lookup x=some .local:=by first|exact .inl rfl|exact .inr rfl):PG X (.Name x pos) (gT X.K (.nm i)):=JS hN hi hx hf
def scOk(scope osc:Scope):Bool:=scope.kind==.function&&scope.names.all λp=>scope.names.lookup p.1==some p.2&&(p.2 != .free || osc.names.lookup p.1==some .cell || osc.names.lookup p.1==some .free)
def ZeB(N' N:List Str)(own:Nat)(keep:List Nat)(scope:Scope):Bool:=N'.length==own+keep.length&&(YF keep.length).all λi=>match N'[own+i]?,keep[i]? with
 |some x,some j=>N[j]?==some x&&scope.names.any λp=>p.1==x&&p.2==.free
 |_,_=>false
theorem Zmu{N':List Str}{scope:Scope}{own:Nat}{keep:List Nat}{elt target iter:Expr}{ifs:List Expr}{gs:List We}{it:E}{tg:Tg}{cs:Es}{inner:E}(h1:scOk scope X.env.scope=true)(h2:ZeB N' X.N own keep scope=true)(pi:PI X target iter (tI X.K call gv xr it))(fs:∀x,WR iter X.env x=pure x)(ins:ZgP X xr call gv N' scope elt target ifs (⟨target,iter,ifs,0⟩::gs) tg cs inner)(dis:∀i∈tgS tg,i∉innS inner)(slt:∀i∈tgS tg++innS inner,i<own):
  CompK X xr call gv N' scope own keep elt target iter ifs gs it tg cs inner:=by
 unfold scOk at h1
 rw[Yo]at h1
 obtain⟨hk,h1⟩:=h1
 have h1:=Wa.mp h1
 unfold ZeB at h2
 rw[Yo]at h2
 obtain⟨hl,h2⟩:=h2
 have h2:=Wa.mp h2
 refine⟨⟨eq_of_beq hk,λp hp=>?_,λx hx=>?_⟩,eq_of_beq hl,λi x e=>?_,pi,fs,ins,dis,slt⟩
 ·have:=h1 p hp
  simp only[Yo]at this
  exact eq_of_beq this.1
 ·have:=h1 _ hx
  simp only[Yo,Ue]at this
  rcases this.2 with(h|h)|h
  ·cases h
  ·exact .inl (eq_of_beq h)
  ·exact .inr (eq_of_beq h)
 ·have hlen:N'.length=own+keep.length:=eq_of_beq hl
  have hi:i<keep.length:=by
   have:=(Yi.mp e).1
   omega
  have h:=h2 i (VR.mpr hi)
  rw[e]at h
  cases q:keep[i]? with
  |none=>rw[q]at h;cases h
  |some j =>
   rw[q]at h
   have h:(X.N[j]?==some x&&scope.names.any λp=>p.1==x&&p.2==.free)=true:=h
   rw[Yo]at h
   refine⟨j,rfl,eq_of_beq h.1,?_⟩
   obtain⟨p,hp,hq⟩:=GK.mp h.2
   rw[Yo]at hq
   rw[<-eq_of_beq hq.1]
   have:p.2=YW:=eq_of_beq hq.2
   rw[<-this]
   exact hp
theorem law_sp{fns:List Fn}{k fi:Nat}{H:Hp}{a:Addr}{ns:List Int}{E:XK}(hT:TabR K H)(hS:ZcA K H a ns)(h:∃m,J7 fns gv k fi [.t (.scr ns)] []=.ok (.t (.bl true)) m):spF K fns gv k fi [.ref a] H (λv _=>v=.bl true) E:=by
 obtain⟨m,h⟩:=h
 refine⟨[],[],[.t (.scr ns)],⟨rfl,λi j a p q e=>by simp at e,λi p e=>by simp at e,hT⟩,.cons (.scr ns hS) .nil,?_⟩
 rw[h]
 intro cm' H' x M v rv
 cases RT.vbl rv
 rfl
inductive StrsV:List (List Nat)->List Value->Prop where
 |nil:StrsV [] []
 |cons {y:Str}{t:Tok}{cs:List Nat}{r:List (List Nat)}{us:List Value}:y.cps.toList=cs->StrsV r us->StrsV (cs::r) (.str y t::us)
theorem Zkb{mg:Str->Option Value}{x:Str}{a:Addr}{its:Array Value}{nn:Nat}{sl:Array (Option Value)}{css:List (List Nat)}(h:mg x=some (.ref a))(l:K.lookup a=some ⟨.type "tuple",none,.seq its nn,sl⟩)(hz:its.size<=YM)(hs:StrsV css its.toList):Zk2 K mg x (.tup (css.map .str)):=by
 refine⟨_,.ref a,h,rfl,λcm m H=>?_⟩
 have go:∀{css:List (List Nat)}{us:List Value},StrsV css us->Vals (css.map λc=>V.str ⟨c.toArray⟩) us/\RTs K cm m H (css.map .str) (css.map λc=>V.str ⟨c.toArray⟩):=λ{css us} h=>by
  induction h with
  |nil=>exact⟨.nil,.nil⟩
  |@cons y t cs r us e _ ih =>
   refine⟨.cons ?_ ih.1,.cons (.str cs) ih.2⟩
   show ∃t',V1 y t=V1 ⟨cs.toArray⟩ t'
   rw[<-ZmP e]
   exact⟨t,rfl⟩
 exact .mtup (.inr ⟨_,its,nn,l,rfl,rfl,hz,(go hs).1,rfl⟩) (go hs).2
end
section
variable{K:Frag}{cm:List Addr}{m:Mem}{H:Hp}{xr:XR}{X:Cx}{call:Nat->List W->Mem->Res W}{gv:List T}
variable{a b c e:Expr}{es:List Expr}{ea eb ec:E}{eas:Es}{pos p p2:Pos}{rest:List Stmt}{k:S}{n:Nat}
theorem blt2{b:B}{ws:List W}{vs:List V}{k:W->List Addr->Mem->Hp->Prop}(r:RWs K cm m H ws vs)(h1:∀ts t,bltT b ts=some t->∃i j,ts=[.int i,.int j])(h:OkR K (fBlt b ws m) xr cm m H k):
  ∃i j r,vs=[.int i,.int j]/\bltT b [.int i,.int j]=some r/\OkR K (.ok (.t r) m) xr cm m H k:=by
 obtain⟨t,e,ho⟩:=Jl h
 cases q:views ws m with
 |none=>rw[q]at e;cases e
 |some ts =>
  rw[q]at e
  have e:bltT b ts=some t:=e
  obtain⟨i,j,rfl⟩:=h1 ts t e
  match ws,vs,r with
  |[],_,_=>cases q
  |[w],_,_ =>
   unfold views at q
   cases q1:view w m with
   |none=>rw[q1]at q;cases q
   |some t1=>rw[q1]at q;cases q
  |[w1,w2],_,.cons r1 (.cons r2 .nil) =>
   unfold views at q
   cases q1:view w1 m with
   |none=>rw[q1]at q;cases q
   |some t1 =>
    rw[q1]at q
    unfold views at q
    cases q2:view w2 m with
    |none=>rw[q2]at q;cases q
    |some t2 =>
     rw[q2]at q
     cases q
     cases(Ze r1 q1 (λ_ z=>by cases z)).vint
     cases(Ze r2 q2 (λ_ z=>by cases z)).vint
     exact⟨i,j,t,rfl,e,ho⟩
  |w1::w2::w3::ws,_,_ =>
   unfold views at q
   cases q1:view w1 m with
   |none=>rw[q1]at q;cases q
   |some t1 =>
    rw[q1]at q
    unfold views at q
    cases q2:view w2 m with
    |none=>rw[q2]at q;cases q
    |some t2 =>
     rw[q2]at q
     unfold views at q
     cases q3:view w3 m with
     |none=>rw[q3]at q;cases q
     |some t3 =>
      rw[q3]at q
      cases q4:views ws m with
      |none=>rw[q4]at q;cases q
      |some t4=>rw[q4]at q;cases q
theorem Zk7{b:B}(hb:b=.min2∨b=.max2):∀ts t,bltT b ts=some t->∃i j,ts=[.int i,.int j]:=by
 intro ts t h
 rcases hb with rfl|rfl<;>exact(Zie h).imp λi hi=>hi.imp λj hj=>hj.1
theorem ZkO(hc:X.calm=true):Xm X (.builtin "min") (rN X.K xr (fBlt .min2)):=by
 rintro pins s σ H xs us Q I r ⟨cm,m,ws,M,rws,ho⟩
 obtain⟨i,j,rr,rfl,eb,ho⟩:=blt2 rws (Zk7 (.inl rfl)) ho
 cases eb
 exact ZkP hc pins s σ H _ us Q I r ⟨i,j,rfl,ans ho M (.int _)⟩
theorem RTs.ints:∀{ts:List T}{vs:List V}{bs:List Int},RTs K cm m H ts vs->ints? ts=some bs->vs=bs.map V.int
 |[],_,_,.nil,e=>by cases e;rfl
 |t::ts,_,bs,.cons r rs,e=>by
  cases t with
  |int c =>
   unfold ints? at e
   cases q:ints? ts with
   |none=>rw[q]at e;cases e
   |some cs =>
    rw[q]at e;cases e
    cases RT.vint r
    rw[RTs.ints rs q]
    rfl
  |_=>cases e
theorem Zhz:MtR X "list.append" (rM X.K xr .append):=by
 rintro pins s σ H x xs v us Q I rx rs ⟨cm,m,w,ws,M,rw',rws,ho⟩
 cases w with
 |t t=>exact ho.elim
 |f a=>exact ho.elim
 |x _ _ _=>exact ho.elim
 |c i =>
  have ho:OkR X.K ((frzs ws m).bind λts m=>match m[i]? with
   |some (some (false,xs))=>match mutM .append xs ts with
    |some (t,ys)=>.ok (W.t t) (m.set i (some (false,ys)))
    |none=>.stuck
   |_=>.stuck) xr cm m H _:=ho
  obtain⟨ts,m2,e2,o2⟩:=Xy ho
  obtain⟨x2,M2,r2⟩:=X8 M rws e2
  obtain⟨a,ha,rfl⟩:=rw'
  split at o2
  ·rename_i ys e3
   split at o2
   ·rename_i t zs e4
    obtain⟨b,vs,q1,q2,q3,q4⟩:=M2.at' i _ e3
    rw[ha]at q1;cases q1
    have l4:=q4.length
    dsimp only at l4
    have hz:=ZV
    match ts,r2,e4 with
    |[t1],.cons r3 .nil,e4 =>
     unfold mutM at e4
     dsimp only at e4
     split at e4<;>cases e4
     rename_i hlt
     obtain⟨x5,M5⟩:=Xz M2 e3 ha (ZZ q4 (.cons r3 .nil))
     exact Zjz pins s σ H _ _ v us Q I rx rs ⟨a,vs,_,rfl,rfl,q2,by omega,OkR.to o2 (x2.trans x5) M5 _ .non⟩
    |[],_,e4=>cases e4
    |_::_::_,_,e4=>cases e4
   ·exact o2.elim
  ·exact o2.elim
theorem Zho{o:Expr}{apos cpos:Pos}(ho:PE X o (tE X.K call gv xr ea))(ha:PA X [e] (tA X.K call gv xr eas))(hbase:YaW o "append" X.env (eval o X.env)=eval o X.env:=by rfl)(hline:(apos.endLine==cpos.line)=true:=by rfl)(hs:notStar e=true:=by rfl):
  PE X (.Call (.Attribute o "append" apos) [e] [] cpos) (tE X.K call gv xr (.mth .append ea eas)):=by
 refine PE.mono (Zoo VF PySem.F.slot_list_append PySem.F.type_list_append (Zhz (xr:=xr)) ho ha hbase (few1 hs) hline (J8 hs) (ZcL rfl)) ?_
 rintro σ H Q ⟨env,cm,m,hE,M,hq⟩
 rw[ev]at hq
 refine⟨env,cm,m,hE,M,hq.bind.mono λw cm1 m1 H1 x1 M1 o1 v rv=>?_⟩
 obtain⟨ht,o1⟩:=Zc1 o1
 refine⟨?_,env,cm1,m1,hE.ext x1 M M1,M1,o1.bind.mono λws cm2 m2 H2 x2 M2 o2 vs rvs=>?_⟩
 ·cases w with
  |t t=>cases ht
  |f a=>cases ht
  |x _ _ _=>cases ht
  |c i =>
   obtain⟨a,h1,rfl⟩:=rv
   have ht:(match m1[i]? with
    |some (some _)=>true
    |_=>false)=true:=ht
   split at ht
   ·rename_i c e1
    obtain⟨b,vs,q1,q2,_⟩:=M1.at' i _ e1
    rw[h1]at q1;cases q1
    exact .inl ⟨rfl,vs,.of q2⟩
   ·cases ht
 ·exact⟨cm2,m2,w,ws,M2,rv.ext x2 M1 M2,rvs,o2⟩
theorem Zas(i j:Nat){x y:Str}{px py:Pos}{kk:Nat}(hc:X.calm=true)(hN:X.N.Nodup)(hi:X.N[i]?=some x:=by rfl)(hj:X.N[j]?=some y:=by rfl)(hx:Loc X.env.scope x:=by first|exact Or.inl rfl|exact Or.inr rfl)(hy:Loc X.env.scope y:=by first|exact Or.inl rfl|exact Or.inr rfl)(hf:X.fn x=true∨X.env.scope.names.lookup x=some .local:=by first|exact .inl rfl|exact .inr rfl)(hg:X.fn y=true∨X.env.scope.names.lookup y=some .local:=by first|exact .inl rfl|exact .inr rfl)(hs:(Y7 [.Name x px,.Name y py] X.env).map (·.2)=assign (.Name x px) X.env::(Y7 [.Name y py] X.env).map (·.2):=by rfl)(hs2:(Y7 [.Name y py] X.env).map (·.2)=assign (.Name y py) X.env::(Y7 [] X.env).map (·.2):=by rfl)(hn:(Y7 [.Name x px,.Name y py] X.env).length=2:=by rfl)(hst:(Y7 [.Name x px,.Name y py] X.env).findIdx? (·.1)=none:=by rfl):PG X (.Tuple [.Name x px,.Name y py] kk pos) (gT X.K (.tp [i,j])):=by
 rintro pins s σ H v u Q I r ⟨a,xs,e1,h1,h2,h3⟩
 refine ZmY hc (Jm (JS hN hi hx hf) (Jm (JS hN hj hy hg) Zfo hs2) hs) hn hst pins s σ H v u Q I r ⟨a,xs,e1,h1,h2,?_⟩
 match xs,h2 with
 |[v1,v2],_=>exact⟨v1,[v2],rfl,v2,[],rfl,rfl,h3⟩
theorem Zlw{tg:Expr}{is:List Nat}(hN:∀i∈is,i<n)(h:PE X e (tE X.K call gv xr ea))(hg:PG X tg (gT X.K (.tp is)))(hk:PSs X rest (tS X.K call gv xr n k))(hs:YaT [tg] e pos.line X.env=pure false:=by rfl)(hw:YaU [tg] e X.env=pure none:=by rfl)(h1:(Y7 [tg] X.env).map (·.2)=[assign tg X.env]:=by rfl):PSs X (.Assign [tg] e pos::rest) (tS X.K call gv xr n (.asgT is ea k)):=by
 refine PSs.mono (Q0 (ZiU h hg hs hw h1) hk) ?_
 rintro D σ H ⟨hl,env,cm,m,hE,M,ho⟩
 rw[ex]at ho
 refine⟨env,cm,m,hE,M,ho.bind.mono λw cm1 m1 H1 x1 M1 o1 v rv=>?_⟩
 cases w with
 |f a=>exact o1.elim
 |x _ _ _=>exact o1.elim
 |c i=>exact o1.elim
 |t t =>
  have o1:OkR X.K (match Qn (.tp is) t env with
   |some env=>ex call gv k env m1
   |none=>.stuck) xr cm1 m1 H1 _:=o1
  split at o1
  ·rename_i env' eb
   have:=Znk (ZoS (Q:=λσ' H'=>H'=H1/\EnvR X.K cm1 m1 H1 env' σ') (hE.ext x1 M M1) (λj hj=>by rw[hl];exact hN j hj) rv eb λσ' hE' _=>⟨rfl,hE'⟩)
   obtain⟨a1,xs,z1,z2,z3,z4,z5,z6⟩:=this
   exact⟨a1,xs,z1,z2,z3,z4.trans hl,env',cm1,m1,z6,M1,o1⟩
  ·exact o1.elim
end
section
variable{xr:XR}{X:Cx}{call:Nat->List W->Mem->Res W}{gv:List T}
variable{e:Expr}{es:List Expr}{eas:Es}{pos p:Pos}
theorem Zog(hg:Gl X "len")(hm:X.mg "len" = none)(ha:PA X (e::es) (tA X.K call gv xr eas))(he:notStar e=true)(hpl:es.all notStar=true):PE X (.Call (.Name "len" p) (e::es) [] pos) (tE X.K call gv xr (.blt .len eas)):=X4 ZkQ (by decide +kernel) hg hm ha (by decide) (by decide) he hpl
theorem ZlN(hg:Gl X "int")(hm:X.mg "int" = none)(ha:PA X (e::es) (tA X.K call gv xr eas))(he:notStar e=true)(hpl:es.all notStar=true):PE X (.Call (.Name "int" p) (e::es) [] pos) (tE X.K call gv xr (.blt .int eas)):=Zjb ZkR (by decide +kernel) hg hm ha (by decide) (by decide) he hpl
theorem Zhk(hg:Gl X "tuple")(hm:X.mg "tuple" = none)(ha:PA X (e::es) (tA X.K call gv xr eas))(he:notStar e=true)(hpl:es.all notStar=true)(hc:X.calm=true:=by rfl):PE X (.Call (.Name "tuple" p) (e::es) [] pos) (tE X.K call gv xr (.blt .tuple eas)):=Zjb (ZfS hc) (by decide +kernel) hg hm ha (by decide) (by decide) he hpl
theorem ZlS(hg:Gl X "all")(hm:X.mg "all" = none)(ha:PA X (e::es) (tA X.K call gv xr eas))(he:notStar e=true)(hpl:es.all notStar=true)(hc:X.calm=true:=by rfl):PE X (.Call (.Name "all" p) (e::es) [] pos) (tE X.K call gv xr (.blt .all eas)):=X4 (ZkT hc) (by decide +kernel) hg hm ha (by decide) (by decide) he hpl
theorem ZlR(hg:Gl X "any")(hm:X.mg "any" = none)(ha:PA X (e::es) (tA X.K call gv xr eas))(he:notStar e=true)(hpl:es.all notStar=true)(hc:X.calm=true:=by rfl):PE X (.Call (.Name "any" p) (e::es) [] pos) (tE X.K call gv xr (.blt .any eas)):=X4 (ZkS hc) (by decide +kernel) hg hm ha (by decide) (by decide) he hpl
theorem ZlM(hg:Gl X "min")(hm:X.mg "min" = none)(ha:PA X (e::es) (tA X.K call gv xr eas))(he:notStar e=true)(hpl:es.all notStar=true)(hc:X.calm=true:=by rfl):PE X (.Call (.Name "min" p) (e::es) [] pos) (tE X.K call gv xr (.blt .min2 eas)):=X4 (ZkO hc) (by decide +kernel) hg hm ha (by decide) (by decide) he hpl
end
structure Bd (X:Cx) (st:List Stmt) (t:TS):Prop where
 h:PSs X st t
theorem Znm{K:Frag}{fns:List Fn}{gv:List T}{k:Nat}{P:YK}{w:World}{mg:Str->Option Value}{base:Heap}{x qual:Str}{st:Stmt}{f:Addr}{fd:Uj}{N ps:List Str}{fi np n:Nat}{body:S}{cell:Bool}(F:Fun K x qual st f fd)(S:FnScope N ps (Zc st))(hd:fns[fi]?=some ⟨np,n,body,cell⟩)(hps:np=ps.length)(hn:N.length=n)(hbody:∀(cdv:Value) (A:Around) (outer:List Ws) (s:Shared) (H:Hp) (E:XK),Room k (A.deeper (envOfC qual (Zc st) s.heap.objs.size f cdv)) ->
   ∀(xe:Value->Shared->Prop) (pn:List (Addr×Obj)) (xr:XR),Go (asX (cxOf (CXF P w) P w K mg base N qual (Zc st) f cdv A outer s H E) xe pn) xr->Bd (asX (cxOf (CXF P w) P w K mg base N qual (Zc st) f cdv A outer s H E) xe pn) (Qp st) (tS K (J7 fns gv k) gv xr n body)):
  FnOk P w K mg base (CXF P w) (k+1) f fd ps (spF K fns gv (k+1) fi):=by
 subst hn
 exact fn_okW F S hd hps rfl λcdv A outer s H E hr xe pn xr go=>(hbody cdv A outer s H E hr xe pn xr go).h
section
variable{K:Frag}{X:Cx}{fns:List Fn}{gv:List T}{xr:XR}{call:Nat->List W->Mem->Res W}
variable{e:Expr}{es:List Expr}{eas:Es}{pos p:Pos}{k:Nat}
inductive TabOk (P:YK) (w:World) (K:Frag) (mg:Str->Option Value) (base:Heap) (fns:List Fn) (gv:List T) (k:Nat):List (Nat×Nat)->Prop where
 |nil:TabOk P w K mg base fns gv k []
 |cons {j fi a:Nat}{x:Str}{r:List (Nat×Nat)}:FOk P w K mg base fns gv k x fi->mg x=some (.ref a)->gv[j]?=some (.int (a:Int))->TabOk P w K mg base fns gv k r->TabOk P w K mg base fns gv k ((j,fi)::r)
end
section
variable{K:Frag}{cm:List Addr}{m:Mem}{H:Hp}{xr:XR}{X:Cx}{call:Nat->List W->Mem->Res W}{gv:List T}
variable{a b c e:Expr}{es:List Expr}{ea eb ec:E}{eas:Es}{pos p p2:Pos}{rest:List Stmt}{k:S}{n:Nat}
theorem Zar(i0:Nat)(i1:Nat)(i2:Nat){x0 x1 x2:Str}{p0 p1 p2:Pos}{kk:Nat}(hc:X.calm=true)(hN:X.N.Nodup)(hi0:X.N[i0]?=some x0:=by rfl)(hi1:X.N[i1]?=some x1:=by rfl)(hi2:X.N[i2]?=some x2:=by rfl)(hx0:Loc X.env.scope x0:=by first|exact Or.inl rfl|exact Or.inr rfl)(hx1:Loc X.env.scope x1:=by first|exact Or.inl rfl|exact Or.inr rfl)(hx2:Loc X.env.scope x2:=by first|exact Or.inl rfl|exact Or.inr rfl)(hf0:X.fn x0=true∨X.env.scope.names.lookup x0=some .local:=by first|exact .inl rfl|exact .inr rfl)(hf1:X.fn x1=true∨X.env.scope.names.lookup x1=some .local:=by first|exact .inl rfl|exact .inr rfl)(hf2:X.fn x2=true∨X.env.scope.names.lookup x2=some .local:=by first|exact .inl rfl|exact .inr rfl)(hs0:(Y7 [.Name x0 p0,.Name x1 p1,.Name x2 p2] X.env).map (·.2)=assign (.Name x0 p0) X.env::(Y7 [.Name x1 p1,.Name x2 p2] X.env).map (·.2):=by rfl)(hs1:(Y7 [.Name x1 p1,.Name x2 p2] X.env).map (·.2)=assign (.Name x1 p1) X.env::(Y7 [.Name x2 p2] X.env).map (·.2):=by rfl)(hs2:(Y7 [.Name x2 p2] X.env).map (·.2)=assign (.Name x2 p2) X.env::(Y7 [] X.env).map (·.2):=by rfl)(hn:(Y7 [.Name x0 p0,.Name x1 p1,.Name x2 p2] X.env).length=3:=by rfl)(hst:(Y7 [.Name x0 p0,.Name x1 p1,.Name x2 p2] X.env).findIdx? (·.1)=none:=by rfl):PG X (.Tuple [.Name x0 p0,.Name x1 p1,.Name x2 p2] kk pos) (gT X.K (.tp [i0,i1,i2])):=by
 rintro pins s σ H v u Q I r ⟨a,xs,e1,h1,h2,h3⟩
 refine ZmY hc (Jm (JS hN hi0 hx0 hf0) (Jm (JS hN hi1 hx1 hf1) (Jm (JS hN hi2 hx2 hf2) Zfo hs2) hs1) hs0) hn hst pins s σ H v u Q I r ⟨a,xs,e1,h1,h2,?_⟩
 match xs,h2 with
 |[v0,v1,v2],_=>exact⟨v0,[v1,v2],rfl,v1,[v2],rfl,v2,[],rfl,rfl,h3⟩
end
end Mi
namespace Mi
theorem ZcW{f:Env->Mem->Res (List T)}{tg:Tg}{env:Env}{m:Mem}{g:T->List T}:∀(ts:List T),(∀t∈ts,∃env',Qn tg t env=some env'/\f env' m=.ok (g t) m)->QW f tg ts env m=.ok (ts.flatMap g) m
 |[],_=>rfl
 |t::ts,h=>by
  obtain⟨env',e1,e2⟩:=h t Yp
  rw[QW,e1]
  show(f env' m).bind _=_
  rw[e2]
  show(QW f tg ts env m).bind _=_
  rw[ZcW ts λt ht=>h t (Yg _ ht)]
  rfl
inductive Turns {α β:Type}(R:α->β->Prop):List α->List β->Prop where
 |nil:Turns R [] []
 |cons {a:α}{b:β}{as:List α}{bs:List β}:R a b->Turns R as bs->Turns R (a::as) (b::bs)
theorem Zaw{f:Env->Mem->Res (List T)}{tg:Tg}{env:Env}{P:Mem->Prop}{R:T->List T->Prop}:∀(ts:List T) (m:Mem),P m->(∀t∈ts,∀m,P m->∃env' xs m',Qn tg t env=some env'/\f env' m=.ok xs m'/\P m'/\R t xs) ->
  ∃xss m',QW f tg ts env m=.ok xss.flatten m'/\P m'/\Turns R ts xss
 |[],m,hm,_=>⟨[],m,rfl,hm,.nil⟩
 |t::ts,m,hm,h=>by
  obtain⟨env',xs,m1,e1,e2,p1,r1⟩:=h t Yp m hm
  obtain⟨xss,m2,e3,p2,r2⟩:=Zaw ts m1 p1 λt ht=>h t (Yg _ ht)
  refine⟨xs::xss,m2,?_,p2,.cons r1 r2⟩
  rw[QW,e1]
  show(f env' m).bind _=_
  rw[e2]
  show(QW f tg ts env m1).bind _=_
  rw[e3]
  rfl
theorem Za4{f:Env->Mem->Res Flow}{tg:Tg}{P:Env->Mem->Prop}:∀(ts:List T) (env:Env) (m:Mem),P env m->(∀t∈ts,∀env m,P env m->∃env1 env2 m2,Qn tg t env=some env1/\f env1 m=.ok (.next env2) m2/\P env2 m2) ->
  ∃env' m',Z2 f tg ts env m=.ok (.next env') m'/\P env' m'
 |[],env,m,hm,_=>⟨env,m,rfl,hm⟩
 |t::ts,env,m,hm,h=>by
  obtain⟨env1,env2,m2,e1,e2,p2⟩:=h t Yp env m hm
  obtain⟨env3,m3,e3,p3⟩:=Za4 ts env2 m2 p2 λt ht=>h t (Yg _ ht)
  refine⟨env3,m3,?_,p3⟩
  rw[Z2,e1]
  show(f env1 m).bind _=_
  rw[e2]
  exact e3
theorem QD{α:Type}{xs:List α}{i:Int}(h0:0<=i)(h1:i<xs.length):∃x,atT xs i=some x/\x∈xs:=by
 have hi:i.toNat<xs.length:=by omega
 refine⟨xs[i.toNat],?_,V7 hi⟩
 unfold atT ixOf
 rw[if_pos h0,if_pos h1]
 exact Yn hi
theorem strs_map{α:Type}(f:α->List Nat):∀xs:List α,strs? (xs.map λx=>.str (f x))=some (xs.map f)
 |[]=>rfl
 |x::xs=>by
  rw[Yq,strs?,strs_map f xs]
  rfl
section
variable{call:Nat->List W->Mem->Res W}{gv:List T}
def Je(call:Nat->List W->Mem->Res W)(gv:List T)(cs:Es)(inner:E)(env:Env)(m:Mem):Res (List T):=(tests call gv cs env m).bind λk m=>if k then(ev call gv inner env m).bind Ze7 else .ok [] m
theorem Ja{own:Nat}{keep:List Nat}{it:E}{tg:Tg}{cs:Es}{inner:E}{env:Env}{m m0 m1 m2:Mem}{x:W}{ts out:List T}(h1:ev call gv it env m=.ok x m0)(h2:Z3 x m0=.ok ts m1)(h3:QW (Je call gv cs inner) tg ts (Yy own none++keep.map λi=>(env[i]?).join) m1=.ok out m2)(hz:out.length<=lim):ev call gv (.comp own keep it tg cs inner) env m=.ok (.t (.lst out)) (giveBack x m0 m2):=by
 have e:ev call gv (.comp own keep it tg cs inner) env m=(ev call gv it env m).only.bind λx m0=>(Z3 x m0).bind λts m =>
  (QW (Je call gv cs inner) tg ts (Yy own none++keep.map λi=>(env[i]?).join) m).only.bind λout m =>
   if out.length<=lim then .ok (.t (.lst out)) (giveBack x m0 m)else .stuck:=by rw[ev];rfl
 rw[e,h1]
 show(Z3 x m0).bind _=_
 rw[h2]
 show(QW (Je call gv cs inner) tg ts (Yy own none++keep.map λi=>(env[i]?).join) m1).only.bind _=_
 rw[h3]
 exact if_pos hz
theorem Q4{tg:Tg}{it:E}{body k:S}{env env':Env}{m m0 m1 m2:Mem}{x:W}{ts:List T}(h1:ev call gv it env m=.ok x m0)(h2:Z3 x m0=.ok ts m1)(h3:Z2 (ex call gv body) tg ts env m1=.ok (.next env') m2):
  ex call gv (.forr tg it body k) env m=ex call gv k env' (giveBack x m0 m2):=by
 rw[ex,h1]
 show(Z3 x m0).bind _=_
 rw[h2]
 show(Z2 (ex call gv body) tg ts env m1).bind _=_
 rw[h3]
 rfl
end
section
variable{call:Nat->List W->Mem->Res W}{gv:List T}{env:Env}{m m1 m2:Mem}{k a b:S}{e:E}{w:W}
theorem Zf{α β:Type}(x:α)(m:Mem)(f:α->Mem->Res β):(Res.ok x m).bind f=f x m:=rfl
theorem only_k{α:Type}(x:α)(m:Mem):(Res.ok x m).only=.ok x m:=rfl
theorem view_k(x:T)(m:Mem):view (.t x) m=some x:=rfl
theorem pur_k(x:T)(m:Mem):pur (some x) m=.ok (.t x) m:=rfl
theorem Zpf(x:Bool)(m:Mem):Ze0 (.t (.bl x)) m=.ok x m:=rfl
theorem Zc9(x:Bool)(m:Mem):Jg (.t (.bl x)) m=.ok x m:=rfl
theorem frz_k(x:T)(m:Mem):frz (.t x) m=.ok x m:=rfl
theorem Zpj(x:List T)(m:Mem):Ze7 (.t (.lst x)) m=.ok x m:=rfl
theorem intP_k(x:Int)(m:Mem):intP (.t (.int x)) m=.ok (some x) m:=rfl
theorem c_lt(i j:Int):cmpT .Lt (.int i) (.int j)=some (decide (i<j)):=rfl
theorem c_le(i j:Int):cmpT .LtE (.int i) (.int j)=some (decide (i<=j)):=rfl
theorem c_gt(i j:Int):cmpT .Gt (.int i) (.int j)=some (decide (j<i)):=rfl
theorem c_ge(i j:Int):cmpT .GtE (.int i) (.int j)=some (decide (j<=i)):=rfl
theorem ZmH(i j:Int):cmpT .Eq (.int i) (.int j)=some (i==j):=rfl
theorem ZmG(i j:Int):cmpT .NotEq (.int i) (.int j)=some (!(i==j)):=rfl
theorem c_eqB(i j:Bool):cmpT .Eq (.bl i) (.bl j)=some (i==j):=rfl
theorem c_neB(i j:Bool):cmpT .NotEq (.bl i) (.bl j)=some (!(i==j)):=rfl
theorem ZcJ(i j:List Nat):cmpT .Eq (.str i) (.str j)=some (i==j):=rfl
theorem c_neS(i j:List Nat):cmpT .NotEq (.str i) (.str j)=some (!(i==j)):=rfl
theorem c_in1(i:Nat)(j:List Nat):cmpT .In (.str [i]) (.str j)=some (decide (i∈j)):=rfl
theorem c_isT(b x:Bool):cmpT .Is (.bl x) (.bl b)=some (x==b):=rfl
theorem ZfZ(i j:Int):binT .Add (.int i) (.int j)=some (.int (i+j)):=rfl
theorem b_sub(i j:Int):binT .Sub (.int i) (.int j)=some (.int (i-j)):=rfl
theorem ZkU{a b:List T}(h:a.length+b.length<=lim):binT .Add (.lst a) (.lst b)=some (.lst (a++b)):=if_pos h
theorem Zh0{i j:Int}(h:Za3 i j=true):binT .Mult (.int i) (.int j)=some (.int (i*j)):=if_pos h
theorem Zpg{i j:Int}(h:0<j/\j<1073741824):binT .FloorDiv (.int i) (.int j)=some (.int (i / j)):=if_pos h
theorem ZfY{i j:Int}(h:0<j):binT .Mod (.int i) (.int j)=some (.int (i%j)):=if_pos h
theorem b_pow{i j:Int}(h:0<=j/\j<=1000/\i.natAbs<2^64):binT .Pow (.int i) (.int j)=some (.int (i^j.toNat)):=if_pos h
theorem x_tup(ts:List T)(i:Int):ixT (.tup ts) (.int i)=atT ts i:=rfl
theorem x_lst(ts:List T)(i:Int):ixT (.lst ts) (.int i)=atT ts i:=rfl
theorem x_scr(ts:List Int)(i:Int):ixT (.scr ts) (.int i)=(atT ts i).map .int:=rfl
theorem s_lst(ts:List T)(lo hi:Option Int):slT (.lst ts) lo hi=some (.lst (cut ts lo hi)):=rfl
theorem s_scr(ts:List Int)(lo hi:Option Int):slT (.scr ts) lo hi=some (.lst ((cut ts lo hi).map .int)):=rfl
theorem l_lst(ts:List T):bltT .len [.lst ts]=some (.int ts.length):=rfl
theorem l_tup(ts:List T):bltT .len [.tup ts]=some (.int ts.length):=rfl
theorem l_scr(ts:List Int):bltT .len [.scr ts]=some (.int ts.length):=rfl
theorem l_int(b:Bool):bltT .int [.bl b]=some (.int (b2i b)):=rfl
theorem Zgz(ts:List T):bltT .tuple [.lst ts]=some (.tup ts):=rfl
theorem Zl9{i:Int}(h:i<2^62/\-(2^62)<=i):bltT .range1 [.int i]=some (.lst (rangeT 0 i.toNat)):=if_pos h
theorem Znz:views [] m=some []:=rfl
theorem ZnA(x:T)(ws:List W):views (.t x::ws) m=(views ws m).map (x::·):=rfl
theorem Zcc:frzs [] m=.ok [] m:=rfl
theorem Zcd(x:T)(ws:List W):frzs (.t x::ws) m=(frzs ws m).bind λts m=>.ok (x::ts) m:=rfl
theorem Zm{i:Nat}(h:ev call gv e env m=.ok w m1):ex call gv (.asg i e k) env m=ex call gv k (env.set i (some w)) m1:=by rw[ex,h];rfl
theorem Zh(h:ev call gv e env m=.ok w m1):ex call gv (.ret e k) env m=.ok (.ret w) m1:=by rw[ex,h];rfl
theorem Qm(h:ev call gv e env m=.ok (.t (.bl true)) m1)(h2:ex call gv a env m1=.ok (.ret w) m2):ex call gv (.ife e a b k) env m=.ok (.ret w) m2:=by
 rw[ex,h]
 show(ex call gv a env m1).bind _=_
 rw[h2];rfl
theorem ZS(h:ev call gv e env m=.ok (.t (.bl false)) m1):ex call gv (.ife e a .done k) env m=ex call gv k env m1:=by rw[ex,h];rfl
theorem Zkj{c:Nat}{o i v:E}{x:T}{j:Int}{xs:List T}{q:Nat}(h1:ev call gv v env m=.ok (.t x) m1)(h2:ev call gv o env m1=.ok (.c c) m1)(h3:ev call gv i env m1=.ok (.t (.int j)) m1)(h4:m1[c]?=some (some (false,xs)))(h5:ixOf xs.length j=some q):
  ex call gv (.set o i v k) env m=ex call gv k env (m1.set c (some (false,xs.set q x))):=by
 rw[ex,h1]
 show((ev call gv o env m1).bind _)=_
 rw[h2]
 show((ev call gv i env m1).bind _)=_
 rw[h3]
 show(setM (.c c) (.t (.int j)) (.t x) m1).bind _=_
 have:setM (.c c) (.t (.int j)) (.t x) m1=.ok () (m1.set c (some (false,xs.set q x))):=by
  unfold setM
  dsimp only[frz,Res.bind]
  rw[h4]
  dsimp only
  rw[h5]
 rw[this];rfl
theorem Zn{n:Nat}{cell:Bool}{t:T}(h:m1.length=n):fin n cell (.ret (.t t)) m1=.ok (.t t) m1:=by
 show Res.ok (W.t t) (m1.take n)=_
 rw[<-h,Ya8]
theorem ZD{c:Prop}[Decidable c]{b:S}{env:Env}{m m1 m2:Mem}{k:Nat}{cell:Bool}{X:Res W}{w w':W}(hX:X=if c then(ex call gv b env m).bind λfl m'=>fin k cell fl m' else .stuck)(hc:c)(key:ex call gv b env m=.ok (.ret w) m1)(hf:fin k cell (.ret w) m1=.ok w' m2):X=.ok w' m2:=by
 rw[hX,if_pos hc,key]
 exact hf
end
def EVs:=Y4 @Zf (Y4 @only_k (Y4 @view_k (Y4 @pur_k (Y4 @Zpf (Y4 @Zc9 (Y4 @frz_k (Y4 @Zpj (Y4 @intP_k (Y4 @c_lt (Y4 @c_le (Y4 @c_gt (Y4 @c_ge (Y4 @ZmH (Y4 @ZmG (Y4 @c_eqB (Y4 @c_neB (Y4 @ZcJ (Y4 @c_neS (Y4 @c_in1 (Y4 @c_isT (Y4 @ZfZ (Y4 @b_sub (Y4 @x_tup (Y4 @x_lst (Y4 @x_scr (Y4 @s_lst (Y4 @s_scr (Y4 @l_lst (Y4 @l_tup (Y4 @l_scr (Y4 @l_int (Y4 @Zgz (Y4 @Znz (Y4 @ZnA (Y4 @Zcc (@Zcd))))))))))))))))))))))))))))))))))))
end Mi
namespace Mi
open PySem PySem.Spec PyProof.Rows L2
theorem ZdA:∀{a b:List Nat},nlt a b=false->nlt b a=false->a=b
 |[],[],_,_=>rfl
 |[],_::_,h,_=>by simp[nlt]at h
 |_::_,[],_,h=>by simp[nlt]at h
 |a::x,b::y,h1,h2=>by
  unfold nlt at h1 h2
  by_cases h:a<b
  ·simp[h]at h1
  ·by_cases h':b<a
   ·simp[h']at h2
   ·have e:a=b:=by omega
    subst e
    simp at h1 h2
    rw[ZdA h1 h2]
theorem Zm4:∀{a b c:List Nat},nlt b a=false->nlt c b=false->nlt c a=false
 |a,b,[],h1,h2=>by
  cases b with
  |nil=>cases a with
   |nil=>rfl
   |cons _ _=>simp[nlt]at h1
  |cons _ _=>simp[nlt]at h2
 |[],_,_::_,_,_=>rfl
 |a::x,[],c::z,h1,h2=>by simp[nlt]at h1
 |a::x,b::y,c::z,h1,h2=>by
  unfold nlt at h1 h2 ⊢
  by_cases p1:b<a
  ·simp[p1]at h1
  ·by_cases p2:c<b
   ·simp[p2]at h2
   ·by_cases p3:a<b
    ·have:¬c<a:=by omega
     have q:a<c:=by omega
     simp[this,q]
    ·have e:a=b:=by omega
     subst e
     by_cases p4:a<c
     ·simp[p4,p2]
     ·have e:c=a:=by omega
      subst e
      simp at h1 h2 ⊢
      exact Zm4 h1 h2
theorem Zm6:∀a b:List Nat,ltCps a b=nlt a b
 |[],[]=>by simp[ltCps,nlt]
 |[],_::_=>by simp[ltCps,nlt]
 |_::_,[]=>by simp[ltCps,nlt]
 |a::x,b::y=>by
  unfold ltCps nlt
  rw[Zm6 x y]
  by_cases h:a<b
  ·simp[h]
  ·by_cases h2:b<a
   ·have:¬a=b:=by omega
    simp[h,h2,this]
   ·have:a=b:=by omega
    subst this
    simp
theorem ZiM:∀(l:List (List Nat)) (x:List Nat),risingS ⟨x.toArray⟩ (l.map λc=>(⟨c.toArray⟩:Str))=true->(x::l).Pairwise (λa b=>nlt b a=false)
 |[],x,_=>Uh _ _
 |y::l,x,h=>by
  rw[Yq,risingS.eq_2,Yo]at h
  have h1:nlt y x=false:=by
   have:=h.1
   rw[Zm6]at this
   simpa using this
  have ih:=ZiM l y h.2
  refine Y6.mpr ⟨λz hz=>?_,ih⟩
  rcases Yh.mp hz with rfl|hz
  ·exact h1
  ·exact Zm4 h1 ((Y6.mp ih).1 z hz)
section
variable{K:Frag}{cm:List Addr}{m:Mem}{H:Hp}{xr:XR}{X:Cx}{call:Nat->List W->Mem->Res W}{gv:List T}
variable{a b c e:Expr}{es:List Expr}{ea eb ec:E}{eas:Es}{pos p p2:Pos}{rest:List Stmt}{k:S}{n:Nat}
theorem Zin{us:List Value}{ss:List Str}(h:StrsAre us ss):∃ys:List (List Nat),ss=ys.map (λc=>(⟨c.toArray⟩:Str))/\Vals (ys.map λc=>V.str ⟨c.toArray⟩) us:=by
 induction h with
 |nil=>exact⟨[],rfl,.nil⟩
 |cons y t _ ih =>
  obtain⟨ys,rfl,h2⟩:=ih
  exact⟨y.cps.toList::ys,by simp,.cons ⟨t,by simp⟩ h2⟩
theorem ZnF(ys:List (List Nat)):RTs K cm m H (ys.map .str) (ys.map λc=>V.str ⟨c.toArray⟩):=by
 induction ys with
 |nil=>exact .nil
 |cons y ys ih=>exact .cons (.str y) ih
theorem Zbk{α β:Type}{F:α->β->Prop}:∀{xs:List α}{ys:List β}(k:Nat),Paired F xs ys->Paired F (xs.eraseIdx k) (ys.eraseIdx k)
 |_,_,_,.nil=>.nil
 |_,_,0,.cons _ t=>t
 |_,_,k+1,.cons r t=>.cons r (Zbk k t)
theorem Zjx:MtR X "list.pop" (rM X.K xr .popat):=by
 rintro pins s σ H x xs v us Q I rx rs ⟨cm,m,w,ws,M,rw',rws,ho⟩
 cases w with
 |t t=>exact ho.elim
 |f a=>exact ho.elim
 |x _ _ _=>exact ho.elim
 |c i =>
  have ho:OkR X.K ((frzs ws m).bind λts m=>match m[i]? with
   |some (some (false,xs))=>match mutM .popat xs ts with
    |some (t,ys)=>.ok (W.t t) (m.set i (some (false,ys)))
    |none=>.stuck
   |_=>.stuck) xr cm m H _:=ho
  obtain⟨ts,m2,e2,o2⟩:=Xy ho
  obtain⟨x2,M2,r2⟩:=X8 M rws e2
  obtain⟨a,ha,rfl⟩:=rw'
  split at o2
  ·rename_i ys e3
   split at o2
   ·rename_i t zs e4
    obtain⟨b,vs,q1,q2,q3,q4⟩:=M2.at' i _ e3
    rw[ha]at q1;cases q1
    have l4:=q4.length
    dsimp only at l4
    have hz:=ZV
    match ts,r2,e4 with
    |[.int j],.cons r3 .nil,e4 =>
     have e4:(match ixOf ys.length j with
      |some k=>(ys[k]?).map λt=>(t,ys.eraseIdx k)
      |none=>none)=some (t,zs):=e4
     split at e4
     ·rename_i k hk
      cases q5:ys[k]? with
      |none=>rw[q5]at e4;cases e4
      |some y =>
       rw[q5]at e4;cases e4
       cases RT.vint r3
       obtain⟨yv,hy,ry⟩:=Zx q4 q5
       obtain⟨x5,M5⟩:=Xz M2 e3 ha (Zbk k q4)
       have hk2:ixN vs.length j=some k:=by rw[<-l4];exact hk
       obtain⟨z1,z2,z3,z4⟩:=Zfx hk2
       obtain⟨its,nn,rr,hho,hzz⟩:=I.lst q2
       have hsl:=WW
       exact Zl1 pins s σ H _ _ v us Q I rx rs ⟨a,vs,j,k,yv,rfl,rfl,q2,by omega,by omega,z1,hy,OkR.to o2 (x2.trans x5) M5 _ (RT.ext x5 M2 M5 ry)⟩
     ·cases e4
    |[],_,e4=>cases e4
    |x1::_::_,_,e4=>cases x1<;>cases e4
    |[.non],_,e4=>cases e4
    |[.bl _],_,e4=>cases e4
    |[.str _],_,e4=>cases e4
    |[.tup _],_,e4=>cases e4
    |[.lst _],_,e4=>cases e4
    |[.dct _ _],_,e4=>cases e4
    |[.scr _],_,e4=>cases e4
   ·exact o2.elim
  ·exact o2.elim
theorem ty_cell{b:Mt}{w:W}{v:V}(hb:b=.append∨b=.popat)(M:MemR K cm m H)(r:RW K cm m H w v)(h:tyM b w m=true):tyV K "list" v H:=by
 cases w with
 |t t=>rcases hb with rfl|rfl<;>cases h
 |f a=>rcases hb with rfl|rfl<;>cases h
 |x _ _ _=>rcases hb with rfl|rfl<;>cases h
 |c i =>
  obtain⟨a,h1,rfl⟩:=r
  have ht:(match m[i]? with
   |some (some _)=>true
   |_=>false)=true:=by rcases hb with rfl|rfl<;>exact h
  split at ht
  ·rename_i c e1
   obtain⟨b,vs,q1,q2,_⟩:=M.at' i _ e1
   rw[h1]at q1;cases q1
   exact .inl ⟨rfl,vs,.of q2⟩
  ·cases ht
theorem Zob{o:Expr}{apos cpos:Pos}(ho:PE X o (tE X.K call gv xr ea))(ha:PA X [e] (tA X.K call gv xr eas))(hbase:YaW o "pop" X.env (eval o X.env)=eval o X.env:=by rfl)(hline:(apos.endLine==cpos.line)=true:=by rfl)(hs:notStar e=true:=by rfl):
  PE X (.Call (.Attribute o "pop" apos) [e] [] cpos) (tE X.K call gv xr (.mth .popat ea eas)):=by
 refine PE.mono (Zoo VF PySem.F.slot_list_pop PySem.F.type_list_pop (Zjx (xr:=xr)) ho ha hbase (few1 hs) hline (J8 hs) (ZcL rfl)) ?_
 rintro σ H Q ⟨env,cm,m,hE,M,hq⟩
 rw[ev]at hq
 refine⟨env,cm,m,hE,M,hq.bind.mono λw cm1 m1 H1 x1 M1 o1 v rv=>?_⟩
 obtain⟨ht,o1⟩:=Zc1 o1
 exact⟨ty_cell (.inr rfl) M1 rv ht,env,cm1,m1,hE.ext x1 M M1,M1,o1.bind.mono λws cm2 m2 H2 x2 M2 o2 vs rvs=>⟨cm2,m2,w,ws,M2,rv.ext x2 M1 M2,rvs,o2⟩⟩
end
theorem Zjt(a:List Nat):nlt a a=false:=by rw[Zgt];simp
theorem Zm3{a b c:List Nat}(h1:nlt a b=true)(h2:nlt b c=true):nlt a c=true:=by
 rw[Zgt]at *
 have h1:a<b:=of_decide_eq_true h1
 have h2:b<c:=of_decide_eq_true h2
 exact decide_eq_true (List.lt_trans h1 h2)
theorem ZoC{a b:List Nat}(h:nlt a b=true):nlt b a=false:=by
 cases q:nlt b a with
 |false=>rfl
 |true =>
  have:=Zm3 h q
  rw[Zjt]at this
  cases this
theorem ZdG(x y:List Nat):∀l,y∈insT x l↔y=x∨y∈l
 |[]=>by simp[insT]
 |z::l=>by
  unfold insT
  split
  ·simp
  ·split
   ·rw[Yh,ZdG x y l,Yh]
    constructor
    ·rintro (h|h|h)
     ·exact .inr (.inl h)
     ·exact .inl h
     ·exact .inr (.inr h)
    ·rintro (h|h|h)
     ·exact .inr (.inl h)
     ·exact .inl h
     ·exact .inr (.inr h)
   ·rename_i h1 h2
    have e:x=z:=ZdA (by simpa using h1) (by simpa using h2)
    subst e
    simp
theorem Zj0(x:List Nat):∀l,l.Pairwise (λa b=>nlt a b=true)->(insT x l).Pairwise (λa b=>nlt a b=true)
 |[],_=>Uh _ _
 |z::l,h=>by
  unfold insT
  obtain⟨h1,h2⟩:=Y6.mp h
  split
  ·rename_i hx
   refine Y6.mpr ⟨λy hy=>?_,h⟩
   rcases Yh.mp hy with rfl|hy
   ·exact hx
   ·exact Zm3 hx (h1 y hy)
  ·split
   ·rename_i hz
    refine Y6.mpr ⟨λy hy=>?_,Zj0 x l h2⟩
    rcases(ZdG x y l).mp hy with rfl|hy
    ·exact hz
    ·exact h1 y hy
   ·exact h
theorem JM(y:List Nat):∀xs,y∈Zv xs↔y∈xs
 |[]=>by simp[Zv]
 |x::xs=>by
  show y∈insT x (Zv xs)↔_
  rw[ZdG,JM y xs,Yh]
theorem ZaV:∀xs,(Zv xs).Pairwise (λa b=>nlt a b=true)
 |[]=>.nil
 |x::xs=>Zj0 x _ (ZaV xs)
theorem Xn(xs:List (List Nat)):(Zv xs).Nodup:=(ZaV xs).imp λ{a b} h e=>by
 subst e
 rw[Zjt]at h
 cases h
theorem ZjC{a b:List Nat}(h:(⟨a.toArray⟩:Str)=⟨b.toArray⟩):a=b:=by
 injection h with h
 simpa using h
section
variable{K:Frag}{cm:List Addr}{m:Mem}{H:Hp}{xr:XR}{X:Cx}{call:Nat->List W->Mem->Res W}{gv:List T}
variable{a b c e:Expr}{es:List Expr}{ea eb ec:E}{eas:Es}{pos p p2 pos2:Pos}{rest:List Stmt}{k:S}{n:Nat}
theorem Inv.redraw{pins:List (Addr×Obj)}{s:Shared}{σ:L2.St}{d:Drawn}(I:Inv X pins σ H s):Inv X pins σ H { s with drawn:=d }:=
 ⟨I.ok,I.os,I.bare,I.base,I.loc,I.cell,I.free,I.freeC,I.pin,I.hok,I.len⟩
theorem Zgx:∀{ks:List Key}{ts:List T}{vs:List V}(_:RTs K cm m H ts vs) (k:Key),(∃t v,JV ks ts k=some t/\valV (ks.zip vs) k=some v/\RT K cm m H t v)∨(JV ks ts k=none/\valV (ks.zip vs) k=none)
 |[],_,_,_,k=>.inr ⟨by simp[JV],by simp[valV]⟩
 |_::_,_,_,.nil,k=>.inr ⟨by simp[JV],by simp[valV]⟩
 |k0::ks,t::ts,v::vs,.cons r rs,k=>by
  by_cases h:k0=k
  ·subst h
   exact .inl ⟨t,v,by simp[JV],by simp[valV],r⟩
  ·have e1:JV (k0::ks) (t::ts) k=JV ks ts k:=by simp[JV,U5,h]
   have e2:valV ((k0::ks).zip (v::vs)) k=valV (ks.zip vs) k:=by simp[valV,U5,h]
   rw[e1,e2]
   exact Zgx rs k
theorem ZoM{t:T}{k:Key}{v:V}(h:keyT t=some k)(r:RT K cm m H t v):v=kV k:=by
 unfold keyT at h
 split at h<;>cases h
 ·cases RT.vint r;rfl
 ·cases RT.vstr r;rfl
theorem evs2{env:Env}:evs call gv (.cons ea (.cons eb .nil)) env m=(ev call gv ea env m).bind λx m=>(ev call gv eb env m).bind λy m=>.ok [x,y] m:=by
 rw[evs]
 cases ev call gv ea env m with
 |ok w m1 =>
  simp only[Res.bind]
  rw[evs]
  cases ev call gv eb env m1 with
  |ok w2 m2=>simp only[Res.bind,evs]
  |exc x m2=>rfl
  |stuck=>rfl
 |exc x m1=>rfl
 |stuck=>rfl
theorem Zk6{g:B}{x y:W}{k:W->List Addr->Mem->Hp->Prop}(h:OkR K (fBlt g [x,y] m) xr cm m H k):∃t1 t2 t,view x m=some t1/\view y m=some t2/\bltT g [t1,t2]=some t/\OkR K (.ok (.t t) m) xr cm m H k:=by
 obtain⟨t,e,ho⟩:=Jl h
 cases q:views [x,y] m with
 |none=>rw[q]at e;cases e
 |some ts =>
  rw[q]at e
  have e:bltT g ts=some t:=e
  unfold views at q
  cases q1:view x m with
  |none=>rw[q1]at q;cases q
  |some t1 =>
   rw[q1]at q
   unfold views at q
   cases q2:view y m with
   |none=>rw[q2]at q;cases q
   |some t2 =>
    rw[q2]at q
    cases q
    exact⟨t1,t2,t,rfl,rfl,e,ho⟩
theorem Zo6{ks:List Key}{ts:List T}{v:V}(h:RT K cm m H (.dct ks ts) v):∃a vs,v=.ref a/\H a=some (.dK (ks.zip vs))/\RTs K cm m H ts vs:=by
 cases h with
 |dct q1 q2 q3 q4 q5=>exact⟨_,_,rfl,q1,Zat q4 q5⟩
theorem ZlO(ha:PE X a (tE X.K call gv xr ea))(hb:PE X b (tE X.K call gv xr eb))(hs:NoSl b)(hu:X.A.units+64<cLine):PE X (.Subscript a b pos) (tE X.K call gv xr (.blt .dget (.cons ea (.cons eb .nil)))):=by
 refine PE.mono (Zoj (by omega) ha hb hs) ?_
 rintro σ H Q ⟨env,cm,m,hE,M,ho⟩
 rw[ev,evs2]at ho
 refine⟨env,cm,m,hE,M,ho.bind.bind.mono λw cm1 m1 H1 x1 M1 o1 v rv=>?_⟩
 refine⟨env,cm1,m1,hE.ext x1 M M1,M1,o1.bind.mono λw2 cm2 m2 H2 x2 M2 o2 v2 rv2=>?_⟩
 obtain⟨t1,t2,t,q1,q2,e,o3⟩:=Zk6 (g:=.dget) (o2.now M2)
 cases t1 with
 |dct ks ts =>
  have e:(keyT t2).bind (JV ks ts)=some t:=e
  cases qk:keyT t2 with
  |none=>rw[qk]at e;cases e
  |some kk =>
   rw[qk]at e
   have e:JV ks ts kk=some t:=e
   obtain⟨a,vs,rfl,h1,r1⟩:=Zo6 (Ze (rv.ext x2 M1 M2) q1 (λ_ z=>by cases z))
   have ey:=ZoM qk (Ze rv2 q2 (λ_ z=>by subst z;cases qk))
   subst ey
   rcases Zgx (ks:=ks) r1 kk with⟨t',v',l1,l2,l3⟩|⟨l1,l2⟩
   ·rw[l1]at e
    cases e
    exact⟨a,v',rfl,by rw[<-l2];exact .k h1,ans o3 M2 l3⟩
   ·rw[l1]at e;cases e
 |_=>cases e
end
abbrev q1(h:Heap)(a:Addr):Heap:=h.push { cls:=.type "list_iterator",data:=.fields #[.ref a,.int 0 0] }
abbrev q5(h:Heap)(a b c d:Addr):Heap:=(q1 (q1 (q1 (q1 h a) b) c) d).push { cls:=.type "tuple",data:=.seq #[.ref h.objs.size,.ref (q1 h a).objs.size,.ref (q1 (q1 h a) b).objs.size,.ref (q1 (q1 (q1 h a) b) c).objs.size] }
abbrev q6(h:Heap)(a b c d:Addr):Heap:=(q5 h a b c d).push { cls:=.type "tuple",data:=.seq #[.none,.none,.none,.none] }
abbrev q7(h:Heap)(a b c d:Addr):Heap:=(q6 h a b c d).push { cls:=.type "zip",data:=.fields #[.none,.bool false,.bool false,.ref (q1 (q1 (q1 (q1 h a) b) c) d).objs.size,.ref (q5 h a b c d).objs.size] }
set_option maxHeartbeats 4000000 in
section
variable{prog:YK}{w:World}{A:Around}{E:Value->Shared->Prop}{s:Shared}{led:Bool}
set_option maxHeartbeats 3200000 in
end
theorem ZjE:∀(ns:List Int) (n:Int),minI n ns<=n/\(∀x∈ns,minI n ns<=x)/\minI n ns∈n::ns
 |[],n=>⟨Int.le_refl _,λx hx=>by simp at hx,by simp[minI]⟩
 |a::r,n=>by
  obtain⟨h1,h2,h3⟩:=ZjE r (if a<n then a else n)
  have e:minI n (a::r)=minI (if a<n then a else n) r:=rfl
  rw[e]
  by_cases h:a<n
  ·rw[if_pos h]at h1 h2 h3 ⊢
   refine⟨by omega,λx hx=>?_,Yg _ h3⟩
   rcases Yh.mp hx with rfl|hx
   ·exact h1
   ·exact h2 x hx
  ·rw[if_neg h]at h1 h2 h3 ⊢
   refine⟨h1,λx hx=>?_,?_⟩
   ·rcases Yh.mp hx with rfl|hx
    ·omega
    ·exact h2 x hx
   ·rcases Yh.mp h3 with h3|h3
    ·rw[h3];exact Yp
    ·exact Yg _ (Yg _ h3)
theorem ZoH{prog:YK}{w:World}{A:Around}{E:Value->Shared->Prop}{s:Shared}{l:Addr}{vs:List Value}{n:Int}{ns:List Int}{Q:Value->Shared->Prop}(hh:A.handled=none)(hl:s.heap.IsList l vs.toArray)(hi:U3 vs (n::ns))(h:∀h' tk t',(∀b o,s.heap.get? b=some o->h'.get? b=some o)->Q (.int (minI n ns) t') { s with heap:=h',toks:=tk }):wpAny (model prog w) A (U8 (.builtin "min") [.ref l]) Q E s:=by
 obtain⟨xs,hx⟩:=hi.allInts.items
 have hl':s.heap.IsList l (intItems xs):=hx▸hl
 have e1:n::ns=xs.toList.map (·.1):=by
  rw[<-nums_intItems,<-hx]
  exact(show numsOf vs.toArray.toList=n::ns from hi.numsOf).symm
 have hsz:xs.size=ns.length+1:=by
  have:=congrArg VN e1
  simpa using this.symm
 have num:∀j,j<xs.size->numAt xs j=(n::ns).getD j 0:=λj hj=>by
  rw[e1]
  simp[numAt,List.getD]
 refine min_intList hh hl' (by omega) λv h' tk hv hk=>?_
 obtain⟨t,rfl⟩:=intItems_at hv
 obtain⟨b1,b2⟩:=argBest_lt (numAt xs) (xs.size-1)
 obtain⟨m1,m2,m3⟩:=ZjE ns n
 have key:numAt xs (argBest (λi j=>decide (numAt xs i<numAt xs j)) (xs.size-1))=minI n ns:=by
  refine Int.le_antisymm ?_ ?_
  ·obtain⟨j,hj,ej⟩:=GC m3
   have hj':j<xs.size:=by rw[hsz];exact hj
   have:=b2 j (by omega)
   rw[num j hj']at this
   rw[<-ej]
   rw[List.getD_eq_getElem?_getD,Yn hj]at this
   exact this
  ·have hb:argBest (λi j=>decide (numAt xs i<numAt xs j)) (xs.size-1)<xs.size:=by omega
   rw[num _ hb]
   generalize argBest (λi j=>decide (numAt xs i<numAt xs j)) (xs.size-1)=b at hb
   have hb':b<(n::ns).length:=by rw[YB];omega
   have:(n::ns).getD b 0∈n::ns:=by
    rw[List.getD_eq_getElem?_getD,Yn hb']
    exact V7 hb'
   rcases Yh.mp this with e|e
   ·rw[e];exact m1
   ·exact m2 _ e
 rw[key]
 exact h h' tk t hk
section
variable{K:Frag}{cm:List Addr}{m:Mem}{H:Hp}{xr:XR}{X:Cx}{call:Nat->List W->Mem->Res W}{gv:List T}
variable{a b c e:Expr}{es:List Expr}{ea eb ec:E}{eas:Es}{pos p p2 pos2:Pos}
theorem ZhZ(hc:X.calm=true):Xm X (.builtin "min") (rN X.K xr (fBlt .minl)):=by
 rintro pins s σ H xs us Q I r ⟨cm,m,ws,M,rws,ho⟩
 obtain⟨w,v,t,rr,rfl,rfl,rv,e,eb,ho⟩:=blt1 rws (Js (by decide)) ho
 cases t with
 |lst ts =>
  have eb:ZjD ts=some rr:=eb
  unfold ZjD at eb
  cases q:ints? ts with
  |none=>rw[q]at eb;cases eb
  |some bs =>
   rw[q]at eb
   cases bs with
   |nil=>cases eb
   |cons b bs =>
    have eb:(if bs.length<64 then some (T.int (minI b bs))else none)=some rr:=eb
    split at eb<;>cases eb
    obtain⟨a,vs,rfl,h1,r1⟩:=ZJ M rv e
    obtain⟨u,rfl,ru⟩:=vals1 r
    cases ru
    obtain⟨its,rv',pl,hz⟩:=I.list (.of h1)
    cases RTs.ints r1 q
    exact ZoH (I.ok.hd hc) pl.isList (intsAre_of rv') λh' tk t' hk=>⟨.int _,H,I.kept hk,⟨_,rfl⟩,ans ho M (.int _)⟩
 |_=>cases eb
theorem Zi9(hg:Gl X "min")(hm:X.mg "min" = none)(ha:PA X (e::es) (tA X.K call gv xr eas))(he:notStar e=true)(hpl:es.all notStar=true)(hc:X.calm=true:=by rfl):PE X (.Call (.Name "min" p) (e::es) [] pos) (tE X.K call gv xr (.blt .minl eas)):=X4 (ZhZ hc) (by decide +kernel) hg hm ha (by decide) (by decide) he hpl
def iEnum(K:Frag)(ta:TA):TI:=λσ H R=>ta σ H λvs H1=>∃a xs,vs=[.ref a]/\SqL K H1 a xs/\R (Ite K a) H1
theorem Zn6{ts:List Expr}{kk}{tp:Pos}{ta:TA}(hg:Gl X "enumerate")(hm:X.mg "enumerate" = none)(ha:PA X [a] ta)(h1:notStar a=true):
  PI X (.Tuple ts kk tp) (.Call (.Name "enumerate" p) [a] [] pos) (iEnum X.K ta):=by
 intro pins s σ H R I h
 refine Call_ (Zb5 I hg hm (show Gb "enumerate" = some (.type "enumerate")from by decide +kernel) (G3 (thn (ha pos pins s σ H _ I h) λus s1 ⟨vs,H1,I1,r1,q1⟩=>?_) (J8 h1) rfl))
 obtain⟨x,xs,e,q1,q⟩:=q1
 subst e
 cases r1 with
 |cons r rr =>
  cases rr
  cases r
  obtain⟨its,rv,p,_⟩:=I1.list q1
  refine call_enumerate_list p.isList λg hE hI hsz hk=>wpAny_pyIter_enum hE ?_
  refine⟨_,[s1.heap.objs.size+1,s1.heap.objs.size],_,_,H1,rfl,I1.kept (t':=s1.toks) hk,Zih (Nat.succ_ne_self _),⟨⟨_,hE⟩,hI⟩,λb hb=>?_,q⟩
  have hb':s1.heap.objs.size<=b:=by
   simp only[Yh,YC,or_false]at hb
   rcases hb with rfl|rfl<;>omega
  exact I1.fpOk hb' (I1.hok.fresh hb')
theorem PE.tree(h:PE X e (tE X.K call gv xr ea)):PE X e (tE X.K call gv xr (.tr ea)):=by
 refine PE.mono h ?_
 rintro σ H Q ⟨env,cm,m,hE,M,ho⟩
 refine⟨env,cm,m,hE,M,?_⟩
 rw[ev]at ho
 exact ho.bind.mono λw cm1 m1 H1 x1 M1 o1=>by
  cases w with
  |t x=>exact OkR.now o1 M1
  |f a=>exact o1.elim
  |x _ _ _=>exact o1.elim
  |c i=>exact o1.elim
theorem ZlJ{ts:List Expr}{kk}{tp:Pos}(hg:Gl X "enumerate")(hm:X.mg "enumerate" = none)(ha:PA X [a] (tA X.K call gv xr (.cons (.tr ea) .nil)))(hs:notStar a=true:=by rfl):PI X (.Tuple ts kk tp) (.Call (.Name "enumerate" p) [a] [] pos) (tI X.K call gv xr (.blt .enum (.cons (.tr ea) .nil))):=by
 refine PI.mono (Zn6 hg hm ha hs) ?_
 rintro σ H R ⟨env,cm,m,hE,M,ho⟩
 rw[ev]at ho
 cases h:evs call gv (.cons (.tr ea) .nil) env m with
 |stuck=>rw[h]at ho;exact ho.elim
 |exc x m' =>
  refine⟨env,cm,m,hE,M,?_⟩
  rw[h]at ho ⊢
  exact ho
 |ok ws m' =>
  refine⟨env,cm,m,hE,M,?_⟩
  rw[h]at ho ⊢
  have hT:∃t,ws=[.t t]:=by
   rw[evs]at h
   obtain⟨w,m1,h1,h2⟩:=Zj h
   obtain⟨ws',m2,h3,h4⟩:=Zj h2
   rw[evs]at h3
   cases h3
   cases h4
   rw[ev]at h1
   obtain⟨w0,m0,h5,h6⟩:=Zj h1
   cases w0 with
   |t x=>cases h6;exact⟨x,rfl⟩
   |f a=>cases h6
   |x _ _ _=>cases h6
   |c i=>cases h6
  obtain⟨t,rfl⟩:=hT
  have ho1:=OkR.bind ho
  intro cm1 H1 x1 M1 vs rvs
  have o1:OkR X.K (fBlt .enum [W.t t] m') xr cm1 m' H1 _:=ho1 cm1 H1 x1 M1
  obtain⟨w,v,t',rr,e1,rfl,rv,e,eb,ho⟩:=blt1 rvs (Js (by decide)) o1
  cases e1
  cases e
  cases t with
  |lst ts =>
   have eb:(if ts.length<=lim then some (T.lst (ZcG ts))else none)=some rr:=eb
   split at eb<;>cases eb
   obtain⟨ts',m2,q1,q2⟩:=OkR.now ho M1
   cases q1
   obtain⟨a,vs,rfl,h1,h2,h3⟩:=RT.ilst rv
   exact⟨a,vs,rfl,.of h1,q2 _ (.enm h1 h2 h3)⟩
  |_=>cases eb
theorem dl_mem(x:Str)(ss:List Str):x∈dl ss↔x∈ss:=by
 have:∀(ss D:List Str),x∈ss.foldl (λD x=>if x∈D then D else D++[x]) D↔x∈D∨x∈ss:=by
  intro ss
  induction ss with
  |nil=>intro D;simp
  |cons y r ih =>
   intro D
   rw[Ut,ih,Yh]
   split
   ·rename_i h
    constructor
    ·rintro (h1|h1)
     ·exact .inl h1
     ·exact .inr (.inr h1)
    ·rintro (h1|h1|h1)
     ·exact .inl h1
     ·subst h1;exact .inl h
     ·exact .inr h1
   ·rw[Gs,Ud,or_assoc]
 have h:=this ss []
 unfold dl
 rw[h]
 simp
theorem dl_nd(ss:List Str):(dl ss).Nodup:=by
 have:∀(ss D:List Str),D.Nodup->(ss.foldl (λD x=>if x∈D then D else D++[x]) D).Nodup:=by
  intro ss
  induction ss with
  |nil=>intro D h;exact h
  |cons y r ih =>
   intro D h
   rw[Ut]
   refine ih _ ?_
   split
   ·exact h
   ·rename_i hn
    rw[Gw]
    refine⟨h,by simp,λa ha b hb=>?_⟩
    rw[Ud.mp hb]
    exact λe=>hn (e▸ha)
 exact this ss [] .nil
theorem mkS_nd{xs:List (List Nat)}(h:xs.Nodup):(xs.map λc=>(⟨c.toArray⟩:Str)).Nodup:=by
 refine Wq.mpr (h.imp λ{a b} q e=>q (ZjC e))
theorem ZoG{xs ys:List (List Nat)}(h:∀c,c∈xs↔c∈ys)(x:Str):(x∈xs.map λc=>(⟨c.toArray⟩:Str))↔x∈ys.map λc=>(⟨c.toArray⟩:Str):=by
 constructor
 ·intro q
  obtain⟨c,hc,rfl⟩:=Yz.mp q
  exact Yz.mpr ⟨c,(h c).mp hc,rfl⟩
 ·intro q
  obtain⟨c,hc,rfl⟩:=Yz.mp q
  exact Yz.mpr ⟨c,(h c).mpr hc,rfl⟩
theorem nd_len{D:List Str}{bs:List (List Nat)}(hd:D.Nodup)(hm:∀x,x∈D↔x∈bs.map λc=>(⟨c.toArray⟩:Str)):D.length=(Zv bs).length:=by
 have hp:D.Perm ((Zv bs).map λc=>(⟨c.toArray⟩:Str)):=(List.perm_ext_iff_of_nodup hd (mkS_nd (Xn bs))).mpr λx=>by
  rw[hm]
  exact ZoG (λc=>(JM c bs).symm) x
 have:=hp.length_eq
 rw[Yc]at this
 exact this
theorem Zdb:∀{ts:List T}{bs:List (List Nat)},strs? ts=some bs->(∀t∈ts,∃c,t=.str c)/\ts.length=bs.length
 |[],_,e=>by cases e;exact⟨λt h=>by simp at h,rfl⟩
 |t::ts,bs,e=>by
  cases t with
  |str c =>
   unfold strs? at e
   cases q:strs? ts with
   |none=>rw[q]at e;cases e
   |some cs =>
    rw[q]at e;cases e
    obtain⟨h1,h2⟩:=Zdb q
    refine⟨λt ht=>?_,by rw[YB,YB,h2]⟩
    rcases Yh.mp ht with rfl|ht
    ·exact⟨c,rfl⟩
    ·exact h1 t ht
  |_=>cases e
theorem fit_of{n:Nat}(h:n<64):(n:Int)<2^63:=Int.lt_of_lt_of_le (b:=64) (by omega) (by decide)
theorem Zfp{elt target iter:Expr}{ifs:List Expr}{gs:List We}{scope:Scope}{N':List Str}{own:Nat}{keep:List Nat}{it:E}{tg:Tg}{cs:Es}(hc:X.calm=true)(hg1:Gl X "len")(hm1:X.mg "len" = none)(k:CompK X xr0 call gv N' scope own keep elt target iter ifs gs it tg cs (.emit ea)):
  PE X (.Call (.Name "len" p) [.SetComp elt (⟨target,iter,ifs,0⟩::gs) scope pos2] [] pos) (tE X.K call gv xr (.blt .lenset (.cons (.comp own keep it tg cs (.emit ea)) .nil))):=by
 rintro pins s σ H Q I ⟨env,cm,m,hE,M,ho⟩
 rw[ev]at ho
 refine Ge (Zb5 I hg1 hm1 (show Gb "len" = some (.builtin "len")from by decide +kernel) ?_ (by decide) (by decide))
 refine Gx ?_ rfl rfl
 show wpAny _ _ (Ycv ((false,eval (.SetComp elt (⟨target,iter,ifs,0⟩::gs) scope pos2) X.env)::backTo pos [])) _ _ s
 refine Yaw ?_
 cases h:ev call gv (.comp own keep it tg cs (.emit ea)) env m with
 |stuck =>
  rw[evs,h]at ho
  exact ho.elim
 |exc e m'=>exact absurd h (JD e m')
 |ok w m' =>
  obtain⟨out,rfl⟩:=Xh h
  rw[evs,h]at ho
  have ho:OkR X.K (pur ((views [W.t (.lst out)] m').bind λts=>bltT .lenset ts) m') xr cm m H _:=ho
  have ho:OkR X.K (pur (ZjJ out) m') xr cm m H _:=ho
  unfold ZjJ at ho
  cases q:strs? out with
  |none=>rw[q]at ho;exact ho.elim
  |some bs =>
   rw[q]at ho
   have ho:OkR X.K (pur (if bs.length<64 then some (T.int ((Zv bs).length:Int))else none) m') xr cm m H _:=ho
   split at ho
   ·rename_i h64
    have ho:OkR X.K (Res.ok (W.t (T.int ((Zv bs).length:Int))) m') xr cm m H _:=ho
    obtain⟨hst,hsl⟩:=Zdb q
    rw[arm_eval_SetComp]
    refine Zc3 hc k.sc k.hown k.hkeep (λx hx e=>by rw[k.sc.look x hx,e]) k.pi k.fs k.ins k.dis k.slt I hE M (by omega) hst h ?_
    rintro D C s3 H3 cm3 vs I3 ⟨ss,rfl,hS⟩ x3 M3 r3 ⟨mm,hm⟩ fC nDC
    refine⟨mm,hm,λh' hs'=>?_⟩
    have I4:Inv X pins σ H3 { s3 with heap:=h' }:=I3.turned (t':=s3.toks) (it:=C) (λb o hb e=>(hs'.2 b hb).trans e) fC.1 fC.2.1 fC.2.2.2.1 fC.2.2.2.2.1 fC.2.2.2.2.2
    have e1:=RTs.strs r3 q
    have e2:ss=bs.map λc=>(⟨c.toArray⟩:Str):=by
     have e3:ss.map V.str=(bs.map λc=>(⟨c.toArray⟩:Str)).map V.str:=by rw[e1,Y0];rfl
     exact(List.map_inj_right (λa b e=>by injection e)).mp e3
    subst e2
    obtain⟨o,es,ep,t,eo,hE⟩:=hS
    have hn:es.size=(dl (bs.map λc=>(⟨c.toArray⟩:Str))).length:=by
     rw[<-hE.txs.length_eq,Yc,YQ]
    have hsz:es.size=(Zv bs).length:=by
     rw[hn]
     exact nd_len (dl_nd _) λx=>dl_mem x _
    have hlt:es.size<64:=by
     have:=Zkt (bs.map λc=>(⟨c.toArray⟩:Str))
     rw[Yc]at this
     omega
    refine Yd ?_
    refine call_len_set (s:={ s3 with heap:=h' }) ((hs'.2 D nDC).trans eo) hE.ex hE.data hE.fits (fit_of hlt) ?_
    rw[hsz]
    exact⟨.int _,H3,I4.kept (s:={ s3 with heap:=h' }) (t':=s3.toks+1+1) λb o e=>e,⟨_,rfl⟩,OkR.to ho x3 M3 _ (.int _)⟩
   ·exact ho.elim
end
section
variable{K:Frag}{cm cm':List Addr}{m m':Mem}{H H':Hp}{xr:XR}{X:Cx}{call:Nat->List W->Mem->Res W}{gv:List T}
variable{a b c e:Expr}{es:List Expr}{ea eb ec:E}{eas:Es}{pos p p2:Pos}{rest:List Stmt}{k:Nat}{n:Nat}
inductive Ents (w:World):List (List Nat)->List Value->List DictEntry->Prop where
 |nil:Ents w [] [] []
 |cons {y:Str}{t:Tok}{cs:List Nat}{h:Int}{u:Value}{css:List (List Nat)}{us:List Value}{es:List DictEntry}:y.cps.toList=cs->h=hashStr w y->Ents w css us es->Ents w (cs::css) (u::us) (⟨h,.str y t,u⟩::es)
def VT(K:Frag)(u:Value)(t:T):Prop:=∃v,RelV v u/\∀cm m H,RT K cm m H t v
inductive VTs (K:Frag):List Value->List T->Prop where
 |nil:VTs K [] []
 |cons {u:Value}{t:T}{us:List Value}{ts:List T}:VT K u t->VTs K us ts->VTs K (u::us) (t::ts)
end
end Mi
namespace So
open PySem PySem.W PyProof.Rows
variable{n:Nat}{R:Nat->Nat->Bool}{cmp:Nat->Nat->(Bool->Shared->Prop)->Shared->Prop}{s:Shared}{p:Array Nat}
structure Ord (n:Nat) (R:Nat->Nat->Bool):Prop where
 tr:∀i j k,i<n->j<n->k<n->R i j=true->R j k=true->R i k=true
 tot:∀i j,i<n->j<n->i≠j->R i j=false->R j i=true
 asy:∀i j,i<n->j<n->R i j=true->R j i=false
def Pm(n:Nat)(p:Array Nat):Prop:=p.toList.Perm (YF n)
theorem Pm.size(h:Pm n p):p.size=n:=by
 have:=h.length_eq;simpa using this
theorem Pm.lt(h:Pm n p){k:Nat}(hk:k<n):p.getD k 0<n:=by
 have hs:=h.size
 have e:p.getD k 0=p[k]'(by omega):=by simp[Ybm,hs,hk]
 rw[e]
 have:p[k]'(by omega)∈p.toList:=by simp
 have:=h.mem_iff.1 this
 simpa using this
theorem Pm.ne(h:Pm n p){i j:Nat}(hi:i<n)(hj:j<n)(hij:i≠j):p.getD i 0≠p.getD j 0:=by
 have hs:=h.size
 have nd:p.toList.Nodup:=h.nodup_iff.2 List.nodup_range
 have ei:p.getD i 0=p.toList[i]'(by simp;omega):=by simp[Ybm,hs,hi]
 have ej:p.getD j 0=p.toList[j]'(by simp;omega):=by simp[Ybm,hs,hj]
 rw[ei,ej]
 have pw:=List.pairwise_iff_getElem.1 nd
 rcases Nat.lt_or_gt_of_ne hij with c|c
 ·exact pw i j _ _ c
 ·exact λe=>pw j i _ _ c e.symm
theorem Pm.rev(h:Pm n p)(i j:Nat):Pm n (Ycx p i j):=(Array.perm_iff_toList_perm.1 (mirror_perm p i j _)).trans h
theorem Pm.bub(h:Pm n p)(k d:Nat):Pm n (bubble p k d):=(Array.perm_iff_toList_perm.1 (bubble_perm p k d)).trans h
theorem X7(q:Array Nat)(k:Nat):q.getD k 0=(q[k]?).getD 0:=by
 simp[Array.getD_eq_getD_getElem?]
theorem ZmQ(h:Pm n p){m:Nat}(hm:m<=n)(k:Nat):(Ycx p 0 m).getD k 0=if k<m then p.getD (m-1-k) 0 else p.getD k 0:=by
 rw[X7,Ycx,getElem?_mirror_all (by rw[h.size];exact hm)]
 by_cases hk:k<m
 ·rw[if_pos ⟨Wy _,hk⟩,if_pos hk,X7];simp
 ·rw[if_neg (by omega),if_neg hk,X7]
theorem Znr(h:Pm n p){k l:Nat}(hk:k<n)(hl:l<=k)(x:Nat):(bubble p k (k-l)).getD x 0=if x=l then p.getD k 0 else if l<x/\x<=k then p.getD (x-1) 0 else p.getD x 0:=by
 rw[X7,getElem?_bubble (by rw[h.size];exact hk) _ (by omega)]
 have e:k-(k-l)=l:=by omega
 rw[e]
 split
 ·rw[X7]
 split
 ·rw[X7]
 ·rw[X7]
def Up(R:Nat->Nat->Bool)(p:Array Nat)(m:Nat):Prop:=∀i j,i<j->j<m->R (p.getD i 0) (p.getD j 0)=true
def Dn(R:Nat->Nat->Bool)(p:Array Nat)(m:Nat):Prop:=∀i j,i<j->j<m->R (p.getD j 0) (p.getD i 0)=true
theorem Up.succ(O:Ord n R)(P:Pm n p){m:Nat}(h1:1<=m)(hm:m<n)(u:Up R p m)(e:R (p.getD (m-1) 0) (p.getD m 0)=true):Up R p (m+1):=by
 intro i j hij hj
 by_cases c:j<m
 ·exact u i j hij c
 have:j=m:=by omega
 subst this
 by_cases d:i=j-1
 ·subst d;exact e
 have d1:i<j-1:=by omega
 have d2:j-1<j:=by omega
 exact O.tr _ _ _ (P.lt (Gj hij hm)) (P.lt (Gj d2 hm)) (P.lt hm) (u i (j-1) d1 d2) e
theorem Dn.succ(O:Ord n R)(P:Pm n p){m:Nat}(h1:1<=m)(hm:m<n)(u:Dn R p m)(e:R (p.getD m 0) (p.getD (m-1) 0)=true):Dn R p (m+1):=by
 intro i j hij hj
 by_cases c:j<m
 ·exact u i j hij c
 have:j=m:=by omega
 subst this
 by_cases d:i=j-1
 ·subst d;exact e
 have d1:i<j-1:=by omega
 have d2:j-1<j:=by omega
 exact O.tr _ _ _ (P.lt hm) (P.lt (Gj d2 hm)) (P.lt (Gj hij hm)) e (u i (j-1) d1 d2)
theorem Dn.rev(P:Pm n p){m:Nat}(hm:m<=n)(u:Dn R p m):Up R (Ycx p 0 m) m:=by
 intro i j hij hj
 rw[ZmQ P hm,ZmQ P hm,if_pos (by omega),if_pos hj]
 exact u _ _ (by omega) (by omega)
section
variable(O:Ord n R) (hc:∀i j (C:Bool->Shared->Prop),i<n->j<n->C (R i j) s->cmp i j C s)
include O hc
theorem ZkV(P:Pm n p){Q:Nat->Shared->Prop}:∀(f m:Nat),1<=m->m+f<=n->Up R p m->(∀m',m<=m'->m'<=m+f->Up R p m'->(m'<m+f->R (p.getD m' 0) (p.getD (m'-1) 0)=true)->Q m' s)->(kas_asc p f m).kasWp cmp Q s
 |0,m,h1,hn,u,q=>q m (Yj _) (Yj _) u (λh=>absurd h (Y9 _))
 |f+1,m,h1,hn,u,q=>by
  have hm:m<n:=by omega
  have hm1:m-1<n:=Nat.lt_of_le_of_lt (Ych _ _) hm
  have hne:m≠m-1:=by omega
  have hf1:m+1+f<=n:=by omega
  refine hc _ _ _ (P.lt hm) (P.lt hm1) ?_
  cases e:R (p.getD m 0) (p.getD (m-1) 0)with
  |true=>exact q m (Yj _) (Nat.le_add_right _ _) u (λ_=>e)
  |false =>
   have e2:=O.tot _ _ (P.lt hm) (P.lt hm1) (P.ne hm hm1 hne) e
   exact ZkV P f (m+1) (Ybg _ _) hf1 (u.succ O P h1 hm e2) λm' a b c d=>q m' (by omega) (by omega) c (λx=>d (by omega))
theorem Zkv(P:Pm n p){Q:Array Nat×Nat×Nat->Shared->Prop}:∀(f m:Nat),1<=m->m+f<=n->Dn R p m->(∀m',m<=m'->m'<=m+f->Dn R p m'->Q (p,m',0) s)->(kas_desc f p m 0).kasWp cmp Q s
 |0,m,h1,hn,u,q=>q m (Yj _) (Yj _) u
 |f+1,m,h1,hn,u,q=>by
  have hm:m<n:=by omega
  have hm1:m-1<n:=Nat.lt_of_le_of_lt (Ych _ _) hm
  have hne:m≠m-1:=by omega
  have hf1:m+1+f<=n:=by omega
  refine hc _ _ _ (P.lt hm) (P.lt hm1) ?_
  cases e:R (p.getD m 0) (p.getD (m-1) 0)with
  |true=>exact Zkv P f (m+1) (Ybg _ _) hf1 (u.succ O P h1 hm e) λm' a b c=>q m' (by omega) (by omega) c
  |false =>
   have e2:=O.tot _ _ (P.lt hm) (P.lt hm1) (P.ne hm hm1 hne) e
   refine hc _ _ _ (P.lt hm1) (P.lt hm) ?_
   rw[e2]
   exact q m (Yj _) (Nat.le_add_right _ _) u
theorem Zlc(P:Pm n p){m:Nat}(h1:1<=m)(hm:m<=n)(u:Dn R p m){Q:Nat×Array Nat->Shared->Prop}(q:∀m' p',1<=m'->m'<=n->Pm n p'->Up R p' m'->Q (m',p') s):(kas_tail3 m n p).kasWp cmp Q s:=by
 unfold kas_tail3
 rw[VG]
 exact ZkV O hc (P.rev 0 m) (n-m) m h1 (by omega) (u.rev P hm) λm' a b c _=>q m' _ (by omega) (by omega) (P.rev 0 m) c
theorem ZfI(P:Pm n p)(h2:2<=n)(u:Dn R p 2){Q:Nat×Array Nat->Shared->Prop}(q:∀m' p',1<=m'->m'<=n->Pm n p'->Up R p' m'->Q (m',p') s):(kas_descPart 1 n p).kasWp cmp Q s:=by
 unfold kas_descPart
 rw[VG]
 refine Zkv O hc P (n-(1+1)) 2 (by omega) (by omega) u λm' a b c=>?_
 exact Zlc O hc P (by omega) (by omega) c q
theorem Zms(h1:1<=n)(P:Pm n p){Q:Nat×Array Nat->Shared->Prop}(q:∀m' p',1<=m'->m'<=n->Pm n p'->Up R p' m'->Q (m',p') s):(kas_count n p).kasWp cmp Q s:=by
 unfold kas_count
 rw[VG]
 refine ZkV O hc P (n-1) 1 (Yj _) (by omega) (λi j a b=>by omega) λm a b c d=>?_
 by_cases e:m=n
 ·subst e
  rw[if_pos (by simp)]
  exact q _ _ h1 (Yj _) P c
 rw[if_neg (by simpa using e)]
 by_cases g:m>1
 ·rw[if_pos g]
  refine hc _ _ _ (P.lt (by omega)) (P.lt (by omega)) ?_
  rw[c 0 (m-1) (by omega) (by omega)]
  exact q _ _ (by omega) (by omega) P c
 ·rw[if_neg g]
  have:m=1:=by omega
  subst this
  refine ZfI O hc P (by omega) (λi j hij hj=>?_) q
  have:i=0:=by omega
  have:j=1:=by omega
  subst i;subst j
  exact d (by omega)
theorem Zdx(P:Pm n p){k:Nat}(hk:k<n)(u:Up R p k){Q:Nat->Shared->Prop}(q:∀l,l<=k->(∀i,i<l->R (p.getD i 0) (p.getD k 0)=true)->(∀i,l<=i->i<k->R (p.getD k 0) (p.getD i 0)=true)->Q l s):∀(f l r:Nat),l<=r->r<=k->r-l<=f->(∀i,i<l->R (p.getD i 0) (p.getD k 0)=true)->(∀i,r<=i->i<k->R (p.getD k 0) (p.getD i 0)=true)->(kas_place p k f l r).kasWp cmp Q s
 |0,l,r,hl,hr,hf,a,b=>q l (by omega) a λi x y=>b i (by omega) y
 |f+1,l,r,hl,hr,hf,a,b=>by
  unfold kas_place
  by_cases c:l ≥ r
  ·rw[if_pos c];exact q l (by omega) a λi x y=>b i (by omega) y
  rw[if_neg c]
  have hm:(l+r) / 2<r:=by omega
  have hl2:l<=(l+r) / 2:=by omega
  have hmk:(l+r) / 2<k:=Yu hm hr
  have hmn:(l+r) / 2<n:=Gj hmk hk
  refine hc _ _ _ (P.lt hk) (P.lt hmn) ?_
  cases e:R (p.getD k 0) (p.getD ((l+r) / 2) 0)with
  |true =>
   refine Zdx P hk u q f l ((l+r) / 2) hl2 (Gd hmk) (by omega) a λi x y=>?_
   by_cases d:i=(l+r) / 2
   ·subst d;exact e
   exact O.tr _ _ _ (P.lt hk) (P.lt hmn) (P.lt (Gj y hk)) e (u _ _ (Nat.lt_of_le_of_ne x (Ui d)) y)
  |false =>
   have e2:=O.tot _ _ (P.lt hk) (P.lt hmn) (P.ne hk hmn (GZ hmk)) e
   refine Zdx P hk u q f ((l+r) / 2+1) r hm hr (by omega) (λi x=>?_) b
   by_cases d:i=(l+r) / 2
   ·subst d;exact e2
   have x2:i<(l+r) / 2:=Nat.lt_of_le_of_ne (Nat.le_of_lt_succ x) d
   exact O.tr _ _ _ (P.lt (Gj x2 hmn)) (P.lt hmn) (P.lt hk) (u _ _ x2 hmk) e2
theorem Zns{Q:Array Nat->Shared->Prop}(q:∀p',Pm n p'->Up R p' n->Q p' s):∀(f k:Nat) (p:Array Nat),Pm n p->k+f=n->Up R p k->(kas_bin f p k).kasWp cmp Q s
 |0,k,p,P,hk,u=>q p P (by have e:k=n:=(by omega);subst e;exact u)
 |f+1,k,p,P,hk,u=>by
  unfold kas_bin
  rw[VG]
  have hkn:k<n:=by omega
  have hk1:k+1+f=n:=by omega
  refine Zdx O hc P hkn u (λl hl a b=>?_) k 0 k (Wy _) (Yj _) (Ych _ _) (λi x=>absurd x (Nat.not_lt_zero _)) (λi x y=>absurd y (Yal.mpr x))
  refine Zns q f (k+1) _ (P.bub _ _) hk1 λi j hij hj=>?_
  have hj:j<=k:=Nat.le_of_lt_succ hj
  rw[Znr P hkn hl,Znr P hkn hl]
  by_cases c1:i=l
  ·subst c1
   rw[if_pos rfl,if_neg (GZ hij),if_pos ⟨hij,hj⟩]
   exact b _ (by omega) (by omega)
  rw[if_neg c1]
  by_cases c2:j=l
  ·subst c2
   rw[if_pos rfl,if_neg (λz=>Nat.lt_asymm hij z.1)]
   exact a _ hij
  rw[if_neg c2]
  by_cases c3:l<i/\i<=k
  ·rw[if_pos c3,if_pos ⟨Gj c3.1 hij,hj⟩]
   exact u _ _ (by omega) (by omega)
  rw[if_neg c3]
  by_cases c4:l<j/\j<=k
  ·rw[if_pos c4]
   exact u _ _ (by omega) (by omega)
  rw[if_neg c4]
  exact u _ _ hij (by omega)
theorem sort_wp(h1:1<=n){Q:Array Nat->Shared->Prop}(q:∀p',Pm n p'->Up R p' n->Q p' s):(kas_sort n).kasWp cmp Q s:=by
 unfold kas_sort
 rw[VG]
 refine Zms O hc h1 (p:=YbZ (YF n)) (by unfold Pm;simp) λm p' a b P u=>?_
 dsimp only
 by_cases c:m<n
 ·rw[if_pos c]
  have e:max m 1=m:=by omega
  rw[e]
  exact Zns O hc q (n-m) m p' P (by omega) u
 ·rw[if_neg c]
  have:m=n:=by omega
  subst this
  exact q p' P u
end
end So
namespace Ts
open PySem PySem.W PyProof.Rows
def Srt(B:Keyed->Keyed->Bool)(l:List Keyed):Prop:=l.Pairwise λx y=>B y x=false
structure Cmp (prog:YK) (w:World) (A:Around) (s:Shared) (κ:YaC) (U:Keyed->Prop) (B:Keyed->Keyed->Bool):Prop where
 lt:∀x y,U x->U y->∀(E:Value->Shared->Prop) (Q:Bool->Shared->Prop),Q (B x y) s->wpAny (model prog w) A (keyLt' κ x.1 y.1) Q E s
 tr:∀x y z,U x->U y->U z->B y x=false->B z y=false->B z x=false
 asy:∀x y,U x->U y->B x y=true->B y x=false
 tot:∀x y,U x->U y->B x y=false->B y x=false->x=y
section
variable{prog:YK}{w:World}{A:Around}{E:Value->Shared->Prop}{s:Shared}{κ:YaC}{U:Keyed->Prop}{B:Keyed->Keyed->Bool}
theorem ZoQ{it:Array Keyed}{i:Nat}(h:i<it.size):UJ it i=it[i]:=by
 unfold UJ
 rw[Array.getD_eq_getD_getElem?,Vk h,Option.getD_some]
theorem ZiJ(C:Cmp prog w A s κ U B){it:Array Keyed}(hU:∀x∈it.toList,U x)(hN:it.toList.Nodup)(h2:2<=it.size)(h64:it.size<64):
  wpAny (model prog w) A ((sortRuns').run (Yci κ it #[] 7 none)) (λr s'=>s'=s/\failedOf r.2=none/\(arrOf r.2).toList.Perm it.toList/\Srt B (arrOf r.2).toList) E s:=by
 have u:∀i,i<it.size->U (UJ it i):=λi h=>by rw[ZoQ h];exact hU _ (by simp)
 have ne:∀i j,i<it.size->j<it.size->i≠j->UJ it i≠UJ it j:=λi j hi hj h e=>by
  rw[ZoQ hi,ZoQ hj,<-Yad,<-Yad]at e
  exact h ((V4 hN).mp e)
 have tot:∀i j,i<it.size->j<it.size->i≠j->B (UJ it i) (UJ it j)=false->B (UJ it j) (UJ it i)=true:=λi j hi hj h e=>by
  cases f:B (UJ it j) (UJ it i)with
  |true=>rfl
  |false=>exact absurd (C.tot _ _ (u i hi) (u j hj) e f) (ne i j hi hj h)
 have O:So.Ord it.size λi j=>B (UJ it i) (UJ it j):=by
  refine⟨λi j k hi hj hk a b=>?_,tot,λi j hi hj a=>C.asy _ _ (u i hi) (u j hj) a⟩
  have c:=C.tr _ _ _ (u i hi) (u j hj) (u k hk) (C.asy _ _ (u i hi) (u j hj) a) (C.asy _ _ (u j hj) (u k hk) b)
  by_cases e:k=i
  ·subst e
   have:=C.asy _ _ (u k hk) (u j hj) a
   rw[this]at b;exact absurd b (by simp)
  ·exact tot k i hk hi e c
 have est:Yci κ it #[] 7 none=kas_st κ it (YbZ (YF it.size)):=by
  show _=Yci κ ((YbZ (YF it.size)).map (UJ it)) #[] 7 none
  rw[kas_range it]
 rw[est]
 refine kas_runs (Q:=λ_ st' s'=>s'=s/\failedOf st'=none/\(arrOf st').toList.Perm it.toList/\Srt B (arrOf st').toList) (G:=λp s'=>s'=s/\So.Pm it.size p/\So.Up (λi j=>B (UJ it i) (UJ it j)) p it.size) h2 h64 (λp st' s' hp ha hf hg=>?_) (So.sort_wp O (λi j Cc hi hj h=>C.lt _ _ (u i hi) (u j hj) _ _ h) (by omega) λp P q=>⟨rfl,P,q⟩)
 obtain⟨rfl,P,q⟩:=hg
 refine⟨rfl,hf,?_,?_⟩
 ·rw[ha,U9]
  refine(P.map (UJ it)).trans ?_
  have:=kas_range it
  have:=congrArg YbO this
  rw[U9]at this
  rw[show(YF it.size).map (UJ it)=it.toList from this]
 ·rw[ha]
  refine List.pairwise_iff_getElem.mpr λi j hi hj hij=>?_
  rw[U9,Yc,YQ]at hi hj
  have a:=q i j hij (by omega)
  have ei:p.getD i 0=p[i]:=by simp[Ybm,hi]
  have ej:p.getD j 0=p[j]:=by simp[Ybm,hj]
  simp only[U9,List.getElem_map,Yad]
  have a:B (UJ it (p.getD i 0)) (UJ it (p.getD j 0))=true:=a
  rw[ei,ej]at a
  refine C.asy _ _ (u _ ?_) (u _ ?_) a
  ·rw[<-ei];exact P.lt (by omega)
  ·rw[<-ej];exact P.lt (by omega)
end
end Ts
section
set_option maxHeartbeats 1000000
namespace Ts
open PySem PyProof.Rows
section
variable{prog:YK}{w:World}{A:Around}{E:Value->Shared->Prop}{s:Shared}{κ:YaC}{B:Keyed->Keyed->Bool}
theorem ZmT{α:Type}{R:α->α->Prop}{l:List α}(h:l.length<2):l.Pairwise R:=by
 rcases l with _|⟨x,_|⟨y,r⟩⟩
 ·exact .nil
 ·exact Uh _ _
 ·rw[YB,YB]at h
  exact absurd h (Yal.mpr (Ybg _ _))
theorem Xo{n:Nat}(h:n<64):n<=YM:=YJ (Gd h) (by decide)
theorem ZnK{a:Addr}{vs:List Value}{n:Nat}{P:YbC->Shared->Prop}(ho:s.heap.get? a=some (seqObj "list" vs.toArray n))(hs:vs.length<64)(hN:(VH vs).toList.Nodup)(hk:2<=vs.length->∀h',(∀b o,b≠a->s.heap.get? b=some o->h'.get? b=some o)->∀Q':YaC->Shared->Prop,Q' κ { s with heap:=h' }->wpAny (model prog w) A (YbE vs.toArray) Q' E { s with heap:=h' })(hC:∀h',(∀b o,b≠a->s.heap.get? b=some o->h'.get? b=some o)->Cmp prog w A { s with heap:=h' } κ (λx=>x∈(VH vs).toList) B)(h:∀out:Array Keyed,out.toList.Perm (VH vs).toList->Srt B out.toList->P (.done (.ret .none)) { s with heap:=sortedHeap s.heap a vs (out.map (·.2)) }):
  wpAny (model prog w) A (Builtin.«list.sort» ⟨[.ref a],[]⟩) P E s:=by
 have hz:=Xo hs
 rw[list_sort_plain]
 have ha:a<s.heap.objs.size:=Ys ho
 have hsz:vs.toArray.size=vs.length:=by simp
 refine Yb (Yb0 ho rfl (Yb (Gh ho rfl ?_ (by rw[hsz];exact hz) (Wy _))))
 obtain⟨e1,ho1⟩:∃e1,(s.heap.update a (YT λ_=>(#[]:Array Value))).get? a=some (seqObj "list" #[] e1):=⟨_,G5 ho (λ_=>#[])⟩
 refine Yb (Ya1 ho1 rfl (Yb (Ybq (Yb (Yag (Wj ?_) (Wy _))) (by show vs.length<=_;exact hz))))
 have nk:∀b o,s.heap.get? b=some o->b≠(s.heap.update a (YT λ_=>(#[]:Array Value))).objs.size/\b≠((s.heap.update a (YT λ_=>(#[]:Array Value))).push (seqObj "tuple" vs.toArray 0)).objs.size:=λb o q=>by
  rw[Ybl,V8]
  have:=Ys q
  exact⟨YH this,YH (Wf this)⟩
 have kp:∀b o,b≠a->s.heap.get? b=some o->(((s.heap.update a (YT λ_=>(#[]:Array Value))).push (seqObj "tuple" vs.toArray 0)).push (seqObj "list" #[] 0)).get? b=some o:=λb o hb q=>by
  rw[Um _ _ _ (nk b o q).2,Um _ _ _ (nk b o q).1,W0 _ _ _ _ hb]
  exact q
 have ho6:(((s.heap.update a (YT λ_=>(#[]:Array Value))).push (seqObj "tuple" vs.toArray 0)).push (seqObj "list" #[] 0)).get? a=some (seqObj "list" #[] e1):=by
  rw[Um _ _ _ (nk a _ ho).2,Um _ _ _ (nk a _ ho).1]
  exact ho1
 dsimp only
 by_cases h2:vs.toArray.size<2
 ·rw[if_pos h2,if_pos h2]
  refine Yb (Yd ?_)
  rw[StateT.run_pure]
  refine Yb (Yd (Yb (Ya1 ho6 rfl (Yb (Gh ho6 rfl ?_ (Wy _) (by rw[Ybs];show(VH vs).size<=_;rw[YaD];omega))))))
  simp only[bne_self_eq_false,YD,if_false]
  refine Yd (h (VH vs) (UT _) ?_)
  have hl:(VH vs).toList.length<2:=by rw[YQ,YaD];omega
  exact ZmT hl
 ·rw[if_neg h2,if_neg h2]
  refine Yb (hk (by omega) _ kp _ ?_)
  refine Yb (W2 (ZiJ (it:=VH vs) (hC _ kp) (λx hx=>hx) hN (by rw[YaD];omega) (by rw[YaD];exact hs)) ?_ λ_ _ e=>e)
  rintro ⟨⟨⟩,st'⟩ s' ⟨rfl,b1,b2,b3⟩
  dsimp only
  refine Yb (Ya1 ho6 rfl (Yb (Gh ho6 rfl ?_ (Wy _) ?_)))
  ·rw[b1]
   simp only[bne_self_eq_false,YD,if_false]
   exact Yd (h (arrOf st') b2 b3)
  ·have:=b2.length_eq
   rw[YQ,YQ,YaD]at this
   rw[Ybs,this]
   omega
theorem so_call{l:Addr}{vs:List Value}{Q:Value->Shared->Prop}(hl:s.heap.IsList l vs.toArray)(hs:vs.length<64)(hN:(VH vs).toList.Nodup)(hk:2<=vs.length->∀A' h',(∀b o,s.heap.get? b=some o->h'.get? b=some o)->∀(E':Value->Shared->Prop) (Q':YaC->Shared->Prop),Q' κ { s with heap:=h' }->wpAny (model prog w) A' (YbE vs.toArray) Q' E' { s with heap:=h' })(hC:∀A' h',(∀b o,s.heap.get? b=some o->h'.get? b=some o)->Cmp prog w A' { s with heap:=h' } κ (λx=>x∈(VH vs).toList) B)(h:∀out:Array Keyed,out.toList.Perm (VH vs).toList->Srt B out.toList->Q (.ref (s.heap.objs.size+1)) { s with heap:=Ycu s.heap vs (out.map (·.2)) }):
  wpAny (model prog w) A (call (.builtin "sorted") [.ref l]) Q E s:=by
 have hz:=Xo hs
 refine Calls.call_function_entry Yb8 YbV YbW (args_sorted1 _) ?_
 unfold Builtin.«sorted»
 refine Yb (m:=Ycf "sorted" 1 1 _) (Yd (Yb (collect_list hl (Yb (Yag ?_ (by simpa using hz))) hz)))
 have hsz:((s.heap.push (seqObj "list" #[] 0)).update s.heap.objs.size (YT (·++vs.toArray))).objs.size=s.heap.objs.size+1:=by rw[V8,Ybl]
 have hoL:(((s.heap.push (seqObj "list" #[] 0)).update s.heap.objs.size (YT (·++vs.toArray))).push (seqObj "list" vs.toArray 0)).get? (s.heap.objs.size+1)=some (seqObj "list" vs.toArray 0):=by
  rw[<-hsz];exact Yt _ rfl
 have kp:∀h':Heap,(∀b o,b≠s.heap.objs.size+1->(((s.heap.push (seqObj "list" #[] 0)).update s.heap.objs.size (YT (·++vs.toArray))).push (seqObj "list" vs.toArray 0)).get? b=some o->h'.get? b=some o)->∀b o,s.heap.get? b=some o->h'.get? b=some o:=λh' k b o q=>by
  have hlt:=Ys q
  refine k b o (YH (Wf hlt)) ?_
  rw[Um _ _ _ (by rw[hsz];exact YH (Wf hlt)),W0 _ _ _ _ (YH hlt),Um _ _ _ (YH hlt)]
  exact q
 show wpAny _ _ _ _ _ { s with heap:=((s.heap.push (seqObj "list" #[] 0)).update s.heap.objs.size (YT (·++vs.toArray))).push (seqObj "list" vs.toArray 0) }
 rw[hsz]
 refine Yb (Wj (WQ Ybr ⟨_,hoL,rfl⟩ Yba (ZnK hoL hs hN (λh2 h' k Q' q=>hk h2 _ h' (kp h' k) _ Q' q) (λh' k=>hC _ h' (kp h' k)) λout a1 a2=>⟨_,rfl,Yd ⟨_,rfl,h out a1 a2⟩⟩) (args_list_sort _)))
end
end Ts
namespace Ts
open PySem PyProof.Rows PySem.W PySem.Calls
section
variable{prog:YK}{w:World}{A:Around}{E:Value->Shared->Prop}{s:Shared}
theorem ZiA{kS:Addr}{f:Value}{G:List Value->Shared->Prop}{n:Nat}{body:Value->PUnit->Sem (ForInStep PUnit)}(hb:∀x ks (s:Shared),ks.length<n->G ks s->wpAny (model prog w) A (call f [x]) (λk s2=>∃e,s2.heap.get? kS=some (seqObj "list" ks.toArray e)/\G (ks++[k]) { s2 with heap:=s2.heap.update kS (YT (·.push k)) }) (λ_ _=>False) s ->
   wpAny (model prog w) A (body x ⟨⟩) (λr s'=>r=.yield ⟨⟩/\∃k,G (ks++[k]) s') E s)(vs:List Value)(step:∀ks x r s,vs.drop ks.length=x::r->G ks s->wpAny (model prog w) A (call f [x]) (λk s2=>∃e,s2.heap.get? kS=some (seqObj "list" ks.toArray e)/\G (ks++[k]) { s2 with heap:=s2.heap.update kS (YT (·.push k)) }) (λ_ _=>False) s):∀(r ks:List Value) (s:Shared),ks.length+r.length=n->vs.drop ks.length=r->G ks s ->
   wpAny (model prog w) A (forIn r PUnit.unit body) (λ_ s'=>∃ks,ks.length=n/\G ks s') E s
 |[],ks,s,hl,_,h=>by
  rw[List.forIn_nil]
  exact Yd ⟨ks,by simpa using hl,h⟩
 |x::r,ks,s,hl,hd,h=>by
  rw[YB]at hl
  rw[VD]
  refine Yb (W2 (hb x ks s (by omega) h (step ks x r s hd h)) (λq s' hq=>?_) λ_ _ x=>x)
  obtain⟨rfl,k,h2⟩:=hq
  show wpAny (model prog w) A (forIn r PUnit.unit body) _ E s'
  refine ZiA hb vs step r (ks++[k]) s' (by rw[Yr,Y5];omega) ?_ h2
  rw[Yr,Y5,<-List.drop_drop,hd]
  rfl
theorem ZnL{a:Addr}{f:Value}{vs:List Value}{n:Nat}{P:YbC->Shared->Prop}(ho:s.heap.get? a=some (seqObj "list" vs.toArray n))(hs:vs.length<64)(h:∀kS e1 h',kS=s.heap.objs.size+1->h'.get? a=some (seqObj "list" #[] e1)->h'.get? kS=some (seqObj "list" #[] 0)->(∀b o,b≠a->s.heap.get? b=some o->h'.get? b=some o) ->
   ∃G:List Value->Shared->Prop,G [] { s with heap:=h' }/\(∀ks s,G ks s->∃e,s.heap.get? kS=some (seqObj "list" ks.toArray e)) /\
    (∀ks x r s,vs.drop ks.length=x::r->G ks s->wpAny (model prog w) A (call f [x]) (λk s2=>∃e,s2.heap.get? kS=some (seqObj "list" ks.toArray e)/\G (ks++[k]) { s2 with heap:=s2.heap.update kS (YT (·.push k)) }) (λ_ _=>False) s) /\
    ∀ks s',ks.length=vs.length->G ks s'->∃κ B,(ks.zip vs).Nodup/\(2<=vs.length->∀Q':YaC->Shared->Prop,Q' κ s'->wpAny (model prog w) A (YbE ks.toArray) Q' E s')/\Cmp prog w A s' κ (λx=>x∈ks.zip vs) B /\
     s'.heap.get? a=some (seqObj "list" #[] e1)/\∀out:List Keyed,out.Perm (ks.zip vs)->Srt B out->P (.done (.ret .none)) { s' with heap:=(s'.heap.update kS (YT λ_=>(#[]:Array Value))).update a (YT λ_=>(out.map (·.2)).toArray) }):
  wpAny (model prog w) A (ksk_tree a f false) P E s:=by
 have hz:=Xo hs
 have ha:a<s.heap.objs.size:=Ys ho
 obtain⟨e1,ho1⟩:∃e1,(s.heap.update a (YT λ_=>(#[]:Array Value))).get? a=some (seqObj "list" #[] e1):=⟨_,G5 ho λ_=>#[]⟩
 have hkS:((s.heap.update a (YT λ_=>(#[]:Array Value))).push (seqObj "tuple" vs.toArray 0)).objs.size=s.heap.objs.size+1:=by rw[Ybl,V8]
 have kp:∀b o,b≠a->s.heap.get? b=some o->(((s.heap.update a (YT λ_=>(#[]:Array Value))).push (seqObj "tuple" vs.toArray 0)).push (seqObj "list" #[] 0)).get? b=some o:=λb o hb q =>
  Ye _ (Ye _ (by rw[W0 _ _ _ _ hb];exact q))
 obtain⟨G,g0,gk,step,fin⟩:=h _ e1 (((s.heap.update a (YT λ_=>(#[]:Array Value))).push (seqObj "tuple" vs.toArray 0)).push (seqObj "list" #[] 0)) rfl (Ye _ (Ye _ ho1)) (by rw[<-hkS];exact Yt _ rfl) kp
 unfold ksk_tree
 refine Yb (Yb0 ho rfl ?_)
 refine Yb (Gh ho rfl ?_ (by rw[Yk];exact hz) (Wy _))
 refine Yb (Ya1 ho1 rfl ?_)
 refine Yb (Ybq ?_ (by show vs.length<=_;exact hz))
 refine Yb (Yag ?_ (Wy _))
 refine Wj ?_
 show wpAny _ _ (ksk_rest a f false vs.toArray e1 (.ref ((s.heap.update a (YT λ_=>(#[]:Array Value))).push (seqObj "tuple" vs.toArray 0)).objs.size)) _ _ { s with heap:=((s.heap.update a (YT λ_=>(#[]:Array Value))).push (seqObj "tuple" vs.toArray 0)).push (seqObj "list" #[] 0) }
 rw[hkS]
 unfold ksk_rest
 refine Yb (Vq ?_)
 first
  |rw[List.forIn_toArray]
  |(rw[<-Array.forIn_toList];simp only[List.toList_toArray])
  |rw[<-Array.forIn_toList]
 refine Yb (W2 (ZiA (n:=vs.length) (λx ks s' hlt hg hx=>?_) vs step vs [] _ (by simp) rfl g0) (λ_ s' hd=>?_) λ_ _ x=>x)
 ·refine Yb (Yaf (W2 hx (λk s'' hk=>?_) λ_ _ hF=>hF.elim))
  obtain⟨e,hk1,hk2⟩:=hk
  refine Yb (Gh hk1 rfl ?_ (by rw[Yk];omega) (YJ (Vt (Array.size_push ..)) (by rw[Yk];omega)))
  exact Yd ⟨rfl,k,hk2⟩
 ·obtain⟨ks,hl,hg⟩:=hd
  obtain⟨e,hke⟩:=gk ks s' hg
  obtain⟨κ,B,hN,hkk,hC,ha',fi⟩:=fin ks s' hl hg
  refine Yb (Yb0 hke rfl ?_)
  have hzip:(ks.toArray.zip vs.toArray).toList=ks.zip vs:=by simp
  have hka:a≠s.heap.objs.size+1:=YH (Wf ha)
  have tail:∀st:SortSt,failedOf st=none->(arrOf st).toList.Perm (ks.zip vs)->Srt B (arrOf st).toList->wpAny (model prog w) A (ksk_tail a false e1 (.ref (s.heap.objs.size+1)) st) P E s':=λst hf hp hs=>by
   have na:(s'.heap.update (s.heap.objs.size+1) (YT λ_=>(#[]:Array Value))).get? a=some (seqObj "list" #[] e1):=by
    rw[W0 _ _ _ _ hka]
    exact ha'
   have hlen:(arrOf st).size=vs.length:=by
    have:=hp.length_eq
    rw[YQ,Wo,hl,Ybd]at this
    exact this
   unfold ksk_tail
   refine Yb (Gh hke rfl ?_ (by rw[Yk];omega) (Wy _))
   refine Yb (wpAny_letGo ?_)
   refine Yb (Ya1 na rfl ?_)
   refine Yb (Gh na rfl ?_ (Wy _) (by
    show((arrOf st).map (·.2)).size<=_
    rw[Ybs,hlen];omega))
   rw[hf]
   simp only[bne_self_eq_false,YD,if_false]
   refine Yd ?_
   have:=fi (arrOf st).toList hp hs
   rw[show((arrOf st).toList.map (·.2)).toArray=(arrOf st).map (·.2) by rw[<-U9,Array.toArray_toList]]at this
   exact this
  unfold ksk_end
  simp only[YD,if_false]
  by_cases h2:vs.toArray.size<2
  ·rw[if_pos h2,if_pos h2]
   refine Yb (Yd ?_)
   rw[StateT.run_pure]
   refine Yb (Yd ?_)
   refine tail _ rfl (by show(ks.toArray.zip vs.toArray).toList.Perm _;rw[hzip]) ?_
   show Srt B (ks.toArray.zip vs.toArray).toList
   rw[hzip]
   refine ZmT ?_
   rw[Wo,hl,Ybd]
   simpa using h2
  ·rw[if_neg h2,if_neg h2]
   have h2':2<=vs.length:=by simp at h2;omega
   refine Yb (hkk h2' _ ?_)
   refine Yb (W2 (ZiJ (it:=ks.toArray.zip vs.toArray) hC (λx hx=>by rw[hzip]at hx;exact hx) (by rw[hzip];exact hN) (by simp;omega) (by simp;omega)) ?_ λ_ _ x=>x)
   rintro ⟨⟨⟩,st'⟩ s'' ⟨rfl,b1,b2,b3⟩
   exact tail st' b1 (by rw[hzip]at b2;exact b2) b3
theorem sk_call{l q:Addr}{vs:List Value}{Q:Value->Shared->Prop}(hl:s.heap.IsList l vs.toArray)(hs:vs.length<64)(h:∀D kS e1 h',s.heap.objs.size<=D->D<kS->h'.get? D=some (seqObj "list" #[] e1)->h'.get? kS=some (seqObj "list" #[] 0)->(∀b o,s.heap.get? b=some o->h'.get? b=some o) ->
   ∃G:List Value->Shared->Prop,G [] { s with heap:=h' }/\(∀ks s,G ks s->∃e,s.heap.get? kS=some (seqObj "list" ks.toArray e)) /\
    (∀ks x r s,vs.drop ks.length=x::r->G ks s->wpAny (model prog w) A.in1.in1 (call (.ref q) [x]) (λk s2=>∃e,s2.heap.get? kS=some (seqObj "list" ks.toArray e)/\G (ks++[k]) { s2 with heap:=s2.heap.update kS (YT (·.push k)) }) (λ_ _=>False) s) /\
    ∀ks s',ks.length=vs.length->G ks s'->∃κ B,(ks.zip vs).Nodup/\(2<=vs.length->∀(E':Value->Shared->Prop) (Q':YaC->Shared->Prop),Q' κ s'->wpAny (model prog w) A.in1.in1 (YbE ks.toArray) Q' E' s')/\Cmp prog w A.in1.in1 s' κ (λx=>x∈ks.zip vs) B /\
     s'.heap.get? D=some (seqObj "list" #[] e1)/\∀out:List Keyed,out.Perm (ks.zip vs)->Srt B out->Q (.ref D) { s' with heap:=(s'.heap.update kS (YT λ_=>(#[]:Array Value))).update D (YT λ_=>(out.map (·.2)).toArray) }):
  wpAny (model prog w) A (call (.builtin "sorted") [.ref l] [(Gg "key",.ref q)]) Q E s:=by
 have hz:=Xo hs
 refine call_function_entry_kw Yb8 YbV YbW (ksk_s1 _ _) ?_
 unfold Builtin.«sorted»
 refine Yb (m:=Ycf "sorted" 1 1 _) (Yd (Yb (collect_list hl (Yb (Yag ?_ (by simpa using hz))) hz)))
 have hsz:((s.heap.push (seqObj "list" #[] 0)).update s.heap.objs.size (YT (·++vs.toArray))).objs.size=s.heap.objs.size+1:=by rw[V8,Ybl]
 have hoL:(((s.heap.push (seqObj "list" #[] 0)).update s.heap.objs.size (YT (·++vs.toArray))).push (seqObj "list" vs.toArray 0)).get? (s.heap.objs.size+1)=some (seqObj "list" vs.toArray 0):=by
  rw[<-hsz];exact Yt _ rfl
 have kp:∀h':Heap,(∀b o,b≠s.heap.objs.size+1->(((s.heap.push (seqObj "list" #[] 0)).update s.heap.objs.size (YT (·++vs.toArray))).push (seqObj "list" vs.toArray 0)).get? b=some o->h'.get? b=some o)->∀b o,s.heap.get? b=some o->h'.get? b=some o:=λh' k b o q=>by
  have hlt:=Ys q
  refine k b o (YH (Wf hlt)) ?_
  rw[Um _ _ _ (by rw[hsz];exact YH (Wf hlt)),W0 _ _ _ _ (YH hlt),Um _ _ _ (YH hlt)]
  exact q
 show wpAny _ _ _ _ _ { s with heap:=((s.heap.push (seqObj "list" #[] 0)).update s.heap.objs.size (YT (·++vs.toArray))).push (seqObj "list" vs.toArray 0) }
 rw[hsz]
 refine Yb (Wj (wpAny_call_entry_kw Ybr ⟨_,hoL,rfl⟩ Yba ?_ (ksk_l1 _ _)))
 show wpAny (model prog w) A.in1.in1 (Builtin.«list.sort» ⟨[.ref (s.heap.objs.size+1)],[(Gg "key",.ref q)]⟩) _ _ _
 rw[ksk_t1]
 refine ZnL hoL hs λkS e1 h' hkS h1 h2 h3=>?_
 obtain⟨G,g0,gk,st,fin⟩:=h (s.heap.objs.size+1) kS e1 h' (U4 _) (by rw[hkS];exact Wf (Ys hoL)) h1 h2 (kp h' h3)
 refine⟨G,g0,gk,st,λks s' hk hg=>?_⟩
 obtain⟨κ,B,a1,a2,a3,a4,a5⟩:=fin ks s' hk hg
 exact⟨κ,B,a1,λz Q' q=>a2 z _ Q' q,a3,a4,λout p o=>⟨_,rfl,Yd ⟨_,rfl,a5 out p o⟩⟩⟩
end
end Ts
namespace Mi
open PySem PySem.Spec PyProof.Rows L2
theorem ZdC:∀x:List Int,lexI x x=false
 |[]=>rfl
 |a::x=>by rw[lexI,if_pos rfl,ZdC x]
theorem JW:∀{x y:List Int},lexI x y=true->lexI y x=false
 |[],[],h=>by cases h
 |[],_::_,_=>rfl
 |_::_,[],h=>by cases h
 |a::x,b::y,h=>by
  rw[lexI]at h ⊢
  by_cases e:a=b
  ·subst e
   rw[if_pos rfl]at h ⊢
   exact JW h
  ·rw[if_neg e]at h
   rw[if_neg (Ui e)]
   have:=of_decide_eq_true h
   exact decide_eq_false (by omega)
theorem Q3:∀{x y:List Int},lexI x y=false->lexI y x=false->x=y
 |[],[],_,_=>rfl
 |[],_::_,h,_=>by cases h
 |_::_,[],_,h=>by cases h
 |a::x,b::y,h1,h2=>by
  rw[lexI]at h1 h2
  by_cases e:a=b
  ·subst e
   rw[if_pos rfl]at h1 h2
   rw[Q3 h1 h2]
  ·rw[if_neg e]at h1
   rw[if_neg (Ui e)]at h2
   have h1:=of_decide_eq_false h1
   have h2:=of_decide_eq_false h2
   omega
theorem X5:∀{x y z:List Int},lexI y x=false->lexI z y=false->lexI z x=false
 |[],[],_,_,h=>h
 |[],_::_,[],_,_=>rfl
 |[],_::_,_::_,_,_=>rfl
 |_::_,[],_,h,_=>by cases h
 |_::_,_::_,[],_,h=>by cases h
 |a::x,b::y,c::z,h1,h2=>by
  rw[lexI]at h1 h2 ⊢
  by_cases e1:b=a
  ·by_cases e2:c=b
   ·rw[if_pos e1]at h1
    rw[if_pos e2]at h2
    rw[if_pos (e2.trans e1)]
    exact X5 h1 h2
   ·rw[if_neg e2]at h2
    have h2:=of_decide_eq_false h2
    rw[if_neg (by omega)]
    exact decide_eq_false (by omega)
  ·rw[if_neg e1]at h1
   have h1:=of_decide_eq_false h1
   by_cases e2:c=b
   ·rw[if_neg (by omega)]
    exact decide_eq_false (by omega)
   ·rw[if_neg e2]at h2
    have h2:=of_decide_eq_false h2
    rw[if_neg (by omega)]
    exact decide_eq_false (by omega)
theorem insI_perm(x:List Int):∀l:List (List Int),(insI x l).Perm (x::l)
 |[]=>.refl _
 |y::r=>by
  rw[insI]
  split
  ·exact((insI_perm x r).cons y).trans (.swap _ _ _)
  ·exact .refl _
theorem sortI_perm:∀xs:List (List Int),(sortI xs).Perm xs
 |[]=>.refl _
 |x::r=>(insI_perm x _).trans ((sortI_perm r).cons x)
theorem Zj2(x:List Int):∀{l:List (List Int)},l.Pairwise (λa b=>lexI b a=false)->(insI x l).Pairwise (λa b=>lexI b a=false)
 |[],_=>Uh _ _
 |y::r,h=>by
  rw[insI]
  obtain⟨h1,h2⟩:=Y6.mp h
  split
  ·rename_i q
   refine Y6.mpr ⟨λz hz=>?_,Zj2 x h2⟩
   rcases Yh.mp ((insI_perm x r).mem_iff.mp hz)with rfl|hz
   ·exact JW q
   ·exact h1 z hz
  ·rename_i q
   have q:lexI y x=false:=by simpa using q
   refine Y6.mpr ⟨λz hz=>?_,h⟩
   rcases Yh.mp hz with rfl|hz
   ·exact q
   ·exact X5 q (h1 z hz)
theorem Zgb:∀xs:List (List Int),(sortI xs).Pairwise (λa b=>lexI b a=false)
 |[]=>.nil
 |x::r=>Zj2 x (Zgb r)
theorem Zgc{xs ys:List (List Int)}(hp:ys.Perm xs)(hw:ys.Pairwise (λa b=>lexI b a=false)):ys=sortI xs:=
 Vu (λa b _ _ h1 h2=>Q3 h2 h1) hw (Zgb xs) (hp.trans (sortI_perm xs).symm)
section
open PySem.W
variable{prog:YK}{w:World}{A:Around}{E:Value->Shared->Prop}{s:Shared}
theorem ZjN{Q:Bool->Shared->Prop}{fin:Bool}:∀{vs ws:List Value}{ns ms:List Int}(i:Nat),U3 vs ns->U3 ws ms->fin=decide (ns.length<ms.length)->Q (lexI ns ms) s->KatLex prog w A true fin Q (vs.zip ws) i s
 |_,_,_,_,i,.nil,hw,hf,h=>by
  refine kat_nil ?_
  rw[hf]
  cases hw with
  |nil=>exact h
  |cons c u hw=>exact h
 |_,_,_,_,i,.cons a t hv,.nil,hf,h=>by
  refine kat_nil ?_
  rw[hf]
  exact h
 |_,_,_,_,i,.cons a t hv,.cons c u hw,hf,h=>by
  refine kat_cons (Ya3 ?_)
  rw[lexI]at h
  cases q:(a==c)with
  |true =>
   rw[if_pos (eq_of_beq q)]at h
   exact kat_yes (ZjN (i+1) hv hw (by rw[hf];simp) h)
  |false =>
   rw[if_neg (by simpa using q)]at h
   refine kat_no ?_
   cases z:(true&&i==0)with
   |true=>exact oneLt_int h
   |false=>exact kat_one _ _ (lt_int h)
def TI(h:Heap)(v:Value)(k:List Int):Prop:=∃a o its n,v=.ref a/\h.get? a=some o/\o.cls=.type "tuple"/\o.data=.seq its n/\U3 its.toList k
theorem TI.keep{h h':Heap}{v:Value}{k:List Int}(t:TI h v k)(kp:∀b o,h.get? b=some o->h'.get? b=some o):TI h' v k:=by
 obtain⟨a,o,its,n,e1,e2,e3⟩:=t
 exact⟨a,o,its,n,e1,kp _ _ e2,e3⟩
theorem Zmv{vs:List Value}{kf:Value->List Int}(hv:∀v∈vs,TI s.heap v (kf v))(inj:∀v∈vs,∀u∈vs,kf v=kf u->v=u)(h':Heap)(kp:∀b o,s.heap.get? b=some o->h'.get? b=some o):
  Ts.Cmp prog w A { s with heap:=h' } (tuples' true) (λx=>x∈(VH vs).toList) (λx y=>lexI (kf x.1) (kf y.1)):=by
 have mm:∀{x:Keyed},x∈(VH vs).toList->x.1=x.2/\x.1∈vs:=λh=>by rw[GX]at h;exact Yb1 h
 refine⟨λx y hx hy E Q q=>?_,λx y z _ _ _=>X5,λx y _ _=>JW,λx y hx hy h1 h2=>?_⟩
 ·obtain⟨a,o,its,n,e1,e2,e3,e4,e5⟩:=(hv _ (mm hx).2).keep kp
  obtain⟨b,p,jts,k,f1,f2,f3,f4,f5⟩:=(hv _ (mm hy).2).keep kp
  rw[e1,f1]
  refine kat_lt e2 e4 f2 f4 (ZjN 0 e5 f5 ?_ q)
  rw[<-e5.length,<-f5.length]
  simp
 ·have:=inj _ (mm hx).2 _ (mm hy).2 (Q3 h1 h2)
  exact Yb3 this (by rw[<-(mm hx).1,<-(mm hy).1];exact this)
theorem ZjQ{vs:List Value}{kf:Value->List Int}(hv:∀v∈vs,TI s.heap v (kf v))(hne:∀v∈vs,kf v≠[])(h0:0<vs.length){Q:YaC->Shared->Prop}(h:Q (tuples' true) s):wpAny (model prog w) A (YbE vs.toArray) Q E s:=by
 obtain⟨fs,hf,hfi,hl⟩:∃fs,KatTups s.heap vs fs/\(∀v∈fs,∃n t,v=V0 n t)/\fs.length=vs.length:=by
  clear h0 h
  induction vs with
  |nil=>exact⟨[],.nil,λv hv=>by simp at hv,rfl⟩
  |cons v vs ih =>
   obtain⟨fs,h1,h2,h3⟩:=ih (λu hu=>hv u (Yg _ hu)) (λu hu=>hne u (Yg _ hu))
   obtain⟨a,o,its,n,rfl,e2,e3,e4,e5⟩:=hv v Yp
   have hn:=hne _ Yp
   obtain⟨f,t,e6⟩:∃f t,its[0]?=some (V0 f t):=by
    rw[<-WM]
    cases q:kf (.ref a)with
    |nil=>exact absurd q hn
    |cons i r =>
     rw[q]at e5
     generalize its.toList=l at e5
     cases e5 with
     |cons i t _=>exact⟨i,t,rfl⟩
   refine⟨_::fs,.cons e2 e3 e4 e6 h1,λu hu=>?_,by simp[h3]⟩
   rcases Yh.mp hu with rfl|hu
   ·exact⟨f,t,rfl⟩
   ·exact h2 u hu
 refine kat_kind (T:=.type "int") hf (by omega) (λv hv=>?_) (by decide) h
 obtain⟨n,t,rfl⟩:=hfi v hv
 exact .now
theorem IntsAre.inj:∀{vs:List Value}{ns ms:List Int},U3 vs ns->U3 vs ms->ns=ms
 |_,_,_,.nil,.nil=>rfl
 |_,_,_,.cons a t h,.cons _ _ h2=>by rw[IntsAre.inj h h2]
theorem TI.inj{h:Heap}{v:Value}{k l:List Int}(t:TI h v k)(u:TI h v l):k=l:=by
 obtain⟨a,o,its,n,rfl,e2,e3,e4,e5⟩:=t
 obtain⟨b,p,jts,m,f1,f2,f3,f4,f5⟩:=u
 cases f1
 rw[e2]at f2;cases f2
 rw[e4]at f4;cases f4
 exact Mi.IntsAre.inj e5 f5
open Classical in
def kfn(h:Heap)(v:Value):List Int:=if p:∃k,TI h v k then p.choose else[]
theorem Zna{h:Heap}{v:Value}{k:List Int}(t:TI h v k):kfn h v=k:=by
 unfold kfn
 rw[dif_pos ⟨k,t⟩]
 exact(Exists.choose_spec (⟨k,t⟩:∃k,TI h v k)).inj t
theorem Zay:∀{ns:List Int}{us:List Value},Vals (ns.map V.int) us->U3 us ns
 |[],_,.nil=>.nil
 |n::ns,_,.cons ⟨t,e⟩ r=>by subst e;exact .cons n t (Zay r)
end
theorem ZdF:∀{ts:List T}{ns:List Int},ints? ts=some ns->ts=ns.map .int
 |[],_,h=>by cases h;rfl
 |t::r,ns,h=>by
  cases t with
  |int c =>
   have h:(ints? r).map (c::·)=some ns:=h
   cases q:ints? r with
   |none=>rw[q]at h;cases h
   |some ms=>rw[q]at h;cases h;rw[ZdF q];rfl
  |_=>cases h
theorem Zii:∀{ts:List T}{ks:List (List Int)},tups? ts=some ks->ts=ks.map tupT
 |[],_,h=>by cases h;rfl
 |t::r,ks,h=>by
  have h:((tupI? t).bind λk=>(tups? r).map (k::·))=some ks:=h
  cases t with
  |tup us =>
   have h:((ints? us).bind λk=>(tups? r).map (k::·))=some ks:=h
   cases q1:ints? us with
   |none=>rw[q1]at h;cases h
   |some k =>
    rw[q1]at h
    have h:(tups? r).map (k::·)=some ks:=h
    cases q2:tups? r with
    |none=>rw[q2]at h;cases h
    |some ls=>rw[q2]at h;cases h;rw[ZdF q1,Zii q2];rfl
  |_=>cases h
section
variable{K:Frag}{cm:List Addr}{m:Mem}{H:Hp}{xr:XR}{X:Cx}{call:Nat->List W->Mem->Res W}{gv:List T}
variable{e:Expr}{es:List Expr}{ea:E}{eas:Es}{pos p:Pos}
theorem RTs.intsV:∀{ns:List Int}{vs:List V},RTs K cm m H (ns.map .int) vs->vs=ns.map V.int
 |[],_,.nil=>rfl
 |n::ns,_,.cons r t=>by cases r;rw[RTs.intsV t];rfl
theorem Zik{pins:List (Addr×Obj)}{σ:L2.St}{s:Shared}(hK:X.K=K)(I:Inv X pins σ H s):∀{ks:List (List Int)}{vs:List V}{us:List Value},RTs K cm m H (ks.map tupT) vs->Vals vs us->Paired (λk u=>TI s.heap u k/\∃a,u=.ref a/\RT K cm m H (tupT k) (.ref a)) ks us
 |[],_,_,.nil,.nil=>.nil
 |k::ks,_,_,.cons r t,.cons rv tv=>by
  refine .cons ?_ (Zik hK I t tv)
  have r0:=r
  obtain⟨a,vs',rfl,hq,rr⟩:=r.itup
  cases rv
  cases RTs.intsV rr
  subst hK
  obtain⟨its,r',pl,hz⟩:=I.tuple hq
  obtain⟨o,ho,hc,n,hd⟩:=pl
  exact⟨⟨a,o,its.toArray,n,rfl,ho,hc,hd,by simpa using Zay r'⟩,a,rfl,r0⟩
theorem Jp{α β:Type}{f:α->β}{l:List α}(h:(l.map f).Nodup):l.Nodup:=(Wq.mp h).imp λq e=>q (congrArg f e)
theorem Zbj{α β:Type}{F:α->β->Prop}:∀{xs:List α}{ys:List β},Paired F xs ys->∀y∈ys,∃x∈xs,F x y
 |_,_,.nil,y,h=>by simp at h
 |_,_,.cons r t,y,h=>by
  rcases Yh.mp h with rfl|h
  ·exact⟨_,Yp,r⟩
  ·obtain⟨x,hx,hf⟩:=Zbj t y h
   exact⟨x,Yg _ hx,hf⟩
theorem Zej{α β:Type}{F:α->β->Prop}{f:β->α}(hf:∀x y,F x y->f y=x):∀{xs:List α}{ys:List β},Paired F xs ys->ys.map f=xs
 |_,_,.nil=>rfl
 |_,_,.cons r t=>by rw[Yq,hf _ _ r,Zej hf t]
theorem Zit{s:Shared}{A:Around}{E:Value->Shared->Prop}{l:Addr}{ks:List (List Int)}{us:List Value}{Q:Value->Shared->Prop}(P:Paired (λk u=>TI s.heap u k/\∃a,u=.ref a/\RT K cm m H (tupT k) (.ref a)) ks us)(hl:s.heap.IsList l us.toArray)(hz:us.length<64)(hN:ks.Nodup)(hne:(ks.all λk=>!k.isEmpty)=true)(h:∀out:List Value,(∃vs:List V,Vals vs out/\RTs K cm m H ((sortI ks).map tupT) vs)->Q (.ref (s.heap.objs.size+1)) { s with heap:=Ycu s.heap us out.toArray }):
  wpAny (model X.prog X.w) A (U8 (.builtin "sorted") [.ref l]) Q E s:=by
 have hv:∀u∈us,TI s.heap u (kfn s.heap u)/\kfn s.heap u∈ks/\∃a,u=.ref a/\RT K cm m H (tupT (kfn s.heap u)) (.ref a):=λu hu=>by
  obtain⟨k,hk,t,r⟩:=Zbj P u hu
  rw[Zna t]
  exact⟨t,hk,r⟩
 have hm:us.map (kfn s.heap)=ks:=Zej (λk u r=>Zna r.1) P
 have nd:(us.map (kfn s.heap)).Nodup:=by rw[hm];exact hN
 have inj:∀v∈us,∀u∈us,kfn s.heap v=kfn s.heap u->v=u:=λv hv' u hu e=>by
  obtain⟨i,hi,rfl⟩:=Gq.mp hv'
  obtain⟨j,hj,rfl⟩:=Gq.mp hu
  have:=(V4 (h₀:=by simpa using hi) (h₁:=by simpa using hj) nd).mp (by simpa using e)
  subst this;rfl
 have ndu:us.Nodup:=Jp nd
 have ndp:(VH us).toList.Nodup:=by
  rw[GX]
  have:(us.zip us).map (·.1)=us:=by rw[V9 (Yj _)]
  exact Jp (f:=(·.1)) (by rw[this];exact ndu)
 have hn0:∀v∈us,kfn s.heap v≠[]:=λv hv' z=>by
  have:=Wa.mp hne _ (hv v hv').2.1
  rw[z]at this
  cases this
 refine Ts.so_call (κ:=tuples' true) (B:=λx y=>lexI (kfn s.heap x.1) (kfn s.heap y.1)) hl hz ndp (λh2 A' h' kp E' Q' q=>?_) (λA' h' kp=>Zmv (λv hv'=>(hv v hv').1) inj h' kp) λout hp hs=>?_
 ·exact ZjQ (s:={ s with heap:=h' }) (λv hv'=>(hv v hv').1.keep kp) hn0 (by omega) q
 ·have mm:∀x∈out.toList,x.1=x.2/\x.1∈us:=λx hx=>by
   have:=hp.mem_iff.mp hx
   rw[GX]at this
   exact Yb1 this
  have e2:(out.map (·.2)).toList=out.toList.map (·.1):=by
   rw[U9]
   exact GD λx hx=>((mm x hx).1).symm
  have pu:(out.toList.map (·.1)).Perm us:=by
   have:=hp.map (·.1)
   rw[GX,V9 (Yj _)]at this
   exact this
  have ek:(out.toList.map (·.1)).map (kfn s.heap)=sortI ks:=by
   refine Zgc ?_ ?_
   ·have:=pu.map (kfn s.heap)
    rw[hm]at this
    exact this
   ·rw[Y0]
    exact Wq.mpr hs
  have fin:∀os:List Value,(∀u∈os,u∈us)->∃vs:List V,Vals vs os/\RTs K cm m H ((os.map (kfn s.heap)).map tupT) vs:=λos ho=>by
   induction os with
   |nil=>exact⟨[],.nil,.nil⟩
   |cons u os ih =>
    obtain⟨vs,h1,h2⟩:=ih λv hv'=>ho v (Yg _ hv')
    obtain⟨_,_,a,rfl,r⟩:=hv u (ho u Yp)
    exact⟨.ref a::vs,.cons rfl h1,.cons r h2⟩
  obtain⟨vs,h1,h2⟩:=fin (out.toList.map (·.1)) λu hu=>pu.mem_iff.mp hu
  rw[ek]at h2
  have:=h (out.toList.map (·.1)) ⟨vs,h1,h2⟩
  rw[<-e2]at this
  exact this
theorem Inv.notK1{pins:List (Addr×Obj)}{σ:L2.St}{s:Shared}(I:Inv X pins σ H s):X.K.lookup (s.heap.objs.size+1)=none:=by
 cases q:X.K.lookup (s.heap.objs.size+1)with
 |none=>rfl
 |some o=>exact absurd (Ys (I.kIn _ _ q)) (Nat.not_lt_of_le (U4 _))
theorem ZgZ{pins:List (Addr×Obj)}{s:Shared}{σ:L2.St}{ts:List T}{r:T}{l:Addr}{vs:List V}(I:Inv X pins σ H s)(h1:H l=some (.lst vs))(r1:RTs X.K cm m H ts vs)(eb:ZcM ts=some r){Q:VK}(q:∀os:List T,r=.lst os->∀us:List V,RTs X.K cm m H os us->∀p,H p=none->X.K.lookup p=none->Q (.ref p) (upd H p (.lst us))):wpAny (model X.prog X.w) X.A (U8 (.builtin "sorted") [.ref l]) (EP X pins σ Q) X.xe s:=by
 have eb:((tups? ts).bind λks=>if ks.Nodup/\ks.length<64/\(ks.all λk=>!k.isEmpty)=true then some (T.lst ((sortI ks).map tupT))else none)=some r:=eb
 cases qt:tups? ts with
 |none=>rw[qt]at eb;cases eb
 |some ks =>
  rw[qt]at eb
  have eb:(if ks.Nodup/\ks.length<64/\(ks.all λk=>!k.isEmpty)=true then some (T.lst ((sortI ks).map tupT))else none)=some r:=eb
  by_cases hc:ks.Nodup/\ks.length<64/\(ks.all λk=>!k.isEmpty)=true
  case neg=>rw[if_neg hc]at eb;cases eb
  rw[if_pos hc]at eb
  obtain rfl:T.lst ((sortI ks).map tupT)=r:=YG eb
  obtain⟨hN,hL,hne⟩:=hc
  cases Zii qt
  obtain⟨its,rv',pl,hz⟩:=I.list (.of h1)
  have hl:=rv'.length
  have hl2:=r1.length
  rw[Yc]at hl2
  have hsl:=WW
  refine Zit (X:=X) (Zik rfl I r1 rv') pl.isList (by omega) hN hne λout ⟨us,h2,h3⟩=>?_
  obtain⟨ep,hat⟩:=sortedAll_at s.heap its out.toArray
  have hlen:=h2.length
  have hl3:=h3.length
  have hpl:(sortI ks).length=ks.length:=(sortI_perm ks).length_eq
  rw[Yc]at hl3
  refine⟨.ref (s.heap.objs.size+1),_,I.laid (t':=s.toks) (o:=.lst us) (a:=s.heap.objs.size+1) (λb ob q=>sortedAll_old q) (U4 _) ?_,rfl,q _ rfl us h3 _ (I.hok.fresh (U4 _)) (Mi.Inv.notK1 I)⟩
  refine⟨by omega,out,ep,h2,?_⟩
  simpa[seqObj]using hat
theorem ZfT:Xm X (.builtin "sorted") (rN X.K xr (fBlt .sortt)):=by
 rintro pins s σ H xs us Q I r ⟨cm,m,ws,M,rws,ho⟩
 obtain⟨w,v,t,rr,rfl,rfl,rv,e,eb,ho⟩:=blt1 rws (Js (by decide)) ho
 cases t with
 |lst ts =>
  have eb:ZcM ts=some rr:=eb
  obtain⟨a,vs,rfl,h1,r1⟩:=ZJ M rv e
  obtain⟨u,rfl,ru⟩:=vals1 r
  cases ru
  exact ZgZ I h1 r1 eb λos e us h3 p hp hk=>by
   subst e
   exact Zcy ho M h3 hp
 |_=>cases eb
theorem Zhl(hg:Gl X "sorted")(hm:X.mg "sorted" = none)(ha:PA X (e::es) (tA X.K call gv xr eas))(he:notStar e=true)(hpl:es.all notStar=true):PE X (.Call (.Name "sorted" p) (e::es) [] pos) (tE X.K call gv xr (.blt .sortt eas)):=X4 ZfT (by decide +kernel) hg hm ha (by decide) (by decide) he hpl
end
section
variable{K:Frag}{cm:List Addr}{m:Mem}{H:Hp}{xr:XR}{X:Cx}{call:Nat->List W->Mem->Res W}{gv:List T}
variable{e:Expr}{es:List Expr}{ea:E}{eas:Es}{pos p p2:Pos}{rest:List Stmt}{k:S}{n:Nat}
theorem ZoD{xs ts ys:List T}{t:T}(h:mutM .extend xs ts=some (t,ys)):∃us,ts=[.lst us]/\xs.length+us.length<=lim/\t=.non/\ys=xs++us:=by
 cases ts with
 |nil=>cases h
 |cons a r =>
  cases r with
  |nil =>
   cases a with
   |lst us =>
    have h:(if xs.length+us.length<=lim then some (T.non,xs++us)else none)=some (t,ys):=h
    split at h<;>cases h
    exact⟨us,rfl,‹_›,rfl,rfl⟩
   |_=>cases h
  |cons b r=>cases a<;>cases h
theorem Zhy:MtR X "list.extend" (rM X.K xr .extend):=by
 rintro pins s σ H x xs v us Q I rx rs ⟨cm,m,w,ws,M,rw',rws,ho⟩
 cases w with
 |t t=>exact ho.elim
 |f a=>exact ho.elim
 |x _ _ _=>exact ho.elim
 |c i =>
  have ho:OkR X.K ((frzs ws m).bind λts m=>match m[i]? with
   |some (some (false,xs))=>match mutM .extend xs ts with
    |some (t,ys)=>.ok (W.t t) (m.set i (some (false,ys)))
    |none=>.stuck
   |_=>.stuck) xr cm m H _:=ho
  obtain⟨ts,m2,e2,o2⟩:=Xy ho
  obtain⟨x2,M2,r2⟩:=X8 M rws e2
  obtain⟨a,ha,rfl⟩:=rw'
  split at o2
  ·rename_i ys e3
   split at o2
   ·rename_i t zs e4
    obtain⟨b,vs,q1,q2,q3,q4⟩:=M2.at' i _ e3
    rw[ha]at q1;cases q1
    have l4:=q4.length
    dsimp only at l4
    have hz:=ZV
    obtain⟨us',rfl,hlt,rfl,rfl⟩:=ZoD e4
    cases r2 with
    |cons r3 r0 =>
     cases r0
     obtain⟨c,ws',rfl,h3,_,r4⟩:=r3.ilst
     have l5:=r4.length
     obtain⟨x5,M5⟩:=Xz M2 e3 ha (ZZ q4 r4)
     exact Zjy pins s σ H _ _ v us Q I rx rs ⟨a,c,vs,ws',rfl,rfl,q2,h3,by omega,OkR.to o2 (x2.trans x5) M5 _ .non⟩
   ·exact o2.elim
  ·exact o2.elim
theorem Zhn{o:Expr}{apos cpos:Pos}(ho:PE X o (tE X.K call gv xr ea))(ha:PA X [e] (tA X.K call gv xr eas))(hbase:YaW o "extend" X.env (eval o X.env)=eval o X.env:=by rfl)(hline:(apos.endLine==cpos.line)=true:=by rfl)(hs:notStar e=true:=by rfl):
  PE X (.Call (.Attribute o "extend" apos) [e] [] cpos) (tE X.K call gv xr (.mth .extend ea eas)):=by
 refine PE.mono (Zoo VF PySem.F.slot_list_extend PySem.F.type_list_extend (Zhy (xr:=xr)) ho ha hbase (few1 hs) hline (J8 hs) (ZcL rfl)) ?_
 rintro σ H Q ⟨env,cm,m,hE,M,hq⟩
 rw[ev]at hq
 refine⟨env,cm,m,hE,M,hq.bind.mono λw cm1 m1 H1 x1 M1 o1 v rv=>?_⟩
 obtain⟨ht,o1⟩:=Zc1 o1
 refine⟨?_,env,cm1,m1,hE.ext x1 M M1,M1,o1.bind.mono λws cm2 m2 H2 x2 M2 o2 vs rvs=>?_⟩
 ·cases w with
  |t t=>cases ht
  |f a=>cases ht
  |x _ _ _=>cases ht
  |c i =>
   obtain⟨a,h1,rfl⟩:=rv
   have ht:(match m1[i]? with
    |some (some _)=>true
    |_=>false)=true:=ht
   split at ht
   ·rename_i c e1
    obtain⟨b,vs,q1,q2,_⟩:=M1.at' i _ e1
    rw[h1]at q1;cases q1
    exact .inl ⟨rfl,vs,.of q2⟩
   ·cases ht
 ·exact⟨cm2,m2,w,ws,M2,rv.ext x2 M1 M2,rvs,o2⟩
theorem ZnO{bs ys:List (List Nat)}(hp:(ys.map λc=>(⟨c.toArray⟩:Str)).Perm (dl (bs.map λc=>(⟨c.toArray⟩:Str))))(hs:sortedS (ys.map λc=>(⟨c.toArray⟩:Str))=true):ys=Zv bs:=by
 have hw:ys.Pairwise (λa b=>nlt b a=false):=by
  cases ys with
  |nil=>exact .nil
  |cons y ys=>exact ZiM ys y hs
 have hn:ys.Nodup:=by
  have h1:(ys.map λc=>(⟨c.toArray⟩:Str)).Nodup:=hp.nodup_iff.mpr (dl_nd _)
  exact(Wq.mp h1).imp λ{a b} h e=>h (by rw[e])
 have hq:∀(l:List (List Nat)) c,c∈l↔(⟨c.toArray⟩:Str)∈l.map λc=>(⟨c.toArray⟩:Str):=λl c=>by
  constructor
  ·exact λh=>Yz.mpr ⟨c,h,rfl⟩
  ·intro h
   obtain⟨d,hd,e⟩:=Yz.mp h
   rw[<-ZjC e]
   exact hd
 have hm:∀c,c∈ys↔c∈Zv bs:=λc=>by
  rw[JM,hq ys,hq bs,hp.mem_iff,dl_mem]
 have hpm:ys.Perm (Zv bs):=(List.perm_ext_iff_of_nodup hn (Xn bs)).mpr hm
 exact Vu (λa b _ _ h1 h2=>ZdA h2 h1) hw ((ZaV bs).imp λ{a b} h=>ZoC h) hpm
theorem Zeg{elt target iter:Expr}{ifs:List Expr}{gs:List We}{scope:Scope}{N':List Str}{own:Nat}{keep:List Nat}{it:E}{tg:Tg}{cs:Es}(hc:X.calm=true)(hg1:Gl X "sorted")(hm1:X.mg "sorted" = none)(k:CompK X xr0 call gv N' scope own keep elt target iter ifs gs it tg cs (.emit ea)):
  PE X (.Call (.Name "sorted" p) [.SetComp elt (⟨target,iter,ifs,0⟩::gs) scope p2] [] pos) (tE X.K call gv xr (.blt .sortset (.cons (.comp own keep it tg cs (.emit ea)) .nil))):=by
 rintro pins s σ H Q I ⟨env,cm,m,hE,M,ho⟩
 rw[ev]at ho
 refine Ge (Zb5 I hg1 hm1 (show Gb "sorted" = some (.builtin "sorted")from by decide +kernel) ?_ (by decide) (by decide))
 refine Gx ?_ rfl rfl
 show wpAny _ _ (Ycv ((false,eval (.SetComp elt (⟨target,iter,ifs,0⟩::gs) scope p2) X.env)::backTo pos [])) _ _ s
 refine Yaw ?_
 cases h:ev call gv (.comp own keep it tg cs (.emit ea)) env m with
 |stuck =>
  rw[evs,h]at ho
  exact ho.elim
 |exc e m'=>exact absurd h (JD e m')
 |ok w m' =>
  obtain⟨out,rfl⟩:=Xh h
  rw[evs,h]at ho
  have ho:OkR X.K (pur ((views [W.t (.lst out)] m').bind λts=>bltT .sortset ts) m') xr cm m H _:=ho
  have ho:OkR X.K (pur ((strs? out).bind λxs=>if xs.length<64 then some (T.lst ((Zv xs).map .str))else none) m') xr cm m H _:=ho
  cases q:strs? out with
  |none=>rw[q]at ho;exact ho.elim
  |some bs =>
   rw[q]at ho
   have ho:OkR X.K (pur (if bs.length<64 then some (T.lst ((Zv bs).map .str))else none) m') xr cm m H _:=ho
   split at ho
   ·rename_i h64
    have ho:OkR X.K (Res.ok (W.t (T.lst ((Zv bs).map .str))) m') xr cm m H _:=ho
    obtain⟨hst,hsl⟩:=Zdb q
    rw[arm_eval_SetComp]
    refine Zc3 hc k.sc k.hown k.hkeep (λx hx e=>by rw[k.sc.look x hx,e]) k.pi k.fs k.ins k.dis k.slt I hE M (by omega) hst h ?_
    rintro D C s3 H3 cm3 vs I3 ⟨ss,rfl,hS⟩ x3 M3 r3 ⟨mm,hm⟩ fC nDC
    refine⟨mm,hm,λh' hs'=>?_⟩
    have I4:Inv X pins σ H3 { s3 with heap:=h' }:=I3.turned (t':=s3.toks) (it:=C) (λb o hb e=>(hs'.2 b hb).trans e) fC.1 fC.2.1 fC.2.2.2.1 fC.2.2.2.2.1 fC.2.2.2.2.2
    have e1:=RTs.strs r3 q
    have e2:ss=bs.map λc=>(⟨c.toArray⟩:Str):=by
     have e3:ss.map V.str=(bs.map λc=>(⟨c.toArray⟩:Str)).map V.str:=by rw[e1,Y0];rfl
     exact(List.map_inj_right (λa b e=>by injection e)).mp e3
    subst e2
    have hS:SetS X.prog X.w (Zfv X.w) h' D (dl (bs.map λc=>(⟨c.toArray⟩:Str))):=hS.at' λo e=>(hs'.2 D nDC).trans e
    have hlen:=Zkt (bs.map λc=>(⟨c.toArray⟩:Str))
    rw[Yc]at hlen
    have hA:X.A.handled=none:=I4.ok.hd hc
    refine Yd ?_
    refine Zg0 (s:={ s3 with heap:=h' }) hA hS (by omega) λh2 tk2 d l out ss' ep hso hperm hsort hat hle kp2 ht=>?_
    obtain⟨ys,rfl,hv⟩:=Zin hso
    have ey:=ZnO hperm hsort
    subst ey
    have hvl:=hv.length
    have hsl:=WW
    have hpl:(Zv bs).length<=bs.length:=by
     have:=hperm.length_eq
     rw[Yc]at this
     omega
    have I5:Inv X pins σ (upd H3 l (.lst ((Zv bs).map λc=>V.str ⟨c.toArray⟩))) { s3 with heap:=h2,toks:=tk2 }:=
     I4.laid (t':=tk2) (o:=.lst ((Zv bs).map λc=>V.str ⟨c.toArray⟩)) kp2 hle ⟨by rw[Yc];omega,out,ep,hv,by simpa[seqObj]using hat⟩
    have hp:=I4.hok.fresh hle
    exact⟨.ref l,_,Inv.redraw I5,rfl,OkR.to ho (x3.trans (.new hp)) (M3.new hp) _ (RT.newLst M3 (ZnF _) hp)⟩
   ·exact ho.elim
theorem pg_lst{es:List Expr}{k:Nat}{t:TGs}{n:Nat}(hc:X.calm=true)(h:PGs X es t)(hn:(Y7 es X.env).length=n:=by rfl)(hst:(Y7 es X.env).findIdx? (·.1)=none:=by rfl):PG X (.Tuple es k pos) (λv σ H Q=>∃a xs,v=.ref a/\H a=some (.lst xs)/\xs.length=n/\t xs σ H Q):=by
 intro pins s σ H v u Q I r hw
 obtain⟨a,xs,e1,hq,hl,hw⟩:=hw
 subst e1
 cases r
 obtain⟨its,rv,ht,hz⟩:=I.list (.of hq)
 have hlen:=rv.length
 rw[assign_Tuple]
 refine Yb (W8 ?_)
 unfold unpack
 rw[hn,hst,show n=its.toArray.size by simp;omega]
 refine Yb (Wj (PySem.W.kun_itemsOf (I.ok.hd hc) ht.isList λh' hx=>?_))
 have I1:Inv X pins σ H { s with heap:=h' }:=I.kept (t':=s.toks) λb o e=>hx b o (YH (Ys e)) e
 exact h pins _ σ H xs _ Q I1 (by simpa using rv) hw
def gLs(is:List Nat):TG:=λv σ H Q=>∃a xs,v=.ref a/\H a=some (.lst xs)/\xs.length=is.length/\Q (setAll is xs σ) H
theorem ZlK(i0:Nat)(i1:Nat)(i2:Nat){x0 x1 x2:Str}{p0 p1 p2:Pos}{kk:Nat}(hc:X.calm=true)(hN:X.N.Nodup)(hi0:X.N[i0]?=some x0:=by rfl)(hi1:X.N[i1]?=some x1:=by rfl)(hi2:X.N[i2]?=some x2:=by rfl)(hx0:Loc X.env.scope x0:=by first|exact Or.inl rfl|exact Or.inr rfl)(hx1:Loc X.env.scope x1:=by first|exact Or.inl rfl|exact Or.inr rfl)(hx2:Loc X.env.scope x2:=by first|exact Or.inl rfl|exact Or.inr rfl)(hf0:X.fn x0=true∨X.env.scope.names.lookup x0=some .local:=by first|exact .inl rfl|exact .inr rfl)(hf1:X.fn x1=true∨X.env.scope.names.lookup x1=some .local:=by first|exact .inl rfl|exact .inr rfl)(hf2:X.fn x2=true∨X.env.scope.names.lookup x2=some .local:=by first|exact .inl rfl|exact .inr rfl)(hs0:(Y7 [.Name x0 p0,.Name x1 p1,.Name x2 p2] X.env).map (·.2)=assign (.Name x0 p0) X.env::(Y7 [.Name x1 p1,.Name x2 p2] X.env).map (·.2):=by rfl)(hs1:(Y7 [.Name x1 p1,.Name x2 p2] X.env).map (·.2)=assign (.Name x1 p1) X.env::(Y7 [.Name x2 p2] X.env).map (·.2):=by rfl)(hs2:(Y7 [.Name x2 p2] X.env).map (·.2)=assign (.Name x2 p2) X.env::(Y7 [] X.env).map (·.2):=by rfl)(hn:(Y7 [.Name x0 p0,.Name x1 p1,.Name x2 p2] X.env).length=3:=by rfl)(hst:(Y7 [.Name x0 p0,.Name x1 p1,.Name x2 p2] X.env).findIdx? (·.1)=none:=by rfl):PG X (.Tuple [.Name x0 p0,.Name x1 p1,.Name x2 p2] kk pos) (gLs [i0,i1,i2]):=by
 rintro pins s σ H v u Q I r ⟨a,xs,e1,h1,h2,h3⟩
 refine pg_lst hc (Jm (JS hN hi0 hx0 hf0) (Jm (JS hN hi1 hx1 hf1) (Jm (JS hN hi2 hx2 hf2) Zfo hs2) hs1) hs0) hn hst pins s σ H v u Q I r ⟨a,xs,e1,h1,h2,?_⟩
 rcases xs with _|⟨v0,_|⟨v1,_|⟨v2,_|⟨v3,r⟩⟩⟩⟩
 ·cases h2
 ·cases h2
 ·cases h2
 ·exact⟨v0,[v1,v2],rfl,v1,[v2],rfl,v2,[],rfl,rfl,h3⟩
 ·cases h2
theorem ZiR{tg:Expr}{is:List Nat}(hN:∀i∈is,i<n)(h:PE X e (tE X.K call gv xr ea))(hg:PG X tg (gLs is))(hk:PSs X rest (tS X.K call gv xr n k))(hs:YaT [tg] e pos.line X.env=pure false:=by rfl)(hw:YaU [tg] e X.env=pure none:=by rfl)(h1:(Y7 [tg] X.env).map (·.2)=[assign tg X.env]:=by rfl):PSs X (.Assign [tg] e pos::rest) (tS X.K call gv xr n (.asgL is ea k)):=by
 refine PSs.mono (Q0 (ZiU h hg hs hw h1) hk) ?_
 rintro D σ H ⟨hl,env,cm,m,hE,M,ho⟩
 rw[ex]at ho
 refine⟨env,cm,m,hE,M,ho.bind.mono λw cm1 m1 H1 x1 M1 o1 v rv=>?_⟩
 cases w with
 |f a=>exact o1.elim
 |x _ _ _=>exact o1.elim
 |c i=>exact o1.elim
 |t t =>
  cases t with
  |lst ts =>
   have o1:OkR X.K (match Qn (.tp is) (.tup ts) env with
    |some env=>ex call gv k env m1
    |none=>.stuck) xr cm1 m1 H1 _:=o1
   have eb:Qn (.tp is) (.tup ts) env=if ts.length=is.length then some ((is.zip ts).foldl (λenv p=>env.set p.1 (some (.t p.2))) env)else none:=rfl
   by_cases hlen:ts.length=is.length
   ·rw[eb,if_pos hlen]at o1
    obtain⟨a,vs,rfl,h2,_,r2⟩:=RT.ilst rv
    exact⟨a,vs,rfl,h2,by rw[<-r2.length];exact hlen,(JP _ _ _).trans hl,_,cm1,m1,EnvR.setAll (hE.ext x1 M M1) r2 (λj hj=>by rw[hl];exact hN j hj),M1,o1⟩
   ·rw[eb,if_neg hlen]at o1
    exact o1.elim
  |_=>exact o1.elim
def iv:Value->Int
 |.int n _=>n
 |_=>0
theorem Znc:∀{us:List Value}{ns:List Int},U3 us ns->us.map iv=ns
 |_,_,.nil=>rfl
 |_,_,.cons n t r=>by rw[Yq,Znc r];rfl
theorem ints_of:∀{us:List Value}{ns:List Int},U3 us ns->∀os:List Value,(∀u∈os,u∈us)->U3 os (os.map iv):=λ{us ns} h os ho=>by
 have mem:∀u∈us,∃n t,u=V0 n t:=λu hu=>by
  clear ho
  induction h with
  |nil=>cases hu
  |cons n t r ih =>
   rcases Yh.mp hu with rfl|hu
   ·exact⟨n,t,rfl⟩
   ·exact ih hu
 induction os with
 |nil=>exact .nil
 |cons u os ih =>
  obtain⟨n,t,rfl⟩:=mem u (ho u Yp)
  exact .cons n t (ih λv hv=>ho v (Yg _ hv))
theorem lex1(a b:Int):lexI [a] [b]=decide (a<b):=by
 by_cases h:a=b
 ·subst h
  rw[lexI,if_pos rfl]
  simp[lexI]
 ·rw[lexI,if_neg h]
theorem Ziu{s:Shared}{A:Around}{E:Value->Shared->Prop}{l:Addr}{ns:List Int}{us:List Value}{Q:Value->Shared->Prop}(P:U3 us ns)(hl:s.heap.IsList l us.toArray)(hz:us.length<64)(hN:ns.Nodup)(h:∀out:List Value,U3 out ((sortI (ns.map λn=>[n])).map λk=>k.headD 0)->Q (.ref (s.heap.objs.size+1)) { s with heap:=Ycu s.heap us out.toArray }):
  wpAny (model X.prog X.w) A (U8 (.builtin "sorted") [.ref l]) Q E s:=by
 have hm:us.map iv=ns:=Znc P
 have nd:(us.map iv).Nodup:=by rw[hm];exact hN
 have inj:∀v∈us,∀u∈us,iv v=iv u->v=u:=λv hv' u hu e=>by
  obtain⟨i,hi,rfl⟩:=Gq.mp hv'
  obtain⟨j,hj,rfl⟩:=Gq.mp hu
  have:=(V4 (h₀:=by simpa using hi) (h₁:=by simpa using hj) nd).mp (by simpa using e)
  subst this;rfl
 have ndu:us.Nodup:=Jp nd
 have ndp:(VH us).toList.Nodup:=by
  rw[GX]
  have:(us.zip us).map (·.1)=us:=by rw[V9 (Yj _)]
  exact Jp (f:=(·.1)) (by rw[this];exact ndu)
 have mz:∀{x:Keyed},x∈(VH us).toList->x.1=x.2/\x.1∈us:=λh=>by rw[GX]at h;exact Yb1 h
 have form:∀u∈us,∃t,u=V0 (iv u) t:=λu hu=>by
  have:=ints_of P [u] (λv hv=>by rw[Ud.mp hv];exact hu)
  generalize e1:[u]=l1 at this
  generalize e2:l1.map iv=l2 at this
  cases this with
  |nil=>cases e1
  |cons n t r =>
   injection e1 with e1 _
   subst e1
   exact⟨t,rfl⟩
 refine Ts.so_call (κ:=Yb4) (B:=λx y=>lexI [iv x.1] [iv y.1]) hl hz ndp (λh2 A' h' kp E' Q' q=>?_) (λA' h' kp=>⟨λx y hx hy E Q q=>?_,λx y z _ _ _=>X5,λx y _ _=>JW,λx y hx hy h1 h2=>?_⟩) λout hp hs=>?_
 ·obtain⟨v1,v2,vr,rfl⟩:∃v1 v2 vr,us=v1::v2::vr:=by
   rcases us with _|⟨a,_|⟨b,r⟩⟩
   ·simp at h2
   ·simp at h2
   ·exact⟨a,b,r,rfl⟩
  rw[keyKind_ints P]
  exact Yd q
 ·obtain⟨t,e1⟩:=form _ (mz hx).2
  obtain⟨u,e2⟩:=form _ (mz hy).2
  rw[lex1]at q
  rw[e1,e2]
  exact PySem.W.kat_lt_int q
 ·have e0:iv x.1=iv y.1:=by
   have:=Q3 h1 h2
   injection this
  have:=inj _ (mz hx).2 _ (mz hy).2 e0
  exact Yb3 this (by rw[<-(mz hx).1,<-(mz hy).1];exact this)
 ·have mm:∀x∈out.toList,x.1=x.2/\x.1∈us:=λx hx=>mz (hp.mem_iff.mp hx)
  have e2:(out.map (·.2)).toList=out.toList.map (·.1):=by
   rw[U9]
   exact GD λx hx=>((mm x hx).1).symm
  have pu:(out.toList.map (·.1)).Perm us:=by
   have:=hp.map (·.1)
   rw[GX,V9 (Yj _)]at this
   exact this
  have ek:(out.toList.map (·.1)).map (λv=>[iv v])=sortI (ns.map λn=>[n]):=by
   refine Zgc ?_ ?_
   ·have:=pu.map (λv=>[iv v])
    rw[show us.map (λv=>[iv v])=ns.map λn=>[n] by rw[<-hm,Y0];rfl]at this
    exact this
   ·rw[Y0]
    exact Wq.mpr hs
  have i1:=ints_of P (out.toList.map (·.1)) λu hu=>pu.mem_iff.mp hu
  have e3:(out.toList.map (·.1)).map iv=(sortI (ns.map λn=>[n])).map λk=>k.headD 0:=by
   rw[<-ek,Y0,Y0,Y0]
   rfl
  rw[e3]at i1
  have:=h (out.toList.map (·.1)) i1
  rw[<-e2]at this
  exact this
theorem ZgB:∀ns:List Int,RTs K cm m H (ns.map .int) (ns.map V.int)
 |[]=>.nil
 |n::ns=>.cons (.int n) (ZgB ns)
theorem ZfU:Xm X (.builtin "sorted") (rN X.K xr (fBlt .sortn)):=by
 rintro pins s σ H xs us Q I r ⟨cm,m,ws,M,rws,ho⟩
 obtain⟨w,v,t,rr,rfl,rfl,rv,e,eb,ho⟩:=blt1 rws (Js (by decide)) ho
 cases t with
 |lst ts =>
  have eb:((ints? ts).bind λns=>if ns.Nodup/\ns.length<64 then some (T.lst ((sortI (ns.map λn=>[n])).map λk=>.int (k.headD 0)))else none)=some rr:=eb
  cases qt:ints? ts with
  |none=>rw[qt]at eb;cases eb
  |some ns =>
   rw[qt]at eb
   have eb:(if ns.Nodup/\ns.length<64 then some (T.lst ((sortI (ns.map λn=>[n])).map λk=>.int (k.headD 0)))else none)=some rr:=eb
   by_cases hc:ns.Nodup/\ns.length<64
   case neg=>rw[if_neg hc]at eb;cases eb
   rw[if_pos hc]at eb
   cases eb
   obtain⟨a,vs,rfl,h1,r1⟩:=ZJ M rv e
   obtain⟨u,rfl,ru⟩:=vals1 r
   cases ru
   cases ZdF qt
   cases RTs.intsV r1
   obtain⟨its,rv',pl,hz⟩:=I.list (.of h1)
   have hi:=Zay rv'
   have hl:=hi.length
   have hsl:=WW
   have hc2:=hc.2
   refine Ziu (X:=X) hi pl.isList (by omega) hc.1 λout ho'=>?_
   obtain⟨ep,hat⟩:=sortedAll_at s.heap its out.toArray
   have hl2:=ho'.length
   have hpl:(sortI (ns.map λn=>[n])).length=ns.length:=by rw[(sortI_perm _).length_eq,Yc]
   have hv:=ZbP ho'
   rw[Yc]at hl2
   refine⟨.ref (s.heap.objs.size+1),_,I.laid (t':=s.toks) (o:=.lst (((sortI (ns.map λn=>[n])).map λk=>k.headD 0).map V.int)) (a:=s.heap.objs.size+1) (λb ob q=>sortedAll_old q) (U4 _) ⟨by rw[Yc,Yc];omega,out,ep,hv,by simpa[seqObj]using hat⟩,rfl,?_⟩
   refine Zcy ho M ?_ (I.hok.fresh (U4 _))
   have:=ZgB (K:=X.K) (cm:=cm) (m:=m) (H:=H) ((sortI (ns.map λn=>[n])).map λk=>k.headD 0)
   rw[Y0]at this
   exact this
 |_=>cases eb
theorem Zhm(hg:Gl X "sorted")(hm:X.mg "sorted" = none)(ha:PA X (e::es) (tA X.K call gv xr eas))(he:notStar e=true)(hpl:es.all notStar=true):PE X (.Call (.Name "sorted" p) (e::es) [] pos) (tE X.K call gv xr (.blt .sortn eas)):=X4 ZfU (by decide +kernel) hg hm ha (by decide) (by decide) he hpl
end
theorem ints_get:∀{vs:List Value}{ns:List Int},U3 vs ns->∀(i:Nat) (v:Value) (x:Int),vs[i]?=some v->ns[i]?=some x->∃t,v=.int x t
 |_,_,.nil,i,v,x,h,_=>by simp at h
 |_,_,.cons n t r,0,v,x,h1,h2=>by
  simp at h1 h2
  exact⟨t,by rw[<-h1,<-h2]⟩
 |_,_,.cons n t r,i+1,v,x,h1,h2=>ints_get r i v x (by simpa using h1) (by simpa using h2)
open AutoSeq1 (wpAny_loadPart') in
open MeetsSeq MeetsSeq2 MeetsSeq3 in
theorem ZoJ(l b:Addr)(items items2:Array Value)(n n2:Nat)(xs ys:List Int)(g1:U3 items.toList xs)(g2:U3 items2.toList ys):∀(k i:Nat),items.size-i=k->i<=items.size->i<=items2.size ->
  Meets (Builtin.«list.__eq__.loop» ⟨[.ref l,.ref b,rawInt i,rawInt 0],[]⟩)
   (λA R s=>s.heap.get? l=some { cls:=.type "list",data:=.seq items n }/\s.heap.get? b=some { cls:=.type "list",data:=.seq items2 n2 }/\R (.ok (.ret (.bool (lexI (xs.drop i) (ys.drop i))))) s):=by
 have z1:xs.length=items.size:=by rw[<-g1.length,YQ]
 have z2:ys.length=items2.size:=by rw[<-g2.length,YQ]
 intro k
 induction k with
 |zero =>
  intro i hk hi1 hi2 prog w A R s h
  obtain⟨hp,g,d,tk,os⟩:=s;obtain⟨hl,hb,h⟩:=h
  wp_walk using Wc hl,Wc hb
  have e:i=items.size:=by omega
  have ii1:items[((i:Nat):Int).toNat]?=none:=by simp;omega
  rw[ii1]
  have hd:xs.drop i=[]:=Uk (by omega)
  have hx:lexI (xs.drop i) (ys.drop i)=decide (items.size<items2.size):=by
   rw[hd]
   cases hy:ys.drop i with
   |nil =>
    have:=List.drop_eq_nil_iff.mp hy
    rw[decide_eq_false (by omega)]
    rfl
   |cons y r =>
    have:¬ys.length<=i:=λz=>by rw[Uk z]at hy;cases hy
    rw[decide_eq_true (by omega)]
    rfl
  rw[hx]at h
  wp_walk using Wc hl,Wc hb
  exact h
 |succ k ih =>
  intro i hk hi1 hi2 prog w A R s h
  obtain⟨hp,g,d,tk,os⟩:=s;obtain⟨hl,hb,h⟩:=h
  wp_walk using Wc hl,Wc hb
  have hlt:i<items.size:=by omega
  have ii1:items[((i:Nat):Int).toNat]?=some items[i]:=by simp[hlt]
  rw[ii1]
  by_cases hlt2:i<items2.size
  ·have ii2:items2[((i:Nat):Int).toNat]?=some items2[i]:=by simp[hlt2]
   have l1:i<xs.length:=by omega
   have l2:i<ys.length:=by omega
   obtain⟨t,et⟩:∃t,items[i]=.int xs[i] t:=ints_get g1 i _ _ (by rw[WM,Vk hlt]) (Yn l1)
   obtain⟨u,eu⟩:∃t,items2[i]=.int ys[i] t:=ints_get g2 i _ _ (by rw[WM,Vk hlt2]) (Yn l2)
   rw[ii2,et,eu]
   rw[WT l1,WT l2,lexI]at h
   refine Yb (Ya3 ?_)
   have hc:((i:Int)+1)=((i+1:Nat):Int):=by push_cast;rfl
   by_cases he:xs[i]=ys[i]
   ·rw[if_pos he]at h
    have hb':(xs[i]==ys[i])=true:=by rw[he];exact beq_self_eq_true _
    rw[hb']
    wp_walk
    rw[hc]
    exact⟨YaY plain_eq_loop _,Yar entry_eq_loop (by
     rw[Ve plain_eq_loop _]
     exact ih (i+1) (by omega) (by omega) (by omega) prog w A R _ ⟨hl,hb,h⟩)⟩
   ·rw[if_neg he]at h
    have hb':(xs[i]==ys[i])=false:=beq_eq_false_iff_ne.mpr he
    rw[hb']
    wp_walk using Wc hl,Wc hb
    rw[ii1,ii2,et,eu]
    refine Yb (wpAny_lt_int ?_)
    exact Yd h
  ·have ii2:items2[((i:Nat):Int).toNat]?=none:=by simp;omega
   rw[ii2]
   have hd:ys.drop i=[]:=Uk (by omega)
   have hx:lexI (xs.drop i) (ys.drop i)=decide (items.size<items2.size):=by
    rw[hd,WT (show i<xs.length by omega),decide_eq_false (by omega)]
    rfl
   rw[hx]at h
   wp_walk using Wc hl,Wc hb
   exact h
open AutoSeq1 (wpAny_loadPart') in
open MeetsSeq MeetsSeq2 MeetsSeq3 in
theorem Zl4(l b:Addr)(items items2:Array Value)(n n2:Nat)(xs ys:List Int)(g1:U3 items.toList xs)(g2:U3 items2.toList ys):
  Meets (Builtin.«list.__lt__» ⟨[.ref l,.ref b],[]⟩)
   (λA R s=>s.heap.get? l=some { cls:=.type "list",data:=.seq items n }/\s.heap.get? b=some { cls:=.type "list",data:=.seq items2 n2 }/\R (.ok (.ret (.bool (lexI xs ys)))) s):=by
 intro prog w A R s h
 obtain⟨hp,g,d,tk,os⟩:=s;obtain⟨hl,hb,h⟩:=h
 have f3:=AutoSeq1.sub_list_list
 wp_walk using Wc hl,Wc hb
 exact⟨YaY plain_eq_loop _,Yar entry_eq_loop (by
  rw[Ve plain_eq_loop _]
  exact ZoJ l b items items2 n n2 xs ys g1 g2 _ 0 rfl (Wy _) (Wy _) prog w A R _ ⟨hl,hb,by simpa using h⟩)⟩
def LI(h:Heap)(v:Value)(k:List Int):Prop:=∃a its n,v=.ref a/\h.get? a=some { cls:=.type "list",data:=.seq its n }/\U3 its.toList k
section
variable{prog:YK}{w:World}{A:Around}{E:Value->Shared->Prop}{s:Shared}
theorem ll_lt{x y:Value}{xs ys:List Int}{Q:Bool->Shared->Prop}(hx:LI s.heap x xs)(hy:LI s.heap y ys)(hu:A.units<cLine)(h:Q (lexI xs ys) s):wpAny (model prog w) A (keyLt' Yb4 x y) Q E s:=by
 obtain⟨a,its,n,rfl,e2,e3⟩:=hx
 obtain⟨b,jts,k,rfl,f2,f3⟩:=hy
 rw[keyLt'_oneType,oneLt'_eq]
 simp only[if_true]
 refine Yb (wpAny_cRoomFor hu ?_)
 refine Yb (wpAny_callSpecialIfBound?_slot (T:="list") ⟨_,e2,rfl⟩ PySem.F.slot_list_lt (GP PySem.F.slot_list_lt ⟨_,e2,rfl⟩ PySem.F.entry_list_lt (PySem.F.args_list_lt_2 _ _) (Zl4 a b its jts n k xs ys e3 f3) ⟨e2,f2,?_⟩))
 exact W3 h
theorem ZkD{ks vs:List Value}{kf:Value->List Int}(hv:∀v∈ks,LI s.heap v (kf v))(inj:∀x∈ks.zip vs,∀y∈ks.zip vs,kf x.1=kf y.1->x=y)(hu:A.units<cLine):
  Ts.Cmp prog w A s Yb4 (λx=>x∈ks.zip vs) (λx y=>lexI (kf x.1) (kf y.1)):=by
 refine⟨λx y hx hy E Q q=>?_,λx y z _ _ _=>X5,λx y _ _=>JW,λx y hx hy h1 h2=>inj x hx y hy (Q3 h1 h2)⟩
 exact ll_lt (hv _ (Vy hx).1) (hv _ (Vy hy).1) hu q
theorem Zb1:∀(vs:List Value) {Q:List (Option Value)->Shared->Prop},(∀v∈vs,∃k,LI s.heap v k)->Q (vs.map λ_=>none) s->wpAny (model prog w) A (vs.mapM firstOfTuple') Q E s
 |[],_,_,h=>by rw[List.mapM_nil];exact Yd h
 |v::vs,Q,t,h=>by
  obtain⟨_,a,its,n,rfl,ho,_⟩:=t v Yp
  rw[List.mapM_cons]
  refine Yb ?_
  rw[PySem.W.kas_first_eq]
  refine Yb (PySem.W.Looks.here (show Ycm (model prog w) s.heap (typeOf (.ref a)) (.type "list")from(PySem.W.Looks.ld ho).andThen .now) ?_)
  rw[if_pos (by first|decide|simp)]
  refine Yd ?_
  exact Yb (Zb1 vs (Q:=λbs s'=>wpAny (model prog w) A (pure (none::bs)) Q E s') (λu hu=>t u (Yg _ hu)) (Yd h))
theorem ZhD{vs:List Value}(hv:∀v∈vs,∃k,LI s.heap v k)(h0:0<vs.length){Q:YaC->Shared->Prop}(h:Q Yb4 s):wpAny (model prog w) A (YbE vs.toArray) Q E s:=by
 obtain⟨v,vr,rfl⟩:∃v vr,vs=v::vr:=by
  cases vs with
  |nil=>exact absurd h0 (Y9 _)
  |cons v vr=>exact⟨v,vr,rfl⟩
 rw[kat_kind_eq,List.mapM_toArray,map_eq_pure_bind]
 refine Yb (Yb (Zb1 _ hv (Yd ?_)))
 have hall:¬(((v::vr).map λ_=>(none:Option Value)).toArray.all λx=>x.isSome)=true:=by simp
 rw[if_neg hall]
 have hf:¬(((((v::vr).map λ_=>(none:Option Value)).toArray)[0]?.bind id).isSome=true):=by simp
 rw[if_neg hf,oneTypeOnly'_eq,List.mapM_toArray,map_eq_pure_bind]
 refine Yb (Yb (Yb (PySem.W.kas_mapM (r:=.type "list") _ (λv hv' Q' hq=>?_) (Yd ?_))))
 ·obtain⟨_,a,its,n,rfl,ho,_⟩:=hv v hv'
  exact PySem.W.Looks.here (show Ycm (model prog w) s.heap (typeOf (.ref a)) (.type "list")from(PySem.W.Looks.ld ho).andThen .now) hq
 have hall2:((List.map (λ_=>Yaj "list") (v::vr)).toArray.all λx=>x==Yaj "list")=true:=by
  simp only[List.all_toArray,YbX,Wa]
  intro _ _
  rfl
 have h0:(List.map (λ_=>Yaj "list") (v::vr)).toArray[0]?=some (Yaj "list"):=by simp
 rw[h0]
 simp only[hall2,if_true]
 exact Yd (Yd h)
end
theorem Zh2{pos:Pos}{a b:Int}{c v:Value}(l:List Value)(h:Ycr l)(e:Ybb pos (l++[rawInt a,rawInt b,c])=some v):Ybb pos l=some v∨v=c:=by
 fun_induction Ycr l with
 |case1 =>
  simp only[G4,rawInt,Ybb]at e
  split at e
  ·cases e;exact .inr rfl
  ·cases e
 |case2 a' t b' u x rest ih =>
  simp only[List.cons_append,Ybb]at e ⊢
  split at e
  ·rename_i q
   cases e
   rw[if_pos q]
   exact .inl rfl
  ·rename_i q
   rw[if_neg q]
   exact ih h e
 |case3 l h1 h2=>exact h.elim
structure LamK (K:Frag):Prop where
 uniq:∀q q' P,Zk1 K q P->Zk1 K q' P->q=q'
 hd:∀c q,codeIn K (.ref c) q=true->Jq.contains q=true->∃P,Ybn K c P=true/\K.lookup P=none/\Zk1 K q P
theorem RT.extM{K:Frag}{cm cm':List Addr}{m m':Mem}{H H':Hp}(x:Ext cm m H cm' m' H')(M:MemR K cm m H){t:T}{v:V}(h:RT K cm m H t v):RT K cm' m' H' t v:=by
 induction h with
 |non=>exact .non
 |bl b=>exact .bl b
 |int i=>exact .int i
 |str cs=>exact .str cs
 |tup h1 h2 _ ih=>exact .tup (x.sqT M h1) h2 ih
 |lst h1 h2 h3 _ ih=>exact .lst (x.keep _ _ h1 h2).1 (x.keep _ _ h1 h2).2 h3 ih
 |scr ns h=>exact .scr ns (x.scr M h)
 |dct h1 h2 h3 h4 _ ih=>exact .dct (x.keep _ _ h1 h2).1 (x.keep _ _ h1 h2).2 h3 h4 ih
section
variable{X:Cx}{params:Ybw}{body:Expr}{scope:Scope}{pos:Pos}{q:Str}
def Zh5(H:Hp)(cv:Value)(q:Str):Prop:=∃(c:Addr) (o:Obj) (vs:Array Value) (t:Tok) (u:HO),cv=.ref c/\H c=some (.frz o u)/\o.data=.fields vs/\vs[1]?=some (.str q t)
theorem Zh5.rec{P:YK}{w:World}{H:Hp}{h:Heap}{cv:Value}{q:Str}(x:Zh5 H cv q)(ok:HOk P w H h):h.CodeRec cv q:=by
 obtain⟨c,o,vs,t,u,rfl,h1,h2,h3⟩:=x
 exact⟨c,o,vs,t,rfl,(ok c _ h1).1,h2,h3⟩
abbrev Jz(q:Str)(params:Ybw)(body:Expr)(scope:Scope)(cl:List (Str×Addr))(pm cv ct:Value):Obj:={ cls:=.type "function",data:=.func (kla_fn "<lambda>" (lamQ q) params body scope cl pm cv ct) }
theorem Zl6{pins:List (Addr×Obj)}{s:Shared}{σ:L2.St}{H:Hp}{cm:List Addr}{m:Mem}{Q:Value->Shared->Prop}{E:Value->Shared->Prop}{A:Around}(I:Inv X pins σ H s)(M:MemR X.K cm m H)(LK:LamK X.K)(hq:X.env.qual=q++".<locals>.")(hn:Jq.contains q=true)(hcd:codeIn X.K X.env.code q=true)(hdef:Ycj params X.env=([],[])){cl:List (Str×Addr)}(hcl:Ycg scope X.env=pure cl)(h:∀f pm cv ct H' s',Inv X ((f,Jz q params body scope cl pm cv ct)::pins) σ H' s'->MemR X.K cm m H'->Ext cm m H cm m H'->Zh5 H' cv (lamQ q)->Q (.ref f) s'):
  wpAny (model X.prog X.w) A (eval (.Lambda params body scope pos) X.env) Q E s:=by
 obtain⟨c,hc⟩:∃c,X.env.code=.ref c:=by
  cases e:X.env.code with
  |ref c=>exact⟨c,rfl⟩
  |_=>rw[e]at hcd;cases hcd
 rw[hc]at hcd
 obtain⟨P,hP,hPn,hT⟩:=LK.hd c q hcd hn
 obtain⟨ps,hps,ht⟩:=M.tab q P hT
 have CH:PySem.W.CodeHd s.heap c P:=PySem.W.codeHd_of_K I.kIn hP
 have gP:s.heap.get? P=some (tabObj ps):=I.hok P _ hps
 have hg:s.heap.Ns Y8 X.mg:=I.mod.glob.keeps I.bk
 have hgP:Y8≠P:=λz=>by
  obtain⟨o,es,ep,e,hd,_⟩:=hg
  rw[z,gP]at e;cases e;cases hd
 obtain⟨bm,ob,b1,b2,b3,b4,b5,b6⟩:=I.mod.bm
 have b3':=I.bk _ _ b3
 have hbP:bm≠P:=λz=>by rw[z,gP]at b3';cases b3';cases b4
 have hbG:bm≠Y8:=λz=>by
  obtain⟨o,es,ep,e,hd,_⟩:=hg
  rw[z,e]at b3';cases b3';rw[hd]at b6;cases b6
 have hb:s.heap.BuiltinsAt X.mg P:=⟨bm,ob,b1,b2,hbG,hbP,b3',b4,b5,b6⟩
 refine PySem.W.kla_eval hdef ?_
 have eq:X.env.qual++"<lambda>" = lamQ q:=by rw[hq];rfl
 rw[eq]
 have pin:∀{h':Heap}{H':Hp}{tk:Nat}{fo:Obj},Inv X pins σ H' { s with heap:=h'.push fo,toks:=tk }->s.heap.objs.size<=h'.objs.size->(∀b u,H' b=some u->b<h'.objs.size)->(∀v,fo.data≠.cell v)->(h'.push fo).get? h'.objs.size=some fo->Inv X ((h'.objs.size,fo)::pins) σ H' { s with heap:=h'.push fo,toks:=tk }:=λ{h' H' tk fo} J hz hu hd hf=>by
  refine J.pins_of λp hp=>?_
  rcases Yh.mp hp with rfl|hp
  ·refine⟨hf,?_,GZ (Yu I.lt hz),I.nofs hz,hd⟩
   cases z:H' h'.objs.size with
   |none=>rfl
   |some u=>exact absurd (hu _ _ z) (Y9 _)
  ·exact J.pin p (Ym _ hp)
 cases hca:Ybb pos ps.toList with
 |some cv =>
  refine PySem.W.kla_makeFunctionHit hcl I.ok.glob hg hc CH gP ht.1 hca hb λctv h' tk hk hz=>?_
  have J:Inv X pins σ H { s with heap:=h'.push (Jz q params body scope cl ((X.mg "__name__").getD .none) cv ctv),toks:=tk }:=I.kept λb u e=>Ye _ (hk b u e)
  exact h _ _ _ _ H _ (pin J hz (λb u e=>Yu (I.hok.lt e) hz) (λv z=>by cases z) (Yt _ rfl)) M .refl (ht.2 pos cv hca)
 |none =>
  refine PySem.W.kla_makeFunction hcl I.ok.glob hg hc CH gP ht.1 hca hgP hb λc' ctv h' tk hx hge hlt hrec htb=>?_
  obtain⟨c₂,oc,vs,t,e2,hoc,hd,hv⟩:=hrec
  cases e2
  have hne:c'≠P:=λz=>by
   have:=Ys gP
   rw[<-z]at this
   exact absurd (Yu this hge) (Y9 _)
  have hf:H c'=none:=I.hok.fresh hge
  have hz:s.heap.objs.size<=h'.objs.size:=YJ hge (Gd hlt)
  have nP:∀{b:Addr},H b=none->b≠P:=λe z=>by rw[z,hps]at e;cases e
  have nc:∀{b:Addr}{u:HO},H b=some u->b≠c':=λe z=>by rw[z,hf]at e;cases e
  generalize hH':upd (upd H P (.tbl (ps++#[rawInt pos.line,rawInt pos.col,.ref c']))) c' (.frz oc (.own 0))=H'
  have at_c:H' c'=some (.frz oc (.own 0)):=by rw[<-hH',QQ]
  have at_P:H' P=some (.tbl (ps++#[rawInt pos.line,rawInt pos.col,.ref c'])):=by rw[<-hH',ZL (Ui hne),QQ]
  have at_o:∀{b:Addr},b≠P->b≠c'->H' b=H b:=λh1 h2=>by rw[<-hH',ZL h2,ZL h1]
  have kp:∀b o,b≠P->s.heap.get? b=some o->(h'.push (Jz q params body scope cl ((X.mg "__name__").getD .none) (.ref c') ctv)).get? b=some o:=λb o hb e=>Ye _ (hx b o hb e)
  have kH:∀b u,H b=some u->b≠P->H' b=some u:=λb u e z=>by rw[at_o z (nc e)];exact e
  have nT:∀{b:Addr}{u:HO},H b=some u->(∀qs,u≠.tbl qs)->b≠P:=λe z y=>by rw[y,hps]at e;cases e;exact z _ rfl
  have un:Un X.fs [] H H' s.heap (h'.push (Jz q params body scope cl ((X.mg "__name__").getD .none) (.ref c') ctv)):=
   ⟨λb o e n _ _=>kp b o (nP n) e,λb o e n _ _=>⟨o.slots,kp b o (nP n) e⟩,λb o e n _=>by
     rw[at_o (nP n) λz=>absurd (Yu (Ys e) hge) (by rw[z];exact Y9 _)];exact n,
    λb o e _=>by
     by_cases hb:b=P
     ·exact⟨_,by rw[hb];exact Ye _ htb⟩
     ·exact⟨o,kp b o hb e⟩,
    λb xs e=>kH _ _ e (nT e λ_ z=>by cases z),λb o u e=>kH _ _ e (nT e λ_ z=>by cases z),λb qs e=>by
     by_cases hb:b=P
     ·rw[hb]at e ⊢
      rw[hps]at e;cases e
      exact⟨_,at_P⟩
     ·exact⟨#[],by rw[kH _ _ e hb];simp⟩⟩
  have hok:HOk X.prog X.w H' (h'.push (Jz q params body scope cl ((X.mg "__name__").getD .none) (.ref c') ctv)):=λb u e=>by
   by_cases hb:b=P
   · subst hb
     rw[at_P]at e;cases e
     exact Ye _ htb
   · by_cases hbc:b=c'
     ·subst hbc
      rw[at_c]at e;cases e
      exact⟨Ye _ hoc,_,Ye _ hoc⟩
     ·rw[at_o hb hbc]at e
      refine(I.hok b u e).stay (λb' v hb' e'=>kp b' v ?_ e') (λb' e'=>kH _ _ e' (nT e' λ_ z=>by cases z)) λb' xs e'=>kH _ _ e' (nT e' λ_ z=>by cases z)
      rcases hb' with rfl|hb'
      ·exact hb
      ·exact nT hb' λ_ z=>by cases z
  have J:Inv X pins σ H' { s with heap:=h'.push (Jz q params body scope cl ((X.mg "__name__").getD .none) (.ref c') ctv),toks:=tk }:=I.un un hok
  have x:Ext cm m H cm m H':=⟨λ_ _ e=>e,Yj _,λ_ _ e=>e,λb u e n=>⟨by
   by_cases hb:b=P
   · subst hb
     rw[hps]at e;cases e
     exact⟨_,at_P⟩
   · exact .of (kH _ _ e hb),n⟩⟩
  have frz:∀a o u,H a=some (.frz o u)->H' a=some (.frz o u):=λa o u e=>kH _ _ e (nT e λ_ z=>by cases z)
  have M':MemR X.K cm m H':=⟨M.len,M.inj,λi p e=>by
   obtain⟨a,us,h1,h2,h3,h4⟩:=M.at' i p e
   exact⟨a,us,h1,kH _ _ h2 (nT h2 λ_ z=>by cases z),h3,Zi (λ_ _ z=>z.extM x M) h4⟩,λq' P' hT'=>by
   by_cases hb:P'=P
   · subst hb
     obtain rfl:=LK.uniq _ _ _ hT hT'
     refine⟨_,at_P,?_,λpos' cv e=>?_⟩
     ·simpa using TriplesOk_snoc pos.line pos.col (.ref c') ps.toList ht.1
     ·rcases Zh2 _ ht.1 (by simpa using e)with e|e
      ·exact(ht.kept frz).2 pos' cv e
      ·exact⟨c',oc,vs,t,_,e,at_c,hd,hv⟩
   · obtain⟨qs,h1,h2⟩:=M.tab q' P' hT'
     exact⟨qs,kH _ _ h1 hb,h2.kept frz⟩⟩
  refine h _ _ _ _ H' _ (pin J hz (λb u e=>?_) (λv z=>by cases z) (Yt _ rfl)) M' x ⟨c',oc,vs,t,_,rfl,at_c,hd,hv⟩
  by_cases hb:b=P
  ·rw[hb];exact Ys htb
  ·by_cases hbc:b=c'
   · rw[hbc];exact hlt
   · rw[at_o hb hbc]at e
     exact Yu (I.hok.lt e) hz
abbrev Zey(X:Cx)(N':List Str)(q:Str)(scope:Scope)(cl:List (Str×Addr))(f:Addr)(cv:Value)(s:Shared)(H:Hp):Cx:=
 { X with A:=X.A.in1.in1.deeper (envX (lamQ q) scope s.heap.objs.size f cv cl),N:=N',s₀:=s,H₀:=H,env:=envX (lamQ q) scope s.heap.objs.size f cv cl,outer:=X.stack,stack:=envX (lamQ q) scope s.heap.objs.size f cv cl::X.stack,ex:=[],fn:=λ_=>false,pn:=[],xe:=λ_ _=>False }
structure LamSc (X:Cx) (y:Str) (scope:Scope):Prop where
 kind:scope.kind=.function
 co:scope.isCoroutine=false
 gen:scope.isGenerator=false
 nocell:∀x∈scope.names,x.2≠.cell
 par:scope.names.lookup y=some .local
 look:∀p∈scope.names,scope.names.lookup p.1=some p.2
 free:∀x,(x,YW)∈scope.names->X.env.kindOf x=some .cell∨X.env.kindOf x=some .free
def stK(keep:List Nat)(σ:L2.St):L2.St:=keep.map λi=>(σ[i]?).join
theorem Zl7{pins:List (Addr×Obj)}{s:Shared}{σ:L2.St}{H:Hp}{y:Str}{N':List Str}{keep:List Nat}{cl:List (Str×Addr)}{f:Addr}{pm cv ct x:Value}{v:V}{t:TE}{Q:VK}(I:Inv X ((f,Jz q params body scope cl pm cv ct)::pins) σ H s)(S:LamSc X y scope)(cf:Zh5 H cv (lamQ q))(hcl1:∀x c,cl.lookup x=some c->X.env.cells.lookup x=some c)(hcl2:∀x,(x,YW)∈scope.names->∃c,cl.lookup x=some c)(hroom:X.A.depth<VV)(hbind:U6 (kla_fn "<lambda>" (lamQ q) params body scope cl pm cv ct) ⟨[x],[]⟩=pure [(y,x)])(rx:RelV v x)(hy:N'[0]?=some y)(hown:N'.length=1+keep.length)(hkeep:∀(i:Nat) x,N'[1+i]?=some x->∃j,keep[i]?=some j/\X.N[j]?=some x/\(x,YW)∈scope.names)(hb:PE (Zey X N' q scope cl f cv s H) body t)(ht:t (some v::stK keep σ) H Q):
  wpAny (model X.prog X.w) X.A.in1.in1 (call (.ref f) [x]) (λu s'=>CE X.stack X.prog X.w H s Q u s') (λ_ _=>False) s:=by
 have hp:=I.pin (f,Jz q params body scope cl pm cv ct) (Ym _ Yp)
 refine wpAny_call (V2 (R:=λr s'=>∃u,r=.ok (.ret u)/\CE X.stack X.prog X.w H s Q u s') (PySem.W.kla_callFunE (A:=X.A.in1.in1) hroom hp.1 rfl S.co S.gen rfl (cf.rec I.hok) ?_) λr s' hq=>?_)
 ·rw[hbind]
  refine Yd (wpAny_newFunctionEnv S.nocell (λz hz=>?_) (λh₁ hns hsb=>⟨I.nolimit.fresh _ hsb,?_⟩) S.kind)
  ·obtain rfl:z=(y,x):=Ud.mp hz
   exact S.par
  show Vd _ _ (.expr body (envX (lamQ q) scope s.heap.objs.size f cv cl)) _ _
  have hk₁:∀b o,s.heap.get? b=some o->h₁.get? b=some o:=λb o e=>hsb.extBut b o (YH (Ys e)) (Ye _ e)
  have noA:∀b:Addr,b∉(Zey X N' q scope cl f cv s H).ex:=λb z=>absurd (show b∈([]:List Addr)from z) (by simp)
  have J:Inv (Zey X N' q scope cl f cv s H) [] (some v::stK keep σ) H { s with heap:=h₁,toks:=s.toks+1 }:=by
   refine⟨⟨I.ok.mod,S.kind,rfl,rfl,Yj _,λa b c h1 h2=>I.ok.inj a b c (hcl1 a c h1) (hcl1 b c h2),λz hz=>?_,λz c h1 _=>(by cases h1),I.ok.hd,Around.frames_deeper I.ok.frames,.inr ⟨rfl,rfl⟩,λb z=>absurd z (noA b),I.bs,YJ I.ok.bsz I.sz,λb _ _=>noA b,λb z=>absurd z (noA b),I.stack,I.stkFree⟩,
    rfl,I.bare,Un.kept hk₁,⟨_,hns,λi z u h1 h2 h3=>?_⟩,λz c h=>?_,I.hok.fresh (Yj _),λz c h=>I.freeC z c (hcl1 z c h),λp hp=>absurd (show p∈([]:List (Addr×Obj))from hp) (by simp),I.hok.kept hk₁,?_⟩
   ·have hz:scope.names.lookup z=some .cell∨scope.names.lookup z=some .free:=hz
    rcases hz with hz|hz
    ·exact absurd rfl (S.nocell _ (WX hz))
    ·exact hcl2 z (WX hz)
   ·cases i with
    |zero =>
     have e1:z=y:=by rw[show(Zey X N' q scope cl f cv s H).N[0]?=N'[0]? from rfl,hy]at h1;exact(YG h1).symm
     have e2:u=v:=by have h2:some (some v)=some (some u):=h2;cases h2;rfl
     subst e1;subst e2
     exact⟨x,rx,.inl ⟨S.par,by simp⟩⟩
    |succ i =>
     obtain⟨j,q1,q2,q3⟩:=hkeep i z (by rw[Ya9];exact h1)
     have h2:(stK keep σ)[i]?=some (some u):=h2
     unfold stK at h2
     rw[YZ,q1]at h2
     have e3:(σ[j]?).join=some u:=YG h2
     have e4:σ[j]?=some (some u):=by
      cases r:σ[j]? with
      |none=>rw[r]at e3;cases e3
      |some o=>rw[r]at e3;exact congrArg some e3
     obtain⟨m0,hn0,hl0⟩:=I.loc
     have kx:=S.free z q3
     obtain⟨w,ru,lu⟩:=hl0 j z u q2 e4 (kx.elim (λz=>.inr (.inl z)) λz=>.inr (.inr z))
     obtain⟨c,ec,ic⟩:∃c,X.env.cells.lookup z=some c/\s.heap.IsCell c (some w):=by
      rcases lu with⟨r,_⟩|⟨_,c,r1,r2⟩
      ·rcases kx with k|k<;>· rw[k]at r;cases r
      ·exact⟨c,r1,r2⟩
     obtain⟨c',ec'⟩:=hcl2 z q3
     obtain rfl:c'=c:=by have:=hcl1 z c' ec';rw[ec]at this;exact(YG this).symm
     obtain⟨o,ho,hd⟩:=ic
     exact⟨w,ru,.inr ⟨.inr (S.look _ q3),c',ec',o,hk₁ _ _ ho,hd⟩⟩
   ·obtain⟨w,o,ho,hd⟩:=I.cell z c (hcl1 z c h)
    exact⟨w,o,hk₁ _ _ ho,hd⟩
   ·show(some v::stK keep σ).length=N'.length
    unfold stK
    rw[YB,Yc,hown,Ya9]
  refine PySem.W.kla_codeExpr (W2 (hb [] _ _ H Q J ht) (λu s' ⟨v',H',J',rv,qv⟩=>⟨u,rfl,v',H',J'.os,J'.bare,J'.base,J'.hok,rv,qv⟩) λ_ _ z=>z.elim)
 ·obtain⟨u,rfl,hc⟩:=hq
  exact hc
end
theorem Zca(x:List Int×T):∀l:List (List Int×T),(insK x l).Perm (x::l)
 |[]=>.refl _
 |y::r=>by
  rw[insK]
  split
  ·exact((Zca x r).cons y).trans (.swap _ _ _)
  ·exact .refl _
theorem ZaW:∀xs:List (List Int×T),(Zbs xs).Perm xs
 |[]=>.refl _
 |x::r=>(Zca x _).trans ((ZaW r).cons x)
theorem Zj1(x:List Int×T):∀{l:List (List Int×T)},l.Pairwise (λa b=>lexI b.1 a.1=false)->(insK x l).Pairwise (λa b=>lexI b.1 a.1=false)
 |[],_=>Uh _ _
 |y::r,h=>by
  rw[insK]
  obtain⟨h1,h2⟩:=Y6.mp h
  split
  ·rename_i q
   refine Y6.mpr ⟨λz hz=>?_,Zj1 x h2⟩
   rcases Yh.mp ((Zca x r).mem_iff.mp hz)with rfl|hz
   ·exact JW q
   ·exact h1 z hz
  ·rename_i q
   have q:lexI y.1 x.1=false:=by simpa using q
   refine Y6.mpr ⟨λz hz=>?_,h⟩
   rcases Yh.mp hz with rfl|hz
   ·exact q
   ·exact X5 q (h1 z hz)
theorem Zdc:∀xs:List (List Int×T),(Zbs xs).Pairwise (λa b=>lexI b.1 a.1=false)
 |[]=>.nil
 |x::r=>Zj1 x (Zdc r)
theorem Zb2{α β:Type}:∀{xs:List (α×β)},(xs.map (·.1)).Nodup->∀{a b:α×β},a∈xs->b∈xs->a.1=b.1->a=b
 |[],_,_,_,h,_,_=>by cases h
 |x::xs,hn,a,b,ha,hb,e=>by
  obtain⟨h1,h2⟩:=Wb.mp (show(x.1::xs.map (·.1)).Nodup from hn)
  rcases Yh.mp ha with z1|z1
  ·rcases Yh.mp hb with z2|z2
   ·rw[z1,z2]
   ·exact(h1 (Yz.mpr ⟨b,z2,by rw[<-z1];exact e.symm⟩)).elim
  ·rcases Yh.mp hb with z2|z2
   ·exact(h1 (Yz.mpr ⟨a,z1,by rw[<-z2];exact e⟩)).elim
   ·exact Zb2 h2 z1 z2 e
theorem Zlg{xs ys:List (List Int×T)}(hn:(xs.map (·.1)).Nodup)(hp:ys.Perm xs)(hw:ys.Pairwise (λa b=>lexI b.1 a.1=false)):ys=Zbs xs:=
 Vu (λa b ha hb h1 h2=>Zb2 hn (hp.mem_iff.mp ha) ((ZaW xs).mem_iff.mp hb) (Q3 h2 h1)) hw (Zdc xs) (hp.trans (ZaW xs).symm)
theorem Zi6{α β:Type}(f:α->β){out ys:List β}(h:out.Perm ys):∀l:List α,ys=l.map f->∃l':List α,l'.Perm l/\out=l'.map f:=by
 induction h with
 |nil =>
  intro l e
  cases l with
  |nil=>exact⟨[],.nil,rfl⟩
  |cons=>cases e
 |cons x _ ih =>
  intro l e
  cases l with
  |nil=>cases e
  |cons a l =>
   injection e with e1 e2
   obtain⟨l',p,q⟩:=ih l e2
   exact⟨a::l',p.cons a,by rw[q,e1];rfl⟩
 |swap x y r =>
  intro l e
  cases l with
  |nil=>cases e
  |cons a l =>
   cases l with
   |nil=>cases e
   |cons b l =>
    injection e with e1 e2
    injection e2 with e2 e3
    exact⟨b::a::l,.swap _ _ _,by rw[e1,e2,e3];rfl⟩
 |trans _ _ ih1 ih2 =>
  intro l e
  obtain⟨l2,p2,q2⟩:=ih2 l e
  obtain⟨l1,p1,q1⟩:=ih1 l2 q2
  exact⟨l1,p1.trans p2,q1⟩
theorem Zes{f:Env->Mem->Res W}{kept:Env}:∀{ts:List T}{m m':Mem}{ks:List (List Int)},J6 f kept ts m=.ok ks m'->ks.length=ts.length
 |[],_,_,_,h=>by cases h;rfl
 |t::ts,m,m',ks,h=>by
  rw[J6]at h
  obtain⟨w,m1,_,h⟩:=Zj h
  cases q:keyL w with
  |none=>rw[q]at h;cases h
  |some k =>
   rw[q]at h
   obtain⟨ks',m2,h1,h2⟩:=Zj h
   cases h2
   rw[YB,YB,Zes h1]
def KR(cm:List Addr)(m:Mem)(H:Hp)(k:List Int)(v:Value):Prop:=∃a,v=.ref a/\H a=some (.lst (k.map V.int))/\Zt cm m a
def kfH(H:Hp)(v:Value):List Int:=match v with
 |.ref a=>match H a with
  |some (.lst us)=>us.filterMap λu=>match u with
   |.int i=>some i
   |_=>none
  |_=>[]
 |_=>[]
theorem ZjR{cm:List Addr}{m:Mem}{H:Hp}{k:List Int}{v:Value}(h:KR cm m H k v):kfH H v=k:=by
 obtain⟨a,rfl,e,_⟩:=h
 unfold kfH
 dsimp only
 rw[e]
 dsimp only
 rw[Yax]
 exact List.filterMap_some
theorem KR.li{P:YK}{w:World}{cm:List Addr}{m:Mem}{H:Hp}{h:Heap}{k:List Int}{v:Value}(x:KR cm m H k v)(ok:HOk P w H h):LI h v k:=by
 obtain⟨a,rfl,e,_⟩:=x
 obtain⟨_,its,n,r,q⟩:=ok a _ e
 exact⟨a,its.toArray,n,rfl,q,by simpa using Zay r⟩
theorem ZjU{w:W}{k:List Int}(h:keyL w=some k):w=.t (.lst (k.map .int)):=by
 cases w with
 |t x =>
  cases x with
  |lst us=>rw[ZdF (show ints? us=some k from h)]
  |_=>cases h
 |_=>cases h
theorem Zbx{α β:Type}:∀{as:List α}{bs:List β},as.length=bs.length->(as.zip bs).map (·.1)=as
 |[],[],_=>rfl
 |a::as,b::bs,h=>by rw[Gi,Yq,Zbx (by simpa using h)]
 |[],_::_,h=>by cases h
 |_::_,[],h=>by cases h
theorem Zf2{α β:Type}:∀{as:List α}{bs:List β},as.length=bs.length->(as.zip bs).map (·.2)=bs
 |[],[],_=>rfl
 |a::as,b::bs,h=>by rw[Gi,Yq,Zf2 (by simpa using h)]
 |[],_::_,h=>by cases h
 |_::_,[],h=>by cases h
theorem Zk3{α β:Type}{as:List α}{bs:List β}{p:α×β}(h:p∈as.zip bs):∃i:Nat,as[i]?=some p.1/\bs[i]?=some p.2:=by
 obtain⟨i,hi,e⟩:=GC h
 rw[Yaa]at e
 rw[Wo]at hi
 exact⟨i,by rw[<-e];exact Yn (by omega),by rw[<-e];exact Yn (by omega)⟩
theorem ZcQ{K:Frag}{cm:List Addr}{m:Mem}{H:Hp}{α:Type}{f:α->T}{g:α->Value}:∀(l:List α),(∀z∈l,∃v,RT K cm m H (f z) v/\RelV v (g z))->∃vs,RTs K cm m H (l.map f) vs/\Vals vs (l.map g)
 |[],_=>⟨[],.nil,.nil⟩
 |z::l,h=>by
  obtain⟨v,h1,h2⟩:=h z Yp
  obtain⟨vs,h3,h4⟩:=ZcQ l λz hz=>h z (Yg _ hz)
  exact⟨v::vs,.cons h1 h3,.cons h2 h4⟩
section
variable{xr:XR}{X:Cx}{call:Nat->List W->Mem->Res W}{gv:List T}{params:Ybw}{body:Expr}{scope:Scope}{q:Str}
theorem Zis{pins:List (Addr×Obj)}{s:Shared}{σ:L2.St}{H:Hp}{cm:List Addr}{m m':Mem}{env:Env}{y:Str}{N':List Str}{keep:List Nat}{cl:List (Str×Addr)}{f l:Addr}{pm cv ct:Value}{eb:E}{ts:List T}{vs:List V}{kI:List (List Int)}{Q E:Value->Shared->Prop}(I:Inv X ((f,Jz q params body scope cl pm cv ct)::pins) σ H s)(S:LamSc X y scope)(cf:Zh5 H cv (lamQ q))(hcl1:∀x c,cl.lookup x=some c->X.env.cells.lookup x=some c)(hcl2:∀x,(x,YW)∈scope.names->∃c,cl.lookup x=some c)(hdp:X.A.depth<VV)(hun:X.A.units+64<cLine)(hbind:∀x,U6 (kla_fn "<lambda>" (lamQ q) params body scope cl pm cv ct) ⟨[x],[]⟩=pure [(y,x)])(hy:N'[0]?=some y)(hown:N'.length=1+keep.length)(hkeep:∀(i:Nat) x,N'[1+i]?=some x->∃j,keep[i]?=some j/\X.N[j]?=some x/\(x,YW)∈scope.names)(hb:∀s H,PE (Zey X N' q scope cl f cv s H) body (tE X.K call gv xr0 eb))(hE:EnvR X.K cm m H env σ)(M:MemR X.K cm m H)(h1:H l=some (.lst vs))(r1:RTs X.K cm m H ts vs)(ok:J6 (λenv m=>ev call gv eb env m) (keep.map λi=>(env[i]?).join) ts m=.ok kI m')(hn:kI.Nodup)(h64:kI.length<64)(fin:∀(D:Addr) (H':Hp) (cm':List Addr) (s':Shared) (us:List V),Inv X pins σ (upd H' D (.lst us)) s'->H' D=none->X.K.lookup D=none->Ext cm m H cm' m' H'->MemR X.K cm' m' H'->RTs X.K cm' m' H' ((Zbs (kI.zip ts)).map (·.2)) us->Q (.ref D) s'):
  wpAny (model X.prog X.w) X.A (U8 (.builtin "sorted") [.ref l] [(Gg "key",.ref f)]) Q E s:=by
 obtain⟨its,rv,pl,hz⟩:=I.list (.of h1)
 have lv:vs.length=its.length:=rv.length
 have lt:ts.length=vs.length:=r1.length
 have lk:=Zes ok
 have li:its.length=ts.length:=(lt.trans lv).symm
 refine Ts.sk_call pl.isList (by rw[li,<-lk];exact h64) λD kS e1 h' hD hDS gD gS kp=>?_
 have hS:s.heap.objs.size<=kS:=YJ hD (Gd hDS)
 have nF:∀{b:Addr},s.heap.objs.size<=b->b∉frs X.stack:=λ{b} hb z=>by
  rcases Yh.mp (I.stkSub b z)with e|e
  ·exact absurd I.lt (by rw[<-e];exact Yal.mpr hb)
  ·exact I.nofs hb e
 have turn:∀{b:Addr}{H1:Hp}{s1:Shared}{g:Obj->Obj},s.heap.objs.size<=b->H1 b=none->Inv X ((f,Jz q params body scope cl pm cv ct)::pins) σ H1 s1->Inv X ((f,Jz q params body scope cl pm cv ct)::pins) σ H1 { s1 with heap:=s1.heap.update b g }:=λ{b H1 s1 g} hb hn1 J=>by
  have fp:=I.fpOk hb hn1
  exact J.turned (t':=s1.toks) (λb' o ne e=>by rw[W0 _ _ _ _ ne];exact e) hn1 fp.2.1 fp.2.2.2.1 fp.2.2.2.2.1 fp.2.2.2.2.2
 refine⟨λks s1=>∃cm1 m1 H1,Inv X ((f,Jz q params body scope cl pm cv ct)::pins) σ H1 s1/\H1 D=none/\H1 kS=none/\s1.heap.get? D=some (seqObj "list" #[] e1)/\(∃e,s1.heap.get? kS=some (seqObj "list" ks.toArray e))/\MemR X.K cm1 m1 H1/\Ext cm m H cm1 m1 H1 /\
  J6 (λenv m=>ev call gv eb env m) (keep.map λi=>(env[i]?).join) (ts.drop ks.length) m1=.ok (kI.drop ks.length) m'/\Paired (KR cm1 m1 H1) (kI.take ks.length) ks,?_,?_,?_,?_⟩
 ·exact⟨cm,m,H,I.kept kp,I.hok.fresh hD,I.hok.fresh hS,gD,⟨0,gS⟩,M,.refl,ok,.nil⟩
 ·rintro ks s1 ⟨_,_,_,_,_,_,_,g,_⟩
  exact g
 ·rintro ks x r s1 hd ⟨cm1,m1,H1,I1,nD,nS,aD,⟨e,aS⟩,M1,x1,run,kr⟩
  have hi:ks.length<its.length:=by
   have:=congrArg VN hd
   rw[V6,YB]at this
   omega
  have hiT0:ks.length<ts.length:=by rw[<-li];exact hi
  have ex:its[ks.length]?=some x:=by
   have:=congrArg (·[0]?) hd
   simpa using this
  obtain⟨t,et⟩:∃t,ts[ks.length]?=some t:=⟨_,Yn hiT0⟩
  obtain⟨v,ev',rt⟩:=Zx r1 et
  obtain⟨x',ex',rx⟩:=rv.get ev'
  rw[ex]at ex';cases ex'
  have edr:ts.drop ks.length=t::ts.drop (ks.length+1):=by
   rw[WT hiT0]
   rw[Yn hiT0]at et
   rw[YG et]
  rw[edr,J6]at run
  obtain⟨w,m2,run1,run2⟩:=Zj run
  cases hk:keyL w with
  |none=>rw[hk]at run2;cases run2
  |some k =>
  rw[hk]at run2
  obtain⟨ks',m3,run3,run4⟩:=Zj run2
  injection run4 with e4 e5
  subst e5
  have ekd:kI.drop (ks.length+1)=ks':=by
   rw[<-List.drop_drop,<-e4]
   rfl
  have ekt:kI.take (ks.length+1)=kI.take ks.length++[k]:=by
   have hlt:ks.length<kI.length:=by rw[lk];exact hiT0
   have:kI[ks.length]?=some k:=by
    have:=congrArg (·[0]?) e4
    simpa using this.symm
   rw[List.take_add_one,this]
   rfl
  have hE1:EnvR X.K cm1 m1 H1 (some (.t t)::keep.map λi=>(env[i]?).join) (some v::stK keep σ):=λi w' e'=>by
   cases i with
   |zero =>
    have e':some (some (W.t t))=some (some w'):=e'
    cases e'
    exact⟨v,rfl,rt.extM x1 M⟩
   |succ i =>
    have e':(keep.map λi=>(env[i]?).join)[i]?=some (some w'):=e'
    show ∃v,(stK keep σ)[i]?=some (some v)/\_
    unfold stK
    rw[YZ]at e' ⊢
    cases qk:keep[i]? with
    |none=>rw[qk]at e';cases e'
    |some j =>
     rw[qk]at e'
     have e':(env[j]?).join=some w':=YG e'
     have ej:env[j]?=some (some w'):=by
      cases qj:env[j]? with
      |none=>rw[qj]at e';cases e'
      |some o=>rw[qj]at e';exact congrArg some e'
     obtain⟨v',s1',s2'⟩:=(hE.ext x1 M M1) j w' ej
     exact⟨v',by show some ((σ[j]?).join)=_;rw[s1'];rfl,s2'⟩
  have cf1:Zh5 H1 cv (lamQ q):=by
   obtain⟨c,o,vs',t',u,a1,a2,a3,a4⟩:=cf
   exact⟨c,o,vs',t',u,a1,(x1.keep c _ a2 (QJ M a2 λ_ z=>by cases z)).1,a3,a4⟩
  refine thn (Zl7 (Q:=λv' H'=>∃cm',Ext cm1 m1 H1 cm' m2 H'/\MemR X.K cm' m2 H'/\RW X.K cm' m2 H' w v') I1 S cf1 hcl1 hcl2 hdp (hbind x) rx hy hown hkeep (hb s1 H1) ⟨_,cm1,m1,hE1,M1,by
   rw[run1]
   exact λcm' H' x' M' v' rv'=>⟨cm',x',M',rv'⟩⟩) λu s2 hc=>?_
  obtain⟨v',H2,os,bare,un,hok,ru,cm2,x2,M2,rw2⟩:=hc
  have I2:Inv X ((f,Jz q params body scope cl pm cv ct)::pins) σ H2 s2:=I1.call' (ch:=[]) os un hok bare λb z=>absurd z (by simp)
  have aS2:=un.keep kS _ aS nS (nF hS) (by simp)
  have nS2:=un.free kS _ aS nS (by simp)
  have aD2:=un.keep D _ aD nD (nF hD) (by simp)
  have nD2:=un.free D _ aD nD (by simp)
  obtain rfl:=ZjU hk
  obtain⟨a,us,rfl,g1,g2,g3⟩:=RT.ilst (show RT X.K cm2 m2 H2 (.lst (k.map .int)) v' from rw2)
  cases RTs.intsV g3
  cases ru
  refine⟨e,aS2,cm2,m2,H2,turn hS nS2 I2,nD2,nS2,by rw[W0 _ _ _ _ (YH hDS)];exact aD2,⟨_,(G5 aS2 (·.push (GF a))).trans (by rw[List.push_toArray])⟩,M2,x1.trans x2,?_,?_⟩
  ·rw[Yr,Y5,run3,ekd]
  ·rw[Yr,Y5,ekt]
   refine ZZ (Zi (λk v h=>?_) kr) (.cons ⟨a,rfl,g1,g2⟩ .nil)
   obtain⟨b,rfl,b1,b2⟩:=h
   exact⟨b,rfl,(x2.keep b _ b1 b2).1,(x2.keep b _ b1 b2).2⟩
 ·rintro ks s1 hl ⟨cm1,m1,H1,I1,nD,nS,aD,⟨e,aS⟩,M1,x1,run,kr⟩
  have ekl:kI.length=ks.length:=lk.trans (li.symm.trans hl.symm)
  have etl:ts.length=ks.length:=li.symm.trans hl.symm
  rw[Uk (by first|exact Vt etl|exact Vt ekl),Uk (by first|exact Vt ekl|exact Vt etl)]at run
  injection run with _ em
  subst em
  rw[List.take_of_length_le (Vt ekl)]at kr
  have kv:∀v∈ks,LI s1.heap v (kfH H1 v):=λv hv=>by
   obtain⟨i,hi,e'⟩:=GC hv
   have:=Qq kr i kI[i] v (Yn (by rw[ekl];exact hi)) (by rw[<-e'];exact Yn hi)
   rw[ZjR this]
   exact this.li I1.hok
  have kz:(ks.map (kfH H1))=kI:=by
   refine List.ext_getElem (by rw[Yc];omega) λi h1 h2=>?_
   rw[List.getElem_map]
   exact ZjR (Qq kr i kI[i] _ (Yn h2) (Yn (by rw[<-ekl];exact h2)))
  have nk:(ks.zip its).map (·.1)=ks:=Zbx hl
  have hzn:((ks.zip its).map (λp=>kfH H1 p.1)).Nodup:=by
   have:(ks.zip its).map (λp=>kfH H1 p.1)=((ks.zip its).map (·.1)).map (kfH H1):=by rw[Y0];rfl
   rw[this,nk,kz]
   exact hn
  have inj:∀a∈ks.zip its,∀b∈ks.zip its,kfH H1 a.1=kfH H1 b.1->a=b:=λa ha b hb' e'=>by
   have:=Zb2 (xs:=(ks.zip its).map λp=>(kfH H1 p.1,p)) (by rw[Y0];exact hzn) (Yz.mpr ⟨a,ha,rfl⟩) (Yz.mpr ⟨b,hb',rfl⟩) e'
   exact(Yb9 this).2
  refine⟨Yb4,λa b=>lexI (kfH H1 a.1) (kfH H1 b.1),?_,λh2 E' Q' hq=>ZhD (λv hv=>⟨_,kv v hv⟩) (by omega) hq,ZkD kv inj (by show X.A.units+1+1<cLine;omega),aD,λout hp hs=>?_⟩
  ·exact(Wq.mp hzn).imp λh z=>h (by rw[z])
  ·have lz:(ks.zip its).length=(kI.zip ts).length:=by rw[Wo,Wo];omega
   obtain⟨Z,pz,ez⟩:=Zi6 (·.1) hp ((ks.zip its).zip (kI.zip ts)) (Zbx lz).symm
   have mem:∀z∈Z,kfH H1 z.1.1=z.2.1/\∃v,RT X.K cm1 m1 H1 z.2.2 v/\RelV v z.1.2:=λz hz=>by
    obtain⟨i,i1,i2⟩:=Zk3 (pz.mem_iff.mp hz)
    obtain⟨j,j2⟩:=Yi.mp i1
    obtain⟨k,k1⟩:=Yi.mp i2
    rw[Yaa]at j2
    rw[Yaa]at k1
    rw[Wo]at j k
    have a1:=Qq kr i kI[i] ks[i] (Yn (Yu k (Nat.min_le_left _ _))) (Yn (Yu j (Nat.min_le_left _ _)))
    have hiT:i<ts.length:=Yu k (Ya5 _ _)
    obtain⟨v,v1,v2⟩:=Zx r1 (Yn hiT)
    obtain⟨u,u1,u2⟩:=rv.get v1
    have hiI:i<its.length:=Yu j (Ya5 _ _)
    rw[Yn hiI]at u1
    cases u1
    rw[<-j2,<-k1]
    exact⟨ZjR a1,v,v2.extM x1 M,u2⟩
   have es:Z.map (·.2)=Zbs (kI.zip ts):=by
    refine Zlg (by rw[Zbx (by omega)];exact hn) ?_ ?_
    ·have:=pz.map (·.2)
     rw[Zf2 lz]at this
     exact this
    ·refine Wq.mpr ?_
     unfold Ts.Srt at hs
     rw[ez]at hs
     refine(Wq.mp hs).imp_of_mem λ{a b} ha hb' h=>?_
     dsimp only at h
     rw[(mem a ha).1,(mem b hb').1]at h
     exact h
   obtain⟨us,u1,u2⟩:=ZcQ (f:=λz=>z.2.2) (g:=λz=>z.1.2) Z λz hz=>(mem z hz).2
   have e1':(Zbs (kI.zip ts)).map (·.2)=Z.map λz=>z.2.2:=by rw[<-es,Y0];rfl
   have e2':out.map (·.2)=Z.map λz=>z.1.2:=by rw[ez,Y0];rfl
   have lz2:us.length=its.length:=by
    rw[u2.length,Yc,pz.length_eq,Wo,Wo,Wo]
    omega
   rw[e2']
   have J2:=turn (g:=YT λ_=>(Z.map λz=>z.1.2).toArray) hD nD (turn (g:=YT λ_=>(#[]:Array Value)) hS nS I1)
   have aD1:(s1.heap.update kS (YT λ_=>(#[]:Array Value))).get? D=some (seqObj "list" #[] e1):=by rw[W0 _ _ _ _ (YH hDS)];exact aD
   have J3:=Inv.adopt (ho:=.lst us) J2 (I.fpOk hD nD) ⟨by omega,_,_,u2,G5 aD1 λ_=>(Z.map λz=>z.1.2).toArray⟩
   refine fin D H1 cm1 _ us (J3.pins_of λp hp=>J3.pin p (Ym _ (Yg _ hp))) nD ?_ x1 M1 (by rw[e1'];exact u1)
   cases qk:X.K.lookup D with
   |none=>rfl
   |some o=>exact absurd (Ys (I.kIn D o qk)) (Yal.mpr hD)
def fSk(call:Nat->List W->Mem->Res W)(gv:List T)(keep:List Nat)(eb:E)(env:Env)(x:W)(m:Mem):Res W:=match view x m with
 |some (.lst ts)=>(J6 (λenv m=>ev call gv eb env m) (keep.map λi=>(env[i]?).join) ts m).only.bind λks m=>pur (XH ks ts) m
 |_=>.stuck
theorem Zi7{e:Expr}{ea eb:E}{y:Str}{N':List Str}{keep:List Nat}{p pl kp pos:Pos}(hdp:X.A.depth<VV)(hun:X.A.units+64<cLine)(LK:LamK X.K)(hq:X.env.qual=q++".<locals>.")(hn:Jq.contains q=true)(hcd:codeIn X.K X.env.code q=true)(hg:Gl X "sorted")(hm:X.mg "sorted" = none)(S:LamSc X y scope)(hdef:Ycj params X.env=([],[]))(hbind:∀cl pm cv ct x,U6 (kla_fn "<lambda>" (lamQ q) params body scope cl pm cv ct) ⟨[x],[]⟩=pure [(y,x)])(hy:N'[0]?=some y)(hown:N'.length=1+keep.length)(hkeep:∀(i:Nat) x,N'[1+i]?=some x->∃j,keep[i]?=some j/\X.N[j]?=some x/\(x,YW)∈scope.names)(ha:PE X e (tE X.K call gv xr ea))(he:notStar e=true)(hb:∀cl f cv s H,PE (Zey X N' q scope cl f cv s H) body (tE X.K call gv xr0 eb)):
  PE X (.Call (.Name "sorted" p) [e] [⟨some "key",.Lambda params body scope pl,kp⟩] pos) (tE X.K call gv xr (.sortk keep ea eb)):=by
 rintro pins s σ H Q I ⟨env,cm,m,hE,M,ho⟩
 have ho:OkR X.K ((ev call gv ea env m).bind (fSk call gv keep eb env)) xr cm m H (λw cm' m' H'=>∀v,RW X.K cm' m' H' w v->Q v H'):=by rw[ev]at ho;exact ho
 obtain⟨cl,hclos,hcl1,hcl2⟩:=Zc4 (scope:=scope) (env:=X.env) λx hx=>I.ok.has x (S.free x hx)
 refine Ge (Zb5 (u:=.builtin "sorted") I hg hm (by decide +kernel) ?_ (by decide) (by decide))
 have st:=J8 (env:=X.env) (es:=[]) he
 refine callWith_kw (thn ((Zje ha Zm1 st) pos pins s σ H (λus H1=>∃v cm1 m1 x,us=[v]/\Ext cm m H cm1 m1 H1/\MemR X.K cm1 m1 H1/\RW X.K cm1 m1 H1 x v/\OkR X.K (fSk call gv keep eb env x m1) xr cm1 m1 H1 (λw cm' m' H'=>∀v,RW X.K cm' m' H' w v->Q v H')) I ⟨env,cm,m,hE,M,ho.bind.mono λx cm1 m1 H1 x1 M1 o1 v rv=>⟨v,cm1,m1,x,rfl,x1,M1,rv,o1⟩⟩) λus s1 h1=>?_) (by rw[st];rfl) (by rw[st];rfl) rfl rfl
 obtain⟨vs,H1,I1,r,v,cm1,m1,x,rfl,x1,M1,rv,o1⟩:=h1
 obtain⟨u,rfl,ru⟩:=vals1 r
 unfold fSk at o1
 cases qv:view x m1 with
 |none=>rw[qv]at o1;exact o1.elim
 |some tx =>
 rw[qv]at o1
 cases tx with
 |lst ts =>
  have o1:OkR X.K ((J6 (λenv m=>ev call gv eb env m) (keep.map λi=>(env[i]?).join) ts m1).only.bind λks m=>pur (XH ks ts) m) xr cm1 m1 H1 _:=o1
  cases ql:J6 (λenv m=>ev call gv eb env m) (keep.map λi=>(env[i]?).join) ts m1 with
  |stuck=>rw[ql]at o1;exact o1.elim
  |exc _ _=>rw[ql]at o1;exact o1.elim
  |ok kI m2 =>
   rw[ql]at o1
   have o1:OkR X.K (pur (XH kI ts) m2) xr cm1 m1 H1 _:=o1
   by_cases hc:kI.Nodup/\kI.length<64
   case neg =>
    unfold XH at o1
    rw[if_neg hc]at o1
    exact o1.elim
   unfold XH at o1
   rw[if_pos hc]at o1
   show wpAny _ _ (evalAll [do let v <-eval (.Lambda params body scope pl) X.env;Gz pos;pure v]) _ _ s1
   refine wpAny_evalAll_cons (Yb (Zl6 I1 M1 LK hq hn hcd hdef hclos λf pm cv ct H2 s2 I2 M2 x2 cf=>Yb (W8 (Yd (wpAny_evalAll_nil ?_)))))
   obtain⟨a,us,rfl,g1,g2⟩:=ZJ M2 (rv.ext x2 M1 M2) qv
   cases ru
   refine Zis I2 S cf hcl1 hcl2 hdp hun (λz=>hbind _ _ _ _ z) hy hown hkeep (λs H=>hb cl f cv s H) ((hE.ext x1 M M1).ext x2 M1 M2) M2 g1 g2 ql hc.1 hc.2 λD H3 cm3 s3 us3 I3 nD kD x3 M3 r3=>?_
   refine⟨.ref D,_,I3,rfl,?_⟩
   exact OkR.to (a:=W.t (.lst ((Zbs (kI.zip ts)).map (·.2)))) o1 ((x2.trans x3).trans (Ext.new nD)) (M3.new nD) _ (RT.newLst M3 r3 nD)
 |_=>exact o1.elim
def ZoK(scope osc:Scope)(y:Str):Bool:=scOk scope osc&&!scope.isCoroutine&&!scope.isGenerator&&(scope.names.all λp=>p.2 != .cell)&&scope.names.lookup y==some .local
theorem Zl8{y:Str}(h:ZoK scope X.env.scope y=true):LamSc X y scope:=by
 unfold ZoK at h
 simp only[Yo]at h
 obtain⟨⟨⟨⟨h1,h2⟩,h3⟩,h4⟩,h5⟩:=h
 unfold scOk at h1
 rw[Yo]at h1
 obtain⟨hk,h1⟩:=h1
 have h1:=Wa.mp h1
 have h4:=Wa.mp h4
 refine⟨eq_of_beq hk,by simpa using h2,by simpa using h3,λx hx z=>?_,eq_of_beq h5,λp hp=>?_,λx hx=>?_⟩
 ·have:=h4 x hx
  rw[z]at this
  cases this
 ·have:=h1 p hp
  simp only[Yo]at this
  exact eq_of_beq this.1
 ·have:=h1 _ hx
  simp only[Yo,Ue]at this
  rcases this.2 with(h|h)|h
  ·cases h
  ·exact .inl (eq_of_beq h)
  ·exact .inr (eq_of_beq h)
theorem Zfw{N' N:List Str}{own:Nat}{keep:List Nat}(h2:ZeB N' N own keep scope=true):N'.length=own+keep.length/\∀(i:Nat) x,N'[own+i]?=some x->∃j,keep[i]?=some j/\N[j]?=some x/\(x,YW)∈scope.names:=by
 unfold ZeB at h2
 rw[Yo]at h2
 obtain⟨hl,h2⟩:=h2
 have h2:=Wa.mp h2
 refine⟨eq_of_beq hl,λi x e=>?_⟩
 have hlen:N'.length=own+keep.length:=eq_of_beq hl
 have hi:i<keep.length:=by
  have:=(Yi.mp e).1
  omega
 have h:=h2 i (VR.mpr hi)
 rw[e]at h
 cases q:keep[i]? with
 |none=>rw[q]at h;cases h
 |some j =>
  rw[q]at h
  have h:(N[j]?==some x&&scope.names.any λp=>p.1==x&&p.2==.free)=true:=h
  rw[Yo]at h
  refine⟨j,rfl,eq_of_beq h.1,?_⟩
  obtain⟨p,hp,hq⟩:=GK.mp h.2
  rw[Yo]at hq
  rw[<-eq_of_beq hq.1]
  have:p.2=YW:=eq_of_beq hq.2
  rw[<-this]
  exact hp
theorem Zeh{e:Expr}{ea eb:E}{y:Str}{N':List Str}{keep:List Nat}{p pl kp pos:Pos}{k:Nat}(q:Str)(hr:Room k X.A)(hl:∀e,Room k (X.A.in1.in1.deeper e))(LK:LamK X.K)(hcd:codeIn X.K X.env.code q=true)(hm:X.mg "sorted" = none)(h1:ZoK scope X.env.scope y=true)(h2:ZeB (y::N') X.N 1 keep scope=true)(hg:Gl X "sorted")(hq:X.env.qual=q++".<locals>.")(hn:Jq.contains q=true)(hdef:Ycj params X.env=([],[]))(hbind:∀cl pm cv ct x,U6 (kla_fn "<lambda>" (lamQ q) params body scope cl pm cv ct) ⟨[x],[]⟩=pure [(y,x)])(he:notStar e=true)(ha:PE X e (tE X.K call gv xr ea))(hb:∀cl f cv s H,Room k (Zey X (y::N') q scope cl f cv s H).A->PE (Zey X (y::N') q scope cl f cv s H) body (tE X.K call gv xr0 eb)):
  PE X (.Call (.Name "sorted" p) [e] [⟨some "key",.Lambda params body scope pl,kp⟩] pos) (tE X.K call gv xr (.sortk keep ea eb)):=
 Zi7 hr.depth hr.units LK hq hn hcd hg hm (Zl8 h1) hdef hbind rfl (Zfw h2).1 (Zfw h2).2 ha he λcl f cv s H=>hb cl f cv s H (hl _)
end
theorem Room.lam{k:Nat}{A:Around}(r:Room (k+1) A){e e':Ws}:Room k ((A.deeper e).in1.in1.deeper e'):=
 ⟨r.hd,by have:=r.dp;show A.depth+1+1+3*k+5<_;omega,by have:=r.un;show A.units+3+1+1+3+16*k+200<_;omega⟩
theorem Zkg{K:Frag}{fns:List Fn}{gv:List T}{k:Nat}{P:YK}{w:World}{mg:Str->Option Value}{base:Heap}{x qual:Str}{st:Stmt}{f:Addr}{fd:Uj}{N ps:List Str}{fi np n:Nat}{body:S}{cell:Bool}(F:Fun K x qual st f fd)(S:FnScope N ps (Zc st))(hd:fns[fi]?=some ⟨np,n,body,cell⟩)(hps:np=ps.length)(hn:N.length=n)(hbody:∀(cdv:Value),codeIn K cdv qual=true->∀(A:Around) (outer:List Ws) (s:Shared) (H:Hp) (E:XK),Room (k+1) A ->
   ∀(xe:Value->Shared->Prop) (pn:List (Addr×Obj)) (xr:XR),Go (asX (cxOf (CXF P w) P w K mg base N qual (Zc st) f cdv A outer s H E) xe pn) xr->Bd (asX (cxOf (CXF P w) P w K mg base N qual (Zc st) f cdv A outer s H E) xe pn) (Qp st) (tS K (J7 fns gv k) gv xr n body)):
  FnOk P w K mg base (CXF P w) (k+1) f fd ps (spF K fns gv (k+1) fi):=by
 subst hn
 exact Znn F S hd hps rfl λcdv hcd A outer s H E hr xe pn xr go=>(hbody cdv hcd A outer s H E hr xe pn xr go).h
def Qd(ps:List Addr)(K:Frag):Frag:=K.filter λp=>!ps.contains p.1
theorem Qs{ps:List Addr}{a:Addr}:∀(K:Frag),(Qd ps K).lookup a=if ps.contains a then none else K.lookup a
 |[]=>by cases ps.contains a<;>rfl
 |(b,o)::K=>by
  have ih:=Qs (ps:=ps) (a:=a) K
  unfold Qd at ih ⊢
  rw[Uw]
  by_cases hb:a=b
  ·subst hb
   cases hc:ps.contains a with
   |true =>
    simp only[hc,Uq,YD,if_false,if_true]at ih ⊢
    exact ih
   |false=>simp only[hc,Bool.not_false,if_true,YD,if_false,Wk,beq_self_eq_true]
  ·have e:(a==b)=false:=beq_eq_false_iff_ne.mpr hb
   rw[Wk,e]
   cases hc:ps.contains b with
   |true =>
    simp only[hc,Uq,YD,if_false]
    exact ih
   |false =>
    simp only[hc,Bool.not_false,if_true,Wk,e]
    exact ih
theorem Zau{a:Addr}{o:Obj}:∀{K:Frag},K.lookup a=some o->(a,o)∈K
 |[],h=>by cases h
 |(b,u)::K,h=>by
  rw[Wk]at h
  cases e:a==b with
  |true=>rw[e]at h;cases h;rw[eq_of_beq e];exact Yp
  |false=>rw[e]at h;exact Yg _ (Zau h)
def Zcj(o:Obj):Option Str:=match o.data with
 |.fields vs=>match vs.toList with
  |_::.str n _::_=>some n
  |_=>none
 |_=>none
def lamB(ps:List Addr)(K:Frag):Bool:=K.all λp=>match Zcj p.2 with
 |some q=>!Jq.contains q || (match JX p.2 with
  |some x=>ps.contains x.2&&Ybn K p.1 x.2&&K.all λp'=>match JX p'.2 with
   |some x'=>!decide (x'.2=x.2) || decide (x'.1=x.1)
   |none=>true
  |none=>false)
 |none=>true
section
variable{ps:List Addr}{K:Frag}(T:∀P∈ps,K.lookup P=some (tabObj #[]))
include T
theorem ZeJ{a:Addr}{o:Obj}(l:K.lookup a=some o)(nd:o.data≠.fields #[]):(Qd ps K).lookup a=some o:=by
 rw[Qs,if_neg λz=>?_]
 ·exact l
 ·have:=T a (Gk.mp z)
  rw[l]at this
  cases this
  exact nd rfl
theorem Zka{cd:Value}{x:Str}(e:codeIn K cd x=true):codeIn (Qd ps K) cd x=true:=by
 cases cd with
 |ref c =>
  have:(Qd ps K).lookup c=K.lookup c:=by
   rw[Qs,if_neg λz=>?_]
   have:=T c (Gk.mp z)
   unfold codeIn at e
   dsimp only at e
   rw[this]at e
   cases e
  unfold codeIn at e ⊢
  dsimp only at e ⊢
  rw[this]
  exact e
 |_=>cases e
theorem Zj9{f:Addr}{oc:Value}{od:Option Addr}{fd:Uj}{sl:Array (Option Value)}(l:K.lookup f=some ⟨oc,od,.func fd,sl⟩):keepIn (Qd ps K) (.ref f)=true:=by
 have:=ZeJ T l (λz=>by cases z)
 unfold keepIn
 dsimp only
 rw[this]
omit T in
omit T in
theorem Q8{o:Obj}{q:Str}{P:Addr}(h:JX o=some (q,P)):Zcj o=some q/\Jq.contains q=true:=by
 unfold JX at h
 unfold Zcj
 split at h
 ·rename_i vs hd
  try rw[hd]
  try dsimp only
  split at h
  ·rename_i q' t P' h1 h2
   split at h
   ·rename_i hc
    cases h
    refine⟨?_,hc⟩
    rw[<-WM]at h1
    cases hv:vs.toList with
    |nil=>rw[hv]at h1;cases h1
    |cons a r =>
     rw[hv]at h1
     cases r with
     |nil=>cases h1
     |cons b r =>
      have h1:some b=some (V1 q t):=h1
      cases h1
      rfl
   ·cases h
  ·cases h
 ·cases h
theorem Zm9(B:lamB ps K=true):LamK (Qd ps K):=by
 have B:=Wa.mp B
 have at':∀{c:Addr}{o:Obj}{q:Str},(Qd ps K).lookup c=some o->Zcj o=some q->Jq.contains q=true->∃x,JX o=some x/\ps.contains x.2=true/\Ybn K c x.2=true/\∀p∈K,∀x',JX p.2=some x'->x'.2=x.2->x'.1=x.1:=λ{c o q} l hq hn=>by
  rw[Qs]at l
  split at l
  ·cases l
  ·have b:=B (c,o) (Zau l)
   dsimp only at b
   rw[hq]at b
   dsimp only at b
   rw[hn]at b
   cases hx:JX o with
   |none=>rw[hx]at b;cases b
   |some x =>
    rw[hx]at b
    simp only[Uq,Bool.false_or,Yo]at b
    refine⟨x,rfl,b.1.1,b.1.2,λp hp x' hx' e=>?_⟩
    have:=Wa.mp b.2 p hp
    rw[hx']at this
    simp only[Ue,Bool.not_eq_true',decide_eq_false_iff_not,decide_eq_true_eq]at this
    exact this.resolve_left λz=>z e
 have tb:∀{q:Str}{P:Addr},Zk1 (Qd ps K) q P->∃c o,(c,o)∈K/\(Qd ps K).lookup c=some o/\JX o=some (q,P):=λ⟨c,o,h1,h2,_⟩=>by
  refine⟨c,o,?_,h1,h2⟩
  rw[Qs]at h1
  split at h1
  ·cases h1
  ·exact Zau h1
 refine⟨λq q' P h1 h2=>?_,λc q hc hn=>?_⟩
 ·obtain⟨c,o,m1,l1,t1⟩:=tb h1
  obtain⟨c',o',m2,l2,t2⟩:=tb h2
  obtain⟨x,e1,_,_,u⟩:=at' l1 (Q8 t1).1 (Q8 t1).2
  rw[t1]at e1;cases e1
  exact(u _ m2 _ t2 rfl).symm
 ·have hl:∃o,(Qd ps K).lookup c=some o/\Zcj o=some q:=by
   unfold codeIn at hc
   dsimp only at hc
   split at hc
   ·rename_i vs _ ho
    refine⟨_,ho,?_⟩
    unfold Zcj
    dsimp only
    split at hc
    ·rename_i n t r hv
     rw[hv]
     rw[eq_of_beq hc]
    ·cases hc
   ·cases hc
  obtain⟨o,lo,no⟩:=hl
  obtain⟨x,e1,e2,e3,_⟩:=at' lo no hn
  obtain⟨q',P⟩:=x
  obtain rfl:q'=q:=by
   have:=(Q8 e1).1
   rw[no]at this
   exact(YG this).symm
  have hP:(Qd ps K).lookup P=none:=by rw[Qs,if_pos e2]
  refine⟨P,?_,hP,c,o,lo,e1,hP⟩
  have lc:(Qd ps K).lookup c=K.lookup c:=by
   rw[Qs]at lo ⊢
   split at lo
   ·cases lo
   ·rename_i z;rw[if_neg z]
  unfold Ybn at e3 ⊢
  rw[lc]
  exact e3
end
theorem law_callT{P:YK}{w:World}{K:Frag}{ps:List Addr}{mg mb:Str->Option Value}{CX:CXT}{k:Nat}{fa a:Addr}{fd:Uj}{x:Str}{sp:Sp}{s₁:Shared}{vs:List Value}{ns:List Int}(KX:K.In s₁.heap)(T:∀P∈ps,K.lookup P=some (tabObj #[]))(C:∀P∈ps,∃c,Ybn K c P=true)(B:lamB ps K=true)(hns:s₁.heap.Ns Y8 mg)(hb:s₁.heap.Ns VM mb)(hbb:∀x:Str,x≠"__name__"->mb x=Gb x)(hlim:s₁.heap.NoLimit)(hbm:∃bm ob,mg "__builtins__" = some (.ref bm)/\bm≠VM/\s₁.heap.get? bm=some ob/\ob.cls=.type "module"/\ob.dict=some VM/\ob.data=.plain)(hg:s₁.gens=#[])(ha:s₁.heap.get? a=some { cls:=.type "list",data:=.seq vs.toArray })(hi:U3 vs ns)(hl:ns.length<=YM)(hr:Room k YbL)(F:∀base:Heap,(Qd ps K).In base->base.Ns Y8 mg->FnOk P w (Qd ps K) mg base CX k fa fd [x] sp)(hbind:∀(s:Shared) (u:Value),YbI s fd ⟨[u],[]⟩ [(x,u)])(hsp:∀H:Hp,TabR (Qd ps K) H->ZcA (Qd ps K) H a ns->sp [.ref a] H (λv _=>v=.bl true) λ_ _ _=>False)(hCX:∀H e s',CX [] H s₁ (λ_ _ _=>False) e s'->False):
  Vd (model P w) YbL (.call (.ref fa) ⟨[.ref a],[]⟩) (λr s'=>r=.ok (.ret (.bool true))/\OldK s₁.heap s'.heap/\s'.os=s₁.os/\YaS s'.gens) s₁:=by
 have rv:=ZbP hi
 have lenV:=hi.length
 have TH:∀P∈ps,s₁.heap.get? P=some (tabObj #[]):=λP hP=>KX P _ (T P hP)
 have aps:a∉ps:=λz=>by have:=TH a z;rw[ha]at this;cases this
 have core:∀(H:Hp),ZcA (Qd ps K) H a ns->HOk P w H s₁.heap->(∀b u,H b=some u->(b=a/\∃o xs,u=.frz o (.lst xs))∨(b∈ps/\u=.tbl #[]))->(∀b∈ps,H b=some (.tbl #[]))->(H a≠none->K.lookup a=none) ->
   Vd (model P w) YbL (.call (.ref fa) ⟨[.ref a],[]⟩) (λr s'=>r=.ok (.ret (.bool true))/\OldK s₁.heap s'.heap/\s'.os=s₁.os/\YaS s'.gens) s₁:=by
  intro H hS hok hA hT hK
  have base_of:∀{b:Addr}{o:Obj},s₁.heap.get? b=some o->H b=none->(hidT s₁.heap H).get? b=some o:=λe n=>Zmj e n
  have noA:∀{b:Addr}{o:Obj},s₁.heap.get? b=some o->o.cls≠.type "list"∨(∀its n,o.data≠.seq its n)->(∀gs,o.data≠.fields gs)->H b=none:=λ{b o} e d1 d2=>by
   cases q:H b with
   |none=>rfl
   |some u =>
    rcases hA b u q with⟨e',_⟩|⟨e',_⟩
    ·subst e'
     rw[ha]at e;cases e
     rcases d1 with d|d
     ·exact absurd rfl d
     ·exact absurd rfl (d _ _)
    ·have:=TH b e'
     rw[this]at e;cases e
     exact absurd rfl (d2 _)
  have nsK:∀{b:Addr}{m:Str->Option Value},s₁.heap.Ns b m->(hidT s₁.heap H).Ns b m:=λ{b m} ⟨o,es,ep,e,d,r⟩=>⟨o,es,ep,base_of e (noA e (.inr λ_ _ z=>by rw[d]at z;cases z) λ_ z=>by rw[d]at z;cases z),d,r⟩
  have hKb:(Qd ps K).In (hidT s₁.heap H):=λb o e=>by
   rw[Qs]at e
   split at e
   ·cases e
   ·rename_i z
    refine base_of (KX b o e) ?_
    cases q:H b with
    |none=>rfl
    |some u =>
     rcases hA b u q with⟨e',_⟩|⟨e',_⟩
     ·subst e'
      rw[hK (by rw[q];simp)]at e;cases e
     ·exact absurd (Gk.mpr e') z
  have hM:Mod (Qd ps K) mg (hidT s₁.heap H):=⟨hKb,nsK hns,⟨mb,nsK hb,hbb⟩,let⟨mc,h1,h2⟩:=hlim;⟨mc,nsK h1,h2⟩,by
   obtain⟨bm,ob,b1,b2,b3,b4,b5,b6⟩:=hbm
   exact⟨bm,ob,b1,b2,base_of b3 (noA b3 (.inr λ_ _ z=>by rw[b6]at z;cases z) λ_ z=>by rw[b6]at z;cases z),b4,b5,b6⟩⟩
  have e0:Env0 P w (Qd ps K) mg (hidT s₁.heap H) YbL [] s₁ H:=⟨rfl,hM,λb o e=>ZoA e,Vt (Zj8 _ _),trivial,λb hb=>absurd (show b∈([]:List Addr)from hb) (by simp),hok,.of_eq hg⟩
  have tab:TabR (Qd ps K) H:=λq Q ⟨c,o,l,t,n⟩=>by
   have L:=Zm9 T B
   refine⟨#[],hT Q ?_,trivial,λpos cv z=>by cases z⟩
   have hc:codeIn (Qd ps K) (.ref c) q=true:=by
    have:=(Q8 t).1
    unfold Zcj at this
    unfold codeIn
    dsimp only
    rw[l]
    obtain⟨oc,od,da,sl⟩:=o
    cases da with
    |fields gs =>
     dsimp only at this ⊢
     split at this
     ·cases this
      rename_i hv
      rw[hv]
      exact beq_self_eq_true _
     ·cases this
    |_=>cases this
   obtain⟨Q',h1,h2,c',o',l',t',_⟩:=L.hd c q hc (Q8 t).2
   rw[Qs]at n
   by_cases hq:ps.contains Q=true
   ·exact Gk.mp hq
   ·-- the table of c is Q
    rw[Qs]at l
    split at l
    ·cases l
    ·have b:=Wa.mp B (c,o) (Zau l)
     dsimp only at b
     rw[(Q8 t).1]at b
     dsimp only at b
     rw[(Q8 t).2,t]at b
     simp only[Uq,Bool.false_or,Yo]at b
     exact Gk.mp b.1.1
  refine V2 ((F _ hKb (nsK hns)).run YbL [] s₁ H ⟨[.ref a],[]⟩ [.ref a] [.ref a] _ _ hr e0 (hbind s₁ (.ref a)) (.cons rfl .nil) (hsp H tab hS)) λr s' h=>?_
  cases r with
  |error e=>exact(hCX H e s' h).elim
  |ok fl =>
   cases fl with
   |next=>exact Vn h
   |brk=>exact Vn h
   |cont=>exact Vn h
   |ret u =>
    obtain⟨v,H',os,bare,un,hok',r',q⟩:=h
    have q':v=.bl true:=q
    subst q'
    obtain rfl:u=Wh true:=r'
    have all:∀b o,s₁.heap.get? b=some o->s'.heap.get? b=some o∨(b∈ps/\∃more,s'.heap.get? b=some (tabObj more)):=λb o e=>by
     cases q:H b with
     |none=>exact .inl (un.keep b o e q (by intro z;exact absurd (show b∈([]:List Addr)from z) (by simp)) (by simp))
     |some u =>
      rcases hA b u q with⟨_,ob,xs,z⟩|⟨z1,z⟩
      ·subst z
       have z2:=un.frzs b ob _ q
       obtain⟨e1,_⟩:=hok b _ q
       obtain⟨e2,_⟩:=hok' b _ z2
       rw[e]at e1;cases e1
       exact .inl e2
      ·subst z
       obtain⟨more,z2⟩:=un.tbls b _ q
       exact .inr ⟨z1,_,hok' b _ z2⟩
    refine⟨rfl,⟨λb o e=>?_,λb o e=>?_⟩,os,bare⟩
    ·rcases all b o e with z|⟨z1,more,z⟩
     ·exact .inl z
     ·have e':=TH b z1
      rw[e]at e';cases e'
      obtain⟨c,hc⟩:=C b z1
      exact .inr (.inl ⟨((PySem.W.codeHd_of_K KX hc).tab e).isCodeTable,rfl,#[],more,rfl,by rw[z];simp⟩)
    ·rcases all b o e with z|⟨_,more,z⟩
     ·exact⟨_,z⟩
     ·exact⟨_,z⟩
 have tabOk:∀{H:Hp}{b:Addr},b∈ps->JZ P w H s₁.heap b (.tbl #[]):=λhb=>TH _ hb
 cases hk:K.lookup a with
 |some o =>
  have e:=KX a o hk
  rw[ha]at e
  cases e
  refine core (λb=>if b∈ps then some (.tbl #[])else none) (.inr ⟨_,vs.toArray,_,ZeJ T hk (λz=>by cases z),rfl,rfl,rfl,by rw[Yk,lenV];exact hl,by simpa using rv⟩) (λb u z=>?_) (λb u z=>?_) (λb hb=>if_pos hb) λz=>absurd (if_neg aps) z
  ·by_cases hb:b∈ps
   ·have z:some (HO.tbl #[])=some u:=(if_pos hb).symm.trans z
    cases z
    exact tabOk hb
   ·have z:none=some u:=(if_neg hb).symm.trans z
    cases z
  ·by_cases hb:b∈ps
   ·have z:some (HO.tbl #[])=some u:=(if_pos hb).symm.trans z
    cases z
    exact .inr ⟨hb,rfl⟩
   ·have z:none=some u:=(if_neg hb).symm.trans z
    cases z
 |none =>
  generalize hH:(λb=>if b=a then some (.frz { cls:=.type "list",data:=.seq vs.toArray } (.lst (ns.map V.int)))else if b∈ps then some (.tbl #[])else none:Hp)=H
  have Ha:H a=some (.frz { cls:=.type "list",data:=.seq vs.toArray } (.lst (ns.map V.int))):=by rw[<-hH];exact if_pos rfl
  have Hp':∀b∈ps,H b=some (.tbl #[]):=λb hb=>by
   rw[<-hH]
   exact(if_neg λz=>aps (by rw[<-z];exact hb)).trans (if_pos hb)
  have Hc:∀b u,H b=some u->(b=a/\u=.frz { cls:=.type "list",data:=.seq vs.toArray } (.lst (ns.map V.int)))∨(b∈ps/\u=.tbl #[]):=λb u z=>by
   by_cases hb:b=a
   ·subst hb
    rw[Ha]at z;cases z
    exact .inl ⟨rfl,rfl⟩
   ·by_cases hb':b∈ps
    ·rw[Hp' b hb']at z;cases z
     exact .inr ⟨hb',rfl⟩
    ·rw[<-hH]at z
     have z:none=some u:=((if_neg hb).trans (if_neg hb')).symm.trans z
     cases z
  refine core H (.inl ⟨_,Ha⟩) (λb u z=>?_) (λb u z=>?_) Hp' λ_=>hk
  ·rcases Hc b u z with⟨rfl,rfl⟩|⟨h1,rfl⟩
   ·exact⟨ha,by rw[Yc];exact hl,vs,_,rv,ha⟩
   ·exact tabOk h1
  ·rcases Hc b u z with⟨h1,rfl⟩|h
   ·exact .inl ⟨h1,_,_,rfl⟩
   ·exact .inr h
theorem walk_ofT{l:Yb7}{n k:Nat}{q:YK}{loose:List Str}{XP:(Str->Option Value)->Heap->Prop}{YP:World->Heap->Prop}{d:DefRec}{K:Params->Frag}{ps:List Addr}{CX:World->CXT}{sp:World->Sp}{x:Str}(hn:l.most=some n)(hn2:n<=YM)(hdf:d.params.defaults=[])(hr:Room k YbL)(hY:∀(w:World) (h:Heap),YP w h->(K w.params).In h)(T:∀(w:World) P,P∈ps->(K w.params).lookup P=some (tabObj #[]))(C:∀(w:World) P,P∈ps->∃c,Ybn (K w.params) c P=true)(B:∀w:World,lamB ps (K w.params)=true)(F:∀(w:World) (mg:Str->Option Value) (fa:Addr) (h:Heap),(K w.params).In h->h.Ns Y8 mg->mg d.name=some (.ref fa) ->
   ∃fd:Uj,(∀(s:Shared) (u:Value),YbI s fd ⟨[u],[]⟩ [(x,u)]) /\
    ∀base:Heap,(Qd ps (K w.params)).In base->base.Ns Y8 mg->FnOk l.prog w (Qd ps (K w.params)) mg base (CX w) k fa fd [x] (sp w))(hsp:∀(w:World) (H:Hp) (a:Addr) (ns:List Int),ns.length<=n->TabR (Qd ps (K w.params)) H->ZcA (Qd ps (K w.params)) H a ns->sp w [.ref a] H (λv _=>v=.bl true) λ_ _ _=>False)(hCX:∀(w:World) (H:Hp) (s:Shared) (e:Value) (s':Shared),CX w [] H s (λ_ _ _=>False) e s'->False):
  PySem.W.WalkO q loose XP YP l.row.toRowW d [] (λf vs=>U8 f vs):=by
 refine Att.attach_call hn hdf λw s₀ s₁ mg mb fa o pm cd doc a vs ns G Y ho hd hcd hmg hobj hints hlen hg=>?_
 have KX:=hY w _ Y
 obtain⟨fd,hb,hF⟩:=F w mg fa _ KX G.T.g hmg
 exact law_callT KX (T w) (C w) (B w) G.T.g G.T.b G.T.builtins G.T.nolimit G.T.bmain hg hobj hints (YJ hlen hn2) hr hF hb (λH hO hS=>hsp w H a ns hlen hO hS) λH e s'=>hCX w H s₁ e s'
theorem compTurn_dict{k v:Expr}{gens:List We}{scope:Scope}{pos:Pos}{d:Nat}{target iter:Expr}{ifs:List Expr}{it:Value}{a:Addr}{env:Ws}(hg:gens[d]?=some ⟨target,iter,ifs,0⟩)(hn:gens[d+1]?=none):
  Yai (.DictComp k v gens scope pos) d it (.ref a) env=(do
   Gz iter.pos
   match <-pyNext it with
   |none=>pure (.done .next)
   |some x =>
    U0 target it x
    assign target env x
    let mut ok:=true
    for c in ifs do
     if ok then ok <-isTrue c env (eval c env)
    if ok then
     (do
      let kv <-eval k env
      let vv <-V5 [kv] (eval v env)
      Gz { k.pos with endLine:=v.pos.endLine,endCol:=v.pos.endCol }
      V5 [kv,vv] (dictSet a kv vv))
    again (.compLoop (.DictComp k v gens scope pos) d it (.ref a) env)):=by
 unfold Yai
 simp only[hg,hn]
 rfl
def ZeM(ps:List (Key×V)):List V:=ps.flatMap λp=>[kV p.1,p.2]
def ZhK(ps:List (Key×V)):List (Key×V):=ps.foldl (λa p=>putK a p.1 p.2) []
theorem ZhJ(ps:List (Key×V))(p:Key×V):ZhK (ps++[p])=putK (ZhK ps) p.1 p.2:=by
 unfold ZhK
 rw[List.foldl_append]
 rfl
theorem Zkf(ps:List (Key×V)):(ZhK ps).length<=ps.length:=by
 have:∀(ps a:List (Key×V)),(ps.foldl (λa p=>putK a p.1 p.2) a).length<=a.length+ps.length:=by
  intro ps
  induction ps with
  |nil=>intro a;exact Yj _
  |cons p r ih =>
   intro a
   rw[Ut,YB]
   have:=Zfu a p.1 p.2
   exact YJ (ih _) (by omega)
 have h:=this ps []
 rwa [Wn,Ybf]at h
theorem Zmm{ps:List (Key×V)}(hn:(ps.map (·.1)).Nodup):ZhK ps=ps:=by
 have:∀(ps a:List (Key×V)),((a++ps).map (·.1)).Nodup->ps.foldl (λa p=>putK a p.1 p.2) a=a++ps:=by
  intro ps
  induction ps with
  |nil=>intro a _;rw[Ua];rfl
  |cons p r ih =>
   intro a h
   rw[Ut]
   have e:putK a p.1 p.2=a++[p]:=by
    unfold putK
    rw[if_neg]
    intro z
    obtain⟨q,hq,e⟩:=GK.mp z
    rw[Uc,Gw]at h
    exact h.2.2 q.1 (List.mem_map_of_mem hq) p.1 (by simp) (of_decide_eq_true e)
   rw[e,ih (a++[p]) (by rw[Wm];exact h),Wm]
   rfl
 exact this ps [] hn
def AccD(P:YK)(w:World)(D:Addr)(h:Heap)(vs:List V):Prop:=∃ps,vs=ZeM ps/\∃us,KV (ZhK ps) us/\h.DictOf (QV P w) D us
theorem Zcz(P:YK)(w:World)(D:Addr):AccK D (AccD P w D):=⟨λ⟨ps,_,us,_,o,es,ep,e,_,hd,_⟩=>⟨o,e,λv z=>by rw[hd]at z;cases z⟩,λ⟨ps,q,us,r,o,es,ep,e,t⟩ k=>⟨ps,q,us,r,o,es,ep,k o e,t⟩⟩
theorem Zki(ps:List (Key×V)):(ZeM ps).length=2*ps.length:=by
 unfold ZeM
 induction ps with
 |nil=>rfl
 |cons p r ih=>rw[Uo,Yr,ih,YB];show 2+2*r.length=2*(r.length+1);omega
theorem ZhL(ps:List (Key×V))(p:Key×V):ZeM (ps++[p])=ZeM ps++[kV p.1,p.2]:=by
 unfold ZeM
 rw[List.flatMap_append]
 rfl
section
variable{xr:XR}{Y:Cx}{call:Nat->List W->Mem->Res W}{gv:List T}
theorem ZjG(hc:Y.calm=true)(hxe:∀e s,¬Y.xe e s){k v:Expr}{gens:List We}{scope:Scope}{pos:Pos}{D:Addr}{ea eb:E}{target iter:Expr}{ifs:List Expr}{tg:Tg}{cs:Es}(hg:gens[0]?=some ⟨target,iter,ifs,0⟩)(hnx:gens[1]?=none)(pg:PG Y target (gT Y.K tg))(pt:PTs Y call gv xr cs ifs)(pk:PE Y k (tE Y.K call gv xr ea))(pv:PE Y v (tE Y.K call gv xr eb))(hlt:∀i∈tgS tg,i<Y.N.length){pins:List (Addr×Obj)}{s:Shared}{σ:L2.St}{H:Hp}{cm:List Addr}{m m':Mem}{env:Env}{ts out:List T}{J:It}{it:Addr}{fp:List Addr}{tn:Nat->Heap->Prop}{vs:List V}(I:Inv Y pins σ H s)(hD:FpOk Y pins H D)(ha:AccD Y.prog Y.w D s.heap vs)(hT:Turn Y.prog Y.w Y.K target J fp it tn)(h0:tn 0 s.heap)(hf:∀b∈fp,FpOk Y pins H b)(hDf:D∉fp)(hE:EnvR Y.K cm m H env σ)(hn:∀i∈tgS tg++innS (.emit2 ea eb),∀w,env[i]?≠some (some w))(M:MemR Y.K cm m H)(hs:Src Y.K cm m H J ts)(ok:QW (turnF call gv cs (.emit2 ea eb)) tg ts env m=.ok out m')(hl:vs.length+out.length<=2000):
  Vd (model Y.prog Y.w) Y.A (.compLoop (.DictComp k v gens scope pos) 0 (.ref it) (.ref D) Y.env) (λr s'=>r=.ok .next/\Zf1 Y (AccD Y.prog Y.w D) D (tgS tg++innS (.emit2 ea eb)) pins σ cm m H vs out m' s') s:=by
 refine ZbF hc hxe (Zcz Y.prog Y.w D) (Pt:=λ_=>True) (br:=do(do let kv <-eval k Y.env;let vv <-V5 [kv] (eval v Y.env);Gz { k.pos with endLine:=v.pos.endLine,endCol:=v.pos.endCol };V5 [kv,vv] (dictSet D kv vv));again (.compLoop (.DictComp k v gens scope pos) 0 (.ref it) (.ref D) Y.env)) rfl rfl (compTurn_dict hg hnx) pg pt (λ_ _ z=>by cases z) (λi hi=>hlt i (by simpa[innS]using hi)) ?_ I hD ha hT h0 hf hDf hE hn M hs ok hl λ_ _=>YbN
 intro pins s σ H cm m m' env out vs I hD ha hE hn M ok hl _
 obtain⟨w,m1,ok1,ok2⟩:=Zj ok
 obtain⟨rfl,rfl⟩:=ZaT ok2
 unfold ev at ok1
 obtain⟨w1,m2,ok3,ok4⟩:=Zj ok1
 obtain⟨w2,m3,ok5,ok6⟩:=Zj ok4
 cases w1 with
 |t t =>
  dsimp only at ok6
  cases hk:keyT t with
  |none=>rw[hk]at ok6;cases ok6
  |some kk =>
   rw[hk]at ok6
   obtain⟨u,m4,ok7,ok8⟩:=Zj (show(frz w2 m3).bind (λu m=>Res.ok (W.t (.lst [t,u])) m)=_ from ok6)
   cases ok8
   refine Yb (Yb (thn (Zgo pk (ZbM (Zcz Y.prog Y.w D) I hD ha) hE M ok3) λkv s1 ⟨x,H1,I1,rx,cm1,x1,M1,r1⟩=>Yb (Wj (thn (Zgo pv I1 (hE.ext x1 M M1) M1 ok5) λvv s2 ⟨y,H2,I2,ry,cm2,x2,M2,r2⟩=>?_))))
   obtain⟨a2,d2⟩:=Zbf (Zcz Y.prog Y.w D) ha I2 λo e=>Ym _ (ZX (by simp) e)
   obtain⟨x3,M3,r3⟩:=ZeK M2 r2 ok7
   have I2':Inv Y pins σ H2 s2:=I2.unpinned
   obtain⟨ps,rfl,us,hkv,hd⟩:=a2
   have hlp:=Zkf ps
   rw[Zki]at hl
   have hz:us.length<=YM:=by
    have:=hkv.length
    have h2:=WW
    simp at hl
    omega
   have ek:x=kV kk:=by
    cases t with
    |int i=>cases RT.vint r1;cases hk;rfl
    |str cs=>cases RT.vstr r1;cases hk;rfl
    |_=>cases hk
   subst ek
   refine Yb (W8 (Wj (wpAny_dictSet_pairs (hsz:=hz) (ZoO rx) hd λh' hd' sb=>Yd ?_)))
   obtain⟨f0,f1,f2,f3,f4,f5⟩:=hD
   refine⟨rfl,σ,H2,cm2,[kV kk,y],I2'.turned (t':=s2.toks+1) (it:=D) (λb o hb e=>(sb.2 b hb).trans e) d2 f1 f3 f4 f5,(x1.trans x2).trans x3,M3,.cons ((r1.ext x2 M1 M2).ext x3 M2 M3) (.cons r3 .nil),⟨ps++[(kk,y)],by rw[ZhL],_,by rw[ZhJ];exact hkv.put kk ry,hd'⟩,.refl,d2⟩
 |_=>cases ok6
end
section
variable{xr:XR}{X:Cx}{call:Nat->List W->Mem->Res W}{gv:List T}
theorem ZkC{N':List Str}{scope:Scope}(h1:scOk scope X.env.scope=true):CompSc X N' scope:=by
 unfold scOk at h1
 rw[Yo]at h1
 obtain⟨hk,h1⟩:=h1
 have h1:=Wa.mp h1
 refine⟨eq_of_beq hk,λp hp=>?_,λx hx=>?_⟩
 ·have:=h1 p hp
  simp only[Yo]at this
  exact eq_of_beq this.1
 ·have:=h1 _ hx
  simp only[Yo,Ue]at this
  rcases this.2 with(h|h)|h
  ·cases h
  ·exact .inl (eq_of_beq h)
  ·exact .inr (eq_of_beq h)
def Zpm(X:Cx)(xr:XR)(call:Nat->List W->Mem->Res W)(gv:List T)(N':List Str)(scope:Scope)(k v target:Expr)(ifs:List Expr)(tg:Tg)(cs:Es)(ea eb:E):Prop:=
 ∀(cl:List (Str×Addr)) (C:Addr) (s2:Shared) (H2:Hp) (fp:List Addr),PG (QB X N' scope cl C s2 H2 fp) target (gT X.K tg)/\PTs (QB X N' scope cl C s2 H2 fp) call gv xr cs ifs/\PE (QB X N' scope cl C s2 H2 fp) k (tE X.K call gv xr ea)/\PE (QB X N' scope cl C s2 H2 fp) v (tE X.K call gv xr eb)
theorem Zf5{K:Frag}{cm:List Addr}{m:Mem}{H:Hp}:∀{ts:List T}{p:List Key×List T}{ps:List (Key×V)},Jv ts=some p->RTs K cm m H ts (ZeM ps)->p.1=ps.map (·.1)/\RTs K cm m H p.2 (ps.map (·.2))
 |[],p,ps,h,r=>by
  cases h
  cases ps with
  |nil=>exact⟨rfl,.nil⟩
  |cons q ps=>cases r
 |[_],_,_,h,_=>by cases h
 |k::v::ts,p,ps,h,r=>by
  cases ps with
  |nil=>cases r
  |cons q ps =>
   have r:RTs K cm m H (k::v::ts) (kV q.1::q.2::ZeM ps):=r
   cases r with
   |cons r1 r =>
    cases r with
    |cons r2 r =>
     cases hk:keyT k with
     |none=>rw[Jv,hk]at h;cases h
     |some kk =>
      rw[Jv,hk]at h
      cases hu:Jv ts with
      |none=>rw[hu]at h;cases h
      |some z =>
       rw[hu]at h
       cases h
       obtain⟨e1,e2⟩:=Zf5 hu r
       refine⟨?_,.cons r2 e2⟩
       have ek:kV q.1=kV kk:=by
        cases k with
        |int i=>cases hk;exact RT.vint r1
        |str cs=>cases hk;exact RT.vstr r1
        |_=>cases hk
       have:q.1=kk:=by
        obtain⟨q1,q2⟩:=q
        cases q1<;>cases kk<;>first|(cases ek;rfl)|cases ek
       show kk::z.1=q.1::ps.map (·.1)
       rw[e1,this]
theorem Zei{k v target iter:Expr}{ifs:List Expr}{scope:Scope}{pos:Pos}{N':List Str}{own:Nat}{keep:List Nat}{it:E}{tg:Tg}{cs:Es}{ea eb:E}(hc:X.calm=true)(h1:scOk scope X.env.scope=true)(h2:N'.length=own+keep.length/\∀(i:Nat) x,N'[own+i]?=some x->∃j,keep[i]?=some j/\X.N[j]?=some x/\(x,YW)∈scope.names)(pi:PI X target iter (tI X.K call gv xr0 it))(fs:∀x,WR iter X.env x=pure x)(ins:Zpm X xr0 call gv N' scope k v target ifs tg cs ea eb)(slt:∀i∈tgS tg,i<own):
  PE X (.DictComp k v [⟨target,iter,ifs,0⟩] scope pos) (tE X.K call gv xr (.blt .dictc (.cons (.comp own keep it tg cs (.emit2 ea eb)) .nil))):=by
 rintro pins s σ H Q I ⟨env,cm,m,hE,M,ho⟩
 have S:CompSc X N' scope:=ZkC h1
 rw[ev,evs]at ho
 cases h:ev call gv (.comp own keep it tg cs (.emit2 ea eb)) env m with
 |stuck=>rw[h]at ho;exact ho.elim
 |exc e m'=>exact absurd h (JD e m')
 |ok w m' =>
  obtain⟨out,rfl⟩:=Xh h
  rw[h]at ho
  have ho:OkR X.K (pur (ZeQ out) m') xr cm m H (λw cm' m' H'=>∀v,RW X.K cm' m' H' w v->Q v H'):=ho
  unfold ZeQ at ho
  cases hu:Jv out with
  |none=>rw[hu]at ho;exact ho.elim
  |some p =>
   rw[hu]at ho
   by_cases hn:p.1.Nodup/\p.1.length<=1000
   case neg =>
    have ho:OkR X.K (pur (if p.1.Nodup/\p.1.length<=1000 then some (T.dct p.1 p.2)else none) m') xr cm m H _:=ho
    rw[if_neg hn]at ho
    exact ho.elim
   have ho:OkR X.K (pur (if p.1.Nodup/\p.1.length<=1000 then some (T.dct p.1 p.2)else none) m') xr cm m H (λw cm' m' H'=>∀v,RW X.K cm' m' H' w v->Q v H'):=ho
   rw[if_pos hn]at ho
   have hl:out.length=2*p.1.length:=by
    clear ho h
    have:∀{ts:List T}{p:List Key×List T},Jv ts=some p->ts.length=2*p.1.length:=by
     intro ts
     fun_induction Jv ts with
     |case1=>intro p h;cases h;rfl
     |case2 k v r ih =>
      intro p h
      cases hk:keyT k with
      |none=>rw[hk]at h;cases h
      |some kk =>
       rw[hk]at h
       cases hu:Jv r with
       |none=>rw[hu]at h;cases h
       |some z=>rw[hu]at h;cases h;have:=ih hu;show r.length+1+1=2*(z.1.length+1);omega
     |case3=>intro p h;cases h
    exact this hu
   rw[arm_eval_DictComp]
   refine Zba (node:=.DictComp k v [⟨target,iter,ifs,0⟩] scope pos) (gs:=[]) (use:=none) (inner:=.emit2 ea eb) (oN:={ cls:=.type "dict",data:=.dict #[] }) (Acc:=AccD X.prog X.w) hc S h2.1 h2.2 (λx hx e=>by rw[S.look x hx,e]) pi fs rfl rfl (λ_ _ _=>rfl) (λ_ _ _=>rfl) (λh=>Wv h) (λh=>⟨[],rfl,[],.nil,?_⟩) (λ_ _ z=>by cases z) (λi hi=>slt i (by simpa[innS]using hi)) I hE M
    (λcl C s2 H2 fp D pins s σ H cm m m' env ts J it fp' tn J0 fD h0 hT ht hf hDf hE hn M hs ok hz=>let⟨pg,pt,pk,pv⟩:=ins cl C s2 H2 fp
     ZjG (Y:=QB X N' scope cl C s2 H2 fp) hc (λ_ _ z=>z) rfl rfl pg pt pk pv (λi hi=>by
      show i<N'.length
      rw[h2.1]
      have:=slt i hi
      omega) J0 fD h0 hT ht hf hDf hE hn M hs ok (by rw[Wn];omega)) h
    λD C s3 H3 cm3 vs I3 a3 f3 z3 k3 x3 M3 r3 n3 c3 ne=>?_
   ·exact⟨_,#[],0,h,⟨rfl,rfl,rfl⟩,rfl,Y4 (λ_ he=>by simp at he) ⟨Pairs.nil,Vg⟩⟩
   ·obtain⟨ps,rfl,us,hkv,hd⟩:=a3
    obtain⟨e1,e2⟩:=Zf5 hu r3
    have hnd:(ps.map (·.1)).Nodup:=by rw[<-e1];exact hn.1
    rw[Zmm hnd]at hkv
    have hlp:ps.length<=1000:=by
     have:=hn.2
     rw[e1,Yc]at this
     exact this
    have hsys:(D==Yak)=false:=by
     refine beq_eq_false_iff_ne.mpr λz=>?_
     obtain⟨o,es,ep,ho',_⟩:=I.mod.glob
     have h1:Y8<X.s₀.heap.objs.size:=Ys (I.ok.bs _ _ ho').1
     have h2:Yak<Y8:=by decide
     rw[z]at z3
     exact absurd (Gj h2 h1) (Yal.mpr z3)
    obtain⟨mm,hm⟩:=n3
    refine⟨mm,hm,λh' hs'=>?_⟩
    have A:=Inv.adopt (ho:=.dK ps) I3 f3 ⟨YJ hlp (by decide),hsys,us,hkv,hd⟩
    have A2:Inv X pins σ (upd H3 D (.dK ps)) { s3 with heap:=h' }:=A.turned (t':=s3.toks) (it:=C) (λb o hb e=>(hs'.2 b hb).trans e) (by rw[ZL (Ui ne)];exact c3.1) c3.2.1 c3.2.2.2.1 c3.2.2.2.2.1 c3.2.2.2.2.2
    refine⟨.ref D,_,A2,rfl,OkR.to ho (x3.trans (.new f3.1)) (M3.new f3.1) _ ?_⟩
    have hz:ps=p.1.zip (ps.map (·.2)):=by
     rw[e1]
     clear hnd hkv hd e1 e2 A A2 r3 hlp
     induction ps with
     |nil=>rfl
     |cons q r ih=>rw[Yq,Yq,Gi,<-ih]
    refine RT.dct (vs:=ps.map (·.2)) (by rw[<-hz];exact QQ) (Zb0 M3 f3.1) (by rw[e1,Yc,Yc]) e2.length λi t u g1 g2=>?_
    exact(Qq e2 i t u g1 g2).same (Q6 f3.1) λ_ n _=>n
end
end Mi
end
namespace My
open Mi
def JH:S:=(.ret (.cmp .In (.var 1) (.ix (.var 0) (.con (.int 2)))) .done)
def ZK:S:=(.ife (.cmp .Eq (.var 2) (.var 1)) (.ret (.var 3) .done) .done .done)
def Xi:S:=(.forr (.tp [2,3]) (.ix (.var 0) (.con (.int 3))) ZK (.ret (.con .non) .done))
def Zmi:E:=(.emit (.call 2 (.cons (.var 0) (.cons (.var 1) .nil))))
def ZgL:E:=(.comp 1 [1] (.ix (.var 0) (.con (.int 1))) (.nm 0) .nil Zmi)
def Zmh:E:=(.emit (.call 2 (.cons (.var 0) (.cons (.var 1) .nil))))
def ZgK:E:=(.comp 1 [1] (.ix (.var 0) (.con (.int 1))) (.nm 0) .nil Zmh)
def ZaN:S:=(.asg 2 (.ix (.var 0) (.con (.int 0))) (.ife (.cmp .Eq (.var 2) (.con (.str [97,110,121]))) (.ret (.con (.bl true)) .done) .done (.ife (.cmp .Eq (.var 2) (.con (.str [105,115]))) (.ret (.call 0 (.cons (.var 1) (.cons (.ix (.var 0) (.con (.int 1))) .nil))) .done) .done (.ife (.cmp .Eq (.var 2) (.con (.str [98,121]))) (.ret (.cmp .Eq (.ix (.var 1) (.con (.int 0))) (.ix (.var 0) (.con (.int 1)))) .done) .done (.ife (.cmp .Eq (.var 2) (.con (.str [110,111,116]))) (.ret (.not (.call 2 (.cons (.ix (.var 0) (.con (.int 1))) (.cons (.var 1) .nil)))) .done) .done (.ife (.cmp .Eq (.var 2) (.con (.str [97,110,100]))) (.ret (.blt .all (.cons ZgK .nil)) .done) .done (.ife (.cmp .Eq (.var 2) (.con (.str [111,114]))) (.ret (.blt .any (.cons ZgL .nil)) .done) .done (.ret (.call 3 (.cons (.var 0) (.cons (.var 1) .nil))) .done))))))))
def Jd:S:=(.asg 2 (.call 1 (.cons (.var 1) (.cons (.ix (.var 0) (.con (.int 1))) .nil))) (.ife (.cmp .Is (.var 2) (.con .non)) (.ret (.con (.bl false)) .done) .done (.ife (.cmp .Eq (.ix (.var 0) (.con (.int 0))) (.con (.str [108,101,97,115,116]))) (.ret (.cmp .GtE (.var 2) (.ix (.var 0) (.con (.int 2)))) .done) .done (.ret (.cmp .LtE (.var 2) (.ix (.var 0) (.con (.int 2)))) .done))))
def ZaM:S:=(.ret (.ix (.ix (.var 0) (.con (.int 1))) (.con (.int 0))) .done)
def ZaO:S:=(.ret (.ix (.ix (.var 0) (.con (.int 1))) (.con (.int 1))) .done)
def ZaL:S:=(.ret (.ix (.ix (.ix (.var 0) (.var 1)) (.con (.int 0))) (.con (.int 2))) .done)
def ZaQ:S:=(.ret (.ix (.ix (.ix (.var 0) (.var 1)) (.con (.int 0))) (.con (.int 1))) .done)
def ZcF:E:=(.emit (.var 1))
def XN:E:=(.comp 2 [] (.var 0) (.tp [0,1]) .nil ZcF)
def Jr:S:=(.ret (.blt .minl (.cons XN .nil)) .done)
def XD:E:=(.emit (.call 5 (.cons (.var 0) .nil)))
def QZ:E:=(.comp 2 [] (.var 0) (.tp [0,1]) .nil XD)
def Qg:S:=(.ret (.cmp .Gt (.blt .lenset (.cons QZ .nil)) (.con (.int 1))) .done)
def X6:E:=(.emit (.call 4 (.cons (.var 0) .nil)))
def Jb:E:=(.comp 2 [] (.var 0) (.tp [0,1]) .nil X6)
def Ql:S:=(.ret (.cmp .Lt (.blt .lenset (.cons Jb .nil)) (.blt .len (.cons (.var 0) .nil))) .done)
def Qu:S:=(.ret (.and (.cmp .NotEq (.var 1) (.var 2)) (.not (.call 2 (.cons (.call 6 (.cons (.var 0) (.cons (.var 1) .nil))) (.cons (.call 7 (.cons (.var 0) (.cons (.var 2) .nil))) .nil))))) .done)
def Z6:S:=(.asgT [2,3] (.ix (.var 0) (.var 1)) (.ret (.cmp .Gt (.blt .min2 (.cons (.ix (.var 2) (.con (.int 4))) (.cons (.var 3) .nil))) (.call 8 (.cons (.var 0) .nil))) .done))
def Za5:S:=(.ife (.call 12 (.cons (.var 0) (.cons (.var 1) .nil))) (.ret (.tup (.cons (.con (.str [108,101,97,115,116])) (.cons (.var 1) .nil))) .done) .done .done)
def ZcZ:S:=(.ife (.call 11 (.cons (.var 0) (.cons (.var 1) (.cons (.var 2) .nil)))) (.ret (.tup (.cons (.con (.str [119,105,115,104])) (.cons (.var 1) (.cons (.var 2) .nil)))) .done) .done .done)
def ZcY:S:=(.forr (.nm 2) (.blt .range1 (.cons (.blt .len (.cons (.var 0) .nil)) .nil)) ZcZ .done)
def ZaP:S:=(.ife (.call 9 (.cons (.var 0) .nil)) (.ret (.tup (.cons (.con (.str [107,105,110,100])) .nil)) .done) .done (.ife (.call 10 (.cons (.var 0) .nil)) (.ret (.tup (.cons (.con (.str [110,97,109,101])) .nil)) .done) .done (.forr (.nm 1) (.blt .range1 (.cons (.blt .len (.cons (.var 0) .nil)) .nil)) ZcY (.forr (.nm 1) (.blt .range1 (.cons (.blt .len (.cons (.var 0) .nil)) .nil)) Za5 (.ret (.con .non) .done)))))
def Ze6:S:=(.ife (.cmp .Is (.call 13 (.cons (.var 0) .nil)) (.con .non)) (.ret (.call 8 (.cons (.var 0) .nil)) .done) .done (.ret (.con (.int 0)) .done))
def Ze5:S:=(.asgT [2,3,4] (.var 1) (.ife (.cmp .Eq (.var 0) (.con (.str [104,101,97,118,121]))) (.ret (.neg (.ix (.var 3) (.con (.int 5)))) .done) .done (.ife (.cmp .Eq (.var 0) (.con (.str [103,114,101,97,116]))) (.ret (.neg (.var 4)) .done) .done (.ife (.cmp .Eq (.var 0) (.con (.str [115,109,97,108,108]))) (.ret (.var 4) .done) .done (.ret (.ix (.var 3) (.con (.int 6))) .done)))))
def Zj6:E:=(.emit (.call 15 (.cons (.var 0) (.cons (.var 1) .nil))))
def ZeW:E:=(.comp 1 [1] (.var 0) (.nm 0) .nil Zj6)
def ZfX:S:=(.ret (.bin .Add ZeW (.lst (.cons (.ix (.var 1) (.con (.int 0))) .nil))) .done)
def ZhH:E:=(.emit (.var 0))
def Zc6:E:=(.comp 3 [] (.var 2) (.tp [0,1,2]) .nil ZhH)
def JB:E:=(.call 16 (.cons (.var 1) (.cons (.var 0) .nil)))
def XC:S:=(.asg 2 (.sortk [0] (.var 1) JB) (.ret Zc6 .done))
def ZeH:E:=(.emit (.var 0))
def Zbq:E:=(.comp 3 [0] (.var 1) (.tp [0,1,2]) (.cons (.cmp .Eq (.ix (.var 1) (.con (.int 0))) (.var 3)) .nil) ZeH)
def ZeG:E:=(.emit Zbq)
def ZeV:E:=(.comp 1 [2] (.gl 0) (.nm 0) .nil ZeG)
def ZeF:E:=(.emit (.var 0))
def Zbp:E:=(.comp 1 [0] (.var 1) (.nm 0) (.cons (.cmp .Eq (.call 5 (.cons (.ix (.var 0) (.con (.int 1))) .nil)) (.var 1)) .nil) ZeF)
def JG:S:=(.asg 2 Zbp (.ret ZeV .done))
def ZfB:E:=(.emit (.call 5 (.cons (.ix (.var 0) (.con (.int 1))) .nil)))
def Zab:E:=(.comp 1 [] (.var 1) (.nm 0) .nil ZfB)
def ZfA:E:=(.more (.var 3) (.nm 2) .nil (.emit (.tup (.cons (.var 0) (.cons (.var 1) (.cons (.var 2) .nil))))))
def Zcn:E:=(.comp 3 [6] (.var 7) (.tp [0,1]) .nil ZfA)
def Zfz:E:=(.more (.var 2) (.nm 1) .nil (.emit (.tup (.cons (.var 0) (.cons (.var 1) .nil)))))
def Zcm:E:=(.comp 2 [5] (.var 4) (.nm 0) .nil Zfz)
def Q9:S:=(.asgL [4,5,6] (.call 18 (.cons (.var 3) (.cons (.var 1) .nil))) (.asg 7 Zcm (.ife (.cmp .In (.var 3) (.var 0)) (.expr (.mth .extend (.var 2) (.cons Zcn .nil)) .done) (.expr (.mth .extend (.var 2) (.cons (.var 7) .nil)) .done) .done)))
def Xj:S:=(.asg 2 (.cel .nil) (.forr (.nm 3) (.blt .sortset (.cons Zab .nil)) Q9 (.ret (.blt .sortt (.cons (.var 2) .nil)) .done)))
def XQ:E:=(.comp 3 [] (.var 0) (.tp [0,1,2]) .nil (.emit2 (.var 0) (.tup (.cons (.var 1) (.cons (.var 2) .nil)))))
def Xk:S:=(.ret (.blt .dictc (.cons XQ .nil)) .done)
def Za9:E:=(.emit (.blt .dget (.cons (.var 1) (.cons (.var 0) .nil))))
def Qk:E:=(.comp 1 [3] (.var 6) (.nm 0) .nil Za9)
def ZQ:S:=(.asg 7 (.call 14 (.cons Qk .nil)) (.ife (.cmp .Gt (.var 7) (.con (.int 0))) (.ret (.tup (.cons (.var 6) (.cons (.var 7) .nil))) .done) .done .done))
def Za8:E:=(.emit (.blt .dget (.cons (.var 1) (.cons (.var 0) .nil))))
def JF:E:=(.comp 1 [1] (.var 0) (.nm 0) .nil Za8)
def Z4:E:=(.blt .sortn (.cons JF .nil))
def QM:E:=(.comp 2 [] (.blt .enum (.cons (.tr (.call 17 (.cons (.var 0) (.cons (.var 2) .nil)))) .nil)) (.tp [0,1]) .nil (.emit2 (.var 1) (.var 0)))
def Z7:S:=(.asg 3 (.call 20 (.cons (.var 2) .nil)) (.asg 4 (.blt .dictc (.cons QM .nil)) (.asg 5 (.sortk [4] (.call 19 (.cons (.var 1) (.cons (.var 2) .nil))) Z4) (.forr (.nm 6) (.var 5) ZQ (.ret (.con .non) .done)))))
def JL:S:=(.ife (.cmp .Lt (.var 1) (.blt .len (.cons (.var 0) .nil))) (.ret (.ix (.var 0) (.var 1)) .done) .done (.ret (.con (.int 0)) .done))
def Zcq:S:=(.ret (.cel (.cons (.bin .Mult (.var 0) (.blt .int (.cons (.cmp .GtE (.var 0) (.bin .Pow (.con (.int 10)) (.con (.int 18)))) .nil))) (.cons (.bin .Mod (.var 0) (.con (.int 2147483647))) (.cons (.con (.int 0)) .nil)))) .done)
def Zcv:S:=(.ife (.cmp .Gt (.ix (.var 0) (.con (.int 0))) (.con (.int 0))) (.asg 2 (.bin .Mod (.ix (.var 0) (.con (.int 0))) (.var 1)) (.set (.var 0) (.con (.int 0)) (.bin .FloorDiv (.ix (.var 0) (.con (.int 0))) (.var 1)) (.ret (.var 2) .done))) .done (.set (.var 0) (.con (.int 2)) (.bin .Add (.ix (.var 0) (.con (.int 2))) (.con (.int 1))) (.asg 3 (.bin .Mod (.bin .Mult (.bin .Add (.bin .Add (.ix (.var 0) (.con (.int 1))) (.bin .Mult (.con (.int 7919)) (.ix (.var 0) (.con (.int 2))))) (.con (.int 1))) (.con (.int 48271))) (.con (.int 2147483647))) (.asg 3 (.bin .Mod (.bin .Mult (.var 3) (.bin .Add (.bin .FloorDiv (.var 3) (.con (.int 1009))) (.con (.int 69621)))) (.con (.int 2147483647))) (.ret (.bin .Mod (.bin .Mod (.bin .Mult (.var 3) (.bin .Add (.bin .FloorDiv (.var 3) (.con (.int 2003))) (.con (.int 40692)))) (.con (.int 2147483399))) (.var 1)) .done)))))
def Zct:S:=(.ret (.ix (.var 1) (.call 24 (.cons (.var 0) (.cons (.blt .len (.cons (.var 1) .nil)) .nil)))) .done)
def Zcu:S:=(.asg 1 (.lst (.cons (.con (.str [97])) (.cons (.con (.str [97,98])) (.cons (.con (.str [98])) (.cons (.con (.str [97,110,121,97])) (.cons (.con (.str [105,115,108,97,110,100])) (.cons (.con (.str [97,98,99])) (.cons (.con (.str [122])) (.cons (.con (.str [98,121,98,121,101])) (.cons (.con (.str [111,114,100,101,114])) (.cons (.con (.str [110,111,116,101,115])) (.cons (.con (.str [99])) (.cons (.con (.str [122,122,122,122,122,122,122,122])) .nil))))))))))))) (.ret (.ix (.var 1) (.bin .Mod (.var 0) (.con (.int 12)))) .done))
def Xl:S:=(.ret (.ix (.lst (.cons (.call 24 (.cons (.var 0) (.cons (.con (.int 6)) .nil))) (.cons (.call 24 (.cons (.var 0) (.cons (.con (.int 6)) .nil))) (.cons (.bin .Sub (.bin .Pow (.con (.int 10)) (.con (.int 9))) (.call 24 (.cons (.var 0) (.cons (.con (.int 3)) .nil)))) .nil)))) (.call 24 (.cons (.var 0) (.cons (.con (.int 3)) .nil)))) .done)
def ZaC:E:=(.emit (.tup (.cons (.var 0) (.cons (.call 27 (.cons (.var 1) .nil)) .nil))))
def ZeZ:E:=(.comp 1 [0] (.lst (.cons (.con (.str [112,114,105,99,101])) (.cons (.con (.str [119,105,100,101])) .nil))) (.nm 0) (.cons (.cmp .Eq (.call 24 (.cons (.var 1) (.cons (.con (.int 2)) .nil))) (.con (.int 1))) .nil) ZaC)
def ZaB:E:=(.emit (.var 0))
def Zco:E:=(.comp 1 [0] (.lst (.cons (.con (.str [102,114,101,115,104])) (.cons (.con (.str [111,108,100])) (.cons (.con (.str [111,108,100,115])) .nil)))) (.nm 0) (.cons (.cmp .Eq (.call 24 (.cons (.var 1) (.cons (.con (.int 2)) .nil))) (.con (.int 1))) .nil) ZaB)
def Zcw:S:=(.asg 3 (.blt .tuple (.cons Zco .nil)) (.asg 4 (.blt .tuple (.cons ZeZ .nil)) (.ret (.tup (.cons (.var 1) (.cons (.var 2) (.cons (.var 3) (.cons (.var 4) .nil))))) .done)))
def Zcb:E:=(.emit (.call 29 (.cons (.var 1) (.cons (.bin .Sub (.var 2) (.con (.int 1))) .nil))))
def ZeX:E:=(.comp 1 [0,1] (.blt .range1 (.cons (.var 3) .nil)) (.nm 0) .nil Zcb)
def Zac:S:=(.asg 2 (.call 24 (.cons (.var 0) (.cons (.bin .Add (.con (.int 6)) (.bin .Mult (.con (.int 3)) (.blt .int (.cons (.cmp .Gt (.var 1) (.con (.int 0))) .nil)))) .nil))) (.ife (.cmp .Lt (.var 2) (.con (.int 2))) (.ret (.tup (.cons (.con (.str [97,110,121])) .nil)) .done) .done (.ife (.cmp .Eq (.var 2) (.con (.int 2))) (.ret (.tup (.cons (.con (.str [105,115])) (.cons (.call 25 (.cons (.var 0) (.cons (.lst (.cons (.con (.str [102,114,101,115,104])) (.cons (.con (.str [111,108,100])) (.cons (.con (.str [111,108,100,115])) (.cons (.con (.str [110,101,119])) .nil))))) .nil))) .nil))) .done) .done (.ife (.cmp .Eq (.var 2) (.con (.int 3))) (.ret (.tup (.cons (.con (.str [98,121])) (.cons (.call 26 (.cons (.call 24 (.cons (.var 0) (.cons (.con (.int 12)) .nil))) .nil)) .nil))) .done) .done (.ife (.cmp .Lt (.var 2) (.con (.int 6))) (.ret (.tup (.cons (.ix (.lst (.cons (.con (.str [108,101,97,115,116])) (.cons (.con (.str [109,111,115,116])) .nil))) (.bin .Sub (.var 2) (.con (.int 4)))) (.cons (.call 25 (.cons (.var 0) (.cons (.lst (.cons (.con (.str [112,114,105,99,101])) (.cons (.con (.str [119,105,100,101])) (.cons (.con (.str [102,97,114])) .nil)))) .nil))) (.cons (.call 27 (.cons (.var 0) .nil)) .nil)))) .done) .done (.ife (.cmp .Eq (.var 2) (.con (.int 6))) (.ret (.tup (.cons (.con (.str [110,111,116])) (.cons (.call 29 (.cons (.var 0) (.cons (.bin .Sub (.var 1) (.con (.int 1))) .nil))) .nil))) .done) .done (.asg 3 (.bin .Add (.con (.int 2)) (.call 24 (.cons (.var 0) (.cons (.con (.int 2)) .nil)))) (.ret (.tup (.cons (.ix (.lst (.cons (.con (.str [97,110,100])) (.cons (.con (.str [111,114])) .nil))) (.bin .Sub (.var 2) (.con (.int 7)))) (.cons (.blt .tuple (.cons ZeX .nil)) .nil))) .done))))))))
def ZbL:S:=(.asg 5 (.ix (.lst (.cons (.bin .Add (.con (.int 1)) (.call 24 (.cons (.var 0) (.cons (.con (.int 9)) .nil)))) (.cons (.bin .Add (.con (.int 1)) (.call 24 (.cons (.var 0) (.cons (.con (.int 9)) .nil)))) (.cons (.bin .Add (.con (.int 1)) (.call 24 (.cons (.var 0) (.cons (.bin .Pow (.con (.int 10)) (.con (.int 6))) .nil)))) .nil)))) (.call 24 (.cons (.var 0) (.cons (.con (.int 3)) .nil)))) (.asg 6 (.ix (.lst (.cons (.con (.int 1)) (.cons (.bin .Add (.con (.int 1)) (.call 24 (.cons (.var 0) (.cons (.var 5) .nil)))) (.cons (.var 5) .nil)))) (.call 24 (.cons (.var 0) (.cons (.con (.int 3)) .nil)))) (.asg 7 (.ix (.lst (.cons (.tup (.cons (.con (.str [97,110,121])) .nil)) (.cons (.call 29 (.cons (.var 0) (.cons (.con (.int 2)) .nil))) .nil))) (.call 24 (.cons (.var 0) (.cons (.con (.int 2)) .nil)))) (.asg 8 (.ix (.lst (.cons (.call 24 (.cons (.var 0) (.cons (.con (.int 3)) .nil))) (.cons (.call 24 (.cons (.var 0) (.cons (.con (.int 1001)) .nil))) .nil))) (.call 24 (.cons (.var 0) (.cons (.con (.int 2)) .nil)))) (.ret (.tup (.cons (.var 1) (.cons (.call 28 (.cons (.var 0) (.cons (.var 2) (.cons (.var 3) .nil)))) (.cons (.var 7) (.cons (.var 5) (.cons (.var 6) (.cons (.var 8) (.cons (.var 4) .nil)))))))) .done)))))
def Zez:S:=(.expr (.mth .append (.var 2) (.cons (.mth .popat (.var 1) (.cons (.call 24 (.cons (.var 0) (.cons (.blt .len (.cons (.var 1) .nil)) .nil))) .nil)) .nil)) .done)
def Zcs:S:=(.asg 1 (.cel (.cons (.con (.str [104,101,97,118,121])) (.cons (.con (.str [103,114,101,97,116])) (.cons (.con (.str [115,109,97,108,108])) (.cons (.con (.str [115,111,111,110])) .nil))))) (.asg 2 (.cel .nil) (.forr (.nm 3) (.blt .range1 (.cons (.ix (.lst (.cons (.con (.int 0)) (.cons (.con (.int 1)) (.cons (.con (.int 1)) (.cons (.con (.int 2)) (.cons (.con (.int 3)) .nil)))))) (.call 24 (.cons (.var 0) (.cons (.con (.int 5)) .nil)))) .nil)) Zez (.ret (.blt .tuple (.cons (.var 2) .nil)) .done))))
def ZaS:S:=(.ret (.ix (.lst (.cons (.tup .nil) (.cons (.tup .nil) (.cons (.tup (.cons (.con (.str [114,121,101])) .nil)) (.cons (.tup (.cons (.con (.str [111])) (.cons (.con (.str [114,121,101])) .nil))) (.cons (.tup (.cons (.con (.str [111,97,116])) (.cons (.con (.str [114,121,101])) (.cons (.con (.str [111])) (.cons (.con (.str [119,104,101,97,116])) .nil))))) .nil)))))) (.call 24 (.cons (.var 0) (.cons (.con (.int 5)) .nil)))) .done)
def QS:S:=(.asg 7 (.call 25 (.cons (.var 0) (.cons (.lst (.cons (.con (.str [103,105,118,101])) (.cons (.con (.str [116,97,107,101])) (.cons (.con (.str [103,105,118,101])) (.cons (.con (.str [116,97,107,101])) (.cons (.con (.str [98,101,97,114])) .nil)))))) .nil))) (.asg 8 (.ix (.lst (.cons (.con (.str [114,121,101])) (.cons (.con (.str [111,97,116])) (.cons (.con (.str [111])) .nil)))) (.call 24 (.cons (.var 0) (.cons (.bin .Add (.con (.int 1)) (.var 5)) .nil)))) (.asg 9 (.call 26 (.cons (.bin .Add (.var 3) (.bin .Mult (.var 6) (.blt .int (.cons (.cmp .Gt (.call 24 (.cons (.var 0) (.cons (.con (.int 16)) .nil))) (.con (.int 0))) .nil)))) .nil)) (.asg 10 (.call 30 (.cons (.var 0) (.cons (.var 7) (.cons (.var 9) (.cons (.var 8) (.cons (.call 24 (.cons (.var 0) (.cons (.con (.int 9)) .nil))) .nil)))))) (.ife (.and (.cmp .NotEq (.var 2) (.lst .nil)) (.cmp .Eq (.call 24 (.cons (.var 0) (.cons (.con (.int 12)) .nil))) (.con (.int 0)))) (.asg 10 (.ix (.ix (.var 2) (.neg (.con (.int 1)))) (.con (.int 1))) .done) .done (.asg 11 (.ix (.lst (.cons (.ix (.var 10) (.con (.int 3))) (.cons (.bin .Add (.con (.int 1)) (.call 24 (.cons (.var 0) (.cons (.ix (.var 10) (.con (.int 3))) .nil)))) .nil))) (.call 24 (.cons (.var 0) (.cons (.con (.int 2)) .nil)))) (.expr (.mth .append (.var 2) (.cons (.tup (.cons (.var 4) (.cons (.var 10) (.cons (.var 11) .nil)))) .nil)) (.asg 4 (.bin .Add (.bin .Add (.var 4) (.con (.int 1))) (.call 24 (.cons (.var 0) (.cons (.con (.int 4)) .nil)))) .done))))))))
def JK:S:=(.asg 2 (.cel .nil) (.asg 3 (.call 24 (.cons (.var 0) (.cons (.con (.int 12)) .nil))) (.asg 4 (.call 24 (.cons (.var 0) (.cons (.con (.int 5)) .nil))) (.asg 5 (.call 24 (.cons (.var 0) (.cons (.con (.int 3)) .nil))) (.forr (.nm 6) (.blt .range1 (.cons (.call 24 (.cons (.var 0) (.cons (.bin .Add (.var 1) (.con (.int 1))) .nil))) .nil)) QS (.ret (.var 2) .done))))))
def ZeI:E:=(.emit (.var 0))
def Zbr:E:=(.comp 1 [1] (.var 0) (.nm 0) (.cons (.cmp .NotEq (.ix (.var 0) (.con (.int 0))) (.var 1)) .nil) ZeI)
def Zbd:S:=(.ret Zbr .done)
def Zj7:E:=(.emit (.tup (.cons (.var 1) (.cons (.var 2) .nil))))
def ZeY:E:=(.comp 3 [3] (.var 0) (.tp [0,1,2]) (.cons (.cmp .Eq (.var 0) (.var 3)) .nil) Zj7)
def Xd:S:=(.asg 2 (.bin .Add (.var 2) ZeY) .done)
def Zcr:S:=(.asg 2 (.lst .nil) (.forr (.nm 3) (.var 1) Xd (.ret (.var 2) .done)))
def Xx:S:=(.asg 9 (.call 21 (.cons (.var 0) (.cons (.var 1) (.cons (.call 34 (.cons (.var 2) (.cons (.var 6) .nil))) .nil)))) (.ife (.or (.cmp .Is (.var 3) (.con .non)) (.cmp .NotIn (.var 6) (.ix (.var 3) (.con (.int 0))))) (.ife (.cmp .NotEq (.var 9) (.var 3)) (.ret (.con (.bl false)) .done) .done .done) (.ife (.and (.cmp .IsNot (.var 9) (.con .non)) (.cmp .In (.var 6) (.ix (.var 9) (.con (.int 0))))) (.ret (.con (.bl false)) .done) .done .done) .done))
def ZhI:E:=(.emit (.var 0))
def Zc7:E:=(.comp 1 [5] (.var 2) (.nm 0) (.cons (.cmp .Eq (.ix (.ix (.ix (.var 0) (.con (.int 1))) (.con (.int 1))) (.con (.int 1))) (.var 1)) .nil) ZhI)
def QK:S:=(.expr (.mth .append (.var 4) (.cons (.call 21 (.cons (.var 0) (.cons (.var 1) (.cons Zc7 .nil)))) .nil)) .done)
def ZaR:S:=(.asg 3 (.call 21 (.cons (.var 0) (.cons (.var 1) (.cons (.var 2) .nil)))) (.asg 4 (.cel .nil) (.forr (.nm 5) (.lst (.cons (.con (.str [114,121,101])) (.cons (.con (.str [111,97,116])) (.cons (.con (.str [111])) .nil)))) QK (.ife (.or (.cmp .NotIn (.var 3) (.var 4)) (.cmp .NotEq (.cmp .Is (.var 3) (.con .non)) (.cmp .Eq (.var 4) (.lst (.cons (.con .non) (.cons (.con .non) (.cons (.con .non) .nil))))))) (.ret (.con (.bl false)) .done) .done (.forr (.tp [6,7,8]) (.var 2) Xx (.ife (.cmp .Is (.var 3) (.con .non)) (.ret (.con (.bl true)) .done) .done (.ret (.and (.cmp .Eq (.call 14 (.cons (.call 35 (.cons (.var 2) (.cons (.ix (.var 3) (.con (.int 0))) .nil))) .nil)) (.ix (.var 3) (.con (.int 1)))) (.cmp .Gt (.ix (.var 3) (.con (.int 1))) (.con (.int 0)))) .done)))))))
def ZdD:S:=(.asg 2 (.call 23 (.cons (.var 1) .nil)) (.asg 3 (.call 31 (.cons (.var 2) .nil)) (.asg 4 (.call 32 (.cons (.var 2) .nil)) (.ife (.not (.call 36 (.cons (.var 3) (.cons (.var 4) (.cons (.call 33 (.cons (.var 2) (.cons (.con (.int 10)) .nil))) .nil))))) (.ret (.con (.bl false)) .done) .done .done))))
def Zh1:S:=(.forr (.nm 1) (.bin .Add (.lst (.cons (.call 22 (.cons (.var 0) (.cons (.con (.int 0)) .nil))) .nil)) (.slc (.var 0) (.con (.int 1)) (.con (.int 5)))) ZdD (.ret (.con (.bl true)) .done))
def fns:List Fn:=[⟨2,2,JH,false⟩,⟨2,4,Xi,false⟩,⟨2,3,ZaN,false⟩,⟨2,3,Jd,false⟩,⟨1,1,ZaM,false⟩,⟨1,1,ZaO,false⟩,⟨2,2,ZaL,false⟩,⟨2,2,ZaQ,false⟩,⟨1,1,Jr,false⟩,⟨1,1,Qg,false⟩,⟨1,1,Ql,false⟩,⟨3,3,Qu,false⟩,⟨2,4,Z6,false⟩,⟨1,3,ZaP,false⟩,⟨1,1,Ze6,false⟩,⟨2,5,Ze5,false⟩,⟨2,2,ZfX,false⟩,⟨2,3,XC,false⟩,⟨2,3,JG,false⟩,⟨2,8,Xj,false⟩,⟨1,1,Xk,false⟩,⟨3,8,Z7,false⟩,⟨2,2,JL,false⟩,⟨1,1,Zcq,true⟩,⟨2,4,Zcv,false⟩,⟨2,2,Zct,false⟩,⟨1,2,Zcu,false⟩,⟨1,1,Xl,false⟩,⟨3,5,Zcw,false⟩,⟨2,4,Zac,false⟩,⟨5,9,ZbL,false⟩,⟨1,4,Zcs,false⟩,⟨1,1,ZaS,false⟩,⟨2,12,JK,false⟩,⟨2,2,Zbd,false⟩,⟨2,4,Zcr,false⟩,⟨3,10,ZaR,false⟩,⟨1,5,Zh1,false⟩]
def gv:List T:=[(.tup [(.str [103,105,118,101]),(.str [116,97,107,101]),(.str [98,101,97,114])])]
abbrev cf:=J7 fns gv
abbrev CF(k:Nat)(b:S)(p q:Nat)(c:Bool):Prop:=∀(n:Nat) (ws:List W) (m:Mem),cf (n+1) k ws m=if ws.length=p then(ex (cf n) gv b (ws.map some++Yy (q-p) none) m).bind λfl m'=>fin m.length c fl m' else .stuck
theorem ZfO:CF 0 JH 2 2 false:=λ_ _ _=>rfl
theorem ZhS:CF 1 Xi 2 4 false:=λ_ _ _=>rfl
theorem ZfN:CF 2 ZaN 2 3 false:=λ_ _ _=>rfl
theorem ZeT:CF 3 Jd 2 3 false:=λ_ _ _=>rfl
theorem ZhU:CF 4 ZaM 1 1 false:=λ_ _ _=>rfl
theorem ZhV:CF 5 ZaO 1 1 false:=λ_ _ _=>rfl
theorem ZhR:CF 6 ZaL 2 2 false:=λ_ _ _=>rfl
theorem ZhW:CF 7 ZaQ 2 2 false:=λ_ _ _=>rfl
theorem ZdM:CF 8 Jr 1 1 false:=λ_ _ _=>rfl
theorem Zaa:CF 9 Qg 1 1 false:=λ_ _ _=>rfl
theorem ZaJ:CF 10 Ql 1 1 false:=λ_ _ _=>rfl
theorem Zbb:CF 11 Qu 3 3 false:=λ_ _ _=>rfl
theorem ZaI:CF 12 Z6 2 4 false:=λ_ _ _=>rfl
theorem ZkH:CF 13 ZaP 1 3 false:=λ_ _ _=>rfl
theorem Zpb:CF 14 Ze6 1 1 false:=λ_ _ _=>rfl
theorem Zpa:CF 15 Ze5 2 5 false:=λ_ _ _=>rfl
theorem Zmx:CF 16 ZfX 2 2 false:=λ_ _ _=>rfl
theorem ZkG:CF 17 XC 2 3 false:=λ_ _ _=>rfl
theorem ZfM:CF 18 JG 2 3 false:=λ_ _ _=>rfl
theorem ZhT:CF 19 Xj 2 8 false:=λ_ _ _=>rfl
theorem ZdN:CF 20 Xk 1 1 false:=λ_ _ _=>rfl
theorem J5:CF 21 Z7 3 8 false:=λ_ _ _=>rfl
theorem ZfR:CF 22 JL 2 2 false:=λ_ _ _=>rfl
theorem Zmy:CF 23 Zcq 1 1 true:=λ_ _ _=>rfl
theorem ZmD:CF 24 Zcv 2 4 false:=λ_ _ _=>rfl
theorem ZmB:CF 25 Zct 2 2 false:=λ_ _ _=>rfl
theorem ZmC:CF 26 Zcu 1 2 false:=λ_ _ _=>rfl
theorem ZhX:CF 27 Xl 1 1 false:=λ_ _ _=>rfl
theorem ZmE:CF 28 Zcw 3 5 false:=λ_ _ _=>rfl
theorem ZgI:CF 29 Zac 2 4 false:=λ_ _ _=>rfl
theorem ZkJ:CF 30 ZbL 5 9 false:=λ_ _ _=>rfl
theorem ZmA:CF 31 Zcs 1 4 false:=λ_ _ _=>rfl
theorem ZkK:CF 32 ZaS 1 1 false:=λ_ _ _=>rfl
theorem ZfQ:CF 33 JK 2 12 false:=λ_ _ _=>rfl
theorem ZfP:CF 34 Zbd 2 2 false:=λ_ _ _=>rfl
theorem Zmz:CF 35 Zcr 2 4 false:=λ_ _ _=>rfl
theorem ZkI:CF 36 ZaR 3 10 false:=λ_ _ _=>rfl
theorem cf_law:CF 37 Zh1 1 5 false:=λ_ _ _=>rfl
theorem Zmk:gv[0]?=some (.tup [(.str [103,105,118,101]),(.str [116,97,107,101]),(.str [98,101,97,114])]):=rfl
end My
section
set_option maxRecDepth 20000
namespace My
open Mi
def IsSt(s:List T):Prop:=∃a b c:Int,s=[.int a,.int b,.int c]
def put(m:Mem)(i:Nat)(s:List T):Mem:=m.set i (some (false,s))
theorem ZmU{m:Mem}{i:Nat}{s:List T}(h:i<m.length):(put m i s)[i]?=some (some (false,s)):=YX h
theorem Z1{m:Mem}{i:Nat}{s:List T}:(put m i s).length=m.length:=WK
theorem ZiD{m:Mem}{i:Nat}{s s':List T}:(put m i s).set i (some (false,s'))=put m i s':=List.set_set _
theorem mulL{i j:Int}(h:0<=i)(h':i<4294967296):Za3 i j=true:=by
 have:i.natAbs<2^64:=by omega
 simp[Za3,small,this]
theorem mulR{i j:Int}(h:0<=j)(h':j<4294967296):Za3 i j=true:=by
 have:j.natAbs<2^64:=by omega
 simp[Za3,small,this]
section
variable{call:Nat->List W->Mem->Res W}{gv:List T}{env:Env}{m m1 m2 m3:Mem}{a b c e o v i:E}{x y z r:T}{w w1 w2:W}{f:Nat}{bb:B}{k:Bool}
theorem ZM{op:PySem.Operator}(h1:ev call gv a env m=.ok (.t x) m1)(h2:ev call gv b env m1=.ok (.t y) m2)(h3:binT op x y=some r):ev call gv (.bin op a b) env m=.ok (.t r) m2:=by
 rw[ev,h1,Zf,h2,Zf]
 show pur (binT op x y) m2=_
 rw[h3];rfl
theorem Zy{op:Yca}(h1:ev call gv a env m=.ok (.t x) m1)(h2:ev call gv b env m1=.ok (.t y) m2)(h3:cmpT op x y=some k):ev call gv (.cmp op a b) env m=.ok (.t (.bl k)) m2:=by
 rw[ev,h1,Zf,h2,Zf]
 show pur ((cmpT op x y).map .bl) m2=_
 rw[h3];rfl
theorem Zb(t:T):ev call gv (.con t) env m=.ok (.t t) m:=by rw[ev]
theorem Za{i:Nat}{w:W}(h:env[i]?=some (some w)):ev call gv (.var i) env m=.ok w m:=by rw[ev,h]
theorem Zcg{c j:Nat}{k:Int}{xs:List T}(h:env[c]?=some (some (.c j)))(hm:m[j]?=some (some (false,xs)))(hx:atT xs k=some r):ev call gv (.ix (.var c) (.con (.int k))) env m=.ok (.t r) m:=by
 rw[ev,Za h,Zf,Zb,Zf]
 simp only[view,hm,Option.bind_some,ixT,hx]
 rfl
theorem ZG(h1:ev call gv a env m=.ok (.t x) m1)(h2:ev call gv b env m1=.ok (.t y) m2)(h3:ixT x y=some r):ev call gv (.ix a b) env m=.ok (.t r) m2:=by
 rw[ev,h1,Zf,h2,Zf]
 show pur (ixT x y) m2=_
 rw[h3];rfl
theorem Qe(h:ev call gv e env m=.ok (.t x) m1)(hb:bltT bb [x]=some r):ev call gv (.blt bb (.cons e .nil)) env m=.ok (.t r) m1:=by
 rw[ev,evs,h]
 show pur (bltT bb [x]) m1=_
 rw[hb];rfl
theorem Z9(h:ev call gv e env m=.ok w m1):ev call gv (.call f (.cons e .nil)) env m=call f [w] m1:=by
 rw[ev,evs,h]
 rfl
theorem Zr(h1:ev call gv a env m=.ok w m1)(h2:ev call gv b env m1=.ok w1 m2):ev call gv (.call f (.cons a (.cons b .nil))) env m=call f [w,w1] m2:=by
 simp only[ev,evs,h1,h2,Zf]
theorem ZaF(h1:ev call gv a env m=.ok w m1)(h2:ev call gv b env m1=.ok w1 m2)(h3:ev call gv c env m2=.ok w2 m3):ev call gv (.call f (.cons a (.cons b (.cons c .nil)))) env m=call f [w,w1,w2] m3:=by
 simp only[ev,evs,h1,h2,h3,Zf]
theorem Zkk(h1:ev call gv a env m=.ok (.t x) m1):ev call gv (.tup (.cons a .nil)) env m=.ok (.t (.tup [x])) m1:=by
 simp only[ev,evs,h1,Zf,Zcd,Zcc]
 exact if_pos (by simp[lim])
theorem Zcf(h1:ev call gv a env m=.ok (.t x) m1)(h2:ev call gv b env m1=.ok (.t y) m2):ev call gv (.tup (.cons a (.cons b .nil))) env m=.ok (.t (.tup [x,y])) m2:=by
 simp only[ev,evs,h1,h2,Zf,Zcd,Zcc]
 exact if_pos (by simp[lim])
theorem ZfE(h1:ev call gv a env m=.ok (.t x) m1)(h2:ev call gv b env m1=.ok (.t y) m2)(h3:ev call gv c env m2=.ok (.t z) m3):ev call gv (.tup (.cons a (.cons b (.cons c .nil)))) env m=.ok (.t (.tup [x,y,z])) m3:=by
 simp only[ev,evs,h1,h2,h3,Zf,Zcd,Zcc]
 exact if_pos (by simp[lim])
theorem Zch(h:ev call gv a env m=.ok (.t (.bl true)) m1):ev call gv (.and a b) env m=ev call gv b env m1:=by rw[ev,h];rfl
theorem ZfG(h:ev call gv a env m=.ok (.t (.bl false)) m1):ev call gv (.and a b) env m=.ok (.t (.bl false)) m1:=by rw[ev,h];rfl
theorem Zkl(h:ev call gv a env m=.ok (.t (.bl k)) m1):ev call gv (.not a) env m=.ok (.t (.bl (!k))) m1:=by rw[ev,h];rfl
theorem ev_orT(h:ev call gv a env m=.ok (.t (.bl true)) m1):ev call gv (.or a b) env m=.ok (.t (.bl true)) m1:=by rw[ev,h];rfl
theorem Znp(h:ev call gv a env m=.ok (.t (.bl false)) m1):ev call gv (.or a b) env m=ev call gv b env m1:=by rw[ev,h];rfl
end
section
variable{call:Nat->List W->Mem->Res W}{gv:List T}{env:Env}{m m1 m2 m3:Mem}{a lo hi:E}{es:Es}{x y z r:T}{w:W}{ws:List W}{ts:List T}{f:Nat}{bb:B}
theorem ZW{ts:List T}(h:ts.length<=1000:=by exact Nat.le_of_ble_eq_true rfl):ts.length<=lim:=YJ h (by decide)
theorem Zq:evs call gv .nil env m=.ok [] m:=by rw[evs]
theorem Zd(h1:ev call gv a env m=.ok w m1)(h2:evs call gv es env m1=.ok ws m2):evs call gv (.cons a es) env m=.ok (w::ws) m2:=by rw[evs,h1,Zf,h2];rfl
theorem QC(h:evs call gv es env m=.ok ws m1)(h2:frzs ws m1=.ok ts m1)(hl:ts.length<=lim):ev call gv (.lst es) env m=.ok (.t (.lst ts)) m1:=by rw[ev,h,Zf,h2,Zf,if_pos hl]
theorem Xf(h:evs call gv es env m=.ok ws m1)(h2:frzs ws m1=.ok ts m1)(hl:ts.length<=lim):ev call gv (.tup es) env m=.ok (.t (.tup ts)) m1:=by rw[ev,h,Zf,h2,Zf,if_pos hl]
theorem Zw(h:evs call gv es env m=.ok ws m1):ev call gv (.call f es) env m=call f ws m1:=by rw[ev,h];rfl
theorem ZgG(h:evs call gv es env m=.ok ws m1)(h2:views ws m1=some ts)(h3:bltT bb ts=some r):ev call gv (.blt bb es) env m=.ok (.t r) m1:=by
 rw[ev,h,Zf,h2]
 show pur (bltT bb ts) m1=_
 rw[h3];rfl
end
section
variable{call:Nat->List W->Mem->Res W}{gv:List T}{env env':Env}{m m1 m2:Mem}{k a b:S}{e:E}{w:W}
theorem Zno(h:ev call gv e env m=.ok (.t (.bl false)) m1)(h2:ex call gv b env m1=.ok (.next env') m2):ex call gv (.ife e a b k) env m=ex call gv k env' m2:=by
 rw[ex,h]
 show(ex call gv b env m1).bind _=_
 rw[h2];rfl
theorem ZgD(h:ev call gv e env m=.ok (.t (.bl true)) m1)(h2:ex call gv a env m1=.ok (.next env') m2):ex call gv (.ife e a b k) env m=ex call gv k env' m2:=by
 rw[ex,h]
 show(ex call gv a env m1).bind _=_
 rw[h2];rfl
theorem Zce(h:ev call gv e env m=.ok w m1):ex call gv (.expr e k) env m=ex call gv k env m1:=by rw[ex,h];rfl
end
section
variable{call:Nat->List W->Mem->Res W}{gv:List T}{env:Env}{m m1 m2:Mem}{a c inner:E}{x:T}{xs:List T}
theorem Qw(h:ev call gv a env m=.ok (.t x) m1):ev call gv (.emit a) env m=.ok (.t (.lst [x])) m1:=by rw[ev,h];rfl
theorem ZdV(h:ev call gv c env m=.ok (.t (.bl true)) m1)(h2:ev call gv inner env m1=.ok (.t (.lst xs)) m2):Je call gv (.cons c .nil) inner env m=.ok xs m2:=by
 unfold Je
 rw[tests,h,Zf,Zc9,Zf,if_pos rfl,tests,Zf,if_pos rfl,h2]
 rfl
theorem ZdW(h:ev call gv c env m=.ok (.t (.bl false)) m1):Je call gv (.cons c .nil) inner env m=.ok [] m1:=by
 unfold Je
 rw[tests,h,Zf,Zc9,Zf,if_neg (by decide),Zf,if_neg (by decide)]
theorem Zad(h2:ev call gv inner env m=.ok (.t (.lst xs)) m2):Je call gv .nil inner env m=.ok xs m2:=by
 unfold Je
 rw[tests,Zf,if_pos rfl,h2]
 rfl
end
theorem at0{α:Type}(a:α)(r:List α):atT (a::r) 0=some a:=by simp[atT,ixOf]
theorem at1{α:Type}(a b:α)(r:List α):atT (a::b::r) 1=some b:=by
 have:(1:Int)<(r.length:Int)+1+1:=by omega
 simp[atT,ixOf,this]
theorem at_get{α:Type}{xs:List α}{i:Int}(h0:0<=i)(h1:i<xs.length):atT xs i=xs[i.toNat]?:=by
 unfold atT ixOf
 rw[if_pos h0,if_pos h1]
 rfl
theorem ZC{α β:Type}(f:α->β)(xs:List α):xs.flatMap (λx=>[f x])=xs.map f:=by
 induction xs with
 |nil=>rfl
 |cons x xs ih=>simp[ih]
def J9(p:List Nat×Int):T:=.tup [.str p.1,.int p.2]
def QL(nm kd:List Nat)(mk:List (List Nat))(sz:List (List Nat×Int)):T:=.tup [.str nm,.str kd,.tup (mk.map .str),.tup (sz.map J9)]
theorem card0(nm kd mk sz):ixT (QL nm kd mk sz) (.int 0)=some (.str nm):=rfl
theorem card2(nm kd mk sz):ixT (QL nm kd mk sz) (.int 2)=some (.tup (mk.map .str)):=rfl
theorem card3(nm kd mk sz):ixT (QL nm kd mk sz) (.int 3)=some (.tup (sz.map J9)):=rfl
theorem in_words(w:List Nat)(mk:List (List Nat)):cmpT .In (.str w) (.tup (mk.map .str))=some (mk.any λa=>a==w):=by
 have h1:hasT (.str w) (.tup (mk.map .str))=some (mk.any λa=>a==w):=by
  have ha:(mk.map T.str).all flat=true:=by simp[flat]
  have hb:((mk.map T.str).any λt=>eqT t (.str w))=mk.any λa=>a==w:=by
   induction mk with
   |nil=>rfl
   |cons a mk ih=>simp only[Yq,Va,eqT];rw[ih (by simp[flat])]
  unfold hasT
  dsimp only
  rw[ha,hb]
  rfl
 rw[<-h1]
 rcases w with _|⟨c,_|⟨d,r⟩⟩<;>rfl
theorem ZfC{n:Nat}{m:Mem}{nm kd w:List Nat}{mk sz}:cf (n+1) 0 [.t (QL nm kd mk sz),.t (.str w)] m=.ok (.t (.bl (mk.any λa=>a==w))) m:=by
 have key:ex (cf n) gv JH [some (.t (QL nm kd mk sz)),some (.t (.str w))] m=.ok (.ret (.t (.bl (mk.any λa=>a==w)))) m:=by
  unfold JH
  exact Zh (Zy (Za rfl) (ZG (Za rfl) (Zb _) (card2 _ _ _ _)) (in_words w mk))
 rw[ZfO]
 simp[key,Zf,Zn]
def ZcC:List (List Nat×Int)->List Nat->Option Int
 |[],_=>none
 |p::r,w=>if p.1==w then some p.2 else ZcC r w
def optT:Option Int->T
 |some v=>.int v
 |none=>.non
theorem Zd2{n:Nat}{m:Mem}{c:Option W}{w:List Nat}:∀(sz:List (List Nat×Int)) (a b:Option W),match ZcC sz w with
  |some v=>Z2 (ex (cf n) gv ZK) (.tp [2,3]) (sz.map J9) [c,some (.t (.str w)),a,b] m=.ok (.ret (.t (.int v))) m
  |none=>∃a' b',Z2 (ex (cf n) gv ZK) (.tp [2,3]) (sz.map J9) [c,some (.t (.str w)),a,b] m=.ok (.next [c,some (.t (.str w)),a',b']) m
 |[],a,b=>⟨a,b,rfl⟩
 |p::sz,a,b=>by
  have hb:Qn (.tp [2,3]) (J9 p) [c,some (.t (.str w)),a,b]=some [c,some (.t (.str w)),some (.t (.str p.1)),some (.t (.int p.2))]:=rfl
  have hc:ev (cf n) gv (.cmp .Eq (.var 2) (.var 1)) [c,some (.t (.str w)),some (.t (.str p.1)),some (.t (.int p.2))] m=.ok (.t (.bl (p.1==w))) m:=Zy (Za rfl) (Za rfl) (ZcJ _ _)
  rw[Yq,ZcC]
  cases hw:(p.1==w)with
  |true =>
   rw[hw]at hc
   show Z2 _ _ (J9 p::_) _ _=_
   rw[Z2,hb]
   have:ex (cf n) gv ZK [c,some (.t (.str w)),some (.t (.str p.1)),some (.t (.int p.2))] m=.ok (.ret (.t (.int p.2))) m:=Qm hc (Zh (Za rfl))
   show(ex (cf n) gv ZK [c,some (.t (.str w)),some (.t (.str p.1)),some (.t (.int p.2))] m).bind _=_
   rw[this]
   rfl
  |false =>
   rw[hw]at hc
   have step:Z2 (ex (cf n) gv ZK) (.tp [2,3]) (J9 p::sz.map J9) [c,some (.t (.str w)),a,b] m=Z2 (ex (cf n) gv ZK) (.tp [2,3]) (sz.map J9) [c,some (.t (.str w)),some (.t (.str p.1)),some (.t (.int p.2))] m:=by
    rw[Z2,hb]
    have:ex (cf n) gv ZK [c,some (.t (.str w)),some (.t (.str p.1)),some (.t (.int p.2))] m=.ok (.next [c,some (.t (.str w)),some (.t (.str p.1)),some (.t (.int p.2))]) m:=by
     unfold ZK
     rw[ZS hc,ex]
    show(ex (cf n) gv ZK [c,some (.t (.str w)),some (.t (.str p.1)),some (.t (.int p.2))] m).bind _=_
    rw[this]
    rfl
   rw[step]
   exact Zd2 sz _ _
theorem Zg3{n:Nat}{m:Mem}{nm kd w:List Nat}{mk sz}:cf (n+1) 1 [.t (QL nm kd mk sz),.t (.str w)] m=.ok (.t (optT (ZcC sz w))) m:=by
 have key:ex (cf n) gv Xi [some (.t (QL nm kd mk sz)),some (.t (.str w)),none,none] m=.ok (.ret (.t (optT (ZcC sz w)))) m:=by
  unfold Xi
  have h:=Zd2 (n:=n) (m:=m) (c:=some (.t (QL nm kd mk sz))) (w:=w) sz none none
  have hit:ev (cf n) gv (.ix (.var 0) (.con (.int 3))) [some (.t (QL nm kd mk sz)),some (.t (.str w)),none,none] m=.ok (.t (.tup (sz.map J9))) m:=ZG (Za rfl) (Zb _) (card3 _ _ _ _)
  cases q:ZcC sz w with
  |none =>
   rw[q]at h
   obtain⟨a',b',h⟩:=h
   rw[Q4 hit rfl h]
   exact Zh (Zb _)
  |some v =>
   rw[q]at h
   have h:Z2 (ex (cf n) gv ZK) (.tp [2,3]) (sz.map J9) [some (.t (QL nm kd mk sz)),some (.t (.str w)),none,none] m=.ok (.ret (.t (.int v))) m:=h
   rw[ex,hit]
   show(Z2 (ex (cf n) gv ZK) (.tp [2,3]) (sz.map J9) [some (.t (QL nm kd mk sz)),some (.t (.str w)),none,none] m).bind _=_
   rw[h]
   rfl
 rw[ZhS]
 simp[key,Zf,Zn]
inductive Lf:T->Prop where
 |any:Lf (.tup [.str [97,110,121]])
 |is (w:List Nat):Lf (.tup [.str [105,115],.str w])
 |by(w:List Nat):Lf (.tup [.str [98,121],.str w])
 |least (w:List Nat) (v:Int):Lf (.tup [.str [108,101,97,115,116],.str w,.int v])
 |most (w:List Nat) (v:Int):Lf (.tup [.str [109,111,115,116],.str w,.int v])
inductive DW:Nat->T->Prop where
 |leaf {d:Nat}{t:T}:Lf t->DW d t
 |nt {d:Nat}{a:T}:DW d a->DW (d+1) (.tup [.str [110,111,116],a])
 |jn {d:Nat}{b:Bool}{ts:List T}:ts.length<=6->(∀t∈ts,DW d t)->DW (d+1) (.tup [.str (if b then[97,110,100]else[111,114]),.tup ts])
def Zew(nm:List Nat)(mk:List (List Nat))(sz:List (List Nat×Int)):T->Bool
 |.tup [.str _]=>true
 |.tup [.str a,.str w]=>if a==[105,115]then mk.any λa=>a==w else nm==w
 |.tup [.str a,.str w,.int v]=>match ZcC sz w with
  |none=>false
  |some u=>if a==[108,101,97,115,116]then decide (v<=u)else decide (u<=v)
 |_=>false
theorem optN:∀o,cmpT .Is (optT o) .non=some (o.isNone)
 |none=>rfl
 |some _=>rfl
theorem Zbn{n:Nat}{m:Mem}{nm kd a w:List Nat}{mk sz}{v:Int}:cf (n+2) 3 [.t (.tup [.str a,.str w,.int v]),.t (QL nm kd mk sz)] m=.ok (.t (.bl (Zew nm mk sz (.tup [.str a,.str w,.int v])))) m:=by
 have key:ex (cf (n+1)) gv Jd [some (.t (.tup [.str a,.str w,.int v])),some (.t (QL nm kd mk sz)),none] m=.ok (.ret (.t (.bl (Zew nm mk sz (.tup [.str a,.str w,.int v]))))) m:=by
  unfold Jd
  rw[Zm ((Zr (Za rfl) (ZG (Za rfl) (Zb _) rfl)).trans (Zg3 (n:=n)))]
  simp only[Yw,Yx]
  have hn:ev (cf (n+1)) gv (.cmp .Is (.var 2) (.con .non)) [some (.t (.tup [.str a,.str w,.int v])),some (.t (QL nm kd mk sz)),some (.t (optT (ZcC sz w)))] m=.ok (.t (.bl (ZcC sz w).isNone)) m:=Zy (Za rfl) (Zb _) (optN _)
  cases q:ZcC sz w with
  |none =>
   rw[q]at hn
   rw[Qm hn (Zh (Zb _))]
   simp[Zew,q]
  |some u =>
   rw[q]at hn
   rw[ZS hn]
   have hl:ev (cf (n+1)) gv (.cmp .Eq (.ix (.var 0) (.con (.int 0))) (.con (.str [108,101,97,115,116]))) [some (.t (.tup [.str a,.str w,.int v])),some (.t (QL nm kd mk sz)),some (.t (optT (some u)))] m=.ok (.t (.bl (a==[108,101,97,115,116]))) m:=Zy (ZG (Za rfl) (Zb _) rfl) (Zb _) (ZcJ _ _)
   cases ha:(a==[108,101,97,115,116])with
   |true =>
    rw[ha]at hl
    rw[Qm hl (Zh (Zy (k:=decide (v<=u)) (Za rfl) (ZG (Za rfl) (Zb _) rfl) (c_ge u v)))]
    simp[Zew,q,ha]
   |false =>
    rw[ha]at hl
    rw[ZS hl]
    rw[Zh (Zy (k:=decide (u<=v)) (Za rfl) (ZG (Za rfl) (Zb _) rfl) (c_le u v))]
    simp[Zew,q,ha]
 rw[ZeT]
 simp[key,Zf,Zn]
theorem Zo{n:Nat}{m:Mem}{i:Nat}{s:List T}{many:Int}(hi:i<m.length)(hs:IsSt s)(h1:0<many)(h2:many<1073741824):
  ∃r s',cf (n+1) 24 [.c i,.t (.int many)] (put m i s)=.ok (.t (.int r)) (put m i s')/\IsSt s'/\0<=r/\r<many:=by
 obtain⟨a,b,c,rfl⟩:=hs
 have key:∃r s',ex (cf n) gv Zcv [some (.c i),some (.t (.int many)),none,none] (put m i [.int a,.int b,.int c])=.ok (.ret (.t (.int r))) (put m i s')/\IsSt s'/\0<=r/\r<many:=by
  have h:=ZmU (s:=[.int a,.int b,.int c]) hi
  unfold Zcv
  have hg:ev (cf n) gv (.cmp .Gt (.ix (.var 0) (.con (.int 0))) (.con (.int 0))) [some (.c i),some (.t (.int many)),none,none] (put m i [.int a,.int b,.int c])=.ok (.t (.bl (decide (0<a)))) (put m i [.int a,.int b,.int c]):=by
   rw[ev,Zcg rfl h rfl,Zf,Zb,Zf]
   rfl
  by_cases ha:0<a
  ·rw[decide_eq_true ha]at hg
   refine⟨a%many,[.int (a / many),.int b,.int c],Qm hg ?_,⟨_,_,_,rfl⟩,Ybh _ (by omega),YaE _ h1⟩
   rw[Zm (ZM (Zcg rfl h rfl) (Za rfl) (ZfY h1))]
   rw[Zkj (ZM (Zcg rfl h rfl) (Za rfl) (Zpg ⟨h1,h2⟩)) (Za rfl) (Zb _) h rfl]
   rw[ZiD]
   exact Zh (Za rfl)
  ·rw[decide_eq_false ha]at hg
   rw[ZS hg]
   have h4:Za3 7919 (c+1)=true:=mulL (by decide) (by decide)
   have h5:∀x,Za3 x 48271=true:=λx=>mulR (by decide) (by decide)
   have h6:∀x y,Za3 (x%2147483647) y=true:=λx y=>mulL (Ybh _ (by decide)) (by have:=YaE x (b:=2147483647) (by decide);omega)
   have hp:=ZmU (s:=[.int a,.int b,.int (c+1)]) hi
   obtain⟨z,hz⟩:∃z:Int,ex (cf n) gv (.set (.var 0) (.con (.int 2)) (.bin .Add (.ix (.var 0) (.con (.int 2))) (.con (.int 1))) (.asg 3 (.bin .Mod (.bin .Mult (.bin .Add (.bin .Add (.ix (.var 0) (.con (.int 1))) (.bin .Mult (.con (.int 7919)) (.ix (.var 0) (.con (.int 2))))) (.con (.int 1))) (.con (.int 48271))) (.con (.int 2147483647))) (.asg 3 (.bin .Mod (.bin .Mult (.var 3) (.bin .Add (.bin .FloorDiv (.var 3) (.con (.int 1009))) (.con (.int 69621)))) (.con (.int 2147483647))) (.ret (.bin .Mod (.bin .Mod (.bin .Mult (.var 3) (.bin .Add (.bin .FloorDiv (.var 3) (.con (.int 2003))) (.con (.int 40692)))) (.con (.int 2147483399))) (.var 1)) .done)))) [some (.c i),some (.t (.int many)),none,none] (put m i [.int a,.int b,.int c])=.ok (.ret (.t (.int (z%many)))) (put m i [.int a,.int b,.int (c+1)]):=by
    refine⟨(((b+7919*(c+1)+1)*48271%2147483647)*(((b+7919*(c+1)+1)*48271%2147483647) / 1009+69621)%2147483647)*((((b+7919*(c+1)+1)*48271%2147483647)*(((b+7919*(c+1)+1)*48271%2147483647) / 1009+69621)%2147483647) / 2003+40692)%2147483399,?_⟩
    rw[Zkj (ZM (Zcg rfl h rfl) (Zb _) (ZfZ _ _)) (Za rfl) (Zb _) h rfl]
    show ex (cf n) gv _ _ (put m i [.int a,.int b,.int c] |>.set i (some (false,[.int a,.int b,.int (c+1)])))=_
    rw[ZiD]
    rw[Zm (ZM (ZM (ZM (ZM (Zcg rfl hp rfl) (ZM (Zb _) (Zcg rfl hp rfl) (Zh0 h4)) (ZfZ _ _)) (Zb _) (ZfZ _ _)) (Zb _) (Zh0 (h5 _))) (Zb _) (ZfY (by decide)))]
    rw[Zm (ZM (ZM (Za rfl) (ZM (ZM (Za rfl) (Zb _) (Zpg (by decide))) (Zb _) (ZfZ _ _)) (Zh0 (h6 _ _))) (Zb _) (ZfY (by decide)))]
    exact Zh (ZM (ZM (ZM (Za rfl) (ZM (ZM (Za rfl) (Zb _) (Zpg (by decide))) (Zb _) (ZfZ _ _)) (Zh0 (h6 _ _))) (Zb _) (ZfY (by decide))) (Za rfl) (ZfY h1))
   exact⟨z%many,_,hz,⟨_,_,_,rfl⟩,Ybh _ (Int.ne_of_gt h1),YaE _ h1⟩
 obtain⟨r,s',e,h⟩:=key
 refine⟨r,s',?_,h⟩
 exact ZD (ZmD _ _ _) rfl e (Zn (cell:=false) (by rw[Z1,Z1]))
theorem ZnD{n:Nat}{m:Mem}{x:Int}:∃s,cf (n+1) 23 [.t (.int x)] m=.ok (.c m.length) (put (m++[none]) m.length s)/\IsSt s:=by
 have hb:∀y:Int,∀k:Bool,Za3 y (b2i k)=true:=λy k=>mulR (by cases k<;>decide) (by cases k<;>decide)
 refine⟨[.int (x*b2i (decide (1000000000000000000<=x))),.int (x%2147483647),.int 0],?_,⟨_,_,_,rfl⟩⟩
 have key:ex (cf n) gv Zcq [some (.t (.int x))] m=.ok (.ret (.c m.length)) (m++[some (false,[.int (x*b2i (decide (1000000000000000000<=x))),.int (x%2147483647),.int 0])]):=by
  unfold Zcq
  exact Zh (by simp[ev,evs,isT,Zz,EVs,b_pow,Zh0 (hb _ _),ZfY,lim])
 rw[Zmy]
 simp[key,Zf,fin,put]
theorem Zpc{n:Nat}{m:Mem}{ns:List Int}:∃v:Int,cf (n+1) 22 [.t (.scr ns),.t (.int 0)] m=.ok (.t (.int v)) m:=by
 have key:∃v:Int,ex (cf n) gv JL [some (.t (.scr ns)),some (.t (.int 0))] m=.ok (.ret (.t (.int v))) m:=by
  unfold JL
  by_cases h:(0:Int)<ns.length
  ·obtain⟨v,hv,_⟩:=QD (xs:=ns) (i:=0) (by decide) h
   exact⟨v,Qm (m1:=m) (by simp[ev,evs,isT,Zz,EVs];omega) (Zh (by simp[ev,evs,isT,Zz,EVs,hv]))⟩
  ·have h':ns=[]:=List.length_eq_zero_iff.mp (by omega)
   subst h'
   refine⟨0,?_⟩
   rw[ZS (m1:=m) (by simp[ev,evs,isT,Zz,EVs])]
   exact Zh (by simp[ev,evs,isT,Zz,EVs])
 obtain⟨v,e⟩:=key
 refine⟨v,?_⟩
 rw[ZfR]
 simp[e,Zf,Zn]
theorem ZfF{call:Nat->List W->Mem->Res W}{gv:List T}{env:Env}{m m1 m2:Mem}{a b:E}{x y r:T}{bb:B}(h1:ev call gv a env m=.ok (.t x) m1)(h2:ev call gv b env m1=.ok (.t y) m2)(hb:bltT bb [x,y]=some r):ev call gv (.blt bb (.cons a (.cons b .nil))) env m=.ok (.t r) m2:=by
 rw[ev,evs,h1,Zf,evs,h2,Zf,evs,Zf,Zf,Zf]
 show pur (bltT bb [x,y]) m2=_
 rw[hb]
 rfl
def okS(cs:List Nat):Bool:=PySem.PyData.strOk ⟨cs.toArray⟩
def Dk(d:Nat)(w:T):Prop:=∀k,Zg (k+(2*d+1)) w=true
theorem Zi4{n:Nat}{m:Mem}{i:Nat}{s xs:List T}(hi:i<m.length)(hs:IsSt s)(h0:0<xs.length)(h1:xs.length<1000):
  ∃x s',cf (n+2) 25 [.c i,.t (.lst xs)] (put m i s)=.ok (.t x) (put m i s')/\IsSt s'/\x∈xs:=by
 obtain⟨r,s1,g1,hs1,r0,r1⟩:=Zo (n:=n) (many:=(xs.length:Int)) hi hs (by omega) (by omega)
 obtain⟨x,hx,hm⟩:=QD r0 r1
 refine⟨x,s1,?_,hs1,hm⟩
 have key:ex (cf (n+1)) gv Zct [some (.c i),some (.t (.lst xs))] (put m i s)=.ok (.ret (.t x)) (put m i s1):=by
  unfold Zct
  exact Zh (by simp[ev,evs,isT,Zz,EVs,g1,hx])
 exact ZD (ZmB _ _ _) rfl key (Zn (cell:=false) (by rw[Z1,Z1]))
def names12:List T:=[.str [97],.str [97,98],.str [98],.str [97,110,121,97],.str [105,115,108,97,110,100],.str [97,98,99],.str [122],.str [98,121,98,121,101],.str [111,114,100,101,114],.str [110,111,116,101,115],.str [99],.str [122,122,122,122,122,122,122,122]]
theorem Zjw{n:Nat}{m:Mem}{k:Int}:∃cs,cf (n+1) 26 [.t (.int k)] m=.ok (.t (.str cs)) m/\okS cs=true:=by
 obtain⟨w,hw,hm⟩:=QD (xs:=names12) (i:=k%12) (by omega) (by simp[names12];omega)
 have hw':∃cs:List Nat,w=.str cs/\okS cs=true:=by
  simp only[names12,Yh,YC,or_false]at hm
  rcases hm with rfl|rfl|rfl|rfl|rfl|rfl|rfl|rfl|rfl|rfl|rfl|rfl<;>exact⟨_,rfl,by decide +kernel⟩
 obtain⟨cs,rfl,hwb⟩:=hw'
 refine⟨cs,?_,hwb⟩
 have key:ex (cf n) gv Zcu [some (.t (.int k)),none] m=.ok (.ret (.t (.str cs))) m:=by
  unfold Zcu
  rw[Zm (w:=.t (.lst names12)) (m1:=m) (by simp[ev,evs,isT,Zz,EVs,lim,names12])]
  exact Zh (by simp[ev,evs,isT,Zz,EVs,ZfY,hw])
 exact ZD (ZmC _ _ _) rfl key (Zn (cell:=false) rfl)
theorem Zep{n:Nat}{m:Mem}{i:Nat}{s:List T}(hi:i<m.length)(hs:IsSt s):∃(v:Int) (s':List T),cf (n+2) 27 [.c i] (put m i s)=.ok (.t (.int v)) (put m i s')/\IsSt s'/\0<=v/\v<=1000000000:=by
 have key:∃(v:Int) (s':List T),ex (cf (n+1)) gv Xl [some (.c i)] (put m i s)=.ok (.ret (.t (.int v))) (put m i s')/\IsSt s'/\0<=v/\v<=1000000000:=by
  obtain⟨r1,s1,h1,hs1,a0,a1⟩:=Zo (n:=n) (many:=6) hi hs (by decide) (by decide)
  obtain⟨r2,s2,h2,hs2,b0,b1⟩:=Zo (n:=n) (many:=6) hi hs1 (by decide) (by decide)
  obtain⟨r3,s3,h3,hs3,c0,c1⟩:=Zo (n:=n) (many:=3) hi hs2 (by decide) (by decide)
  obtain⟨r5,s5,h5,hs5,k0,k1⟩:=Zo (n:=n) (many:=3) hi hs3 (by decide) (by decide)
  obtain⟨z,hz,hzm⟩:=QD (xs:=[T.int r1,.int r2,.int (1000000000-r3)]) k0 (by simpa using k1)
  have hz':∃v:Int,z=.int v/\0<=v/\v<=1000000000:=by
   simp only[Yh,YC,or_false]at hzm
   rcases hzm with rfl|rfl|rfl<;>exact⟨_,rfl,by omega,by omega⟩
  obtain⟨v,rfl,hv⟩:=hz'
  refine⟨v,s5,?_,hs5,hv⟩
  unfold Xl
  exact Zh (by simp[ev,evs,isT,Zz,EVs,h1,h2,h3,h5,b_pow,lim,hz])
 obtain⟨v,s',e,hs',hl⟩:=key
 refine⟨v,s',?_,hs',hl⟩
 exact ZD (ZhX _ _ _) rfl e (Zn (cell:=false) (by rw[Z1,Z1]))
theorem turns3{R:T->List T->Prop}{a b c:T}{xss:List (List T)}(h:Turns R [a,b,c] xss):∃x y z,xss=[x,y,z]/\R a x/\R b y/\R c z:=by
 cases h with
 |cons r1 h=>cases h with
  |cons r2 h=>cases h with
   |cons r3 h=>cases h;exact⟨_,_,_,rfl,r1,r2,r3⟩
theorem turns2{R:T->List T->Prop}{a b:T}{xss:List (List T)}(h:Turns R [a,b] xss):∃x y,xss=[x,y]/\R a x/\R b y:=by
 cases h with
 |cons r1 h=>cases h with
  |cons r2 h=>cases h;exact⟨_,_,rfl,r1,r2⟩
theorem ZhA{n:Nat}{m:Mem}{i:Nat}{s:List T}{e1 e2 e3 e4:Option W}(hi:i<m.length)(hs:IsSt s):
  ∃(mk:List (List Nat)) (s':List T),ev (cf (n+1)) gv Zco [some (.c i),e1,e2,e3,e4] (put m i s)=.ok (.t (.lst (mk.map .str))) (put m i s')/\IsSt s'/\mk.length<=100/\∀w∈mk,okS w=true:=by
 obtain⟨xss,m',h2,⟨s2,rfl,hs2⟩,ht⟩:=Zaw (f:=Je (cf (n+1)) gv (.cons (.cmp .Eq (.call 24 (.cons (.var 1) (.cons (.con (.int 2)) .nil))) (.con (.int 1))) .nil) ZaB) (tg:=.nm 0) (env:=[none,some (.c i)]) (P:=λm'=>∃s,m'=put m i s/\IsSt s) (R:=λt xs=>xs=[]∨xs=[t]) [.str [102,114,101,115,104],.str [111,108,100],.str [111,108,100,115]] (put m i s) ⟨s,rfl,hs⟩ (by
  rintro t ht m' ⟨s,rfl,hs⟩
  obtain⟨q,s3,h3,hs3,hq0,hq1⟩:=Zo (n:=n) (many:=2) hi hs (by decide) (by decide)
  by_cases hq:q=1
  ·exact⟨[some (.t t),some (.c i)],[t],put m i s3,rfl,by simp[Je,tests,ZaB,ev,evs,isT,Zz,EVs,h3,hq],⟨s3,rfl,hs3⟩,.inr rfl⟩
  ·exact⟨[some (.t t),some (.c i)],[],put m i s3,rfl,by simp[Je,tests,ZaB,ev,evs,isT,Zz,EVs,h3,hq],⟨s3,rfl,hs3⟩,.inl rfl⟩)
 obtain⟨x,y,z,rfl,r1,r2,r3⟩:=turns3 ht
 have hx:∃mk:List (List Nat),[x,y,z].flatten=mk.map T.str/\mk.length<=100/\∀w∈mk,okS w=true:=by
  have a1:okS [102,114,101,115,104]=true:=by decide +kernel
  have a2:okS [111,108,100]=true:=by decide +kernel
  have a3:okS [111,108,100,115]=true:=by decide +kernel
  rcases r1 with rfl|rfl<;>rcases r2 with rfl|rfl<;>rcases r3 with rfl|rfl
  ·exact⟨[],rfl,by decide,by simp⟩
  ·exact⟨[_],rfl,by decide,by simp[a3]⟩
  ·exact⟨[_],rfl,by decide,by simp[a2]⟩
  ·exact⟨[_,_],rfl,by decide,by simp[a2,a3]⟩
  ·exact⟨[_],rfl,by decide,by simp[a1]⟩
  ·exact⟨[_,_],rfl,by decide,by simp[a1,a3]⟩
  ·exact⟨[_,_],rfl,by decide,by simp[a1,a2]⟩
  ·exact⟨[_,_,_],rfl,by decide,by simp[a1,a2,a3]⟩
 obtain⟨mk,e,hl,hk⟩:=hx
 rw[e]at h2
 exact⟨mk,s2,Ja (x:=.t (.lst [.str [102,114,101,115,104],.str [111,108,100],.str [111,108,100,115]])) (m0:=put m i s) (m1:=put m i s) rfl rfl h2 (by rw[Yc];unfold lim;omega),hs2,hl,hk⟩
theorem Zg2{n:Nat}{m:Mem}{i:Nat}{s:List T}{e1 e2 e3 e4:Option W}(hi:i<m.length)(hs:IsSt s):
  ∃(sz:List (List Nat×Int)) (s':List T),ev (cf (n+2)) gv ZeZ [some (.c i),e1,e2,e3,e4] (put m i s)=.ok (.t (.lst (sz.map J9))) (put m i s')/\IsSt s'/\sz.length<=100/\∀p∈sz,okS p.1=true:=by
 obtain⟨xss,m',h2,⟨s2,rfl,hs2⟩,ht⟩:=Zaw (f:=Je (cf (n+2)) gv (.cons (.cmp .Eq (.call 24 (.cons (.var 1) (.cons (.con (.int 2)) .nil))) (.con (.int 1))) .nil) ZaC) (tg:=.nm 0) (env:=[none,some (.c i)]) (P:=λm'=>∃s,m'=put m i s/\IsSt s) (R:=λt xs=>xs=[]∨∃v:Int,0<=v/\v<=1000000000/\xs=[.tup [t,.int v]]) [.str [112,114,105,99,101],.str [119,105,100,101]] (put m i s) ⟨s,rfl,hs⟩ (by
  rintro t ht m' ⟨s,rfl,hs⟩
  obtain⟨q,s3,h3,hs3,hq0,hq1⟩:=Zo (n:=n+1) (many:=2) hi hs (by decide) (by decide)
  by_cases hq:q=1
  ·obtain⟨v,s4,h4,hs4,v0,v1⟩:=Zep (n:=n) hi hs3
   exact⟨[some (.t t),some (.c i)],[.tup [t,.int v]],put m i s4,rfl,by simp[Je,tests,ZaC,ev,evs,isT,Zz,EVs,h3,hq,h4,lim],⟨s4,rfl,hs4⟩,.inr ⟨v,v0,v1,rfl⟩⟩
  ·exact⟨[some (.t t),some (.c i)],[],put m i s3,rfl,by simp[Je,tests,ZaC,ev,evs,isT,Zz,EVs,h3,hq],⟨s3,rfl,hs3⟩,.inl rfl⟩)
 obtain⟨x,y,rfl,r1,r2⟩:=turns2 ht
 have hx:∃sz:List (List Nat×Int),[x,y].flatten=sz.map J9/\sz.length<=100/\∀p∈sz,okS p.1=true:=by
  have a1:okS [112,114,105,99,101]=true:=by decide +kernel
  have a2:okS [119,105,100,101]=true:=by decide +kernel
  rcases r1 with rfl|⟨v,_,_,rfl⟩<;>rcases r2 with rfl|⟨u,_,_,rfl⟩
  ·exact⟨[],rfl,by decide,by simp⟩
  ·exact⟨[(_,u)],rfl,by simp,by simp[a2]⟩
  ·exact⟨[(_,v)],rfl,by simp,by simp[a1]⟩
  ·exact⟨[(_,v),(_,u)],rfl,by simp,by simp[a1,a2]⟩
 obtain⟨sz,e,hl,hk⟩:=hx
 rw[e]at h2
 exact⟨sz,s2,Ja (x:=.t (.lst [.str [112,114,105,99,101],.str [119,105,100,101]])) (m0:=put m i s) (m1:=put m i s) rfl rfl h2 (by rw[Yc];unfold lim;omega),hs2,hl,hk⟩
def ZmM(nm kd:List Nat)(mk:List (List Nat))(sz:List (List Nat×Int)):Prop:=mk.length<=100/\sz.length<=100/\(∀w∈mk,okS w=true)/\(∀p∈sz,okS p.1=true)/\okS nm=true/\okS kd=true
theorem Zpe{n:Nat}{m:Mem}{i:Nat}{s:List T}{nm kd:List Nat}(hi:i<m.length)(hs:IsSt s)(h1:okS nm=true)(h2:okS kd=true):∃(mk:List (List Nat)) (sz:List (List Nat×Int)) (s':List T),cf (n+3) 28 [.c i,.t (.str nm),.t (.str kd)] (put m i s)=.ok (.t (QL nm kd mk sz)) (put m i s')/\IsSt s'/\ZmM nm kd mk sz:=by
 obtain⟨mk,s1,g1,hs1,m1,m2⟩:=ZhA (n:=n+1) (e1:=some (.t (.str nm))) (e2:=some (.t (.str kd))) (e3:=none) (e4:=none) hi hs
 obtain⟨sz,s2,g2,hs2,z1,z2⟩:=Zg2 (n:=n) (e1:=some (.t (.str nm))) (e2:=some (.t (.str kd))) (e3:=some (.t (.tup (mk.map .str)))) (e4:=none) hi hs1
 refine⟨mk,sz,s2,?_,hs2,m1,z1,m2,z2,h1,h2⟩
 have key:ex (cf (n+2)) gv Zcw [some (.c i),some (.t (.str nm)),some (.t (.str kd)),none,none] (put m i s)=.ok (.ret (.t (QL nm kd mk sz))) (put m i s2):=by
  unfold Zcw
  have g1:ev (cf (n+2)) gv Zco [some (.c i),some (.t (.str nm)),some (.t (.str kd)),none,none] (put m i s)=.ok (.t (.lst (mk.map .str))) (put m i s1):=g1
  rw[Zm (w:=.t (.tup (mk.map .str))) (m1:=put m i s1) (Qe (bb:=.tuple) g1 (Zgz _))]
  simp only[Yw,Yx]
  rw[Zm (w:=.t (.tup (sz.map J9))) (m1:=put m i s2) (Qe (bb:=.tuple) g2 (Zgz _))]
  exact Zh rfl
 exact ZD (ZmE _ _ _) rfl key (Zn (cell:=false) (by rw[Z1,Z1]))
theorem Zif{Q:T->Prop}{ts:List T}{xss:List (List T)}(h:Turns (λ_ xs=>∃w,xs=[w]/\Q w) ts xss):∃ws:List T,xss.flatten=ws/\ws.length=ts.length/\∀w∈ws,Q w:=by
 induction h with
 |nil=>exact⟨[],rfl,rfl,λw hw=>by cases hw⟩
 |cons h _ ih =>
  obtain⟨w,rfl,hq⟩:=h
  obtain⟨ws,h1,h2,h3⟩:=ih
  refine⟨w::ws,by rw[W4,h1];rfl,by simp[h2],λx hx=>?_⟩
  rcases Yh.mp hx with rfl|hx
  ·exact hq
  ·exact h3 x hx
theorem Zee{n:Nat}{m:Mem}{i:Nat}{s:List T}{ws:List (List Nat)}(hi:i<m.length)(hs:IsSt s)(h0:0<ws.length)(h1:ws.length<1000)(hw:∀w∈ws,okS w=true):
  ∃w s',cf (n+2) 25 [.c i,.t (.lst (ws.map .str))] (put m i s)=.ok (.t (.str w)) (put m i s')/\IsSt s'/\okS w=true/\w∈ws:=by
 obtain⟨x,s',g,hs',hx⟩:=Zi4 (n:=n) (xs:=ws.map .str) hi hs (by rw[Yc];exact h0) (by rw[Yc];exact h1)
 obtain⟨w,hw',rfl⟩:=Yz.mp hx
 exact⟨w,s',g,hs',hw w hw',hw'⟩
theorem Zgy{n d:Nat}{m:Mem}{i:Nat}{s:List T}{r:Int}(hi:i<m.length)(hs:IsSt s)(r0:0<=r)(r6:r<6)(k1 k2:S):
  ∃(t:T) (s':List T),ex (cf (n+3)) gv (.ife (.cmp .Lt (.var 2) (.con (.int 2))) (.ret (.tup (.cons (.con (.str [97,110,121])) .nil)) .done) .done (.ife (.cmp .Eq (.var 2) (.con (.int 2))) (.ret (.tup (.cons (.con (.str [105,115])) (.cons (.call 25 (.cons (.var 0) (.cons (.lst (.cons (.con (.str [102,114,101,115,104])) (.cons (.con (.str [111,108,100])) (.cons (.con (.str [111,108,100,115])) (.cons (.con (.str [110,101,119])) .nil))))) .nil))) .nil))) .done) .done (.ife (.cmp .Eq (.var 2) (.con (.int 3))) (.ret (.tup (.cons (.con (.str [98,121])) (.cons (.call 26 (.cons (.call 24 (.cons (.var 0) (.cons (.con (.int 12)) .nil))) .nil)) .nil))) .done) .done (.ife (.cmp .Lt (.var 2) (.con (.int 6))) (.ret (.tup (.cons (.ix (.lst (.cons (.con (.str [108,101,97,115,116])) (.cons (.con (.str [109,111,115,116])) .nil))) (.bin .Sub (.var 2) (.con (.int 4)))) (.cons (.call 25 (.cons (.var 0) (.cons (.lst (.cons (.con (.str [112,114,105,99,101])) (.cons (.con (.str [119,105,100,101])) (.cons (.con (.str [102,97,114])) .nil)))) .nil))) (.cons (.call 27 (.cons (.var 0) .nil)) .nil)))) .done) .done k1)))) [some (.c i),some (.t (.int (d:Int))),some (.t (.int r)),none] (put m i s)=.ok (.ret (.t t)) (put m i s')/\IsSt s'/\Lf t/\Dk 0 t:=by
 have a0:okS [97,110,121]=true:=by decide +kernel
 have a1:okS [105,115]=true:=by decide +kernel
 have a2:okS [98,121]=true:=by decide +kernel
 have a3:okS [108,101,97,115,116]=true:=by decide +kernel
 have a4:okS [109,111,115,116]=true:=by decide +kernel
 have dk1:∀a:List Nat,okS a=true->Dk 0 (.tup [.str a]):=λa h k=>by
  show Zk k [.str a]=true
  unfold okS at h
  simp[Zk,Zg,h]
 have dk2:∀a b:List Nat,okS a=true->okS b=true->Dk 0 (.tup [.str a,.str b]):=λa b h h' k=>by
  show Zk k [.str a,.str b]=true
  unfold okS at h h'
  simp[Zk,Zg,h,h']
 have dk3:∀(a b:List Nat) (v:Int),okS a=true->okS b=true->Dk 0 (.tup [.str a,.str b,.int v]):=λa b v h h' k=>by
  show Zk k [.str a,.str b,.int v]=true
  unfold okS at h h'
  simp[Zk,Zg,h,h']
 by_cases h2:r<2
 ·exact⟨_,s,Qm (m1:=put m i s) (by simp[ev,evs,isT,Zz,EVs,h2]) (Zh rfl),hs,.any,dk1 _ a0⟩
 rw[ZS (m1:=put m i s) (by simp[ev,evs,isT,Zz,EVs,h2]<;>omega)]
 by_cases h3:r=2
 ·obtain⟨w,s2,g2,hs2,hw2,_⟩:=Zee (n:=n+1) (ws:=[[102,114,101,115,104],[111,108,100],[111,108,100,115],[110,101,119]]) hi hs (by simp) (by simp) (by
   intro w hw
   simp only[Yh,YC,or_false]at hw
   rcases hw with rfl|rfl|rfl|rfl<;>decide +kernel)
  simp only[Yq,Vp]at g2
  exact⟨_,s2,Qm (m1:=put m i s) (by simp[ev,evs,isT,Zz,EVs,h3]) (Zh (Xf (Zd (Zb _) (Zd ((Zw (Zd (Za rfl) (Zd (QC (Zd (Zb _) (Zd (Zb _) (Zd (Zb _) (Zd (Zb _) Zq)))) rfl ZW) Zq))).trans g2) Zq)) rfl ZW)),hs2,.is w,dk2 _ _ a1 hw2⟩
 rw[ZS (m1:=put m i s) (by simp[ev,evs,isT,Zz,EVs,h3])]
 by_cases h4:r=3
 ·obtain⟨q,s1,g1,hs1,_,_⟩:=Zo (n:=n+2) (many:=12) hi hs (by decide) (by decide)
  obtain⟨w,g2,hw2⟩:=Zjw (n:=n+2) (m:=put m i s1) (k:=q)
  exact⟨_,s1,Qm (m1:=put m i s) (by simp[ev,evs,isT,Zz,EVs,h4]) (Zh (Xf (Zd (Zb _) (Zd ((Zw (Zd ((Zw (Zd (Za rfl) (Zd (Zb _) Zq))).trans g1) Zq)).trans g2) Zq)) rfl ZW)),hs1,.by w,dk2 _ _ a2 hw2⟩
 rw[ZS (m1:=put m i s) (by simp[ev,evs,isT,Zz,EVs,h4])]
 obtain⟨z,hz,hzm⟩:=QD (xs:=[T.str [108,101,97,115,116],.str [109,111,115,116]]) (i:=r-4) (by omega) (by simp;omega)
 obtain⟨v,s2,g2,hs2,hv2,_⟩:=Zee (n:=n+1) (ws:=[[112,114,105,99,101],[119,105,100,101],[102,97,114]]) hi hs (by simp) (by simp) (by
   intro w hw
   simp only[Yh,YC,or_false]at hw
   rcases hw with rfl|rfl|rfl<;>decide +kernel)
 simp only[Yq,Vp]at g2
 obtain⟨k,s3,g3,hs3,k0,k1⟩:=Zep (n:=n+1) hi hs2
 simp only[Yh,YC,or_false]at hzm
 rcases hzm with rfl|rfl
 ·exact⟨_,s3,Qm (m1:=put m i s) (by simp[ev,evs,isT,Zz,EVs,r6]) (Zh (Xf (Zd (ZG (QC (Zd (Zb _) (Zd (Zb _) Zq)) rfl ZW) (ZM (Za rfl) (Zb _) rfl) hz) (Zd ((Zw (Zd (Za rfl) (Zd (QC (Zd (Zb _) (Zd (Zb _) (Zd (Zb _) Zq))) rfl ZW) Zq))).trans g2) (Zd ((Zw (Zd (Za rfl) Zq)).trans g3) Zq))) rfl ZW)),hs3,.least v k,dk3 _ _ _ a3 hv2⟩
 ·exact⟨_,s3,Qm (m1:=put m i s) (by simp[ev,evs,isT,Zz,EVs,r6]) (Zh (Xf (Zd (ZG (QC (Zd (Zb _) (Zd (Zb _) Zq)) rfl ZW) (ZM (Za rfl) (Zb _) rfl) hz) (Zd ((Zw (Zd (Za rfl) (Zd (QC (Zd (Zb _) (Zd (Zb _) (Zd (Zb _) Zq))) rfl ZW) Zq))).trans g2) (Zd ((Zw (Zd (Za rfl) Zq)).trans g3) Zq))) rfl ZW)),hs3,.most v k,dk3 _ _ _ a4 hv2⟩
theorem Zg1{n d:Nat}{m:Mem}{r:Int}{e0 e1 e3:Option W}(r6:6<=r){a1 a2 a3 a4 k:S}:
  ex (cf n) gv (.ife (.cmp .Lt (.var 2) (.con (.int 2))) a1 .done (.ife (.cmp .Eq (.var 2) (.con (.int 2))) a2 .done (.ife (.cmp .Eq (.var 2) (.con (.int 3))) a3 .done (.ife (.cmp .Lt (.var 2) (.con (.int 6))) a4 .done k)))) [e0,e1,some (.t (.int r)),e3] m=ex (cf n) gv k [e0,e1,some (.t (.int r)),e3] m:=by
 have h1:¬r<2:=by omega
 have h2:¬r=2:=by omega
 have h3:¬r=3:=by omega
 have h4:¬r<6:=by omega
 rw[ZS (m1:=m) (by simp[ev,evs,isT,Zz,EVs,h1]),ZS (m1:=m) (by simp[ev,evs,isT,Zz,EVs,h2]),ZS (m1:=m) (by simp[ev,evs,isT,Zz,EVs,h3]),ZS (m1:=m) (by simp[ev,evs,isT,Zz,EVs,h4])]
theorem m30:binT .Mult (.int 3) (.int 0)=some (.int 0):=rfl
theorem m31:binT .Mult (.int 3) (.int 1)=some (.int 3):=rfl
theorem Dk.mono{d e:Nat}{t:T}(h:Dk d t)(he:d<=e):Dk e t:=λk=>by
 have:=h (k+2*(e-d))
 rw[show k+2*(e-d)+(2*d+1)=k+(2*e+1) by omega]at this
 exact this
theorem dk_nt{d:Nat}{a:T}(h:Dk d a):Dk (d+1) (.tup [.str [110,111,116],a]):=λk=>by
 have h1:=h (k+1)
 rw[show k+1+(2*d+1)=k+(2*d+2) by omega]at h1
 have h2:okS [110,111,116]=true:=by decide +kernel
 unfold okS at h2
 rw[show k+(2*(d+1)+1)=k+(2*d+2)+1 by omega,Zg]
 simp[Zk,Zg,h1,h2]
theorem Qz{n:Nat}:∀{ts:List T},Zk n ts=true↔∀t∈ts,Zg n t=true
 |[]=>by simp[Zk]
 |t::ts=>by simp[Zk,Qz (ts:=ts)]
theorem dk_jn{d:Nat}{b:Bool}{ts:List T}(h:∀t∈ts,Dk d t):Dk (d+1) (.tup [.str (if b then[97,110,100]else[111,114]),.tup ts]):=λk=>by
 have h1:Zk (k+(2*d+1)) ts=true:=Qz.mpr λt ht=>h t ht k
 have h2:okS (if b then[97,110,100]else[111,114])=true:=by cases b<;>decide +kernel
 unfold okS at h2
 rw[show k+(2*(d+1)+1)=k+(2*d+1)+1+1 by omega,Zg,Zk,Zk,Zk,Zg,Zg,h1,h2]
 rfl
theorem Znx:∀(d:Nat) {n:Nat}{m:Mem}{i:Nat}{s:List T},i<m.length->IsSt s->∃(t:T) (s':List T),cf (n+(d+4)) 29 [.c i,.t (.int (d:Int))] (put m i s)=.ok (.t t) (put m i s')/\IsSt s'/\DW d t/\Dk d t:=by
 intro d
 induction d with
 |zero =>
  intro n m i s hi hs
  obtain⟨r,s1,h1,hs1,r0,r1⟩:=Zo (n:=n+2) (many:=6) hi hs (by decide) (by decide)
  obtain⟨t,s2,h2,hs2,hl⟩:=Zgy (n:=n) (d:=0) hi hs1 r0 r1 _ .done
  refine⟨t,s2,?_,hs2,.leaf hl.1,hl.2⟩
  have e:ex (cf (n+3)) gv Zac [some (.c i),some (.t (.int 0)),none,none] (put m i s)=.ok (.ret (.t t)) (put m i s2):=by
   unfold Zac
   rw[Zm (w:=.t (.int r)) (m1:=put m i s1) (by simp[ev,evs,isT,Zz,EVs,m30,b2i,h1])]
   exact h2
  show cf (n+3+1) _ _ _=_
  exact ZD (ZgI _ _ _) rfl e (Zn (cell:=false) (by rw[Z1,Z1]))
 |succ d ih =>
  intro n m i s hi hs
  have key:∃(t:T) (s':List T),ex (cf (n+(d+4))) gv Zac [some (.c i),some (.t (.int ((d:Int)+1))),none,none] (put m i s)=.ok (.ret (.t t)) (put m i s')/\IsSt s'/\DW (d+1) t/\Dk (d+1) t:=by
   obtain⟨r,s1,h1,hs1,r0,r1⟩:=Zo (n:=n+(d+3)) (many:=9) hi hs (by decide) (by decide)
   have h1:cf (n+(d+4)) 24 [.c i,.t (.int 9)] (put m i s)=_:=h1
   have hd0:(0:Int)<(d:Int)+1:=by omega
   have hm:ev (cf (n+(d+4))) gv (.call 24 (.cons (.var 0) (.cons (.bin .Add (.con (.int 6)) (.bin .Mult (.con (.int 3)) (.blt .int (.cons (.cmp .Gt (.var 1) (.con (.int 0))) .nil)))) .nil))) [some (.c i),some (.t (.int ((d:Int)+1))),none,none] (put m i s)=.ok (.t (.int r)) (put m i s1):=by
    simp[ev,evs,isT,Zz,EVs,m31,b2i,hd0,h1]
   unfold Zac
   rw[Zm hm]
   simp only[Yw,Yx]
   by_cases h6:r<6
   ·obtain⟨t,s2,h2,hs2,hl⟩:=Zgy (n:=n+(d+1)) (d:=d+1) hi hs1 r0 h6 _ .done
    rw[show((d+1:Nat):Int)=(d:Int)+1 by omega]at h2
    exact⟨t,s2,h2,hs2,.leaf hl.1,hl.2.mono (Wy _)⟩
   rw[Zg1 (d:=d) (by omega)]
   have hsub:(d:Int)+1-1=(d:Int):=by omega
   by_cases h7:r=6
   ·obtain⟨t,s2,h4,hs2,hw⟩:=ih (n:=n) hi hs1
    exact⟨_,s2,Qm (m1:=put m i s1) (by simp[ev,evs,isT,Zz,EVs,h7]) (Zh (by simp[ev,evs,isT,Zz,EVs,hsub,h4,lim])),hs2,.nt hw.1,dk_nt hw.2⟩
   rw[ZS (m1:=put m i s1) (by simp[ev,evs,isT,Zz,EVs,h7])]
   obtain⟨q,s2,h4,hs2,q0,q1⟩:=Zo (n:=n+(d+3)) (many:=2) hi hs1 (by decide) (by decide)
   have h4:cf (n+(d+4)) 24 [.c i,.t (.int 2)] (put m i s1)=_:=h4
   rw[Zm (w:=.t (.int (2+q))) (m1:=put m i s2) (by simp[ev,evs,isT,Zz,EVs,h4])]
   simp only[Yw,Yx]
   obtain⟨z,hz,hzm⟩:=QD (xs:=[T.str [97,110,100],.str [111,114]]) (i:=r-7) (by omega) (by simp;omega)
   have hz':∃b:Bool,z=.str (if b then[97,110,100]else[111,114]):=by
    simp only[Yh,YC,or_false]at hzm
    rcases hzm with rfl|rfl
    ·exact⟨true,rfl⟩
    ·exact⟨false,rfl⟩
   obtain⟨b,rfl⟩:=hz'
   obtain⟨xss,m',h5,⟨s3,rfl,hs3⟩,ht⟩:=Zaw (f:=Je (cf (n+(d+4))) gv .nil Zcb) (tg:=.nm 0) (env:=[none,some (.c i),some (.t (.int ((d:Int)+1)))]) (P:=λm'=>∃s,m'=put m i s/\IsSt s) (R:=λ_ xs=>∃w,xs=[w]/\DW d w/\Dk d w) (rangeT 0 (2+q).toNat) (put m i s2) ⟨s2,rfl,hs2⟩ (by
    rintro t ht m' ⟨s,rfl,hs⟩
    obtain⟨u,s4,h6,hs4,hu⟩:=ih (n:=n) hi hs
    exact⟨[some (.t t),some (.c i),some (.t (.int ((d:Int)+1)))],[u],put m i s4,rfl,by simp[Je,tests,Zcb,ev,evs,isT,Zz,EVs,hsub,h6],⟨s4,rfl,hs4⟩,u,rfl,hu⟩)
   obtain⟨ws,e1,e2,e3⟩:=Zif ht
   have hr:(rangeT 0 (2+q).toNat).length=(2+q).toNat:=by simp[rangeT]
   rw[e1]at h5
   have hc:ev (cf (n+(d+4))) gv ZeX [some (.c i),some (.t (.int ((d:Int)+1))),some (.t (.int r)),some (.t (.int (2+q)))] (put m i s2)=.ok (.t (.lst ws)) (put m i s3):=by
    refine Ja (x:=.t (.lst (rangeT 0 (2+q).toNat))) (m0:=put m i s2) (m1:=put m i s2) ?_ rfl h5 (by rw[e2,hr];unfold lim;omega)
    exact Qe (by rw[ev];rfl) (Zl9 (show 2+q<2^62/\-(2^62)<=2+q by omega))
   refine⟨_,s3,Zh (w:=.t (.tup [.str (if b then[97,110,100]else[111,114]),.tup ws])) (by simp[ev,evs,isT,Zz,EVs,hz,hc,lim]),hs3,.jn (by omega) (λt ht=>(e3 t ht).1),dk_jn λt ht=>(e3 t ht).2⟩
  obtain⟨t,s',e,hs',hl⟩:=key
  refine⟨t,s',?_,hs',hl⟩
  rw[show((d+1:Nat):Int)=(d:Int)+1 by omega]
  show cf (n+(d+4)+1) _ _ _=_
  exact ZD (ZgI _ _ _) rfl e (Zn (cell:=false) (by rw[Z1,Z1]))
def offT(sd nm kd:List Nat)(mk:List (List Nat))(sz:List (List Nat×Int))(w:T)(many least wt till:Int):T:=.tup [.str sd,QL nm kd mk sz,w,.int many,.int least,.int wt,.int till]
theorem ZlW{n:Nat}{m:Mem}{i:Nat}{s:List T}{sd nm kd:List Nat}{till:Int}(hi:i<m.length)(hs:IsSt s)(h1:okS nm=true)(h2:okS kd=true):
  ∃(mk:List (List Nat)) (sz:List (List Nat×Int)) (w:T) (many least weight:Int) (s':List T),cf (n+7) 30 [.c i,.t (.str sd),.t (.str nm),.t (.str kd),.t (.int till)] (put m i s)=.ok (.t (offT sd nm kd mk sz w many least weight till)) (put m i s')/\IsSt s'/\ZmM nm kd mk sz/\(DW 2 w/\Dk 2 w)/\(1<=many/\many<=1000000)/\(1<=least/\least<=many)/\(0<=weight/\weight<=1000):=by
 obtain⟨a1,s1,d1,hs1,a10,a11⟩:=Zo (n:=n+5) (many:=9) hi hs (by decide) (by decide)
 obtain⟨a2,s2,d2,hs2,a20,a21⟩:=Zo (n:=n+5) (many:=9) hi hs1 (by decide) (by decide)
 obtain⟨a3,s3,d3,hs3,a30,a31⟩:=Zo (n:=n+5) (many:=1000000) hi hs2 (by decide) (by decide)
 obtain⟨a4,s4,d4,hs4,a40,a41⟩:=Zo (n:=n+5) (many:=3) hi hs3 (by decide) (by decide)
 obtain⟨z,hz,hzm⟩:=QD (xs:=[T.int (1+a1),.int (1+a2),.int (1+a3)]) a40 (by simpa using a41)
 have hz':∃v:Int,z=.int v/\1<=v/\v<=1000000:=by
  simp only[Yh,YC,or_false]at hzm
  rcases hzm with rfl|rfl|rfl<;>exact⟨_,rfl,by omega,by omega⟩
 obtain⟨many,rfl,m1,m2⟩:=hz'
 obtain⟨b1,s5,d5,hs5,b10,b11⟩:=Zo (n:=n+5) (many:=many) hi hs4 (by omega) (by omega)
 obtain⟨b2,s6,d6,hs6,b20,b21⟩:=Zo (n:=n+5) (many:=3) hi hs5 (by decide) (by decide)
 obtain⟨z,hz2,hzm⟩:=QD (xs:=[T.int 1,.int (1+b1),.int many]) b20 (by simpa using b21)
 have hz':∃v:Int,z=.int v/\1<=v/\v<=many:=by
  simp only[Yh,YC,or_false]at hzm
  rcases hzm with rfl|rfl|rfl<;>exact⟨_,rfl,by omega,by omega⟩
 obtain⟨least,rfl,l1,l2⟩:=hz'
 obtain⟨w0,s7,d7,hs7,hw0⟩:=Znx 2 (n:=n) hi hs6
 have d7:cf (n+6) 29 [.c i,.t (.int 2)] (put m i s6)=.ok (.t w0) (put m i s7):=d7
 obtain⟨c1,s8,d8,hs8,c10,c11⟩:=Zo (n:=n+5) (many:=2) hi hs7 (by decide) (by decide)
 obtain⟨w,hz3,hzm⟩:=QD (xs:=[T.tup [.str [97,110,121]],w0]) c10 (by simpa using c11)
 have hw:DW 2 w/\Dk 2 w:=by
  simp only[Yh,YC,or_false]at hzm
  rcases hzm with rfl|rfl
  ·exact⟨.leaf .any,λk=>by
    show Zk (k+4) [.str [97,110,121]]=true
    have h:okS [97,110,121]=true:=by decide +kernel
    unfold okS at h
    simp[Zk,Zg,h]⟩
  ·exact hw0
 obtain⟨e1,s9,d9,hs9,e10,e11⟩:=Zo (n:=n+5) (many:=3) hi hs8 (by decide) (by decide)
 obtain⟨e2,s10,d10,hs10,e20,e21⟩:=Zo (n:=n+5) (many:=1001) hi hs9 (by decide) (by decide)
 obtain⟨e3,s11,d11,hs11,e30,e31⟩:=Zo (n:=n+5) (many:=2) hi hs10 (by decide) (by decide)
 obtain⟨z,hz4,hzm⟩:=QD (xs:=[T.int e1,.int e2]) e30 (by simpa using e31)
 have hz':∃v:Int,z=.int v/\0<=v/\v<=1000:=by
  simp only[Yh,YC,or_false]at hzm
  rcases hzm with rfl|rfl<;>exact⟨_,rfl,by omega,by omega⟩
 obtain⟨weight,rfl,g1,g2⟩:=hz'
 obtain⟨mk,sz,s12,d12,hs12,hc⟩:=Zpe (n:=n+3) hi hs11 h1 h2
 refine⟨mk,sz,w,many,least,weight,s12,?_,hs12,hc,hw,⟨m1,m2⟩,⟨l1,l2⟩,⟨g1,g2⟩⟩
 have key:ex (cf (n+6)) gv ZbL [some (.c i),some (.t (.str sd)),some (.t (.str nm)),some (.t (.str kd)),some (.t (.int till)),none,none,none,none] (put m i s)=.ok (.ret (.t (offT sd nm kd mk sz w many least weight till))) (put m i s12):=by
  refine(Zm (w:=.t (.int many)) (m1:=put m i s4) (ZG (QC (Zd (ZM (Zb _) ((Zw (Zd (Za rfl) (Zd (Zb _) Zq))).trans d1) rfl) (Zd (ZM (Zb _) ((Zw (Zd (Za rfl) (Zd (Zb _) Zq))).trans d2) rfl) (Zd (ZM (Zb _) ((Zw (Zd (Za rfl) (Zd (ZM (Zb _) (Zb _) rfl) Zq))).trans d3) rfl) Zq))) rfl ZW) ((Zw (Zd (Za rfl) (Zd (Zb _) Zq))).trans d4) hz)).trans ?_
  refine(Zm (w:=.t (.int least)) (m1:=put m i s6) (ZG (QC (Zd (Zb _) (Zd (ZM (Zb _) ((Zw (Zd (Za rfl) (Zd (Za rfl) Zq))).trans d5) rfl) (Zd (Za rfl) Zq))) rfl ZW) ((Zw (Zd (Za rfl) (Zd (Zb _) Zq))).trans d6) hz2)).trans ?_
  refine(Zm (w:=.t w) (m1:=put m i s8) (ZG (QC (Zd (Xf (Zd (Zb _) Zq) rfl ZW) (Zd ((Zw (Zd (Za rfl) (Zd (Zb _) Zq))).trans d7) Zq)) rfl ZW) ((Zw (Zd (Za rfl) (Zd (Zb _) Zq))).trans d8) hz3)).trans ?_
  refine(Zm (w:=.t (.int weight)) (m1:=put m i s11) (ZG (QC (Zd ((Zw (Zd (Za rfl) (Zd (Zb _) Zq))).trans d9) (Zd ((Zw (Zd (Za rfl) (Zd (Zb _) Zq))).trans d10) Zq)) rfl ZW) ((Zw (Zd (Za rfl) (Zd (Zb _) Zq))).trans d11) hz4)).trans ?_
  exact Zh (Xf (Zd (Za rfl) (Zd ((Zw (Zd (Za rfl) (Zd (Za rfl) (Zd (Za rfl) Zq)))).trans d12) (Zd (Za rfl) (Zd (Za rfl) (Zd (Za rfl) (Zd (Za rfl) (Zd (Za rfl) Zq))))))) rfl ZW)
 exact ZD (ZkJ _ _ _) rfl key (Zn (cell:=false) (by rw[Z1,Z1]))
section
variable{n:Nat}{m:Mem}{nm kd:List Nat}{mk:List (List Nat)}{sz:List (List Nat×Int)}
theorem w0{n:Nat}{m:Mem}{ts:List T}{a:List Nat}{e1 e2:Option W}:ev (cf n) gv (.ix (.var 0) (.con (.int 0))) [some (.t (.tup (.str a::ts))),e1,e2] m=.ok (.t (.str a)) m:=ZG (Za rfl) (Zb _) (at0 _ _)
theorem way{call:Nat->List W->Mem->Res W}{env:Env}{a b:List Nat}{s k:S}(h:env[2]?=some (some (.t (.str a))))(hb:(a==b)=false):ex call gv (.ife (.cmp .Eq (.var 2) (.con (.str b))) s .done k) env m=ex call gv k env m:=by
 refine ZS ?_
 rw[<-hb]
 exact Zy (Za h) (Zb _) (ZcJ _ _)
theorem wayT{call:Nat->List W->Mem->Res W}{env:Env}{a b:List Nat}{s k:S}{w:W}{m2:Mem}(h:env[2]?=some (some (.t (.str a))))(hb:(a==b)=true)(hs:ex call gv s env m=.ok (.ret w) m2):ex call gv (.ife (.cmp .Eq (.var 2) (.con (.str b))) s .done k) env m=.ok (.ret w) m2:=by
 refine Qm ?_ hs
 rw[<-hb]
 exact Zy (Za h) (Zb _) (ZcJ _ _)
theorem ZjH{w:T}(h:Lf w):cf (n+3) 2 [.t w,.t (QL nm kd mk sz)] m=.ok (.t (.bl (Zew nm mk sz w))) m:=by
 have key:ex (cf (n+2)) gv ZaN [some (.t w),some (.t (QL nm kd mk sz)),none] m=.ok (.ret (.t (.bl (Zew nm mk sz w)))) m:=by
  unfold ZaN
  cases h with
  |any =>
   rw[Zm w0]
   exact wayT rfl rfl (Zh (Zb _))
  |is w =>
   rw[Zm w0,way rfl rfl]
   exact wayT rfl rfl (Zh ((Zr (Za rfl) (ZG (Za rfl) (Zb _) rfl)).trans (ZfC (n:=n+1))))
  |«by» w =>
   rw[Zm w0,way rfl rfl,way rfl rfl]
   exact wayT rfl rfl (Zh (Zy (ZG (Za rfl) (Zb _) (card0 _ _ _ _)) (ZG (Za rfl) (Zb _) rfl) (ZcJ _ _)))
  |least w v =>
   rw[Zm w0,way rfl rfl,way rfl rfl,way rfl rfl,way rfl rfl,way rfl rfl,way rfl rfl]
   exact Zh ((Zr (Za rfl) (Za rfl)).trans (Zbn (n:=n)))
  |most w v =>
   rw[Zm w0,way rfl rfl,way rfl rfl,way rfl rfl,way rfl rfl,way rfl rfl,way rfl rfl]
   exact Zh ((Zr (Za rfl) (Za rfl)).trans (Zbn (n:=n)))
 rw[ZfN]
 simp[key,Zf,Zn]
end
theorem Z5{call:Nat->List W->Mem->Res W}{gv:List T}{env:Env}{m:Mem}:ex call gv .done env m=.ok (.next env) m:=by rw[ex]
structure Ent where
 sd:List Nat
 nm:List Nat
 kd:List Nat
 mrk:List (List Nat)
 sz:List (List Nat×Int)
 w:T
 many:Int
 least:Int
 wt:Int
 till:Int
 left:Int
def Ent.card(e:Ent):T:=QL e.nm e.kd e.mrk e.sz
def Ent.off(e:Ent):T:=offT e.sd e.nm e.kd e.mrk e.sz e.w e.many e.least e.wt e.till
def Ent.t(e:Ent):T:=.tup [e.off,.int e.left]
section
variable{n:Nat}{m:Mem}{nm kd:List Nat}{mk:List (List Nat)}{sz:List (List Nat×Int)}
theorem Zl2{call:Nat->List W->Mem->Res W}{m:Mem}{c:E}{env:Env}{ts:List T}{F:Nat}{g:T->T}{k:Nat}{card:T}(hc:c=.comp 1 [k] (.ix (.var 0) (.con (.int 1))) (.nm 0) .nil (.emit (.call F (.cons (.var 0) (.cons (.var 1) .nil))))){a:List Nat}(h0:env[0]?=some (some (.t (.tup [.str a,.tup ts]))))(hk:env[k]?=some (some (.t card)))(hl:ts.length<=100)(hg:∀t∈ts,call F [.t t,.t card] m=.ok (.t (g t)) m):
  ev call gv c env m=.ok (.t (.lst (ts.map g))) m:=by
 subst hc
 have h:=ZcW (f:=Je call gv .nil (.emit (.call F (.cons (.var 0) (.cons (.var 1) .nil))))) (tg:=.nm 0) (env:=[none,some (.t card)]) (m:=m) (g:=λt=>[g t]) ts (λt ht=>⟨[some (.t t),some (.t card)],rfl,Zad (Qw ((Zr (Za rfl) (Za rfl)).trans (hg t ht)))⟩)
 rw[ZC]at h
 refine Ja (x:=.t (.tup ts)) (m0:=m) (m1:=m) (ZG (Za h0) (Zb _) rfl) rfl ?_ (by rw[Yc];unfold lim;omega)
 show QW _ _ _ ([none]++[(env[k]?).join]) _=_
 rw[hk]
 exact h
def jnB(b:Bool)(bs:List Bool):Bool:=if b then bs.all id else bs.any id
theorem ZgM(bs:List Bool):bools? (bs.map T.bl)=some bs:=by
 induction bs with
 |nil=>rfl
 |cons b bs ih=>rw[Yq,bools?,ih];rfl
theorem all_bl(bs:List Bool):bltT .all [.lst (bs.map .bl)]=some (.bl (bs.all id)):=by
 show(bools? (bs.map T.bl)).map _=_
 rw[ZgM]
 rfl
theorem any_bl(bs:List Bool):bltT .any [.lst (bs.map .bl)]=some (.bl (bs.any id)):=by
 show(bools? (bs.map T.bl)).map _=_
 rw[ZgM]
 rfl
theorem Zo9{P:T->Bool->Prop}{ts:List T}(h:∀t∈ts,∃b,P t b):∃f:T->Bool,∀t∈ts,P t (f t):=by
 classical
 refine⟨λt=>if ht:t∈ts then(h t ht).choose else false,λt ht=>?_⟩
 simp only[dif_pos ht]
 exact(h t ht).choose_spec
def Lets(nm kd:List Nat)(mk:List (List Nat))(sz:List (List Nat×Int))(d:Nat)(w:T)(b:Bool):Prop:=∀(n:Nat) (m:Mem),cf (n+(d+3)) 2 [.t w,.t (QL nm kd mk sz)] m=.ok (.t (.bl b)) m
theorem Zl5:∀(d:Nat) {w:T},DW d w->∃b,Lets nm kd mk sz d w b:=by
 intro d w h
 induction h with
 |@leaf d t h=>exact⟨Zew nm mk sz t,λn m=>ZjH (n:=n+d) h⟩
 |@nt d a h ih =>
  obtain⟨b,hb⟩:=ih
  refine⟨!b,λn m=>?_⟩
  have g:=hb n m
  have key:ex (cf (n+(d+3))) gv ZaN [some (.t (.tup [.str [110,111,116],a])),some (.t (QL nm kd mk sz)),none] m=.ok (.ret (.t (.bl (!b)))) m:=by
   unfold ZaN
   rw[Zm w0,way rfl rfl,way rfl rfl,way rfl rfl]
   exact wayT rfl rfl (Zh (Zkl ((Zr (ZG (Za rfl) (Zb _) rfl) (Za rfl)).trans g)))
  show cf (n+(d+3)+1) _ _ _=_
  exact ZD (ZfN _ _ _) rfl key (Zn (cell:=false) rfl)
 |@jn d b ts h6 h ih =>
  obtain⟨f,hf⟩:=Zo9 ih
  have hlen:(ts.map f).length<=100:=by rw[Yc];omega
  refine⟨jnB b (ts.map f),λn m=>?_⟩
  have hc:∀(c:E) (env:Env),c=.comp 1 [1] (.ix (.var 0) (.con (.int 1))) (.nm 0) .nil (.emit (.call 2 (.cons (.var 0) (.cons (.var 1) .nil))))->env[0]?=some (some (.t (.tup [.str (if b then[97,110,100]else[111,114]),.tup ts])))->env[1]?=some (some (.t (QL nm kd mk sz)))->ev (cf (n+(d+3))) gv c env m=.ok (.t (.lst ((ts.map f).map .bl))) m:=λc env e h0 h1=>by
   rw[Y0]
   exact Zl2 e h0 h1 (by omega) λt ht=>hf t ht n m
  have key:ex (cf (n+(d+3))) gv ZaN [some (.t (.tup [.str (if b then[97,110,100]else[111,114]),.tup ts])),some (.t (QL nm kd mk sz)),none] m=.ok (.ret (.t (.bl (jnB b (ts.map f))))) m:=by
   unfold ZaN
   cases b with
   |true =>
    rw[Zm w0,way rfl rfl,way rfl rfl,way rfl rfl,way rfl rfl]
    exact wayT rfl rfl (Zh (Qe (hc ZgK _ rfl rfl rfl) (all_bl _)))
   |false =>
    rw[Zm w0,way rfl rfl,way rfl rfl,way rfl rfl,way rfl rfl,way rfl rfl]
    exact wayT rfl rfl (Zh (Qe (hc ZgL _ rfl rfl rfl) (any_bl _)))
  show cf (n+(d+3)+1) _ _ _=_
  exact ZD (ZfN _ _ _) rfl key (Zn (cell:=false) rfl)
end
structure EntOk (e:Ent):Prop where
 card:ZmM e.nm e.kd e.mrk e.sz
 wish:DW 2 e.w/\Dk 2 e.w
 sd:okS e.sd=true
 many:1<=e.many/\e.many<=1000000
def LB(e f:Ent):Bool:=by
 classical exact if h:∃b,Lets f.nm f.kd f.mrk f.sz 2 e.w b then h.choose else false
theorem lb1{n:Nat}{m:Mem}{e f:Ent}(he:EntOk e)(hf:EntOk f):cf (n+5) 2 [.t e.w,.t f.card] m=.ok (.t (.bl (LB e f))) m:=by
 have h:∃b,Lets f.nm f.kd f.mrk f.sz 2 e.w b:=Zl5 2 he.wish.1
 unfold LB
 rw[dif_pos h]
 exact h.choose_spec n m
def min2(a b:Int):Int:=if b<a then b else a
def minL:List Ent->Int
 |[]=>0
 |e::r=>minI e.left (r.map (·.left))
def ZeA(es:List Ent):Bool:=decide ((1:Int)<((Zv (es.map (·.kd))).length:Int))
def Zer(es:List Ent):Bool:=decide (((Zv (es.map (·.nm))).length:Int)<(es.length:Int))
def wayB(es:List Ent)(i j:Nat):Bool:=!((i:Int)==(j:Int))&&!(match es[i]?,es[j]? with
 |some e,some f=>LB e f
 |_,_=>false)
def Xc(es:List Ent)(i:Nat):Bool:=match es[i]? with
 |some e=>decide (minL es<min2 e.least e.left)
 |none=>false
def Zh9(i j:Nat):T:=.tup [.str [119,105,115,104],.int (i:Int),.int (j:Int)]
def Zev(i:Nat):T:=.tup [.str [108,101,97,115,116],.int (i:Int)]
def wayI(es:List Ent)(i:Nat):Option T:=(YF es.length).findSome? λj=>if wayB es i j then some (Zh9 i j)else none
def wayW(es:List Ent):Option T:=(YF es.length).findSome? (wayI es)
def wayL(es:List Ent):Option T:=(YF es.length).findSome? λi=>if Xc es i then some (Zev i)else none
def ZbO(es:List Ent):Option T:=if ZeA es then some (.tup [.str [107,105,110,100]])else if Zer es then some (.tup [.str [110,97,109,101]])else match wayW es with
 |some t=>some t
 |none=>wayL es
def Zjd(es:List Ent):Int:=if(ZbO es).isNone then minL es else 0
theorem ZcV{α:Type}{f:Env->Mem->Res Flow}{tg:Tg}{m:Mem}{P:Env->Prop}{emb:α->T}{g:α->Option T}:∀(as:List α) (env:Env),P env->(∀a∈as,∀env,P env->∃env1,Qn tg (emb a) env=some env1/\(match g a with
   |some r=>f env1 m=.ok (.ret (.t r)) m
   |none=>∃env2,f env1 m=.ok (.next env2) m/\P env2)) ->
  match as.findSome? g with
  |some r=>Z2 f tg (as.map emb) env m=.ok (.ret (.t r)) m
  |none=>∃env',Z2 f tg (as.map emb) env m=.ok (.next env') m/\P env'
 |[],env,hp,_=>⟨env,rfl,hp⟩
 |t::ts,env,hp,h=>by
  obtain⟨env1,hb,hf⟩:=h t Yp env hp
  rw[List.findSome?_cons,Yq]
  cases q:g t with
  |some r =>
   rw[q]at hf
   show Z2 _ _ _ _ _=_
   rw[Z2,hb]
   show(f env1 m).bind _=_
   rw[show f env1 m=_ from hf]
   rfl
  |none =>
   rw[q]at hf
   obtain⟨env2,h2,hp2⟩:=hf
   have step:Z2 f tg (emb t::ts.map emb) env m=Z2 f tg (ts.map emb) env2 m:=by
    rw[Z2,hb]
    show(f env1 m).bind _=_
    rw[h2]
    rfl
   have ih:=ZcV ts env2 hp2 λu hu=>h u (Yg _ hu)
   rw[step]
   exact ih
theorem ZaE{α:Type}{call:Nat->List W->Mem->Res W}{tg:Tg}{it:E}{body k:S}{env:Env}{m:Mem}{P:Env->Prop}{emb:α->T}{g:α->Option T}{x:T}{as:List α}(hit:ev call gv it env m=.ok (.t x) m)(hb:Z3 (.t x) m=.ok (as.map emb) m)(hp:P env)(h:∀a∈as,∀env,P env->∃env1,Qn tg (emb a) env=some env1/\(match g a with
   |some r=>ex call gv body env1 m=.ok (.ret (.t r)) m
   |none=>∃env2,ex call gv body env1 m=.ok (.next env2) m/\P env2)):
  match as.findSome? g with
  |some r=>ex call gv (.forr tg it body k) env m=.ok (.ret (.t r)) m
  |none=>∃env',ex call gv (.forr tg it body k) env m=ex call gv k env' m/\P env':=by
 have hl:=ZcV (f:=ex call gv body) (tg:=tg) (m:=m) (P:=P) (emb:=emb) (g:=g) as env hp h
 cases q:as.findSome? g with
 |some r =>
  rw[q]at hl
  have hl:Z2 (ex call gv body) tg (as.map emb) env m=.ok (.ret (.t r)) m:=hl
  show ex _ _ _ _ _=_
  rw[ex,hit,Zf,hb,Zf]
  show(Z2 (ex call gv body) tg (as.map emb) env m).bind _=_
  rw[hl]
  rfl
 |none =>
  rw[q]at hl
  obtain⟨env',hl,hp'⟩:=hl
  exact⟨env',Q4 hit hb hl,hp'⟩
theorem ZnS(n:Nat):rangeT 0 n=(YF n).map λk:Nat=>T.int (k:Int):=by
 unfold rangeT
 exact GD λk _=>by rw[Int.zero_add]
def intN(k:Nat):T:=.int (k:Int)
theorem Zbc{m:Mem}(n:Nat):Z3 (.t (.lst (rangeT 0 n))) m=.ok ((YF n).map intN) m:=by
 rw[ZnS]
 rfl
section
variable{n:Nat}{m:Mem}{es:List Ent}
def setT(es:List Ent):T:=.lst (es.map Ent.t)
theorem Zkp{i:Nat}{e:Ent}(h:es[i]?=some e):ixT (setT es) (.int (i:Int))=some e.t:=by
 have hi:=(Yi.mp h).1
 show atT (es.map Ent.t) (i:Int)=_
 rw[at_get (by omega) (by rw[Yc];omega),UV,YZ,h]
 rfl
theorem ZdI{call:Nat->List W->Mem->Res W}{c a:E}{env:Env}{g:Ent->T}(hc:c=.comp 2 [] (.var 0) (.tp [0,1]) .nil (.emit a))(h0:env[0]?=some (some (.t (setT es))))(hl:es.length<=100)(hg:∀e∈es,ev call gv a [some (.t e.off),some (.t (.int e.left))] m=.ok (.t (g e)) m):
  ev call gv c env m=.ok (.t (.lst (es.map g))) m:=by
 subst hc
 obtain⟨xss,m',h,rfl,ht⟩:=Zaw (f:=Je call gv .nil (.emit a)) (tg:=.tp [0,1]) (env:=[none,none]) (P:=λm'=>m'=m) (R:=λt xs=>∀e∈es,t=e.t->xs=[g e]) (es.map Ent.t) m rfl (by
  rintro t ht m' rfl
  obtain⟨e,he,rfl⟩:=Yz.mp ht
  refine⟨[some (.t e.off),some (.t (.int e.left))],[g e],m',rfl,Zad (Qw (hg e he)),rfl,λf hf e'=>?_⟩
  have h1:=hg e he
  have h2:=hg f hf
  have h3:e.off=f.off/\T.int e.left=.int f.left:=by
   unfold Ent.t at e'
   injection e' with e'
   injection e' with e1 e'
   injection e' with e2 e'
   exact⟨e1,e2⟩
  rw[h3.1,h3.2,h2]at h1
  injection h1 with h1
  injection h1 with h1
  rw[h1])
 have e:xss.flatten=es.map g:=by
  have:∀(l:List Ent) (xss:List (List T)),(∀e∈l,e∈es)->Turns (λt xs=>∀e∈es,t=e.t->xs=[g e]) (l.map Ent.t) xss->xss.flatten=l.map g:=by
   intro l
   induction l with
   |nil=>intro xss _ h;cases h;rfl
   |cons e l ih =>
    intro xss hs h
    cases h with
    |cons h ht =>
     rw[h e (hs e Yp) rfl,W4,ih _ (λx hx=>hs x (Yg _ hx)) ht]
     rfl
  exact this es xss (λe he=>he) ht
 rw[e]at h
 exact Ja (x:=.t (setT es)) (m0:=m') (m1:=m') (Za h0) rfl h (by rw[Yc];unfold lim;omega)
theorem ZjI{g:Ent->List Nat}(hl:es.length<64):bltT .lenset [.lst (es.map λe=>.str (g e))]=some (.int ((Zv (es.map g)).length:Int)):=by
 show ZjJ (es.map λe=>T.str (g e))=_
 unfold ZjJ
 rw[strs_map]
 exact if_pos (by rw[Yc];exact hl)
theorem ints_map{α:Type}(f:α->Int):∀xs:List α,ints? (xs.map λx=>T.int (f x))=some (xs.map f)
 |[]=>rfl
 |x::xs=>by rw[Yq,ints?,ints_map f xs];rfl
theorem min_ok(h0:es≠[])(hl:es.length<64):bltT .minl [.lst (es.map λe=>.int e.left)]=some (.int (minL es)):=by
 show ZjD (es.map λe=>T.int e.left)=_
 unfold ZjD
 rw[ints_map]
 cases es with
 |nil=>exact absurd rfl h0
 |cons e r =>
  rw[YB]at hl
  exact if_pos (by rw[Yc];omega)
theorem Zhx{e:Ent}:cf (n+1) 4 [.t e.off] m=.ok (.t (.str e.nm)) m:=
 ZD (ZhU _ _ _) rfl (show ex (cf n) gv ZaM [some (.t e.off)] m=.ok (.ret (.t (.str e.nm))) m from Zh (ZG (ZG (x:=e.off) (Za rfl) (Zb _) rfl) (Zb _) rfl)) (Zn (cell:=false) rfl)
theorem Za6{e:Ent}:cf (n+1) 5 [.t e.off] m=.ok (.t (.str e.kd)) m:=
 ZD (ZhV _ _ _) rfl (show ex (cf n) gv ZaO [some (.t e.off)] m=.ok (.ret (.t (.str e.kd))) m from Zh (ZG (ZG (x:=e.off) (Za rfl) (Zb _) rfl) (Zb _) rfl)) (Zn (cell:=false) rfl)
theorem ZgT{i:Nat}{e:Ent}(h:es[i]?=some e):cf (n+1) 6 [.t (setT es),.t (.int (i:Int))] m=.ok (.t e.w) m:=
 ZD (ZhR _ _ _) rfl (show ex (cf n) gv ZaL [some (.t (setT es)),some (.t (.int (i:Int)))] m=.ok (.ret (.t e.w)) m from Zh (ZG (ZG (ZG (Za rfl) (Za rfl) (Zkp h)) (Zb _) rfl) (Zb _) rfl)) (Zn (cell:=false) rfl)
theorem ZhY{i:Nat}{e:Ent}(h:es[i]?=some e):cf (n+1) 7 [.t (setT es),.t (.int (i:Int))] m=.ok (.t e.card) m:=
 ZD (ZhW _ _ _) rfl (show ex (cf n) gv ZaQ [some (.t (setT es)),some (.t (.int (i:Int)))] m=.ok (.ret (.t e.card)) m from Zh (ZG (ZG (ZG (Za rfl) (Za rfl) (Zkp h)) (Zb _) rfl) (Zb _) rfl)) (Zn (cell:=false) rfl)
theorem Zax(h0:es≠[])(hl:es.length<64):cf (n+1) 8 [.t (setT es)] m=.ok (.t (.int (minL es))) m:=by
 have hc:ev (cf n) gv XN [some (.t (setT es))] m=.ok (.t (.lst (es.map λe=>.int e.left))) m:=ZdI rfl rfl (by omega) λe he=>Za rfl
 exact ZD (ZdM _ _ _) rfl (show ex (cf n) gv Jr [some (.t (setT es))] m=.ok (.ret (.t (.int (minL es)))) m from Zh (Qe hc (min_ok h0 hl))) (Zn (cell:=false) rfl)
theorem ZjK:bltT .len [setT es]=some (.int (es.length:Int)):=by
 show some (T.int ((es.map Ent.t).length:Int))=_
 rw[Yc]
theorem kinds_ok(hl:es.length<64):cf (n+2) 9 [.t (setT es)] m=.ok (.t (.bl (ZeA es))) m:=by
 have hc:ev (cf (n+1)) gv QZ [some (.t (setT es))] m=.ok (.t (.lst (es.map λe=>.str e.kd))) m:=ZdI rfl rfl (by omega) λe he=>(Z9 (Za rfl)).trans Za6
 exact ZD (Zaa _ _ _) rfl (show ex (cf (n+1)) gv Qg [some (.t (setT es))] m=.ok (.ret (.t (.bl (ZeA es)))) m from Zh (Zy (Qe hc (ZjI hl)) (Zb _) (c_gt _ _))) (Zn (cell:=false) rfl)
theorem ZlY(hl:es.length<64):cf (n+2) 10 [.t (setT es)] m=.ok (.t (.bl (Zer es))) m:=by
 have hc:ev (cf (n+1)) gv Jb [some (.t (setT es))] m=.ok (.t (.lst (es.map λe=>.str e.nm))) m:=ZdI rfl rfl (by omega) λe he=>(Z9 (Za rfl)).trans Zhx
 exact ZD (ZaJ _ _ _) rfl (show ex (cf (n+1)) gv Ql [some (.t (setT es))] m=.ok (.ret (.t (.bl (Zer es)))) m from Zh (Zy (Qe hc (ZjI hl)) (Qe (Za rfl) ZjK) (c_lt _ _))) (Zn (cell:=false) rfl)
theorem Ze8{i j:Nat}{e f:Ent}(hi:es[i]?=some e)(hj:es[j]?=some f)(ho:∀e∈es,EntOk e):cf (n+6) 11 [.t (setT es),.t (.int (i:Int)),.t (.int (j:Int))] m=.ok (.t (.bl (wayB es i j))) m:=by
 have hL:cf (n+5) 2 [.t e.w,.t f.card] m=.ok (.t (.bl (LB e f))) m:=lb1 (ho e (Wx hi)) (ho f (Wx hj))
 have hw:wayB es i j=(!((i:Int)==(j:Int))&&!LB e f):=by
  unfold wayB
  rw[hi,hj]
 have key:ex (cf (n+5)) gv Qu [some (.t (setT es)),some (.t (.int (i:Int))),some (.t (.int (j:Int)))] m=.ok (.ret (.t (.bl (wayB es i j)))) m:=by
  rw[hw]
  refine Zh ?_
  have hne:=Zy (call:=cf (n+5)) (gv:=gv) (m:=m) (op:=.NotEq) (a:=.var 1) (b:=.var 2) (env:=[some (.t (setT es)),some (.t (.int (i:Int))),some (.t (.int (j:Int)))]) (Za rfl) (Za rfl) (ZmG (i:Int) (j:Int))
  cases q:((i:Int)==(j:Int))with
  |true =>
   rw[q]at hne
   exact ZfG hne
  |false =>
   rw[q]at hne
   refine(Zch hne).trans ?_
   exact Zkl ((Zr ((Zr (Za rfl) (Za rfl)).trans (ZgT (n:=n+4) hi)) ((Zr (Za rfl) (Za rfl)).trans (ZhY (n:=n+4) hj))).trans hL)
 exact ZD (Zbb _ _ _) rfl key (Zn (cell:=false) rfl)
theorem Zeu{i:Nat}{e:Ent}(hi:es[i]?=some e)(h0:es≠[])(hl:es.length<64):cf (n+2) 12 [.t (setT es),.t (.int (i:Int))] m=.ok (.t (.bl (Xc es i))) m:=by
 have hw:Xc es i=decide (minL es<min2 e.least e.left):=by
  unfold Xc
  rw[hi]
 have key:ex (cf (n+1)) gv Z6 [some (.t (setT es)),some (.t (.int (i:Int))),none,none] m=.ok (.ret (.t (.bl (Xc es i)))) m:=by
  rw[hw]
  unfold Z6
  rw[ex,ZG (Za rfl) (Za rfl) (Zkp hi)]
  show ex (cf (n+1)) gv _ [some (.t (setT es)),some (.t (.int (i:Int))),some (.t e.off),some (.t (.int e.left))] m=_
  exact Zh (Zy (ZfF (x:=.int e.least) (y:=.int e.left) (ZG (Za rfl) (Zb _) rfl) (Za rfl) rfl) ((Z9 (Za rfl)).trans (Zax (n:=n) h0 hl)) (c_gt _ _))
 exact ZD (ZaI _ _ _) rfl key (Zn (cell:=false) rfl)
theorem Zny{t:T}(h:ZbO es=some t):∃ts,t=.tup ts:=by
 unfold ZbO at h
 split at h
 ·cases h;exact⟨_,rfl⟩
 ·split at h
  ·cases h;exact⟨_,rfl⟩
  ·split at h
   ·rename_i u q
    cases h
    obtain⟨i,_,q⟩:=Gp q
    obtain⟨j,_,q⟩:=Gp q
    split at q<;>cases q
    exact⟨_,rfl⟩
   ·obtain⟨i,_,q⟩:=Gp h
    split at q<;>cases q
    exact⟨_,rfl⟩
theorem Zj4(h0:es≠[])(hl:es.length<64)(ho:∀e∈es,EntOk e):cf (n+7) 13 [.t (setT es)] m=.ok (.t ((ZbO es).getD .non)) m:=by
 have hr:∀env:Env,env[0]?=some (some (.t (setT es)))->ev (cf (n+6)) gv (.blt .range1 (.cons (.blt .len (.cons (.var 0) .nil)) .nil)) env m=.ok (.t (.lst (rangeT 0 es.length))) m:=λenv h=>by
  have:=Zl9 (i:=(es.length:Int)) (by omega)
  rw[UV]at this
  exact Qe (Qe (Za h) ZjK) this
 have key:ex (cf (n+6)) gv ZaP [some (.t (setT es)),none,none] m=.ok (.ret (.t ((ZbO es).getD .non))) m:=by
  unfold ZaP ZbO
  have hk:ev (cf (n+6)) gv (.call 9 (.cons (.var 0) .nil)) [some (.t (setT es)),none,none] m=.ok (.t (.bl (ZeA es))) m:=(Z9 (Za rfl)).trans (kinds_ok (n:=n+4) hl)
  have hn:ev (cf (n+6)) gv (.call 10 (.cons (.var 0) .nil)) [some (.t (setT es)),none,none] m=.ok (.t (.bl (Zer es))) m:=(Z9 (Za rfl)).trans (ZlY (n:=n+4) hl)
  cases qk:ZeA es with
  |true =>
   rw[qk]at hk
   exact Qm hk (Zh (Zkk (Zb _)))
  |false =>
   rw[qk]at hk
   refine(ZS hk).trans ?_
   cases qn:Zer es with
   |true =>
    rw[qn]at hn
    exact Qm hn (Zh (Zkk (Zb _)))
   |false =>
    rw[qn]at hn
    refine(ZS hn).trans ?_
    rw[if_neg Yl,if_neg Yl]
    have ge:∀{k:Nat},k∈YF es.length->∃e,es[k]?=some e:=λhk=>⟨_,Yn (VR.mp hk)⟩
    -- the wishes
    have hW:=ZaE (emb:=intN) (as:=YF es.length) (call:=cf (n+6)) (tg:=.nm 1) (it:=.blt .range1 (.cons (.blt .len (.cons (.var 0) .nil)) .nil)) (body:=ZcY) (k:=.forr (.nm 1) (.blt .range1 (.cons (.blt .len (.cons (.var 0) .nil)) .nil)) Za5 (.ret (.con .non) .done)) (env:=[some (.t (setT es)),none,none]) (m:=m) (P:=λenv=>∃a b,env=[some (.t (setT es)),a,b]) (g:=wayI es) (hr _ rfl) (Zbc _) ⟨_,_,rfl⟩ (by
     rintro i hi env ⟨a,b,rfl⟩
     obtain⟨e,he⟩:=ge hi
     refine⟨[some (.t (setT es)),some (.t (.int (i:Int))),b],rfl,?_⟩
     have hI:=ZaE (emb:=intN) (as:=YF es.length) (call:=cf (n+6)) (tg:=.nm 2) (it:=.blt .range1 (.cons (.blt .len (.cons (.var 0) .nil)) .nil)) (body:=ZcZ) (k:=.done) (env:=[some (.t (setT es)),some (.t (.int (i:Int))),b]) (m:=m) (P:=λenv=>∃b,env=[some (.t (setT es)),some (.t (.int (i:Int))),b]) (g:=λj=>if wayB es i j then some (Zh9 i j)else none) (hr _ rfl) (Zbc _) ⟨_,rfl⟩ (by
      rintro j hj env ⟨b,rfl⟩
      obtain⟨f,hf⟩:=ge hj
      refine⟨[some (.t (setT es)),some (.t (.int (i:Int))),some (.t (.int (j:Int)))],rfl,?_⟩
      have hc:ev (cf (n+6)) gv (.call 11 (.cons (.var 0) (.cons (.var 1) (.cons (.var 2) .nil)))) [some (.t (setT es)),some (.t (.int (i:Int))),some (.t (.int (j:Int)))] m=.ok (.t (.bl (wayB es i j))) m:=(ZaF (Za rfl) (Za rfl) (Za rfl)).trans (Ze8 he hf ho)
      show match(if wayB es i j=true then some (Zh9 i j)else none)with
       |some r=>_
       |none=>_
      cases q:wayB es i j with
      |true =>
       rw[q]at hc
       exact Qm hc (Zh (ZfE (Zb _) (Za rfl) (Za rfl)))
      |false =>
       rw[q]at hc
       exact⟨_,(ZS hc).trans Z5,_,rfl⟩)
     show match(YF es.length).findSome? λj=>if wayB es i j then some (Zh9 i j)else none with
      |some r=>_
      |none=>_
     cases q:(YF es.length).findSome? λj=>if wayB es i j then some (Zh9 i j)else none with
     |some r=>rw[q]at hI;exact hI
     |none =>
      rw[q]at hI
      obtain⟨env',h1,b',rfl⟩:=hI
      exact⟨_,h1.trans Z5,_,_,rfl⟩)
    show ex _ _ _ _ _=.ok (.ret (.t ((match wayW es with
     |some t=>some t
     |none=>wayL es).getD .non))) m
    cases qw:wayW es with
    |some r =>
     rw[show(YF es.length).findSome? (wayI es)=some r from qw]at hW
     exact hW
    |none =>
     rw[show(YF es.length).findSome? (wayI es)=none from qw]at hW
     obtain⟨env',h1,a,b,rfl⟩:=hW
     refine h1.trans ?_
     have hL:=ZaE (emb:=intN) (as:=YF es.length) (call:=cf (n+6)) (tg:=.nm 1) (it:=.blt .range1 (.cons (.blt .len (.cons (.var 0) .nil)) .nil)) (body:=Za5) (k:=.ret (.con .non) .done) (env:=[some (.t (setT es)),a,b]) (m:=m) (P:=λenv=>∃a b,env=[some (.t (setT es)),a,b]) (g:=λi=>if Xc es i then some (Zev i)else none) (hr _ rfl) (Zbc _) ⟨_,_,rfl⟩ (by
      rintro i hi env ⟨a,b,rfl⟩
      obtain⟨e,he⟩:=ge hi
      refine⟨[some (.t (setT es)),some (.t (.int (i:Int))),b],rfl,?_⟩
      have hc:ev (cf (n+6)) gv (.call 12 (.cons (.var 0) (.cons (.var 1) .nil))) [some (.t (setT es)),some (.t (.int (i:Int))),b] m=.ok (.t (.bl (Xc es i))) m:=(Zr (Za rfl) (Za rfl)).trans (Zeu (n:=n+4) he h0 hl)
      show match(if Xc es i=true then some (Zev i)else none)with
       |some r=>_
       |none=>_
      cases q:Xc es i with
      |true =>
       rw[q]at hc
       exact Qm hc (Zh (Zcf (Zb _) (Za rfl)))
      |false =>
       rw[q]at hc
       exact⟨_,(ZS hc).trans Z5,_,_,rfl⟩)
     cases ql:wayL es with
     |some r =>
      rw[show((YF es.length).findSome? λi=>if Xc es i then some (Zev i)else none)=some r from ql]at hL
      exact hL
     |none =>
      rw[show((YF es.length).findSome? λi=>if Xc es i then some (Zev i)else none)=none from ql]at hL
      obtain⟨env',h2,_⟩:=hL
      exact h2.trans (Zh (Zb _))
 exact ZD (ZkH _ _ _) rfl key (Zn (cell:=false) rfl)
theorem way_is:cmpT .Is ((ZbO es).getD .non) .non=some (ZbO es).isNone:=by
 cases q:ZbO es with
 |none=>rfl
 |some t =>
  obtain⟨ts,rfl⟩:=Zny q
  rfl
theorem Zoq(h0:es≠[])(hl:es.length<64)(ho:∀e∈es,EntOk e):cf (n+8) 14 [.t (setT es)] m=.ok (.t (.int (Zjd es))) m:=by
 have key:ex (cf (n+7)) gv Ze6 [some (.t (setT es))] m=.ok (.ret (.t (.int (Zjd es)))) m:=by
  unfold Ze6 Zjd
  have hw:ev (cf (n+7)) gv (.cmp .Is (.call 13 (.cons (.var 0) .nil)) (.con .non)) [some (.t (setT es))] m=.ok (.t (.bl (ZbO es).isNone)) m:=Zy ((Z9 (Za rfl)).trans (Zj4 h0 hl ho)) (Zb _) way_is
  cases q:(ZbO es).isNone with
  |true =>
   rw[q]at hw
   exact Qm hw (Zh ((Z9 (Za rfl)).trans (Zax (n:=n+6) h0 hl)))
  |false =>
   rw[q]at hw
   exact(ZS hw).trans (Zh (Zb _))
 exact ZD (Zpb _ _ _) rfl key (Zn (cell:=false) rfl)
end
theorem JT{α:Type}{f:Env->Mem->Res (List T)}{tg:Tg}{env:Env}{m:Mem}{emb:α->T}{g:α->List T}:∀(as:List α),(∀a∈as,∃env',Qn tg (emb a) env=some env'/\f env' m=.ok (g a) m)->QW f tg (as.map emb) env m=.ok (as.flatMap g) m
 |[],_=>rfl
 |a::as,h=>by
  obtain⟨env',h1,h2⟩:=h a Yp
  rw[Yq,QW,h1]
  show(f env' m).bind _=_
  rw[h2,Zf,JT as λx hx=>h x (Yg _ hx)]
  rfl
structure Wt where
 no:Int
 e:Ent
def Wt.t(w:Wt):T:=.tup [.int w.no,w.e.off,.int w.e.left]
def QF:List Nat:=[103,105,118,101]
def QG:List Nat:=[116,97,107,101]
def Q5:List Nat:=[98,101,97,114]
def isK(k:List Nat)(w:Wt):Bool:=w.e.kd==k
def isS(sd:List Nat)(w:Wt):Bool:=w.e.sd==sd
def nums(sd k:List Nat)(ws:List Wt):List Int:=((ws.filter (isK k)).filter (isS sd)).map (·.no)
def hasK(bn:List (List Nat))(k:List Nat):Bool:=bn.any λb=>b==k
def prsK(ws:List Wt)(k:List Nat):List (Int×Int):=(nums QF k ws).flatMap λg=>(nums QG k ws).map λt=>(g,t)
def oneK(bn:List (List Nat))(ws:List Wt)(k:List Nat):List (List Int):=
 if hasK bn k then(prsK ws k).flatMap λp=>(nums Q5 k ws).map λb=>[p.1,p.2,b]else(prsK ws k).map λp=>[p.1,p.2]
def Q7(bn:List (List Nat))(ws:List Wt):List (List Int):=(Zv (ws.map (·.e.kd))).flatMap (oneK bn ws)
theorem Jo{sd k:List Nat}{ws:List Wt}{x:Int}:x∈nums sd k ws↔∃w∈ws,w.e.kd=k/\w.e.sd=sd/\w.no=x:=by
 unfold nums
 rw[Yz]
 constructor
 ·rintro ⟨w,hw,e⟩
  rw[Wu,Wu]at hw
  exact⟨w,hw.1.1,eq_of_beq hw.1.2,eq_of_beq hw.2,e⟩
 ·rintro ⟨w,hw,h1,h2,e⟩
  refine⟨w,?_,e⟩
  rw[Wu,Wu]
  exact⟨⟨hw,by unfold isK;rw[h1];exact beq_self_eq_true _⟩,by unfold isS;rw[h2];exact beq_self_eq_true _⟩
def InS(bn:List (List Nat))(ws:List Wt)(x:List Int):Prop:=∃v∈ws,∃w∈ws,v.e.sd=QF/\w.e.sd=QG/\w.e.kd=v.e.kd /\
 ((hasK bn v.e.kd=true/\∃u∈ws,u.e.kd=v.e.kd/\u.e.sd=Q5/\x=[v.no,w.no,u.no])∨(hasK bn v.e.kd=false/\x=[v.no,w.no]))
theorem Zdw{ws:List Wt}{k:List Nat}{p:Int×Int}:p∈prsK ws k↔p.1∈nums QF k ws/\p.2∈nums QG k ws:=by
 unfold prsK
 rw[Yab]
 constructor
 ·rintro ⟨g,hg,h⟩
  obtain⟨t,ht,rfl⟩:=Yz.mp h
  exact⟨hg,ht⟩
 ·rintro ⟨h1,h2⟩
  exact⟨p.1,h1,Yz.mpr ⟨p.2,h2,rfl⟩⟩
theorem Zdz{bn:List (List Nat)}{ws:List Wt}{k:List Nat}{x:List Int}:x∈oneK bn ws k↔∃g t,g∈nums QF k ws/\t∈nums QG k ws/\((hasK bn k=true/\∃b∈nums Q5 k ws,x=[g,t,b])∨(hasK bn k=false/\x=[g,t])):=by
 unfold oneK
 cases hk:hasK bn k with
 |true =>
  rw[if_pos rfl,Yab]
  constructor
  ·rintro ⟨p,hp,h⟩
   obtain⟨b,hb,rfl⟩:=Yz.mp h
   obtain⟨h1,h2⟩:=Zdw.mp hp
   exact⟨p.1,p.2,h1,h2,.inl ⟨rfl,b,hb,rfl⟩⟩
  ·rintro ⟨g,t,h1,h2,⟨_,b,hb,rfl⟩|⟨z,_⟩⟩
   ·exact⟨(g,t),Zdw.mpr ⟨h1,h2⟩,Yz.mpr ⟨b,hb,rfl⟩⟩
   ·cases z
 |false =>
  rw[if_neg Yl,Yz]
  constructor
  ·rintro ⟨p,hp,rfl⟩
   obtain⟨h1,h2⟩:=Zdw.mp hp
   exact⟨p.1,p.2,h1,h2,.inr ⟨rfl,rfl⟩⟩
  ·rintro ⟨g,t,h1,h2,⟨z,_⟩|⟨_,rfl⟩⟩
   ·cases z
   ·exact⟨(g,t),Zdw.mpr ⟨h1,h2⟩,rfl⟩
theorem Zd4{bn:List (List Nat)}{ws:List Wt}{x:List Int}:x∈Q7 bn ws↔InS bn ws x:=by
 unfold Q7
 rw[Yab]
 constructor
 ·rintro ⟨k,_,h⟩
  obtain⟨g,t,h1,h2,h3⟩:=Zdz.mp h
  obtain⟨v,hv,a1,a2,rfl⟩:=Jo.mp h1
  obtain⟨w,hw,b1,b2,rfl⟩:=Jo.mp h2
  refine⟨v,hv,w,hw,a2,b2,b1.trans a1.symm,?_⟩
  rcases h3 with⟨q,b,hb,rfl⟩|⟨q,rfl⟩
  ·obtain⟨u,hu,c1,c2,rfl⟩:=Jo.mp hb
   exact .inl ⟨by rw[a1];exact q,u,hu,c1.trans a1.symm,c2,rfl⟩
  ·exact .inr ⟨by rw[a1];exact q,rfl⟩
 ·rintro ⟨v,hv,w,hw,a2,b2,bk,h⟩
  refine⟨v.e.kd,(JM _ _).mpr (Yz.mpr ⟨v,hv,rfl⟩),Zdz.mpr ⟨v.no,w.no,Jo.mpr ⟨v,hv,rfl,a2,rfl⟩,Jo.mpr ⟨w,hw,bk,b2,rfl⟩,?_⟩⟩
  rcases h with⟨q,u,hu,c1,c2,rfl⟩|⟨q,rfl⟩
  ·exact .inl ⟨q,u.no,Jo.mpr ⟨u,hu,c1,c2,rfl⟩,rfl⟩
  ·exact .inr ⟨q,rfl⟩
theorem ZdB{α β:Type}{f:α->List β}:∀{l:List α},l.Nodup->(∀a∈l,(f a).Nodup)->(∀a∈l,∀b∈l,∀x,x∈f a->x∈f b->a=b)->(l.flatMap f).Nodup
 |[],_,_,_=>Vg
 |a::l,hl,hf,hd=>by
  rw[Uo,Gw]
  obtain⟨h1,h2⟩:=Wb.mp hl
  refine⟨hf a Yp,ZdB h2 (λb hb=>hf b (Yg _ hb)) (λb hb c hc=>hd b (Yg _ hb) c (Yg _ hc)),λx hx y hy e=>?_⟩
  subst e
  obtain⟨b,hb,hxb⟩:=Yab.mp hy
  have:=hd a Yp b (Yg _ hb) x hx hxb
  exact h1 (this▸hb)
theorem Zgu{α β:Type}{f:α->β}{l:List α}(hl:l.Nodup)(hf:∀a b,f a=f b->a=b):(l.map f).Nodup:=Wq.mpr (hl.imp λh e=>h (hf _ _ e))
theorem Zeq:∀{ws:List Wt},(ws.map (·.no)).Nodup->∀{v w:Wt},v∈ws->w∈ws->v.no=w.no->v=w
 |[],_,v,w,h,_,_=>by cases h
 |a::ws,hn,v,w,hv,hw,e=>by
  rw[Yq,Wb]at hn
  rcases Yh.mp hv with h1|h1<;>rcases Yh.mp hw with h2|h2
  ·rw[h1,h2]
  ·exact absurd (Yz.mpr ⟨w,h2,by rw[<-e,h1]⟩) hn.1
  ·exact absurd (Yz.mpr ⟨v,h1,by rw[e,h2]⟩) hn.1
  ·exact Zeq hn.2 h1 h2 e
theorem Zfr{sd k:List Nat}{ws:List Wt}(h:(ws.map (·.no)).Nodup):(nums sd k ws).Nodup:=by
 unfold nums
 exact List.Pairwise.sublist (Yb2.map _ (Yb2.trans (Yau) (Yau))) h
theorem ZmX{k:List Nat}{ws:List Wt}(h:(ws.map (·.no)).Nodup):(prsK ws k).Nodup:=by
 refine ZdB (Zfr h) (λg _=>Zgu (Zfr h) λa b e=>(Yb9 e).2) λa _ b _ x hx hy=>?_
 obtain⟨t,_,rfl⟩:=Yz.mp hx
 obtain⟨t',_,e⟩:=Yz.mp hy
 exact(Yb9 e).1.symm
theorem one_nd{bn:List (List Nat)}{k:List Nat}{ws:List Wt}(h:(ws.map (·.no)).Nodup):(oneK bn ws k).Nodup:=by
 unfold oneK
 split
 ·refine ZdB (ZmX h) (λp _=>Zgu (Zfr h) λa b e=>by simpa using e) λa _ b _ x hx hy=>?_
  obtain⟨t,_,rfl⟩:=Yz.mp hx
  obtain⟨t',_,e⟩:=Yz.mp hy
  have e:b.1=a.1/\b.2=a.2/\t'=t:=by simpa using e
  exact(Yb3 e.1 e.2.1).symm
 ·exact Zgu (ZmX h) λa b e=>by
   have e:a.1=b.1/\a.2=b.2:=by simpa using e
   exact Yb3 e.1 e.2
theorem Zgd{bn:List (List Nat)}{ws:List Wt}(h:(ws.map (·.no)).Nodup):(Q7 bn ws).Nodup:=by
 refine ZdB (Xn _) (λk _=>one_nd h) λk _ k' _ x hx hy=>?_
 obtain⟨g,t,h1,_,h3⟩:=Zdz.mp hx
 obtain⟨g',t',h1',_,h3'⟩:=Zdz.mp hy
 have e:g=g':=by
  rcases h3 with⟨_,b,_,rfl⟩|⟨_,rfl⟩<;>rcases h3' with⟨_,b',_,e⟩|⟨_,e⟩<;>simp at e<;>exact e.1
 subst e
 obtain⟨v,hv,rfl,_,a3⟩:=Jo.mp h1
 obtain⟨w,hw,rfl,_,b3⟩:=Jo.mp h1'
 rw[Zeq h hv hw (a3.trans b3.symm)]
theorem ZbG{α β:Type}{f:α->List β}{c:Nat}:∀{l:List α},(∀a∈l,(f a).length<=c)->(l.flatMap f).length<=l.length*c
 |[],_=>Wy _
 |a::l,h=>by
  have h1:=h a Yp
  have h2:=ZbG (l:=l) λb hb=>h b (Yg _ hb)
  rw[Uo,Yr,YB,YbR]
  omega
theorem Zim(p q r:Wt->Bool)(h:∀w,(p w=true->q w=false/\r w=false)/\(q w=true->r w=false)):∀l:List Wt,(l.filter p).length+(l.filter q).length+(l.filter r).length<=l.length
 |[]=>Yj _
 |w::l=>by
  have ih:=Zim p q r h l
  obtain⟨h1,h2⟩:=h w
  rw[Uw,Uw,Uw,YB]
  cases hp:p w with
  |true =>
   obtain⟨a,b⟩:=h1 hp
   rw[a,b,if_pos rfl,if_neg Yl,if_neg Yl,YB]
   omega
  |false =>
   rw[if_neg Yl]
   cases hq:q w with
   |true =>
    rw[h2 hq,if_pos rfl,if_neg Yl,YB]
    omega
   |false =>
    rw[if_neg Yl]
    cases r w with
    |true=>rw[if_pos rfl,YB];omega
    |false=>rw[if_neg Yl];omega
theorem small3:∀g<11,∀t<11,∀b<11,g+t+b<=10->g*t*b<=4*(g+t+b)/\g*t<=4*(g+t+b):=by decide +kernel
theorem Zkh{α β γ:Type}{f:α->β->γ}{ys:List β}:∀l:List α,(l.flatMap λa=>ys.map (f a)).length=l.length*ys.length
 |[]=>(Nat.zero_mul _).symm
 |a::l=>by rw[Uo,Yr,Zkh l,Yc,YB,YbR,Ya9]
theorem Zoy{bn:List (List Nat)}{ws:List Wt}{k:List Nat}(hl:ws.length<=10):(oneK bn ws k).length<=4*(ws.filter (isK k)).length:=by
 have h:=Zim (isS QF) (isS QG) (isS Q5) (λw=>by
  unfold isS
  constructor
  ·intro h
   rw[eq_of_beq h]
   exact⟨by decide,by decide⟩
  ·intro h
   rw[eq_of_beq h]
   decide) (ws.filter (isK k))
 have hk:=Wg (isK k) ws
 have e:∀sd,(nums sd k ws).length=((ws.filter (isK k)).filter (isS sd)).length:=λsd=>Yc ..
 rw[<-e,<-e,<-e]at h
 have z:=small3 (nums QF k ws).length (by omega) (nums QG k ws).length (by omega) (nums Q5 k ws).length (by omega) (by omega)
 have hp:(prsK ws k).length=(nums QF k ws).length*(nums QG k ws).length:=Zkh _
 unfold oneK
 split
 ·rw[show((prsK ws k).flatMap λp=>(nums Q5 k ws).map λb=>[p.1,p.2,b]).length=(prsK ws k).length*(nums Q5 k ws).length from Zkh (f:=λ(p:Int×Int) b=>[p.1,p.2,b]) _,hp]
  omega
 ·rw[Yc,hp]
  omega
theorem ZjO:∀(ws:List Wt) (l:List (List Nat)),l.Nodup->(l.map λk=>(ws.filter (isK k)).length).sum<=ws.length
 |[],l,_=>by
  induction l with
  |nil=>exact Yj _
  |cons k l ih =>
   rw[Yq,Ya2]
   exact Nat.add_le_add (Yj 0) (ih (Wb.mp ‹_›).2)
 |w::ws,l,hl=>by
  have ih:=ZjO ws l hl
  have e:∀l:List (List Nat),l.Nodup->(l.map λk=>((w::ws).filter (isK k)).length).sum<=(l.map λk=>(ws.filter (isK k)).length).sum+1/\(w.e.kd∉l->(l.map λk=>((w::ws).filter (isK k)).length).sum=(l.map λk=>(ws.filter (isK k)).length).sum):=λl hl=>by
   clear ih
   induction l with
   |nil=>exact⟨U4 _,λ_=>rfl⟩
   |cons k l ih =>
    obtain⟨h1,h2⟩:=Wb.mp hl
    obtain⟨i1,i2⟩:=ih h2
    rw[Yq,Yq,Ya2,Ya2]
    by_cases q:isK k w=true
    ·have q2:w.e.kd=k:=eq_of_beq q
     rw[Uw,if_pos q,YB,i2 (by rw[q2];exact h1)]
     exact⟨by omega,λz=>absurd (by rw[q2];exact Yp) z⟩
    ·rw[Uw,if_neg q]
     exact⟨by omega,λz=>by rw[i2 (λy=>z (Yg _ y))]⟩
  have:=(e l hl).1
  rw[YB]
  omega
theorem Zd5{bn:List (List Nat)}{ws:List Wt}(hl:ws.length<=10):(Q7 bn ws).length<64:=by
 have h:∀l:List (List Nat),(l.flatMap (oneK bn ws)).length<=4*(l.map λk=>(ws.filter (isK k)).length).sum:=λl=>by
  induction l with
  |nil=>exact Yj _
  |cons k l ih =>
   have:=Zoy (bn:=bn) (k:=k) hl
   rw[Uo,Yr,Yq,Ya2]
   omega
 have h1:=h (Zv (ws.map (·.e.kd)))
 have h2:=ZjO ws _ (Xn (ws.map (·.e.kd)))
 unfold Q7
 omega
theorem ZaA{bn:List (List Nat)}{ws:List Wt}{x:List Int}(h:InS bn ws x):x.length=2∨x.length=3:=by
 obtain⟨v,_,w,_,_,_,_,h⟩:=h
 rcases h with⟨_,u,_,_,_,rfl⟩|⟨_,rfl⟩
 ·exact .inr rfl
 ·exact .inl rfl
theorem Zfy:∀ns:List Int,ints? (ns.map T.int)=some ns
 |[]=>rfl
 |n::ns=>by
  have:=Zfy ns
  simp[ints?,this]
theorem Zij:∀ks:List (List Int),tups? (ks.map tupT)=some ks
 |[]=>rfl
 |k::ks=>by
  rw[Yq,tups?,Zij ks]
  have:tupI? (tupT k)=some k:=by
   unfold tupI? tupT
   exact Zfy k
  rw[this]
  rfl
theorem ZnI{ks:List (List Int)}(h1:ks.Nodup)(h2:ks.length<64)(h3:∀k∈ks,k≠[]):ZcM (ks.map tupT)=some (.lst ((sortI ks).map tupT)):=by
 unfold ZcM
 rw[Zij]
 refine if_pos ⟨h1,h2,Wa.mpr λk hk=>?_⟩
 cases k with
 |nil=>exact absurd rfl (h3 _ hk)
 |cons _ _=>rfl
section
variable{call:Nat->List W->Mem->Res W}{gv:List T}{env:Env}{m m1:Mem}
theorem ZaG{α:Type}{own:Nat}{keep:List Nat}{it:E}{tg:Tg}{cs:Es}{inner:E}{x:T}{emb:α->T}{g:α->List T}(as:List α)(hit:ev call gv it env m=.ok (.t x) m)(hb:Z3 (.t x) m=.ok (as.map emb) m)(h:∀a∈as,∃env',Qn tg (emb a) (Yy own none++keep.map λi=>(env[i]?).join)=some env'/\Je call gv cs inner env' m=.ok (g a) m)(hz:(as.flatMap g).length<=lim):ev call gv (.comp own keep it tg cs inner) env m=.ok (.t (.lst (as.flatMap g))) m:=
 Ja hit hb (JT as h) hz
theorem moreA{α:Type}{it:E}{tg:Tg}{cs:Es}{inner:E}{x:T}{emb:α->T}{g:α->List T}(as:List α)(hit:ev call gv it env m=.ok (.t x) m)(hb:Z3 (.t x) m=.ok (as.map emb) m)(h:∀a∈as,∃env',Qn tg (emb a) env=some env'/\Je call gv cs inner env' m=.ok (g a) m):ev call gv (.more it tg cs inner) env m=.ok (.t (.lst (as.flatMap g))) m:=by
 have e:ev call gv (.more it tg cs inner) env m=(ev call gv it env m).bind λx m0=>(Z3 x m0).bind λts m =>
  (QW (Je call gv cs inner) tg ts env m).bind λout m=>.ok (.t (.lst out)) (giveBack x m0 m):=by rw[ev];rfl
 rw[e,hit,Zf,hb,Zf,JT as h]
 rfl
theorem ZoX{is:List Nat}{e:E}{k:S}{ts:List T}{env':Env}(h:ev call gv e env m=.ok (.t (.lst ts)) m1)(h2:Qn (.tp is) (.tup ts) env=some env'):ex call gv (.asgL is e k) env m=ex call gv k env' m1:=by
 rw[ex,h]
 show(match Qn (.tp is) (.tup ts) env with
  |some env=>ex call gv k env m1
  |none=>.stuck)=_
 rw[h2]
theorem ZgE{b:Mt}{i j:Nat}{a:E}{c:Bool×List T}{xs ys:List T}{x t:T}(hb:b=.append∨b=.popat∨b=.extend)(hv:env[i]?=some (some (.c j)))(h0:m[j]?=some (some c))(ha:ev call gv a env m=.ok (.t x) m1)(hm:m1[j]?=some (some (false,xs)))(hu:mutM b xs [x]=some (t,ys)):
  ev call gv (.mth b (.var i) (.cons a .nil)) env m=.ok (.t t) (m1.set j (some (false,ys))):=by
 rw[ev,Za hv,Zf]
 have ht:tyM b (.c j) m=true:=by
  rcases hb with rfl|rfl|rfl<;>· unfold tyM;dsimp only;rw[h0]
 rw[if_pos ht,evs,ha,Zf,evs,Zf,Zf]
 rcases hb with rfl|rfl|rfl<;>simp[doM,Zcd,Zcc,Zf,hm,hu]
theorem ZP{α:Type}(p:α->Bool)(F:α->T):∀l:List α,(l.flatMap λa=>if p a then[F a]else[])=(l.filter p).map F
 |[]=>rfl
 |a::l=>by
  rw[Uo,ZP p F l,Uw]
  cases p a<;>rfl
theorem Xe{c:Option (Bool×List T)}:(m++[c])[m.length]?=some c:=by
 rw[YS (Yj _),G7]
 rfl
theorem Zfd{c d:Option (Bool×List T)}:(m++[c]).set m.length d=m++[d]:=by
 rw[List.set_append_right _ _ (Yj _),G7]
 rfl
end
def il(ns:List Int):T:=.lst (ns.map .int)
def bnT(bn:List (List Nat)):T:=.tup (bn.map .str)
def wsT(ws:List Wt):T:=.lst (ws.map Wt.t)
section
variable{n:Nat}{m:Mem}{ws:List Wt}{bn:List (List Nat)}{k:List Nat}
theorem Zgq(sd:List Nat):(nums sd k ws).length<=ws.length:=by
 unfold nums
 rw[Yc]
 exact YJ (Wg _ _) (Wg _ _)
theorem ZmL(hl:ws.length<=30){e2:Option W}:ev (cf (n+1)) gv Zbp [some (.t (.str k)),some (.t (wsT ws)),e2] m=.ok (.t (.lst ((ws.filter (isK k)).map Wt.t))) m:=by
 rw[<-ZP (isK k) Wt.t]
 refine ZaG ws (Za rfl) rfl (λw _=>⟨[some (.t w.t),some (.t (.str k))],rfl,?_⟩) ?_
 ·have ht:ev (cf (n+1)) gv (.cmp .Eq (.call 5 (.cons (.ix (.var 0) (.con (.int 1))) .nil)) (.var 1)) [some (.t w.t),some (.t (.str k))] m=.ok (.t (.bl (isK k w))) m:=
   Zy ((Z9 (ZG (Za rfl) (Zb _) rfl)).trans Za6) (Za rfl) (ZcJ _ _)
  cases h:isK k w with
  |true=>rw[h]at ht;exact ZdV ht (Qw (Za rfl))
  |false=>rw[h]at ht;exact ZdW ht
 ·rw[ZP,Yc]
  exact YJ (Wg _ _) (YJ hl (by decide))
theorem ZnM(hl:ws.length<=30){sd:List Nat}:ev (cf (n+1)) gv Zbq [some (.t (.str sd)),some (.t (.lst ((ws.filter (isK k)).map Wt.t)))] m=.ok (.t (il (nums sd k ws))) m:=by
 have e:il (nums sd k ws)=.lst ((ws.filter (isK k)).flatMap λw=>if isS sd w then[T.int w.no]else[]):=by
  rw[ZP]
  unfold il nums
  rw[Y0]
  rfl
 rw[e]
 refine ZaG (ws.filter (isK k)) (Za rfl) rfl (λw _=>⟨[some (.t (.int w.no)),some (.t w.e.off),some (.t (.int w.e.left)),some (.t (.str sd))],rfl,?_⟩) ?_
 ·have ht:ev (cf (n+1)) gv (.cmp .Eq (.ix (.var 1) (.con (.int 0))) (.var 3)) [some (.t (.int w.no)),some (.t w.e.off),some (.t (.int w.e.left)),some (.t (.str sd))] m=.ok (.t (.bl (isS sd w))) m:=
   Zy (ZG (Za rfl) (Zb _) rfl) (Za rfl) (ZcJ _ _)
  cases h:isS sd w with
  |true=>rw[h]at ht;exact ZdV ht (Qw (Za rfl))
  |false=>rw[h]at ht;exact ZdW ht
 ·rw[ZP,Yc]
  exact YJ (Wg _ _) (YJ (Wg _ _) (YJ hl (by decide)))
theorem Zli(hl:ws.length<=30):cf (n+2) 18 [.t (.str k),.t (wsT ws)] m=.ok (.t (.lst [il (nums QF k ws),il (nums QG k ws),il (nums Q5 k ws)])) m:=by
 have key:ex (cf (n+1)) gv JG [some (.t (.str k)),some (.t (wsT ws)),none] m=.ok (.ret (.t (.lst [il (nums QF k ws),il (nums QG k ws),il (nums Q5 k ws)]))) m:=by
  unfold JG
  refine(Zm (ZmL hl)).trans ?_
  dsimp only[Yw,Yx]
  refine Zh ?_
  refine ZaG (emb:=T.str) (g:=λsd=>[il (nums sd k ws)]) [QF,QG,Q5] (x:=.tup [.str QF,.str QG,.str Q5]) (by rw[ev,Zmk];rfl) rfl (λsd _=>⟨[some (.t (.str sd)),some (.t (.lst ((ws.filter (isK k)).map Wt.t)))],rfl,?_⟩) (YJ (show(3:Nat)<=3 from Yj _) (by decide))
  exact Zad (Qw (ZnM hl))
 exact ZD (ZfM _ _ _) rfl key (Zn rfl)
def prT(p:Int×Int):T:=tupT [p.1,p.2]
theorem ZlT(hl:ws.length<=30){e0 e1 e2 e3 e6 e7:Option W}:ev (cf n) gv Zcm [e0,e1,e2,e3,some (.t (il (nums QF k ws))),some (.t (il (nums QG k ws))),e6,e7] m=.ok (.t (.lst ((prsK ws k).map prT))) m:=by
 have e:(prsK ws k).map prT=(nums QF k ws).flatMap λg=>(nums QG k ws).flatMap λt=>[tupT [g,t]]:=by
  unfold prsK
  rw[List.map_flatMap]
  refine congrArg (λf=>List.flatMap f (nums QF k ws)) (funext λg=>?_)
  rw[ZC,Y0]
  rfl
 have hz:((prsK ws k).map prT).length<=lim:=by
  rw[Yc]
  have h1:=Zgq (k:=k) (ws:=ws) QF
  have h2:=Zgq (k:=k) (ws:=ws) QG
  have:=ZbG (l:=nums QF k ws) (f:=λg=>(nums QG k ws).map λt=>(g,t)) (c:=30) λg _=>by rw[Yc];omega
  have h3:(prsK ws k).length<=(nums QF k ws).length*30:=this
  have h4:(nums QF k ws).length*30<=30*30:=Nat.mul_le_mul_right 30 (by omega)
  unfold lim
  omega
 rw[e]at hz ⊢
 refine ZaG (emb:=T.int) (nums QF k ws) (Za rfl) rfl (λg _=>⟨[some (.t (.int g)),none,some (.t (il (nums QG k ws)))],rfl,Zad ?_⟩) hz
 exact moreA (emb:=T.int) (nums QG k ws) (Za rfl) rfl (λt _=>⟨[some (.t (.int g)),some (.t (.int t)),some (.t (il (nums QG k ws)))],rfl,Zad (Qw (Zcf (Za rfl) (Za rfl)))⟩)
theorem ZgX(hl:ws.length<=30)(hn:(oneK bn ws k).length<=27000)(hk:hasK bn k=true){e0 e1 e2 e3 e4 e5:Option W}:ev (cf n) gv Zcn [e0,e1,e2,e3,e4,e5,some (.t (il (nums Q5 k ws))),some (.t (.lst ((prsK ws k).map prT)))] m=.ok (.t (.lst ((oneK bn ws k).map tupT))) m:=by
 have e:(oneK bn ws k).map tupT=(prsK ws k).flatMap λp=>(nums Q5 k ws).flatMap λb=>[tupT [p.1,p.2,b]]:=by
  unfold oneK
  rw[if_pos hk,List.map_flatMap]
  refine congrArg (λf=>List.flatMap f (prsK ws k)) (funext λg=>?_)
  rw[ZC,Y0]
  rfl
 have hz:((oneK bn ws k).map tupT).length<=lim:=by
  rw[Yc]
  unfold lim
  omega
 rw[e]at hz ⊢
 refine ZaG (emb:=prT) (prsK ws k) (Za rfl) rfl (λp _=>⟨[some (.t (.int p.1)),some (.t (.int p.2)),none,some (.t (il (nums Q5 k ws)))],rfl,Zad ?_⟩) hz
 exact moreA (emb:=T.int) (nums Q5 k ws) (Za rfl) rfl (λt _=>⟨[some (.t (.int p.1)),some (.t (.int p.2)),some (.t (.int t)),some (.t (il (nums Q5 k ws)))],rfl,Zad (Qw (ZfE (Za rfl) (Za rfl) (Za rfl)))⟩)
theorem Ziz(hl:ws.length<=30){e0 e2 e3 e4 e5 e6 e7:Option W}:ev (cf (n+1)) gv (.blt .sortset (.cons Zab .nil)) [e0,some (.t (wsT ws)),e2,e3,e4,e5,e6,e7] m=.ok (.t (.lst ((Zv (ws.map (·.e.kd))).map .str))) m:=by
 have h:ev (cf (n+1)) gv Zab [e0,some (.t (wsT ws)),e2,e3,e4,e5,e6,e7] m=.ok (.t (.lst (ws.map λw=>.str w.e.kd))) m:=by
  rw[<-ZC (λw:Wt=>T.str w.e.kd)]
  refine ZaG ws (Za rfl) rfl (λw _=>⟨[some (.t w.t)],rfl,Zad (Qw ((Z9 (ZG (Za rfl) (Zb _) rfl)).trans Za6))⟩) ?_
  rw[ZC,Yc]
  exact YJ hl (by decide)
 refine Qe h ?_
 show((strs? (ws.map λw=>T.str w.e.kd)).bind λxs=>if xs.length<64 then some (T.lst ((Zv xs).map .str))else none)=_
 rw[strs_map (λw:Wt=>w.e.kd)]
 exact if_pos (by rw[Yc];omega)
theorem ZiB(hl:ws.length<=30)(hn:(oneK bn ws k).length<=27000){xs:List (List Int)}(hx:xs.length<=27000){e4 e5 e6 e7:Option W}:
  ∃g4 g5 g6 g7,ex (cf (n+2)) gv Q9 [some (.t (bnT bn)),some (.t (wsT ws)),some (.c m.length),some (.t (.str k)),e4,e5,e6,e7] (m++[some (false,xs.map tupT)])=.ok (.next [some (.t (bnT bn)),some (.t (wsT ws)),some (.c m.length),some (.t (.str k)),g4,g5,g6,g7]) (m++[some (false,(xs++oneK bn ws k).map tupT)]):=by
 refine⟨some (.t (il (nums QF k ws))),some (.t (il (nums QG k ws))),some (.t (il (nums Q5 k ws))),some (.t (.lst ((prsK ws k).map prT))),?_⟩
 unfold Q9
 refine(ZoX (ts:=[il (nums QF k ws),il (nums QG k ws),il (nums Q5 k ws)]) (env':=[some (.t (bnT bn)),some (.t (wsT ws)),some (.c m.length),some (.t (.str k)),some (.t (il (nums QF k ws))),some (.t (il (nums QG k ws))),some (.t (il (nums Q5 k ws))),e7]) ((Zr (Za rfl) (Za rfl)).trans (Zli hl)) rfl).trans ?_
 refine(Zm (ZlT hl)).trans ?_
 dsimp only[Yw,Yx]
 have hin:ev (cf (n+2)) gv (.cmp .In (.var 3) (.var 0)) [some (.t (bnT bn)),some (.t (wsT ws)),some (.c m.length),some (.t (.str k)),some (.t (il (nums QF k ws))),some (.t (il (nums QG k ws))),some (.t (il (nums Q5 k ws))),some (.t (.lst ((prsK ws k).map prT)))] (m++[some (false,xs.map tupT)])=.ok (.t (.bl (hasK bn k))) (m++[some (false,xs.map tupT)]):=Zy (Za rfl) (Za rfl) (in_words k bn)
 have hu:mutM .extend (xs.map tupT) [.lst ((oneK bn ws k).map tupT)]=some (.non,(xs++oneK bn ws k).map tupT):=by
  rw[Uc]
  exact if_pos (by rw[Yc,Yc];unfold lim;omega)
 cases hk:hasK bn k with
 |true =>
  rw[hk]at hin
  refine(ZgD hin ((Zce (ZgE (.inr (.inr rfl)) rfl Xe (ZgX hl hn hk) Xe hu)).trans Z5)).trans ?_
  rw[Zfd]
  exact Z5
 |false =>
  rw[hk]at hin
  have e:(prsK ws k).map prT=(oneK bn ws k).map tupT:=by
   unfold oneK
   rw[hk,if_neg Yl,Y0]
   rfl
  rw[e]at hin ⊢
  refine(Zno hin ((Zce (ZgE (.inr (.inr rfl)) rfl Xe (Za rfl) Xe hu)).trans Z5)).trans ?_
  rw[Zfd]
  exact Z5
theorem Zd3(hl:ws.length<=30):∀(ks:List (List Nat)) (xs:List (List Int)) (e3 e4 e5 e6 e7:Option W),(xs++ks.flatMap (oneK bn ws)).length<=27000 ->
  ∃g3 g4 g5 g6 g7,Z2 (ex (cf (n+2)) gv Q9) (.nm 3) (ks.map .str) [some (.t (bnT bn)),some (.t (wsT ws)),some (.c m.length),e3,e4,e5,e6,e7] (m++[some (false,xs.map tupT)])=.ok (.next [some (.t (bnT bn)),some (.t (wsT ws)),some (.c m.length),g3,g4,g5,g6,g7]) (m++[some (false,(xs++ks.flatMap (oneK bn ws)).map tupT)])
 |[],xs,e3,e4,e5,e6,e7,_=>⟨e3,e4,e5,e6,e7,by rw[List.flatMap_nil,Ua];rfl⟩
 |k::ks,xs,e3,e4,e5,e6,e7,hb=>by
  rw[Uo,<-Wm]at hb ⊢
  have hb1:(xs++oneK bn ws k).length<=27000:=by
   rw[Yr]at hb
   omega
  rw[Yr]at hb1
  obtain⟨a4,a5,a6,a7,h1⟩:=ZiB (n:=n) (m:=m) (bn:=bn) (k:=k) (xs:=xs) (e4:=e4) (e5:=e5) (e6:=e6) (e7:=e7) hl (by omega) (by omega)
  obtain⟨g3,g4,g5,g6,g7,h2⟩:=Zd3 hl ks (xs++oneK bn ws k) (some (.t (.str k))) a4 a5 a6 a7 hb
  refine⟨g3,g4,g5,g6,g7,?_⟩
  rw[Yq,Z2]
  show(ex (cf (n+2)) gv Q9 [some (.t (bnT bn)),some (.t (wsT ws)),some (.c m.length),some (.t (.str k)),e4,e5,e6,e7] _).bind _=_
  rw[h1]
  exact h2
theorem ZnN(hl:ws.length<=10)(hn:(ws.map (·.no)).Nodup):cf (n+3) 19 [.t (bnT bn),.t (wsT ws)] m=.ok (.t (.lst ((sortI (Q7 bn ws)).map tupT))) m:=by
 have hlen:=Zd5 (bn:=bn) hl
 have hlen2:(Q7 bn ws).length<=27000:=by omega
 obtain⟨g3,g4,g5,g6,g7,h⟩:=Zd3 (n:=n) (m:=m) (bn:=bn) (ws:=ws) (by omega) (Zv (ws.map λw:Wt=>w.e.kd)) [] none none none none none hlen2
 have hs:ZcM ((Q7 bn ws).map tupT)=some (.lst ((sortI (Q7 bn ws)).map tupT)):=ZnI (Zgd hn) hlen λk hk z=>by
  have:=ZaA (Zd4.mp hk)
  rw[z]at this
  rcases this with h|h<;>cases h
 have key:ex (cf (n+2)) gv Xj [some (.t (bnT bn)),some (.t (wsT ws)),none,none,none,none,none,none] m=.ok (.ret (.t (.lst ((sortI (Q7 bn ws)).map tupT)))) (m++[some (false,(Q7 bn ws).map tupT)]):=by
  unfold Xj
  refine(Zm (w:=.c m.length) (m1:=m++[some (false,[])]) (by rw[ev,evs];rfl)).trans ?_
  dsimp only[Yw,Yx]
  refine(Q4 (Ziz (by omega)) rfl h).trans ?_
  refine Zh (ZgG (Zd (Za rfl) Zq) (ts:=[.lst ((Q7 bn ws).map tupT)]) ?_ hs)
  show(view (.c m.length) (m++[some (false,(Q7 bn ws).map tupT)])).bind _=_
  unfold view
  dsimp only
  rw[Xe]
  rfl
 refine ZD (ZhT _ _ _) rfl key ?_
 unfold fin
 simp
end
def mm(m:Mem)(xs:List T):Mem:=m++[some (false,xs)]
theorem ZjA{m:Mem}{xs:List T}:(mm m xs).length=m.length+1:=by simp[mm]
theorem ZjB{m:Mem}{i:Nat}{s xs:List T}(hi:i<m.length):(put (mm m xs) i s)[m.length]?=some (some (false,xs)):=by
 unfold put mm
 rw[Yv (by omega),YS (Yj _),G7]
 rfl
theorem mm_set{m:Mem}{i:Nat}{s xs ys:List T}(hi:i<m.length):(put (mm m xs) i s).set m.length (some (false,ys))=put (mm m ys) i s:=by
 unfold put mm
 rw[YbF _ _ (by omega),List.set_append_right _ _ (Yj _),G7]
 rfl
theorem ZoF{m:Mem}{i:Nat}{s xs:List T}(hi:i<m.length):(put (mm m xs) i s).take m.length=put m i s:=by
 unfold put mm
 rw[Yae _ _ hi,List.take_left' (by rw[WK])]
theorem mm_nil{m:Mem}{i:Nat}{s:List T}(hi:i<m.length):put m i s++[some (false,[])]=put (mm m []) i s:=by
 unfold put mm
 rw[Yae _ _ hi]
theorem ev_tr{call:Nat->List W->Mem->Res W}{env:Env}{m m1:Mem}{a:E}{x:T}(h:ev call gv a env m=.ok (.t x) m1):ev call gv (.tr a) env m=.ok (.t x) m1:=by rw[ev,h];rfl
theorem ZgH:∀(n:Nat) (t:T),Zg n t=true->eqT t t=true:=by
 intro n
 induction n with
 |zero =>
  intro t h
  cases t with
  |non=>rfl
  |bl b=>simp[eqT]
  |int b=>simp[eqT]
  |str b=>simp[eqT]
  |tup ts=>simp[Zg]at h
  |lst ts=>simp[Zg]at h
  |dct ks ts=>simp[Zg]at h
  |scr ns=>simp[Zg]at h
 |succ n ih =>
  have hl:∀ts:List T,Zk n ts=true->eqTs ts ts=true:=by
   intro ts
   induction ts with
   |nil=>intro _;rfl
   |cons t ts iht =>
    intro h
    rw[Zk,Yo]at h
    rw[eqTs,ih t h.1,iht h.2]
    rfl
  intro t h
  cases t with
  |tup ts=>rw[Zg]at h;rw[eqT];exact hl ts h
  |lst ts=>rw[Zg]at h;rw[eqT];exact hl ts h
  |non=>rfl
  |bl b=>simp[eqT]
  |int b=>simp[eqT]
  |str b=>simp[eqT]
  |dct ks ts=>simp[Zg]at h
  |scr ns=>simp[Zg]at h
theorem Zjv{t:T}(h:Zg 60 t=true):cmpT .NotEq t t=some false:=by
 show(if(Zdf t t || (Zg 60 t&&Zg 60 t))=true then some (!eqT t t)else none)=_
 rw[h,YbG,Ybi,if_pos rfl,ZgH 60 t h]
 rfl
theorem ZkN{nm kd:List Nat}{mk:List (List Nat)}{sz:List (List Nat×Int)}(h:ZmM nm kd mk sz):Zg 57 (QL nm kd mk sz)=true:=by
 obtain⟨_,_,h1,h2,h3,h4⟩:=h
 have e1:Zk 55 (mk.map T.str)=true:=Qz.mpr λt ht=>by
  obtain⟨w,hw,rfl⟩:=Yz.mp ht
  exact h1 w hw
 have e2:Zk 55 (sz.map J9)=true:=Qz.mpr λt ht=>by
  obtain⟨p,hp,rfl⟩:=Yz.mp ht
  have:=h2 p hp
  unfold okS at this
  simp[J9,Zg,Zk,this]
 unfold okS at h3 h4
 simp[QL,Zg,Zk,e1,e2,h3,h4]
theorem Zo0{xs:List T}(h:Zk 59 xs=true):cmpT .Eq (.lst xs) (.lst [])=some xs.isEmpty/\cmpT .NotEq (.lst xs) (.lst [])=some (!xs.isEmpty):=by
 have h1:Zg 60 (.lst xs)=true:=by rw[Zg];exact h
 have h2:Zg 60 (.lst [])=true:=by decide
 have h3:eqT (.lst xs) (.lst [])=xs.isEmpty:=by cases xs<;>simp[eqT,eqTs]
 constructor
 ·show(if(Zdf (.lst xs) (.lst []) || (Zg 60 (.lst xs)&&Zg 60 (.lst [])))=true then some (eqT (.lst xs) (.lst []))else none)=_
  rw[h1,h2,YbG,Ybi,if_pos rfl,h3]
 ·show(if(Zdf (.lst xs) (.lst []) || (Zg 60 (.lst xs)&&Zg 60 (.lst [])))=true then some (!eqT (.lst xs) (.lst []))else none)=_
  rw[h1,h2,YbG,Ybi,if_pos rfl,h3]
theorem ne_int(v:Int):cmpT .NotEq (.int v) (.int v)=some false:=by rw[ZmG];simp
theorem Zjs:okS QF=true:=by decide +kernel
theorem Zjq:okS QG=true:=by decide +kernel
theorem Zoz:okS Q5=true:=by decide +kernel
def ryeS:List Nat:=[114,121,101]
def oatS:List Nat:=[111,97,116]
def oS:List Nat:=[111]
structure Wok (w:Wt):Prop where
 ent:EntOk w.e
 kd:w.e.kd=ryeS∨w.e.kd=oatS∨w.e.kd=oS
theorem Znv{w:Wt}(h:EntOk w.e):Zg 59 w.t=true:=by
 have h1:=ZkN h.card
 have h2:=h.wish.2 52
 have h3:=h.sd
 unfold okS at h3
 have h2:Zg 57 w.e.w=true:=h2
 simp[Wt.t,Ent.off,offT,Zg,Zk,h1,h2,h3]
theorem Znw{ws:List Wt}(h:∀w∈ws,EntOk w.e):Zk 59 (ws.map Wt.t)=true:=by
 refine Qz.mpr λt ht=>?_
 obtain⟨e,he,rfl⟩:=Yz.mp ht
 exact Znv (h e he)
theorem Zkm{call:Nat->List W->Mem->Res W}{gv:List T}{env:Env}{m m1 m2:Mem}{a b:E}{w:W}{op:Yca}{x y:T}{k:Bool}(h1:ev call gv a env m=.ok w m1)(h2:ev call gv b env m1=.ok (.t y) m2)(hv:view w m2=some x)(h3:cmpT op x y=some k):ev call gv (.cmp op a b) env m=.ok (.t (.bl k)) m2:=by
 rw[ev,h1,Zf,h2,Zf]
 show pur (((view w m2).bind λx=>(some y).bind λy=>cmpT op x y).map .bl) m2=_
 rw[hv]
 show pur ((cmpT op x y).map .bl) m2=_
 rw[h3]
 rfl
theorem ZmN{m:Mem}{j:Nat}{xs:List T}(h:m[j]?=some (some (false,xs))):view (.c j) m=some (.lst xs):=by
 unfold view
 dsimp only
 rw[h]
theorem Zph{α:Type}(xs:List α)(x:α):atT (xs++[x]) (-1)=some x:=by
 have e:ixOf (xs++[x]).length (-1)=some xs.length:=by
  unfold ixOf
  rw[Yr,Y5]
  split
  ·rename_i h;omega
  ·split
   ·exact congrArg some (by omega)
   ·omega
 unfold atT
 rw[e]
 show(xs++[x])[xs.length]?=_
 rw[YS (Yj _),G7]
 rfl
section
variable{n:Nat}{m:Mem}{i:Nat}{s:List T}
theorem ZmI(hi:i<m.length)(hs:IsSt s):∃(bn:List (List Nat)) (s':List T),cf (n+2) 32 [.c i] (put m i s)=.ok (.t (bnT bn)) (put m i s')/\IsSt s':=by
 obtain⟨r,s1,g1,hs1,r0,r1⟩:=Zo (n:=n) (many:=5) hi hs (by decide) (by decide)
 obtain⟨z,hz,hzm⟩:=QD (xs:=[bnT [],bnT [],bnT [ryeS],bnT [oS,ryeS],bnT [oatS,ryeS,oS,[119,104,101,97,116]]]) r0 (by simpa using r1)
 have hz':∃bn,z=bnT bn:=by
  simp only[Yh,YC,or_false]at hzm
  rcases hzm with rfl|rfl|rfl|rfl|rfl<;>exact⟨_,rfl⟩
 obtain⟨bn,rfl⟩:=hz'
 refine⟨bn,s1,?_,hs1⟩
 have key:ex (cf (n+1)) gv ZaS [some (.c i)] (put m i s)=.ok (.ret (.t (bnT bn))) (put m i s1):=by
  unfold ZaS
  exact Zh (ZG (QC (Zd (Xf Zq rfl ZW) (Zd (Xf Zq rfl ZW) (Zd (Xf (Zd (Zb _) Zq) rfl ZW) (Zd (Xf (Zd (Zb _) (Zd (Zb _) Zq)) rfl ZW) (Zd (Xf (Zd (Zb _) (Zd (Zb _) (Zd (Zb _) (Zd (Zb _) Zq)))) rfl ZW) Zq))))) rfl ZW) ((Zw (Zd (Za rfl) (Zd (Zb _) Zq))).trans g1) hz)
 exact ZD (ZkK _ _ _) rfl key (Zn (cell:=false) (by rw[Z1,Z1]))
theorem Zic{ws:List Wt}{most turn nb few k:Int}{f7 f8 f9 f10 f11:Option W}(hi:i<m.length)(hs:IsSt s)(hw:∀w∈ws,Wok w)(hl:ws.length<100)(hf:0<=few/\few<3):
  ∃(w:Wt) (s':List T) (nb':Int) (g7 g8 g9 g10 g11:Option W),ex (cf (n+8)) gv QS [some (.c i),some (.t (.int most)),some (.c m.length),some (.t (.int turn)),some (.t (.int nb)),some (.t (.int few)),some (.t (.int k)),f7,f8,f9,f10,f11] (put (mm m (ws.map Wt.t)) i s) =
   .ok (.next [some (.c i),some (.t (.int most)),some (.c m.length),some (.t (.int turn)),some (.t (.int nb')),some (.t (.int few)),some (.t (.int k)),g7,g8,g9,g10,g11]) (put (mm m ((ws++[w]).map Wt.t)) i s')/\IsSt s'/\Wok w/\w.no=nb/\nb<nb':=by
 have hi':i<(mm m (ws.map Wt.t)).length:=by rw[ZjA];omega
 obtain⟨sd,s1,g1,hs1,hsd⟩:=Zi4 (n:=n+6) (xs:=[T.str QF,.str QG,.str QF,.str QG,.str Q5]) hi' hs (by decide) (by decide)
 have hs':∃sd':List Nat,sd=.str sd'/\okS sd'=true:=by
  simp only[Yh,YC,or_false]at hsd
  rcases hsd with rfl|rfl|rfl|rfl|rfl
  ·exact⟨_,rfl,Zjs⟩
  ·exact⟨_,rfl,Zjq⟩
  ·exact⟨_,rfl,Zjs⟩
  ·exact⟨_,rfl,Zjq⟩
  ·exact⟨_,rfl,Zoz⟩
 obtain⟨sd,rfl,osd⟩:=hs'
 obtain⟨d2,s2,g2,hs2,a0,a1⟩:=Zo (n:=n+7) (many:=1+few) hi' hs1 (by omega) (by omega)
 obtain⟨kd,hkd,hkm⟩:=QD (xs:=[T.str ryeS,.str oatS,.str oS]) (i:=d2) a0 (by simp;omega)
 have hk':∃kd':List Nat,kd=.str kd'/\okS kd'=true/\(kd'=ryeS∨kd'=oatS∨kd'=oS):=by
  simp only[Yh,YC,or_false]at hkm
  rcases hkm with rfl|rfl|rfl
  ·exact⟨_,rfl,by decide +kernel,.inl rfl⟩
  ·exact⟨_,rfl,by decide +kernel,.inr (.inl rfl)⟩
  ·exact⟨_,rfl,by decide +kernel,.inr (.inr rfl)⟩
 obtain⟨kd,rfl,okd,hk3⟩:=hk'
 obtain⟨d3,s3,g3,hs3,b0,b1⟩:=Zo (n:=n+7) (many:=16) hi' hs2 (by decide) (by decide)
 have hmu:=Zh0 (i:=k) (j:=b2i (decide (0<d3))) (mulR (by cases decide (0<d3)<;>decide) (by cases decide (0<d3)<;>decide))
 obtain⟨nm,g4,onm⟩:=Zjw (n:=n+7) (m:=put (mm m (ws.map Wt.t)) i s3) (k:=turn+k*b2i (decide (0<d3)))
 obtain⟨till,s4,g5,hs4,t0,t1⟩:=Zo (n:=n+7) (many:=9) hi' hs3 (by decide) (by decide)
 obtain⟨mk,sz,w,many,least,wt,s5,g6,hs5,hc,hwi,⟨m1,m2⟩,⟨l1,l2⟩,_⟩:=ZlW (n:=n+1) (sd:=sd) (till:=till) hi' hs4 onm okd
 -- the offer,the last one's or its own
 have key:∃(e:Ent) (s6:List T),EntOk e/\(e.kd=ryeS∨e.kd=oatS∨e.kd=oS)/\IsSt s6 /\
   ∀K:S,ex (cf (n+8)) gv (.ife (.and (.cmp .NotEq (.var 2) (.lst .nil)) (.cmp .Eq (.call 24 (.cons (.var 0) (.cons (.con (.int 12)) .nil))) (.con (.int 0)))) (.asg 10 (.ix (.ix (.var 2) (.con (.int (-1)))) (.con (.int 1))) .done) .done K) [some (.c i),some (.t (.int most)),some (.c m.length),some (.t (.int turn)),some (.t (.int nb)),some (.t (.int few)),some (.t (.int k)),some (.t (.str sd)),some (.t (.str kd)),some (.t (.str nm)),some (.t (offT sd nm kd mk sz w many least wt till)),f11] (put (mm m (ws.map Wt.t)) i s5) =
    ex (cf (n+8)) gv K [some (.c i),some (.t (.int most)),some (.c m.length),some (.t (.int turn)),some (.t (.int nb)),some (.t (.int few)),some (.t (.int k)),some (.t (.str sd)),some (.t (.str kd)),some (.t (.str nm)),some (.t e.off),f11] (put (mm m (ws.map Wt.t)) i s6):=by
  have hq:ev (cf (n+8)) gv (.cmp .NotEq (.var 2) (.lst .nil)) [some (.c i),some (.t (.int most)),some (.c m.length),some (.t (.int turn)),some (.t (.int nb)),some (.t (.int few)),some (.t (.int k)),some (.t (.str sd)),some (.t (.str kd)),some (.t (.str nm)),some (.t (offT sd nm kd mk sz w many least wt till)),f11] (put (mm m (ws.map Wt.t)) i s5)=.ok (.t (.bl (!(ws.map Wt.t).isEmpty))) (put (mm m (ws.map Wt.t)) i s5):=
   Zkm (Za rfl) (QC Zq rfl ZW) (ZmN (ZjB hi)) (Zo0 (Znw λw h=>(hw w h).ent)).2
  have own:EntOk ⟨sd,nm,kd,mk,sz,w,many,least,wt,till,0⟩:=⟨hc,hwi,osd,m1,m2⟩
  rcases(show ws=[]∨∃a b,ws=a++[b]from if h:ws=[]then .inl h else .inr ⟨_,_,(List.dropLast_concat_getLast h).symm⟩)with rfl|⟨ws0,v,rfl⟩
  ·refine⟨⟨sd,nm,kd,mk,sz,w,many,least,wt,till,0⟩,s5,own,hk3,hs5,λK=>?_⟩
   exact ZS (ZfG hq)
  ·have hne:(!((ws0++[v]).map Wt.t).isEmpty)=true:=by rw[Uc];cases ws0<;>rfl
   rw[hne]at hq
   obtain⟨d6,s6,g7,hs6,_,_⟩:=Zo (n:=n+7) (many:=12) hi' hs5 (by decide) (by decide)
   have hq2:ev (cf (n+8)) gv (.cmp .Eq (.call 24 (.cons (.var 0) (.cons (.con (.int 12)) .nil))) (.con (.int 0))) [some (.c i),some (.t (.int most)),some (.c m.length),some (.t (.int turn)),some (.t (.int nb)),some (.t (.int few)),some (.t (.int k)),some (.t (.str sd)),some (.t (.str kd)),some (.t (.str nm)),some (.t (offT sd nm kd mk sz w many least wt till)),f11] (put (mm m ((ws0++[v]).map Wt.t)) i s5)=.ok (.t (.bl (d6==0))) (put (mm m ((ws0++[v]).map Wt.t)) i s6):=Zy ((Zr (Za rfl) (Zb _)).trans g7) (Zb _) (ZmH _ _)
   cases hd:(d6==0)with
   |false =>
    rw[hd]at hq2
    exact⟨⟨sd,nm,kd,mk,sz,w,many,least,wt,till,0⟩,s6,own,hk3,hs6,λK=>ZS ((Zch hq).trans hq2)⟩
   |true =>
    rw[hd]at hq2
    have hv:=hw v (Ym _ (Ud.mpr rfl))
    refine⟨v.e,s6,hv.ent,hv.kd,hs6,λK=>ZgD ((Zch hq).trans hq2) ((Zm (ZG (Zcg rfl (ZjB hi) ?_) (Zb _) (show ixT v.t (.int 1)=_ from rfl))).trans Z5)⟩
    rw[Uc]
    exact Zph _ _
 obtain⟨e,s6,he,hek,hs6,hK⟩:=key
 obtain⟨c1,s7,g8,hs7,c10,c11⟩:=Zo (n:=n+7) (many:=e.many) hi' hs6 (by have:=he.many;omega) (by have:=he.many;omega)
 obtain⟨c2,s8,g9,hs8,c20,c21⟩:=Zo (n:=n+7) (many:=2) hi' hs7 (by decide) (by decide)
 obtain⟨z,hz,hzm⟩:=QD (xs:=[T.int e.many,.int (1+c1)]) c20 (by simpa using c21)
 have hz':∃v:Int,z=.int v:=by
  simp only[Yh,YC,or_false]at hzm
  rcases hzm with rfl|rfl<;>exact⟨_,rfl⟩
 obtain⟨left,rfl⟩:=hz'
 have hi2:i<(mm m ((ws++([⟨nb,{ e with left:=left }⟩]:List Wt)).map Wt.t)).length:=by rw[ZjA];omega
 obtain⟨d9,s9,g10,hs9,d90,d91⟩:=Zo (n:=n+7) (many:=4) hi2 hs8 (by decide) (by decide)
 refine⟨⟨nb,{ e with left:=left }⟩,s9,nb+1+d9,some (.t (.str sd)),some (.t (.str kd)),some (.t (.str nm)),some (.t e.off),some (.t (.int left)),?_,hs9,⟨⟨he.card,he.wish,he.sd,he.many⟩,hek⟩,rfl,by omega⟩
 unfold QS
 refine(Zm (w:=.t (.str sd)) (m1:=put (mm m (ws.map Wt.t)) i s1) ((Zw (Zd (Za rfl) (Zd (QC (Zd (Zb _) (Zd (Zb _) (Zd (Zb _) (Zd (Zb _) (Zd (Zb _) Zq))))) rfl ZW) Zq))).trans g1)).trans ?_
 dsimp only[Yw,Yx]
 refine(Zm (w:=.t (.str kd)) (m1:=put (mm m (ws.map Wt.t)) i s2) (ZG (QC (Zd (Zb _) (Zd (Zb _) (Zd (Zb _) Zq))) rfl ZW) ((Zw (Zd (Za rfl) (Zd (ZM (Zb _) (Za rfl) rfl) Zq))).trans g2) hkd)).trans ?_
 dsimp only[Yw,Yx]
 refine(Zm (w:=.t (.str nm)) (m1:=put (mm m (ws.map Wt.t)) i s3) ((Zw (Zd (ZM (Za rfl) (ZM (Za rfl) (ZgG (Zd (Zy ((Zw (Zd (Za rfl) (Zd (Zb _) Zq))).trans g3) (Zb _) rfl) Zq) rfl rfl) hmu) rfl) Zq)).trans g4)).trans ?_
 dsimp only[Yw,Yx]
 refine(Zm (w:=.t (offT sd nm kd mk sz w many least wt till)) (m1:=put (mm m (ws.map Wt.t)) i s5) ((Zw (Zd (Za rfl) (Zd (Za rfl) (Zd (Za rfl) (Zd (Za rfl) (Zd ((Zw (Zd (Za rfl) (Zd (Zb _) Zq))).trans g5) Zq)))))).trans g6)).trans ?_
 dsimp only[Yw,Yx]
 refine(hK _).trans ?_
 refine(Zm (w:=.t (.int left)) (m1:=put (mm m (ws.map Wt.t)) i s8) (ZG (QC (Zd (ZG (Za rfl) (Zb _) rfl) (Zd (ZM (Zb _) ((Zw (Zd (Za rfl) (Zd (ZG (Za rfl) (Zb _) rfl) Zq))).trans g8) rfl) Zq)) rfl ZW) ((Zw (Zd (Za rfl) (Zd (Zb _) Zq))).trans g9) hz)).trans ?_
 dsimp only[Yw,Yx]
 have hu:mutM .append (ws.map Wt.t) [Wt.t ⟨nb,{ e with left:=left }⟩]=some (.non,(ws++([⟨nb,{ e with left:=left }⟩]:List Wt)).map Wt.t):=by
  rw[Uc]
  exact if_pos (by rw[Yc];unfold lim;omega)
 refine(Zce (ZgE (.inl rfl) rfl (ZjB hi) (ZfE (Za rfl) (Za rfl) (Za rfl)) (ZjB hi) hu)).trans ?_
 rw[mm_set hi]
 exact(Zm (w:=.t (.int (nb+1+d9))) (m1:=put (mm m ((ws++([⟨nb,{ e with left:=left }⟩]:List Wt)).map Wt.t)) i s9) (ZM (ZM (Za rfl) (Zb _) rfl) ((Zw (Zd (Za rfl) (Zd (Zb _) Zq))).trans g10) rfl)).trans Z5
theorem ZdU{most turn few:Int}(hi:i<m.length)(hf:0<=few/\few<3):∀(ks:List Int) (ws:List Wt) (s:List T) (nb:Int) (f6 f7 f8 f9 f10 f11:Option W),IsSt s->ws.length+ks.length<100->(∀w∈ws,Wok w)->(ws.map (·.no)).Nodup->(∀w∈ws,w.no<nb) ->
  ∃(ws':List Wt) (s':List T) (env':Env),Z2 (ex (cf (n+8)) gv QS) (.nm 6) (ks.map .int) [some (.c i),some (.t (.int most)),some (.c m.length),some (.t (.int turn)),some (.t (.int nb)),some (.t (.int few)),f6,f7,f8,f9,f10,f11] (put (mm m (ws.map Wt.t)) i s)=.ok (.next env') (put (mm m (ws'.map Wt.t)) i s')/\IsSt s'/\(∀w∈ws',Wok w)/\(ws'.map (·.no)).Nodup/\ws'.length=ws.length+ks.length/\env'[2]?=some (some (.c m.length))
 |[],ws,s,nb,f6,f7,f8,f9,f10,f11,hs,_,ho,hn,_=>⟨ws,s,_,rfl,hs,ho,hn,rfl,rfl⟩
 |k::ks,ws,s,nb,f6,f7,f8,f9,f10,f11,hs,hl,ho,hn,hb=>by
  rw[YB]at hl
  obtain⟨w,s1,nb',g7,g8,g9,g10,g11,h1,hs1,hw,hno,hlt⟩:=Zic (n:=n) (most:=most) (turn:=turn) (nb:=nb) (few:=few) (k:=k) (f7:=f7) (f8:=f8) (f9:=f9) (f10:=f10) (f11:=f11) hi hs ho (by omega) hf
  have hm:∀v∈ws++[w],v∈ws∨v=w:=λv hv=>by
   rcases Gs.mp hv with h|h
   ·exact .inl h
   ·exact .inr (Ud.mp h)
  obtain⟨ws',s',env',h2,hs',ho',hn',hlen,hv⟩:=ZdU hi hf ks (ws++[w]) s1 nb' (some (.t (.int k))) g7 g8 g9 g10 g11 hs1 (by rw[Yr,Y5];omega)
   (λv hv=>(hm v hv).elim (λh=>ho v h) λh=>h▸hw)
   (by
    rw[Uc,Gw]
    refine⟨hn,by simp,λa ha b hb' e=>?_⟩
    obtain⟨v,hv,rfl⟩:=Yz.mp ha
    have hb':b=w.no:=by simpa using hb'
    have:=hb v hv
    omega)
   (λv hv=>by
    rcases hm v hv with h|rfl
    ·have:=hb v h
     omega
    ·omega)
  refine⟨ws',s',env',?_,hs',ho',hn',by rw[hlen,Yr,Y5,YB];omega,hv⟩
  rw[Yq,Z2]
  show(ex (cf (n+8)) gv QS [some (.c i),some (.t (.int most)),some (.c m.length),some (.t (.int turn)),some (.t (.int nb)),some (.t (.int few)),some (.t (.int k)),f7,f8,f9,f10,f11] (put (mm m (ws.map Wt.t)) i s)).bind _=_
  rw[h1]
  exact h2
theorem ZgU{most:Int}(hi:i<m.length)(hs:IsSt s)(hmo:0<=most/\most<=10):∃(ws:List Wt) (s':List T),cf (n+9) 33 [.c i,.t (.int most)] (put m i s)=.ok (.t (wsT ws)) (put m i s')/\IsSt s'/\(∀w∈ws,Wok w)/\(ws.map (·.no)).Nodup/\ws.length<=10:=by
 have hi':i<(mm m []).length:=by rw[ZjA];omega
 obtain⟨turn,s1,g1,hs1,_,_⟩:=Zo (n:=n+7) (many:=12) hi' hs (by decide) (by decide)
 obtain⟨nb,s2,g2,hs2,_,_⟩:=Zo (n:=n+7) (many:=5) hi' hs1 (by decide) (by decide)
 obtain⟨few,s3,g3,hs3,f0,f1⟩:=Zo (n:=n+7) (many:=3) hi' hs2 (by decide) (by decide)
 obtain⟨r,s4,g4,hs4,r0,r1⟩:=Zo (n:=n+7) (many:=most+1) hi' hs3 (by omega) (by omega)
 have hrng:rangeT 0 r.toNat=((YF r.toNat).map λk:Nat=>(k:Int)).map T.int:=by
  unfold rangeT
  rw[Y0]
  refine congrArg (λf=>List.map f (YF r.toNat)) (funext λk=>?_)
  show T.int (0+(k:Int))=T.int (k:Int)
  rw[Int.zero_add]
 obtain⟨ws,s5,env',h5,hs5,ho,hn,hlen,hv⟩:=ZdU (n:=n) (most:=most) (turn:=turn) (few:=few) hi ⟨f0,f1⟩ ((YF r.toNat).map λk:Nat=>(k:Int)) [] s4 nb none none none none none none hs4 (by simp;omega) (λ_ h=>by cases h) Vg (λ_ h=>by cases h)
 refine⟨ws,s5,?_,hs5,ho,hn,by rw[hlen];simp;omega⟩
 have key:ex (cf (n+8)) gv JK [some (.c i),some (.t (.int most)),none,none,none,none,none,none,none,none,none,none] (put m i s)=.ok (.ret (.c m.length)) (put (mm m (ws.map Wt.t)) i s5):=by
  unfold JK
  refine(Zm (w:=.c m.length) (m1:=put (mm m []) i s) ?_).trans ?_
  ·rw[<-mm_nil hi]
   rw[ev,evs]
   show Res.ok (W.c (put m i s).length) _=_
   rw[Z1]
  dsimp only[Yw,Yx]
  refine(Zm ((Zr (Za rfl) (Zb _)).trans g1)).trans ?_
  dsimp only[Yw,Yx]
  refine(Zm ((Zr (Za rfl) (Zb _)).trans g2)).trans ?_
  dsimp only[Yw,Yx]
  refine(Zm ((Zr (Za rfl) (Zb _)).trans g3)).trans ?_
  dsimp only[Yw,Yx]
  have hit:ev (cf (n+8)) gv (.blt .range1 (.cons (.call 24 (.cons (.var 0) (.cons (.bin .Add (.var 1) (.con (.int 1))) .nil))) .nil)) [some (.c i),some (.t (.int most)),some (.c m.length),some (.t (.int turn)),some (.t (.int nb)),some (.t (.int few)),none,none,none,none,none,none] (put (mm m []) i s3)=.ok (.t (.lst (((YF r.toNat).map λk:Nat=>(k:Int)).map T.int))) (put (mm m []) i s4):=by
   rw[<-hrng]
   exact Qe ((Zr (Za rfl) (ZM (Za rfl) (Zb _) (ZfZ _ _))).trans g4) (Zl9 ⟨by omega,by omega⟩)
  refine(Q4 hit rfl h5).trans ?_
  exact Zh (Za hv)
 refine ZD (ZfQ _ _ _) rfl key ?_
 show fin (put m i s).length false (.ret (.c m.length)) _=_
 rw[Z1]
 unfold fin
 dsimp only
 rw[if_neg (Y9 _),ZjB hi]
 dsimp only
 rw[if_neg Yl,ZoF hi]
 rfl
end
def four:List (List Nat):=[[104,101,97,118,121],[103,114,101,97,116],[115,109,97,108,108],[115,111,111,110]]
theorem ZeN{α β:Type}(f:α->β):∀(A:List α) (k:Nat),(A.map f).eraseIdx k=(A.eraseIdx k).map f
 |[],_=>rfl
 |_::_,0=>rfl
 |a::A,k+1=>by
  show f a::(A.map f).eraseIdx k=f a::(A.eraseIdx k).map f
  rw[ZeN f A k]
theorem ZbV{α:Type}:∀{A:List α}{k:Nat}{w:α},A[k]?=some w->A.Perm (w::A.eraseIdx k)
 |[],_,_,h=>by simp at h
 |a::A,0,w,h=>by
  have:a=w:=by simpa using h
  subst this
  exact UT _
 |a::A,k+1,w,h=>by
  have h':A[k]?=some w:=by simpa using h
  exact((ZbV h').cons a).trans (YaF w a _)
structure MI (m:Mem) (i c1 c2:Nat) (A F:List (List Nat)) (M:Mem):Prop where
 tk:M.take m.length=m
 i:i<m.length
 l1:m.length<=c1
 l2:m.length<=c2
 ne:c1≠c2
 g1:M[c1]?=some (some (false,A.map .str))
 g2:M[c2]?=some (some (false,F.map .str))
theorem MI.at1{m:Mem}{i c1 c2:Nat}{A F:List (List Nat)}{M:Mem}(h:MI m i c1 c2 A F M)(s:List T):(put M i s)[c1]?=some (some (false,A.map .str)):=by
 unfold put
 rw[Yv (by have:=h.i;have:=h.l1;omega)]
 exact h.g1
theorem MI.at2{m:Mem}{i c1 c2:Nat}{A F:List (List Nat)}{M:Mem}(h:MI m i c1 c2 A F M)(s:List T):(put M i s)[c2]?=some (some (false,F.map .str)):=by
 unfold put
 rw[Yv (by have:=h.i;have:=h.l2;omega)]
 exact h.g2
theorem MI.hi{m:Mem}{i c1 c2:Nat}{A F:List (List Nat)}{M:Mem}(h:MI m i c1 c2 A F M):i<M.length:=by
 have h1:=h.i
 have h2:=congrArg VN h.tk
 rw[WP]at h2
 omega
theorem MI.fin{m:Mem}{i c1 c2:Nat}{A F:List (List Nat)}{M:Mem}(h:MI m i c1 c2 A F M)(s:List T):(put M i s).take m.length=put m i s:=by
 unfold put
 rw[List.take_set,h.tk]
theorem pop_ok{n:Nat}{m:Mem}{i c1 c2 f:Nat}{A F:List (List Nat)}{M:Mem}{s:List T}{env:Env}(h:MI m i c1 c2 A F M)(hs:IsSt s)(hA:0<A.length)(hA':A.length<100)(hF:F.length<100)(e0:env[0]?=some (some (.c i)))(e1:env[1]?=some (some (.c c1)))(ef:env[f]?=some (some (.c c2))):
  ∃(w:List Nat) (k:Nat) (s':List T) (M':Mem),ev (cf (n+1)) gv (.mth .append (.var f) (.cons (.mth .popat (.var 1) (.cons (.call 24 (.cons (.var 0) (.cons (.blt .len (.cons (.var 1) .nil)) .nil))) .nil)) .nil)) env (put M i s)=.ok (.t .non) (put M' i s')/\IsSt s'/\A[k]?=some w/\MI m i c1 c2 (A.eraseIdx k) (F++[w]) M':=by
 obtain⟨r,s1,g,hs1,r0,r1⟩:=Zo (n:=n) (many:=(A.length:Int)) h.hi hs (by omega) (by omega)
 have hr:r.toNat<A.length:=by omega
 have hw:=Yn hr
 generalize A[r.toNat]=w at hw
 have i1:i≠c1:=by have:=h.i;have:=h.l1;omega
 have i2:i≠c2:=by have:=h.i;have:=h.l2;omega
 have b1:c1<M.length:=(Yi.mp h.g1).1
 have b2:c2<M.length:=(Yi.mp h.g2).1
 refine⟨w,r.toNat,s1,(M.set c1 (some (false,(A.eraseIdx r.toNat).map .str))).set c2 (some (false,(F++[w]).map .str)),?_,hs1,hw,⟨?_,h.i,h.l1,h.l2,h.ne,?_,?_⟩⟩
 ·have hlen:ev (cf (n+1)) gv (.blt .len (.cons (.var 1) .nil)) env (put M i s)=.ok (.t (.int (A.length:Int))) (put M i s):=by
   have hv:views [W.c c1] (put M i s)=some [.lst (A.map T.str)]:=by
    show(view (.c c1) (put M i s)).bind _=_
    unfold view
    dsimp only
    rw[h.at1 s]
    rfl
   refine ZgG (Zd (Za e1) Zq) hv ?_
   rw[l_lst,Yc]
  have hD:ev (cf (n+1)) gv (.call 24 (.cons (.var 0) (.cons (.blt .len (.cons (.var 1) .nil)) .nil))) env (put M i s)=.ok (.t (.int r)) (put M i s1):=(Zr (Za e0) hlen).trans g
  have t1:tyM .popat (.c c1) (put M i s)=true:=by
   show(match(put M i s)[c1]? with
    |some (some _)=>true
    |_=>false)=true
   rw[h.at1 s]
  have t2:tyM .append (.c c2) (put M i s)=true:=by
   show(match(put M i s)[c2]? with
    |some (some _)=>true
    |_=>false)=true
   rw[h.at2 s]
  have mp:mutM .popat (A.map T.str) [.int r]=some (.str w,(A.eraseIdx r.toNat).map T.str):=by
   show(match ixOf (A.map T.str).length r with
    |some k=>((A.map T.str)[k]?).map λt=>(t,(A.map T.str).eraseIdx k)
    |none=>none)=_
   have:ixOf (A.map T.str).length r=some r.toNat:=by
    unfold ixOf
    rw[if_pos r0,Yc,if_pos r1]
   rw[this]
   dsimp only
   rw[YZ,hw,ZeN]
   rfl
  have hP:ev (cf (n+1)) gv (.mth .popat (.var 1) (.cons (.call 24 (.cons (.var 0) (.cons (.blt .len (.cons (.var 1) .nil)) .nil))) .nil)) env (put M i s)=.ok (.t (.str w)) ((put M i s1).set c1 (some (false,(A.eraseIdx r.toNat).map T.str))):=by
   rw[ev,Za e1,Zf,if_pos t1,Zd hD Zq,Zf]
   show doM .popat (.c c1) [.t (.int r)] (put M i s1)=_
   simp[doM,Zcd,Zcc,Zf,h.at1 s1,mp]
  rw[ev,Za ef,Zf,if_pos t2,Zd hP Zq,Zf]
  have h2:((put M i s1).set c1 (some (false,(A.eraseIdx r.toNat).map T.str)))[c2]?=some (some (false,F.map T.str)):=by
   rw[Yv h.ne]
   exact h.at2 s1
  have ma:mutM .append (F.map T.str) [.str w]=some (.non,F.map T.str++[.str w]):=if_pos (by rw[Yc];unfold lim;omega)
  show doM .append (.c c2) [.t (.str w)] _=_
  simp only[doM,Zcd,Zcc,Zf,h2,ma]
  unfold put
  rw[Uc,YbF _ _ i1,YbF _ _ i2]
  rfl
 ·rw[List.take_set_of_le h.l2,List.take_set_of_le h.l1]
  exact h.tk
 ·rw[Yv h.ne.symm,YX b1]
 ·rw[YX (by rw[WK];exact b2)]
theorem Zi1{n:Nat}{m:Mem}{i c1 c2 f v:Nat}{body:S}(hb:body=.expr (.mth .append (.var f) (.cons (.mth .popat (.var 1) (.cons (.call 24 (.cons (.var 0) (.cons (.blt .len (.cons (.var 1) .nil)) .nil))) .nil)) .nil)) .done)(hv0:v≠0)(hv1:v≠1)(hvf:v≠f):∀(ts:List T) (A F:List (List Nat)) (M:Mem) (s:List T) (env:Env),MI m i c1 c2 A F M->IsSt s->ts.length<=A.length->A.length<50->F.length+ts.length<50->env[0]?=some (some (.c i))->env[1]?=some (some (.c c1))->env[f]?=some (some (.c c2)) ->
  ∃(A' F':List (List Nat)) (M':Mem) (s':List T) (env':Env),Z2 (ex (cf (n+1)) gv body) (.nm v) ts env (put M i s)=.ok (.next env') (put M' i s')/\IsSt s'/\MI m i c1 c2 A' F' M'/\(A'++F').Perm (A++F)/\F'.length=F.length+ts.length/\env'[f]?=some (some (.c c2))
 |[],A,F,M,s,env,h,hs,_,_,_,_,_,ef=>⟨A,F,M,s,env,rfl,hs,h,UT _,rfl,ef⟩
 |t::ts,A,F,M,s,env,h,hs,hl,hA,hF,e0,e1,ef=>by
  rw[YB]at hl hF
  have q0:(env.set v (some (.t t)))[0]?=some (some (.c i)):=by rw[Yv hv0];exact e0
  have q1:(env.set v (some (.t t)))[1]?=some (some (.c c1)):=by rw[Yv hv1];exact e1
  have qf:(env.set v (some (.t t)))[f]?=some (some (.c c2)):=by rw[Yv hvf];exact ef
  obtain⟨w,k,s1,M1,g,hs1,hw,h1⟩:=pop_ok (n:=n) h hs (by omega) (by omega) (by omega) q0 q1 qf
  have hk:=(Yi.mp hw).1
  have hlen:(A.eraseIdx k).length=A.length-1:=Vc hk
  obtain⟨A',F',M',s',env',g2,hs2,h2,hp,hf,he⟩:=Zi1 hb hv0 hv1 hvf ts (A.eraseIdx k) (F++[w]) M1 s1 _ h1 hs1 (by omega) (by omega) (by rw[Yr,Y5];omega) q0 q1 qf
  refine⟨A',F',M',s',env',?_,hs2,h2,hp.trans ?_,by rw[hf,Yr,Y5,YB];omega,he⟩
  ·rw[Z2]
   show(ex (cf (n+1)) gv body (env.set v (some (.t t))) (put M i s)).bind _=_
   have:ex (cf (n+1)) gv body (env.set v (some (.t t))) (put M i s)=.ok (.next (env.set v (some (.t t)))) (put M1 i s1):=by
    rw[hb]
    exact(Zce g).trans Z5
   rw[this]
   exact g2
  ·have h3:=ZbV hw
   have h4:(A.eraseIdx k++(F++[w])).Perm (w::(A.eraseIdx k++F)):=by
    rw[<-Wm]
    exact List.perm_append_comm
   exact h4.trans (h3.symm.append_right F)
theorem Zk9{n:Nat}{f c:Nat}{env:Env}{m:Mem}{xs:List T}(ef:env[f]?=some (some (.c c)))(hc:m[c]?=some (some (false,xs))):ev (cf n) gv (.blt .tuple (.cons (.var f) .nil)) env m=.ok (.t (.tup xs)) m:=by
 have hv:views [W.c c] m=some [.lst xs]:=by
  show(view (.c c) m).bind _=_
  unfold view
  dsimp only
  rw[hc]
  rfl
 exact ZgG (Zd (Za ef) Zq) hv (Zgz _)
theorem ZnQ{n:Nat}{m:Mem}{i:Nat}{s:List T}(hi:i<m.length)(hs:IsSt s):∃(ws:List (List Nat)) (s':List T),cf (n+2) 31 [.c i] (put m i s)=.ok (.t (.tup (ws.map .str))) (put m i s')/\IsSt s'/\ws.Nodup/\ws.length<=3/\∀w∈ws,w∈four:=by
 have hM:MI m i m.length (m.length+1) four [] (m++[some (false,four.map .str),some (false,[])]):=by
  refine⟨List.take_left' rfl,hi,Yj _,U4 _,by omega,?_,?_⟩
  ·rw[YS (Yj _),G7];rfl
  ·rw[YS (by omega),Nat.add_sub_cancel_left];rfl
 generalize hMM:m++[some (false,four.map T.str),some (false,[])]=M at hM
 obtain⟨r,s1,g1,hs1,r0,r1⟩:=Zo (n:=n) (many:=5) hM.hi hs (by decide) (by decide)
 obtain⟨z,hz,hzm⟩:=QD (xs:=[T.int 0,.int 1,.int 1,.int 2,.int 3]) r0 (by simpa using r1)
 have hz':∃v:Nat,z=.int (v:Int)/\v<=3:=by
  simp only[Yh,YC,or_false]at hzm
  rcases hzm with rfl|rfl|rfl|rfl|rfl
  ·exact⟨0,rfl,by decide⟩
  ·exact⟨1,rfl,by decide⟩
  ·exact⟨1,rfl,by decide⟩
  ·exact⟨2,rfl,by decide⟩
  ·exact⟨3,rfl,by decide⟩
 obtain⟨v,rfl,hv⟩:=hz'
 have hrl:(rangeT 0 v).length=v:=by simp[rangeT]
 obtain⟨A',F',M',s2,env',g2,hs2,h2,hp,hf,he⟩:=Zi1 (n:=n) (f:=2) (v:=3) (body:=Zez) rfl (by decide) (by decide) (by decide) (rangeT 0 v) four [] M s1 [some (.c i),some (.c m.length),some (.c (m.length+1)),none] hM hs1 (by rw[hrl];show v<=4;omega) (by decide) (by rw[hrl];simp;omega) rfl rfl rfl
 rw[Ua]at hp
 refine⟨F',s2,?_,hs2,?_,by rw[hf,hrl];simpa using hv,λw hw=>hp.mem_iff.mp (Ym _ hw)⟩
 ·have key:ex (cf (n+1)) gv Zcs [some (.c i),none,none,none] (put m i s)=.ok (.ret (.t (.tup (F'.map .str)))) (put M' i s2):=by
   unfold Zcs
   have p1:put M i s=put m i s++[some (false,four.map .str),some (false,[])]:=by
    rw[<-hMM]
    unfold put
    rw[Yae _ _ hi]
   have w1:ev (cf (n+1)) gv (.cel (.cons (.con (.str [104,101,97,118,121])) (.cons (.con (.str [103,114,101,97,116])) (.cons (.con (.str [115,109,97,108,108])) (.cons (.con (.str [115,111,111,110])) .nil))))) [some (.c i),none,none,none] (put m i s)=.ok (.c m.length) (put m i s++[some (false,four.map .str)]):=by
    rw[ev,Zd (Zb _) (Zd (Zb _) (Zd (Zb _) (Zd (Zb _) Zq)))]
    show Res.ok (W.c (put m i s).length) _=_
    rw[Z1]
    rfl
   have w2:ev (cf (n+1)) gv (.cel .nil) [some (.c i),some (.c m.length),none,none] (put m i s++[some (false,four.map .str)])=.ok (.c (m.length+1)) (put M i s):=by
    rw[ev,Zq]
    show Res.ok (W.c (put m i s++[some (false,four.map T.str)]).length) _=_
    rw[Yr,Z1,p1,Wm]
    rfl
   refine(Zm w1).trans ?_
   dsimp only[Yw,Yx]
   refine(Zm w2).trans ?_
   dsimp only[Yw,Yx]
   have hr:=Zl9 (i:=(v:Int)) (by omega)
   rw[UV]at hr
   refine(Q4 (Qe (ZG (QC (Zd (Zb _) (Zd (Zb _) (Zd (Zb _) (Zd (Zb _) (Zd (Zb _) Zq))))) rfl ZW) ((Zr (Za rfl) (Zb _)).trans g1) hz) hr) rfl g2).trans ?_
   exact Zh (Zk9 he (h2.at2 s2))
  refine ZD (ZmA _ _ _) rfl key ?_
  show Res.ok _ ((put M' i s2).take (put m i s).length)=_
  rw[Z1,h2.fin]
 ·have:=hp.nodup_iff.mpr (show four.Nodup by decide)
  exact(Gw.mp this).2.1
def rk(w:List Nat)(x:Wt):Int:=if w==[104,101,97,118,121]then -x.e.wt else if w==[103,114,101,97,116]then -x.e.left else if w==[115,109,97,108,108]then x.e.left else x.e.till
def rks(ru:List (List Nat))(x:Wt):List Int:=ru.map (rk · x)++[x.no]
def ruT(ru:List (List Nat)):T:=.tup (ru.map .str)
def insW(ru:List (List Nat))(x:Wt):List Wt->List Wt
 |[]=>[x]
 |y::r=>if lexI (rks ru y) (rks ru x)then y::insW ru x r else x::y::r
def ZbR(ru:List (List Nat))(xs:List Wt):List Wt:=xs.foldr (insW ru) []
def Sd(ru:List (List Nat))(l:List Wt):Prop:=l.Pairwise λa b=>lexI (rks ru b) (rks ru a)=false
section
variable{ru:List (List Nat)}
theorem Zb9(x:Wt):∀l:List Wt,(insW ru x l).Perm (x::l)
 |[]=>.refl _
 |y::r=>by
  rw[insW]
  split
  ·exact((Zb9 x r).cons y).trans (.swap _ _ _)
  ·exact .refl _
theorem QH:∀xs:List Wt,(ZbR ru xs).Perm xs
 |[]=>.refl _
 |x::r=>(Zb9 x _).trans ((QH r).cons x)
theorem ZjZ(x:Wt):∀{l:List Wt},Sd ru l->Sd ru (insW ru x l)
 |[],_=>Uh _ _
 |y::r,h=>by
  rw[insW]
  obtain⟨h1,h2⟩:=Y6.mp h
  split
  ·rename_i q
   refine Y6.mpr ⟨λz hz=>?_,ZjZ x h2⟩
   rcases Yh.mp ((Zb9 x r).mem_iff.mp hz)with rfl|hz
   ·exact JW q
   ·exact h1 z hz
  ·rename_i q
   have q:lexI (rks ru y) (rks ru x)=false:=by simpa using q
   refine Y6.mpr ⟨λz hz=>?_,h⟩
   rcases Yh.mp hz with rfl|hz
   ·exact q
   ·exact X5 q (h1 z hz)
theorem Zga:∀xs:List Wt,Sd ru (ZbR ru xs)
 |[]=>.nil
 |x::r=>ZjZ x (Zga r)
theorem ZiL{x y:Wt}(h:rks ru x=rks ru y):x.no=y.no:=by
 have h:ru.map (rk · x)++[x.no]=ru.map (rk · y)++[y.no]:=h
 exact(List.cons.inj (List.append_inj h (by rw[Yc,Yc])).2).1
theorem Znf(x:Wt):∀l:List Wt,insK (rks ru x,x.t) (l.map λy=>(rks ru y,y.t))=(insW ru x l).map λy=>(rks ru y,y.t)
 |[]=>rfl
 |y::r=>by
  rw[Yq,insK,insW]
  dsimp only
  split
  ·rw[Znf x r];rfl
  ·rfl
theorem Ziv:∀xs:List Wt,Zbs (xs.map λy=>(rks ru y,y.t))=(ZbR ru xs).map λy=>(rks ru y,y.t)
 |[]=>rfl
 |x::r=>by
  rw[Yq]
  show insK (rks ru x,x.t) (Zbs (r.map λy=>(rks ru y,y.t)))=_
  rw[Ziv r,Znf]
  rfl
theorem ZoL{xs:List Wt}(hn:(xs.map (·.no)).Nodup):(xs.map (rks ru)).Nodup:=by
 refine Wq.mpr ?_
 exact(Wq.mp hn).imp λh z=>h (ZiL z)
end
section
variable{n:Nat}{m:Mem}{ru:List (List Nat)}{x y:Wt}
theorem Zm5{call:Nat->List W->Mem->Res W}{gv:List T}{env:Env}{m m1:Mem}{a:E}{i:Int}(h:ev call gv a env m=.ok (.t (.int i)) m1):ev call gv (.neg a) env m=.ok (.t (.int (-i))) m1:=by rw[ev,h];rfl
theorem ZnR{w:List Nat}:cf (n+1) 15 [.t (.str w),.t x.t] m=.ok (.t (.int (rk w x))) m:=by
 have key:ex (cf n) gv Ze5 [some (.t (.str w)),some (.t x.t),none,none,none] m=.ok (.ret (.t (.int (rk w x)))) m:=by
  unfold Ze5
  rw[ex,Za rfl]
  show ex (cf n) gv _ [some (.t (.str w)),some (.t x.t),some (.t (.int x.no)),some (.t x.e.off),some (.t (.int x.e.left))] m=_
  unfold rk
  have c1:∀z,ev (cf n) gv (.cmp .Eq (.var 0) (.con (.str z))) [some (.t (.str w)),some (.t x.t),some (.t (.int x.no)),some (.t x.e.off),some (.t (.int x.e.left))] m=.ok (.t (.bl (w==z))) m:=λz=>Zy (Za rfl) (Zb _) (ZcJ _ _)
  have h1:=c1 [104,101,97,118,121]
  have h2:=c1 [103,114,101,97,116]
  have h3:=c1 [115,109,97,108,108]
  cases e1:w==[104,101,97,118,121]with
  |true=>rw[e1]at h1;exact Qm h1 (Zh (Zm5 (ZG (Za rfl) (Zb _) rfl)))
  |false =>
   rw[e1]at h1
   refine(ZS h1).trans ?_
   rw[if_neg Yl]
   cases e2:w==[103,114,101,97,116]with
   |true=>rw[e2]at h2;exact Qm h2 (Zh (Zm5 (Za rfl)))
   |false =>
    rw[e2]at h2
    refine(ZS h2).trans ?_
    rw[if_neg Yl]
    cases e3:w==[115,109,97,108,108]with
    |true=>rw[e3]at h3;exact Qm h3 (Zh (Za rfl))
    |false =>
     rw[e3]at h3
     exact(ZS h3).trans (Zh (ZG (Za rfl) (Zb _) rfl))
 exact ZD (Zpa _ _ _) rfl key (Zn rfl)
theorem Zln(hl:ru.length<=3):cf (n+2) 16 [.t (ruT ru),.t x.t] m=.ok (.t (.lst ((rks ru x).map .int))) m:=by
 have hc:ev (cf (n+1)) gv ZeW [some (.t (ruT ru)),some (.t x.t)] m=.ok (.t (.lst (ru.flatMap λw=>[T.int (rk w x)]))) m:=
  ZaG (emb:=T.str) ru (Za rfl) rfl (λw _=>⟨[some (.t (.str w)),some (.t x.t)],rfl,Zad (Qw ((Zr (Za rfl) (Za rfl)).trans ZnR))⟩) (by rw[ZC,Yc];unfold lim;omega)
 rw[ZC]at hc
 have e:(rks ru x).map T.int=(ru.map λw=>T.int (rk w x))++[.int x.no]:=by
  unfold rks
  rw[Uc,Y0]
  rfl
 rw[e]
 refine ZD (Zmx _ _ _) rfl (Zh (ZM hc (QC (Zd (ZG (Za rfl) (Zb _) rfl) Zq) rfl ZW) (ZkU ?_))) (Zn rfl)
 rw[Yc,Y5]
 unfold lim
 omega
theorem ZjS(hl:ru.length<=3):∀us:List Wt,J6 (λenv m=>ev (cf (n+2)) gv JB env m) [some (.t (ruT ru))] (us.map Wt.t) m=.ok (us.map (rks ru)) m
 |[]=>rfl
 |u::us=>by
  have h:ev (cf (n+2)) gv JB [some (.t u.t),some (.t (ruT ru))] m=.ok (.t (.lst ((rks ru u).map .int))) m:=(Zr (Za rfl) (Za rfl)).trans (Zln hl)
  have hi:keyL (.t (.lst ((rks ru u).map .int)))=some (rks ru u):=by
   show ints? _=_
   generalize rks ru u=ns
   induction ns with
   |nil=>rfl
   |cons n ns ih=>rw[Yq,ints?,ih];rfl
  rw[Yq,J6,h,Zf,hi]
  show(J6 _ _ (us.map Wt.t) m).bind _=_
  rw[ZjS hl us]
  rfl
theorem Zby{α β γ:Type}(f:α->β)(g:α->γ):∀l:List α,(l.map f).zip (l.map g)=l.map λa=>(f a,g a)
 |[]=>rfl
 |a::l=>by rw[Yq,Yq,Gi,Zby f g l];rfl
theorem nosC{env:Env}{ws:List Wt}{w:W}{m0 m1:Mem}{it:E}(hl:ws.length<=30)(h1:ev (cf n) gv it env m=.ok w m0)(h2:Z3 w m0=.ok (ws.map Wt.t) m1)(h3:giveBack w m0 m1=m0):ev (cf n) gv (.comp 3 [] it (.tp [0,1,2]) .nil (.emit (.var 0))) env m=.ok (.t (il (ws.map (·.no)))) m0:=by
 have:=Ja (own:=3) (keep:=[]) (tg:=.tp [0,1,2]) (cs:=.nil) (inner:=.emit (.var 0)) h1 h2 (JT (m:=m1) (g:=λw:Wt=>[T.int w.no]) ws λw _=>⟨[some (.t (.int w.no)),some (.t w.e.off),some (.t (.int w.e.left))],rfl,Zad (Qw (Za rfl))⟩) (by rw[ZC,Yc];unfold lim;omega)
 rw[this,ZC,h3]
 unfold il
 rw[Y0]
 rfl
theorem row_ok{us:List Wt}(hl:ru.length<=3)(hu:us.length<=30)(hn:(us.map (·.no)).Nodup):cf (n+3) 17 [.t (ruT ru),.t (wsT us)] m=.ok (.t (il ((ZbR ru us).map (·.no)))) m:=by
 have hs:ev (cf (n+2)) gv (.sortk [0] (.var 1) JB) [some (.t (ruT ru)),some (.t (wsT us)),none] m=.ok (.t (wsT (ZbR ru us))) m:=by
  rw[ev,Za rfl,Zf]
  show(J6 (λenv m=>ev (cf (n+2)) gv JB env m) [some (.t (ruT ru))] (us.map Wt.t) m).only.bind _=_
  rw[ZjS hl us]
  show pur (XH (us.map (rks ru)) (us.map Wt.t)) m=_
  unfold XH
  rw[if_pos ⟨ZoL hn,by rw[Yc];omega⟩,Zby,Ziv,Y0]
  rfl
 have hlw:(ZbR ru us).length<=30:=by rw[(QH us).length_eq];exact hu
 have hc:ev (cf (n+2)) gv Zc6 [some (.t (ruT ru)),some (.t (wsT us)),some (.t (wsT (ZbR ru us)))] m=.ok (.t (il ((ZbR ru us).map (·.no)))) m:=nosC hlw (Za rfl) rfl rfl
 have key:ex (cf (n+2)) gv XC [some (.t (ruT ru)),some (.t (wsT us)),none] m=.ok (.ret (.t (il ((ZbR ru us).map (·.no))))) m:=by
  unfold XC
  refine(Zm hs).trans ?_
  dsimp only[Yw,Yx]
  exact Zh hc
 exact ZD (ZkG _ _ _) rfl key (Zn (cell:=false) rfl)
end
def insB(f:Int->Int)(a:Int):List Int->List Int
 |[]=>[a]
 |b::r=>if f b<f a then b::insB f a r else a::b::r
def ZcB(f:Int->Int)(x:List Int):List Int:=x.foldr (insB f) []
def keyB(f:Int->Int)(x:List Int):List Int:=(ZcB f x).map f
section
variable{f g:Int->Int}
theorem ZeE(a:Int):∀l:List Int,(insB f a l).Perm (a::l)
 |[]=>UT _
 |b::r=>by
  unfold insB
  split
  ·exact((ZeE a r).cons b).trans (YaF a b r)
  ·exact UT _
theorem Qx:∀x:List Int,(ZcB f x).Perm x
 |[]=>UT _
 |a::x=>(ZeE a (ZcB f x)).trans ((Qx x).cons a)
theorem lex1(a b:Int):lexI [a] [b]=decide (a<b):=by
 unfold lexI
 by_cases h:a=b
 ·rw[if_pos h,h];simp[lexI]
 ·rw[if_neg h]
theorem Zng(a:Int):∀l:List Int,insI [f a] (l.map λb=>[f b])=(insB f a l).map λb=>[f b]
 |[]=>rfl
 |b::r=>by
  rw[Yq,insI,lex1,insB]
  by_cases h:f b<f a
  ·rw[if_pos h,if_pos (decide_eq_true h),Zng a r];rfl
  ·rw[if_neg h,if_neg (by simpa using h)];rfl
theorem Ziw:∀x:List Int,sortI (x.map λb=>[f b])=(ZcB f x).map λb=>[f b]
 |[]=>rfl
 |a::x=>by
  show insI [f a] (sortI (x.map λb=>[f b]))=_
  rw[Ziw x,Zng]
  rfl
theorem Zj3{a:Int}:∀l:List Int,(∀b∈l,f b<f a↔g b<g a)->insB f a l=insB g a l
 |[],_=>rfl
 |b::r,h=>by
  unfold insB
  have:=h b Yp
  by_cases c:f b<f a
  ·rw[if_pos c,if_pos (this.mp c),Zj3 r λb hb=>h b (Yg _ hb)]
  ·rw[if_neg c,if_neg (λz=>c (this.mpr z))]
theorem Zdd:∀x:List Int,(∀a∈x,∀b∈x,f a<f b↔g a<g b)->ZcB f x=ZcB g x
 |[],_=>rfl
 |a::x,h=>by
  show insB f a (ZcB f x)=insB g a (ZcB g x)
  rw[Zdd x λc hc b hb=>h c (Yg _ hc) b (Yg _ hb)]
  exact Zj3 _ λb hb=>h b (Yg _ ((Qx x).mem_iff.mp hb)) a Yp
theorem Zm8:∀u v:List Int,(∀a∈u,∀b∈v,(f a<f b↔g a<g b)/\(f b<f a↔g b<g a))->lexI (u.map f) (v.map f)=lexI (u.map g) (v.map g)
 |[],[],_=>rfl
 |[],_::_,_=>rfl
 |_::_,[],_=>rfl
 |a::u,b::v,h=>by
  rw[Yq,Yq,Yq,Yq,lexI,lexI]
  obtain⟨h1,h2⟩:=h a Yp b Yp
  by_cases c:f a=f b
  ·have d:g a=g b:=by omega
   rw[if_pos c,if_pos d]
   exact Zm8 u v λa ha b hb=>h a (Yg _ ha) b (Yg _ hb)
  ·have d:¬g a=g b:=by omega
   rw[if_neg c,if_neg d]
   exact decide_eq_decide.mpr h1
theorem key_cg{x y:List Int}(h:∀a∈x++y,∀b∈x++y,f a<f b↔g a<g b):lexI (keyB f x) (keyB f y)=lexI (keyB g x) (keyB g y):=by
 unfold keyB
 rw[Zdd x λa ha b hb=>h a (Wi _ ha) b (Wi _ hb),Zdd y λa ha b hb=>h a (Ym _ ha) b (Ym _ hb)]
 refine Zm8 _ _ λa ha b hb=>?_
 have ha:=Wi y ((Qx x).mem_iff.mp ha)
 have hb:=Ym x ((Qx y).mem_iff.mp hb)
 exact⟨h a ha b hb,h b hb a ha⟩
theorem Zgw:∀{u v:List Int},(∀a∈u,∀b∈v,f a=f b->a=b)->u.map f=v.map f->u=v
 |[],[],_,_=>rfl
 |[],_::_,_,h=>by cases h
 |_::_,[],_,h=>by cases h
 |a::u,b::v,hi,h=>by
  rw[Yq,Yq,List.cons.injEq]at h
  rw[hi a Yp b Yp h.1,Zgw (λa ha b hb=>hi a (Yg _ ha) b (Yg _ hb)) h.2]
theorem Zmb{x y:List Int}(hi:∀a∈x,∀b∈y,f a=f b->a=b)(h:keyB f x=keyB f y):x.Perm y:=by
 have e:ZcB f x=ZcB f y:=Zgw (λa ha b hb=>hi a ((Qx x).mem_iff.mp ha) b ((Qx y).mem_iff.mp hb)) h
 exact(Qx x).symm.trans (by rw[e];exact Qx y)
end
def row(ru:List (List Nat))(ws:List Wt):List Int:=(ZbR ru ws).map (·.no)
def pos(ru:List (List Nat))(ws:List Wt)(x:Int):Int:=((row ru ws).idxOf x:Int)
section
variable{ru:List (List Nat)}{ws:List Wt}
theorem ZiZ:∀{L:List Wt},Sd ru L->(L.map (·.no)).Nodup->∀v∈L,∀w∈L,((L.map (·.no)).idxOf v.no<(L.map (·.no)).idxOf w.no↔lexI (rks ru v) (rks ru w)=true)
 |[],_,_,v,hv,_,_=>by cases hv
 |a::L,hs,hn,v,hv,w,hw=>by
  rw[Yq]at hn ⊢
  obtain⟨n1,n2⟩:=Wb.mp hn
  obtain⟨s1,s2⟩:=Y6.mp hs
  have ne:∀u∈L,a.no≠u.no:=λu hu e=>n1 (Yz.mpr ⟨u,hu,e.symm⟩)
  rw[List.idxOf_cons,List.idxOf_cons]
  rcases Yh.mp hv with rfl|hv1<;>rcases Yh.mp hw with rfl|hw1
  ·rw[ZdC];simp
  ·have h1:=ne w hw1
   have h2:lexI (rks ru v) (rks ru w)=true:=by
    cases q:lexI (rks ru v) (rks ru w)with
    |true=>rfl
    |false=>exact absurd (ZiL (Q3 q (s1 w hw1))) h1
   rw[h2,beq_self_eq_true,show(v.no==w.no)=false by simpa using h1]
   simp
  ·have h1:=ne v hv1
   rw[s1 v hv1,beq_self_eq_true,show(w.no==v.no)=false by simpa using h1]
   simp
  ·rw[show(a.no==v.no)=false by simpa using ne v hv1,show(a.no==w.no)=false by simpa using ne w hw1]
   have:=ZiZ s2 n2 v hv1 w hw1
   simpa using this
theorem ZiK(hn:(ws.map (·.no)).Nodup):((ZbR ru ws).map (·.no)).Nodup:=((QH ws).map _).nodup_iff.mpr hn
theorem Zgm(hn:(ws.map (·.no)).Nodup){v w:Wt}(hv:v∈ws)(hw:w∈ws):pos ru ws v.no<pos ru ws w.no↔lexI (rks ru v) (rks ru w)=true:=by
 have:=ZiZ (Zga (ru:=ru) ws) (ZiK hn) v ((QH ws).mem_iff.mpr hv) w ((QH ws).mem_iff.mpr hw)
 rw[<-this]
 unfold pos row
 exact Int.ofNat_lt
theorem Zi0(hn:(ws.map (·.no)).Nodup){v w:Wt}(hv:v∈ws)(hw:w∈ws)(h:pos ru ws v.no=pos ru ws w.no):v.no=w.no:=by
 have h1:=Zgm (ru:=ru) hn hv hw
 have h2:=Zgm (ru:=ru) hn hw hv
 rw[h]at h1 h2
 cases a:lexI (rks ru v) (rks ru w)with
 |true=>exact absurd (h1.mpr a) (Int.lt_irrefl _)
 |false =>
  cases b:lexI (rks ru w) (rks ru v)with
  |true=>exact absurd (h2.mpr b) (Int.lt_irrefl _)
  |false=>exact ZiL (Q3 a b)
end
def Num(ws:List Wt)(x:List Int):Prop:=∀a∈x,∃w∈ws,w.no=a
theorem QX{bn:List (List Nat)}{ws:List Wt}{x:List Int}(h:InS bn ws x):Num ws x:=by
 obtain⟨v,hv,w,hw,_,_,_,h⟩:=h
 rcases h with⟨_,u,hu,_,_,rfl⟩|⟨_,rfl⟩<;>intro a ha<;>simp only[Yh,YC,or_false]at ha
 ·rcases ha with rfl|rfl|rfl
  ·exact⟨v,hv,rfl⟩
  ·exact⟨w,hw,rfl⟩
  ·exact⟨u,hu,rfl⟩
 ·rcases ha with rfl|rfl
  ·exact⟨v,hv,rfl⟩
  ·exact⟨w,hw,rfl⟩
def key(ru:List (List Nat))(ws:List Wt)(x:List Int):List Int:=keyB (pos ru ws) x
def nil0:Ent:=⟨[],[],[],[],[],.non,0,0,0,0,0⟩
def ZcH(ws:List Wt)(a:Int):Ent:=match ws.find? (λw=>w.no==a)with
 |some w=>w.e
 |none=>nil0
def prt(ws:List Wt)(x:List Int):Int:=Zjd (x.map (ZcH ws))
theorem ZeP{ws:List Wt}(hn:(ws.map (·.no)).Nodup){w:Wt}(hw:w∈ws):ZcH ws w.no=w.e:=by
 unfold ZcH
 cases h:ws.find? (λv=>v.no==w.no)with
 |none =>
  have:=List.find?_eq_none.mp h w hw
  simp at this
 |some v =>
  have h1:=List.find?_some h
  have h2:=List.mem_of_find?_eq_some h
  rw[Zeq hn h2 hw (by simpa using h1)]
def FS(ru bn:List (List Nat))(ws:List Wt):Option (List Int×Int)->Prop
 |none=>∀x,InS bn ws x->¬0<prt ws x
 |some (x,k)=>InS bn ws x/\0<prt ws x/\k=prt ws x/\∀y,InS bn ws y->0<prt ws y->lexI (key ru ws y) (key ru ws x)=false
section
variable{ru bn:List (List Nat)}{ws us:List Wt}
theorem JN{v w:Wt}(hn:(ws.map (·.no)).Nodup)(hv:v∈ws)(hw:w∈ws)(h:v.e.sd≠w.e.sd):v.no≠w.no:=λe=>h (by rw[Zeq hn hv hw e])
theorem Zme(hn:(ws.map (·.no)).Nodup){x y:List Int}(hx:InS bn ws x)(hy:InS bn ws y)(h:x.Perm y):x=y:=by
 obtain⟨v,hv,w,hw,a1,a2,a3,hx⟩:=hx
 obtain⟨v',hv',w',hw',b1,b2,b3,hy⟩:=hy
 have gt:QF≠QG:=by decide
 have gb:QF≠Q5:=by decide
 have tb:QG≠Q5:=by decide
 have e1:v.no≠w'.no:=JN hn hv hw' (by rw[a1,b2];exact gt)
 have e2:w.no≠v'.no:=JN hn hw hv' (by rw[a2,b1];exact gt.symm)
 rcases hx with⟨_,u,hu,c1,c2,rfl⟩|⟨_,rfl⟩<;>rcases hy with⟨_,u',hu',d1,d2,rfl⟩|⟨_,rfl⟩
 ·have e3:v.no≠u'.no:=JN hn hv hu' (by rw[a1,d2];exact gb)
  have e4:w.no≠u'.no:=JN hn hw hu' (by rw[a2,d2];exact tb)
  have e5:u.no≠v'.no:=JN hn hu hv' (by rw[c2,b1];exact gb.symm)
  have e6:u.no≠w'.no:=JN hn hu hw' (by rw[c2,b2];exact tb.symm)
  have m1:v.no∈[v'.no,w'.no,u'.no]:=h.mem_iff.mp (by simp)
  have m2:w.no∈[v'.no,w'.no,u'.no]:=h.mem_iff.mp (by simp)
  have m3:u.no∈[v'.no,w'.no,u'.no]:=h.mem_iff.mp (by simp)
  simp only[Yh,YC,or_false,e1,e2,e3,e4,e5,e6,false_or]at m1 m2 m3
  rw[m1,m2,m3]
 ·have:=h.length_eq
  cases this
 ·have:=h.length_eq
  cases this
 ·have m1:v.no∈[v'.no,w'.no]:=h.mem_iff.mp (by simp)
  have m2:w.no∈[v'.no,w'.no]:=h.mem_iff.mp (by simp)
  simp only[Yh,YC,or_false,e1,e2,false_or]at m1 m2
  rw[m1,m2]
theorem ZjT(hn:(ws.map (·.no)).Nodup){x y:List Int}(hx:InS bn ws x)(hy:InS bn ws y)(h:key ru ws x=key ru ws y):x=y:=by
 refine Zme hn hx hy (Zmb (f:=pos ru ws) (λa ha b hb e=>?_) h)
 obtain⟨v,hv,rfl⟩:=QX hx a ha
 obtain⟨w,hw,rfl⟩:=QX hy b hb
 exact Zi0 hn hv hw e
theorem FS.uniq(hn:(ws.map (·.no)).Nodup):∀{r r':Option (List Int×Int)},FS ru bn ws r->FS ru bn ws r'->r=r'
 |none,none,_,_=>rfl
 |none,some (x,k),h,⟨h1,h2,_⟩=>absurd h2 (h x h1)
 |some (x,k),none,⟨h1,h2,_⟩,h=>absurd h2 (h x h1)
 |some (x,k),some (y,l),⟨a1,a2,a3,a4⟩,⟨b1,b2,b3,b4⟩=>by
  have e:=ZjT hn a1 b1 (Q3 (b4 x a1 a2) (a4 y b1 b2))
  subst e
  rw[a3,b3]
theorem Zj5(hs:∀w∈us,w∈ws){x:List Int}(h:InS bn us x):InS bn ws x:=by
 obtain⟨v,hv,w,hw,a1,a2,a3,h⟩:=h
 refine⟨v,hs v hv,w,hs w hw,a1,a2,a3,?_⟩
 rcases h with⟨k,u,hu,h⟩|h
 ·exact .inl ⟨k,u,hs u hu,h⟩
 ·exact .inr h
theorem inS_in(hn:(ws.map (·.no)).Nodup)(hs:∀w∈us,w∈ws){x:List Int}(h:InS bn ws x)(hx:Num us x):InS bn us x:=by
 have back:∀w∈ws,w.no∈x->w∈us:=λw hw h=>by
  obtain⟨u,hu,e⟩:=hx _ h
  rw[<-Zeq hn (hs u hu) hw e]
  exact hu
 obtain⟨v,hv,w,hw,a1,a2,a3,h⟩:=h
 rcases h with⟨k,u,hu,c1,c2,rfl⟩|⟨k,rfl⟩
 ·exact⟨v,back v hv (by simp),w,back w hw (by simp),a1,a2,a3,.inl ⟨k,u,back u hu (by simp),c1,c2,rfl⟩⟩
 ·exact⟨v,back v hv (by simp),w,back w hw (by simp),a1,a2,a3,.inr ⟨k,rfl⟩⟩
theorem Zdv(hn:(ws.map (·.no)).Nodup)(hn':(us.map (·.no)).Nodup)(hs:∀w∈us,w∈ws){x:List Int}(hx:Num us x):prt us x=prt ws x:=by
 unfold prt
 refine congrArg Zjd (GD λa ha=>?_)
 obtain⟨w,hw,rfl⟩:=hx a ha
 rw[ZeP hn' hw,ZeP hn (hs w hw)]
theorem ZoN(hn:(ws.map (·.no)).Nodup)(hn':(us.map (·.no)).Nodup)(hs:∀w∈us,w∈ws){x y:List Int}(hx:Num us x)(hy:Num us y):lexI (key ru us x) (key ru us y)=lexI (key ru ws x) (key ru ws y):=by
 refine key_cg λa ha b hb=>?_
 have num:∀a∈x++y,∃w∈us,w.no=a:=λa ha=>by
  rcases Gs.mp ha with h|h
  ·exact hx a h
  ·exact hy a h
 obtain⟨v,hv,rfl⟩:=num a ha
 obtain⟨w,hw,rfl⟩:=num b hb
 rw[Zgm hn' hv hw,Zgm hn (hs v hv) (hs w hw)]
theorem FS.sub(hn:(ws.map (·.no)).Nodup)(hn':(us.map (·.no)).Nodup)(hs:∀w∈us,w∈ws):∀{r:Option (List Int×Int)},FS ru bn ws r->(∀x k,r=some (x,k)->Num us x)->FS ru bn us r
 |none,h,_=>λx hx hp=>h x (Zj5 hs hx) (by rw[<-Zdv hn hn' hs (QX hx)];exact hp)
 |some (x,k),⟨h1,h2,h3,h4⟩,hx=>by
  have nx:=hx x k rfl
  refine⟨inS_in hn hs h1 nx,by rw[Zdv hn hn' hs nx];exact h2,by rw[Zdv hn hn' hs nx];exact h3,λy hy hp=>?_⟩
  rw[ZoN hn hn' hs (QX hy) nx]
  exact h4 y (Zj5 hs hy) (by rw[<-Zdv hn hn' hs (QX hy)];exact hp)
end
theorem Znh{α:Type}{f:α->Int}:∀{as:List α},(as.map f).Nodup->∀{a b:α},a∈as->b∈as->f a=f b->a=b
 |[],_,_,_,h,_,_=>by cases h
 |c::as,hn,a,b,ha,hb,e=>by
  rw[Yq,Wb]at hn
  rcases Yh.mp ha with h1|h1<;>rcases Yh.mp hb with h2|h2
  ·rw[h1,h2]
  ·exact absurd (Yz.mpr ⟨b,h2,by rw[<-e,h1]⟩) hn.1
  ·exact absurd (Yz.mpr ⟨a,h1,by rw[e,h2]⟩) hn.1
  ·exact Znh hn.2 h1 h2 e
def dctF{α:Type}(f:α->Int)(g:α->T)(as:List α):T:=.dct (as.map λa=>.inl (f a)) (as.map g)
section
variable{α:Type}{f:α->Int}{g:α->T}
theorem Zid:∀as:List α,Jv (as.flatMap λa=>[T.int (f a),g a])=some (as.map λa=>.inl (f a),as.map g)
 |[]=>rfl
 |a::as=>by
  rw[Uo]
  show Jv (T.int (f a)::g a::as.flatMap λa=>[T.int (f a),g a])=_
  rw[Jv,Zid as]
  rfl
theorem Zku{as:List α}(hn:(as.map f).Nodup)(hl:as.length<=1000):bltT .dictc [.lst (as.flatMap λa=>[T.int (f a),g a])]=some (dctF f g as):=by
 show ZeQ (as.flatMap λa=>[T.int (f a),g a])=_
 unfold ZeQ
 rw[Zid]
 refine if_pos ⟨?_,by rw[Yc];exact hl⟩
 have:=Zgu (f:=λi:Int=>(YaR i:L2.Key)) hn λa b e=>Sum.inl.inj e
 rw[Y0]at this
 exact this
theorem Zm7{as:List α}(hn:(as.map f).Nodup){a:α}(ha:a∈as):bltT .dget [dctF f g as,.int (f a)]=some (g a):=by
 show JV (as.map λa=>.inl (f a)) (as.map g) (.inl (f a))=_
 unfold JV
 rw[Zby,List.find?_map]
 cases h:as.find? ((λp:L2.Key×T=>decide (p.1=YaR (f a))) ∘ λa=>(YaR (f a),g a))with
 |none =>
  have:=List.find?_eq_none.mp h a ha
  simp at this
 |some b =>
  have h1:=List.find?_some h
  have h2:=List.mem_of_find?_eq_some h
  have h3:f b=f a:=by simpa using h1
  rw[Znh hn h2 ha h3]
  rfl
end
theorem ZgF{call:Nat->List W->Mem->Res W}{gv:List T}{env:Env}{m:Mem}{a b:E}{i:Int}{u:T}(h1:ev call gv a env m=.ok (.t (.int i)) m)(h2:ev call gv b env m=.ok (.t u) m):ev call gv (.emit2 a b) env m=.ok (.t (.lst [.int i,u])) m:=by
 rw[ev,h1,Zf,h2,Zf]
 rfl
def J4(ws:List Wt):T:=dctF (·.no) (·.e.t) ws
def Qv(r:List Int):T:=dctF (λp:Nat×Int=>p.2) (λp=>.int (p.1:Int)) ((YF r.length).zip r)
def insQ{α:Type}(k:α->List Int)(x:α):List α->List α
 |[]=>[x]
 |y::r=>if lexI (k y) (k x)then y::insQ k x r else x::y::r
def Zfc{α:Type}(k:α->List Int)(xs:List α):List α:=xs.foldr (insQ k) []
section
variable{α:Type}{k:α->List Int}{t:α->T}
theorem ZeD(x:α):∀l:List α,(insQ k x l).Perm (x::l)
 |[]=>UT _
 |y::r=>by
  unfold insQ
  split
  ·exact((ZeD x r).cons y).trans (YaF x y r)
  ·exact UT _
theorem ZcN:∀x:List α,(Zfc k x).Perm x
 |[]=>UT _
 |a::x=>(ZeD a (Zfc k x)).trans ((ZcN x).cons a)
theorem Zne(x:α):∀l:List α,insK (k x,t x) (l.map λy=>(k y,t y))=(insQ k x l).map λy=>(k y,t y)
 |[]=>rfl
 |y::r=>by
  rw[Yq,insK,insQ]
  cases h:lexI (k y) (k x)with
  |true=>rw[if_pos rfl,if_pos rfl,Zne x r];rfl
  |false=>rw[if_neg Yl,if_neg Yl];rfl
theorem Zfb:∀xs:List α,Zbs (xs.map λy=>(k y,t y))=(Zfc k xs).map λy=>(k y,t y)
 |[]=>rfl
 |a::x=>by
  show insK (k a,t a) (Zbs (x.map λy=>(k y,t y)))=_
  rw[Zfb x,Zne]
  rfl
theorem Zlf(xs:List α):(Zfc k xs).Pairwise λa b=>lexI (k b) (k a)=false:=by
 have h:=Zdc (xs.map λy=>(k y,T.non))
 rw[Zfb (t:=λ_=>T.non)]at h
 exact Wq.mp h
end
def resT:Option (List Int×Int)->T
 |none=>.non
 |some (x,k)=>.tup [tupT x,.int k]
section
variable{n:Nat}{m:Mem}{ru bn:List (List Nat)}{ws:List Wt}
theorem ZdO(hu:ws.length<=10)(hn:(ws.map (·.no)).Nodup):cf (n+1) 20 [.t (wsT ws)] m=.ok (.t (J4 ws)) m:=by
 have hc:ev (cf n) gv XQ [some (.t (wsT ws))] m=.ok (.t (.lst (ws.flatMap λw=>[T.int w.no,w.e.t]))) m:=by
  refine ZaG ws (Za rfl) rfl (λw _=>⟨[some (.t (.int w.no)),some (.t w.e.off),some (.t (.int w.e.left))],rfl,Zad (ZgF (Za rfl) (Zcf (Za rfl) (Za rfl)))⟩) ?_
  have:=ZbG (l:=ws) (f:=λw:Wt=>[T.int w.no,w.e.t]) (c:=2) λ_ _=>Yj _
  unfold lim
  omega
 exact ZD (ZdN _ _ _) rfl (Zh (Qe hc (Zku hn (by omega)))) (Zn (cell:=false) rfl)
theorem Zo1(r:List Int):ZcG (r.map .int)=((YF r.length).zip r).map λp=>T.tup [.int (p.1:Int),.int p.2]:=by
 unfold ZcG
 rw[Yc,List.zip_eq_zipWith,List.map_zipWith,List.zipWith_map_right]
theorem Zh6(r:List Int):((YF r.length).zip r).map (λp=>p.2)=r:=List.map_snd_zip (by rw[W6];exact Yj _)
theorem Zi2{e0 e1 e2 e3 e4 e5 e6 e7:Option W}{r:List Int}(h1:e0=some (.t (ruT ru)))(h2:e2=some (.t (wsT ws)))(hl:ru.length<=3)(hu:ws.length<=10)(hn:(ws.map (·.no)).Nodup):
  ev (cf (n+3)) gv (.blt .dictc (.cons QM .nil)) [e0,e1,e2,e3,e4,e5,e6,e7] m=.ok (.t (Qv (row ru ws))) m:=by
 subst h1 h2
 have hlen:(row ru ws).length<=10:=by
  unfold row
  rw[Yc,(QH ws).length_eq]
  exact hu
 have hz:((YF (row ru ws).length).zip (row ru ws)).length<=10:=by
  rw[Wo]
  omega
 have hrow:ev (cf (n+3)) gv (.call 17 (.cons (.var 0) (.cons (.var 2) .nil))) [some (.t (ruT ru)),e1,some (.t (wsT ws)),e3,e4,e5,e6,e7] m=.ok (.t (il (row ru ws))) m:=(Zr (Za rfl) (Za rfl)).trans (row_ok (n:=n) hl (by omega) hn)
 have hc:ev (cf (n+3)) gv QM [some (.t (ruT ru)),e1,some (.t (wsT ws)),e3,e4,e5,e6,e7] m=.ok (.t (.lst (((YF (row ru ws).length).zip (row ru ws)).flatMap λp=>[T.int p.2,.int (p.1:Int)]))) m:=by
  refine ZaG ((YF (row ru ws).length).zip (row ru ws)) (emb:=λp=>T.tup [.int (p.1:Int),.int p.2]) (x:=.lst (ZcG ((row ru ws).map .int))) (Qe (ev_tr hrow) (if_pos (by rw[Yc];unfold lim;omega))) (by rw[Zo1];rfl) (λp _=>⟨[some (.t (.int (p.1:Int))),some (.t (.int p.2))],rfl,Zad (ZgF (Za rfl) (Za rfl))⟩) ?_
  have:=ZbG (l:=(YF (row ru ws).length).zip (row ru ws)) (f:=λp:Nat×Int=>[T.int p.2,.int (p.1:Int)]) (c:=2) λ_ _=>Yj _
  unfold lim
  omega
 exact Qe hc (Zku (by rw[Zh6];exact ZiK hn) (by omega))
theorem ZlH(hn:(ws.map (·.no)).Nodup){w:Wt}(hw:w∈ws):bltT .dget [Qv (row ru ws),.int w.no]=some (.int (pos ru ws w.no)):=by
 have hm:w.no∈row ru ws:=Yz.mpr ⟨w,(QH ws).mem_iff.mpr hw,rfl⟩
 have hi:(row ru ws).idxOf w.no<(row ru ws).length:=List.idxOf_lt_length_of_mem hm
 have hp:((row ru ws).idxOf w.no,w.no)∈(YF (row ru ws).length).zip (row ru ws):=by
  refine Gq.mpr ⟨(row ru ws).idxOf w.no,by rw[Wo,W6,Ybd];exact hi,?_⟩
  rw[Yaa,List.getElem_range,List.getElem_idxOf]
 exact Zm7 (f:=λp:Nat×Int=>p.2) (g:=λp=>T.int (p.1:Int)) (by rw[Zh6];exact ZiK hn) hp
theorem key_nd(hn:(ws.map (·.no)).Nodup){x:List Int}(h:InS bn ws x):(x.map (pos ru ws)).Nodup:=by
 have hx:x.Nodup:=by
  obtain⟨v,hv,w,hw,a1,a2,a3,h⟩:=h
  have e1:v.no≠w.no:=JN hn hv hw (by rw[a1,a2];decide)
  rcases h with⟨_,u,hu,c1,c2,rfl⟩|⟨_,rfl⟩
  ·have e2:v.no≠u.no:=JN hn hv hu (by rw[a1,c2];decide)
   have e3:w.no≠u.no:=JN hn hw hu (by rw[a2,c2];decide)
   simp[e1,e2,e3]
  ·simp[e1]
 have num:=QX h
 clear h
 induction x with
 |nil=>exact Vg
 |cons a x ih =>
  obtain⟨h1,h2⟩:=Wb.mp hx
  rw[Yq,Wb]
  refine⟨λhm=>?_,ih h2 λb hb=>num b (Yg _ hb)⟩
  obtain⟨b,hb,e⟩:=Yz.mp hm
  obtain⟨v,hv,rfl⟩:=num a Yp
  obtain⟨w,hw,rfl⟩:=num b (Yg _ hb)
  rw[Zi0 hn hw hv e]at hb
  exact h1 hb
theorem key_ok(hn:(ws.map (·.no)).Nodup){x:List Int}(h:InS bn ws x):ev (cf n) gv Z4 [some (.t (tupT x)),some (.t (Qv (row ru ws)))] m=.ok (.t (.lst ((key ru ws x).map .int))) m:=by
 have hlen:=ZaA h
 have num:=QX h
 have hc:ev (cf n) gv JF [some (.t (tupT x)),some (.t (Qv (row ru ws)))] m=.ok (.t (.lst (x.flatMap λa=>[T.int (pos ru ws a)]))) m:=by
  refine ZaG (emb:=T.int) x (Za rfl) rfl (λa ha=>⟨[some (.t (.int a)),some (.t (Qv (row ru ws)))],rfl,Zad (Qw (ZfF (Za rfl) (Za rfl) ?_))⟩) ?_
  ·obtain⟨w,hw,rfl⟩:=num a ha
   exact ZlH hn hw
  ·rw[ZC,Yc]
   unfold lim
   omega
 rw[ZC]at hc
 refine Qe hc ?_
 show Zir (x.map λa=>T.int (pos ru ws a))=_
 unfold Zir
 rw[ints_map (pos ru ws)]
 show(if(x.map (pos ru ws)).Nodup/\(x.map (pos ru ws)).length<64 then _ else none)=_
 rw[if_pos ⟨key_nd hn h,by rw[Yc];omega⟩]
 rw[Y0,show(λn:Int=>[n]) ∘ pos ru ws=λb=>[pos ru ws b]from rfl,Ziw,Y0]
 unfold key keyB
 rw[Y0]
 rfl
theorem ZgA(hn:(ws.map (·.no)).Nodup):∀L:List (List Int),(∀x∈L,InS bn ws x)->J6 (λenv m=>ev (cf n) gv Z4 env m) [some (.t (Qv (row ru ws)))] (L.map tupT) m=.ok (L.map (key ru ws)) m
 |[],_=>rfl
 |x::L,h=>by
  have hk:keyL (.t (.lst ((key ru ws x).map .int)))=some (key ru ws x):=Zfy _
  rw[Yq,J6,key_ok hn (h x Yp),Zf,hk]
  show(J6 _ _ (L.map tupT) m).bind _=_
  rw[ZgA hn L λy hy=>h y (Yg _ hy)]
  rfl
def fitT(ws:List Wt)(x:List Int):Option T:=if 0<prt ws x then some (.tup [tupT x,.int (prt ws x)])else none
theorem Zo2(hn:(ws.map (·.no)).Nodup){x:List Int}(hx:Num ws x)(hl:x.length<=3){e0 e1 e2 e4 e5 e7:Option W}:ev (cf n) gv Qk [e0,e1,e2,some (.t (J4 ws)),e4,e5,some (.t (tupT x)),e7] m=.ok (.t (setT (x.map (ZcH ws)))) m:=by
 have hc:ev (cf n) gv Qk [e0,e1,e2,some (.t (J4 ws)),e4,e5,some (.t (tupT x)),e7] m=.ok (.t (.lst (x.flatMap λa=>[(ZcH ws a).t]))) m:=by
  refine ZaG (emb:=T.int) x (Za rfl) rfl (λa ha=>⟨[some (.t (.int a)),some (.t (J4 ws))],rfl,Zad (Qw (ZfF (Za rfl) (Za rfl) ?_))⟩) ?_
  ·obtain⟨w,hw,rfl⟩:=hx a ha
   rw[ZeP hn hw]
   exact Zm7 (f:=λw:Wt=>w.no) (g:=λw=>w.e.t) hn hw
  ·rw[ZC,Yc]
   unfold lim
   omega
 rw[ZC]at hc
 unfold setT
 rw[Y0]
 exact hc
theorem Zo3(hn:(ws.map (·.no)).Nodup)(ho:∀w∈ws,EntOk w.e){x:List Int}(hx:Num ws x):∀e∈x.map (ZcH ws),EntOk e:=λe he=>by
 obtain⟨a,ha,rfl⟩:=Yz.mp he
 obtain⟨w,hw,rfl⟩:=hx a ha
 rw[ZeP hn hw]
 exact ho w hw
theorem ZmW(hn:(ws.map (·.no)).Nodup)(ho:∀w∈ws,EntOk w.e){x:List Int}(h:InS bn ws x):cf (n+8) 14 [.t (setT (x.map (ZcH ws)))] m=.ok (.t (.int (prt ws x))) m:=by
 have hlen:=ZaA h
 refine Zoq (λz=>?_) (by rw[Yc];omega) (Zo3 hn ho (QX h))
 have:=congrArg VN z
 rw[Yc]at this
 rcases hlen with h|h<;>rw[h]at this<;>cases this
theorem ZdH(hl:ru.length<=3)(hu:ws.length<=10)(hn:(ws.map (·.no)).Nodup)(ho:∀w∈ws,EntOk w.e):
  ∃r,cf (n+9) 21 [.t (ruT ru),.t (bnT bn),.t (wsT ws)] m=.ok (.t (resT r)) m/\FS ru bn ws r:=by
 have mL:∀x,x∈sortI (Q7 bn ws)↔InS bn ws x:=λx=>(sortI_perm _).mem_iff.trans Zd4
 have nL:(sortI (Q7 bn ws)).Nodup:=(sortI_perm _).nodup_iff.mpr (Zgd hn)
 have lL:(sortI (Q7 bn ws)).length<64:=by rw[(sortI_perm _).length_eq];exact Zd5 hu
 have hs:ev (cf (n+8)) gv (.sortk [4] (.call 19 (.cons (.var 1) (.cons (.var 2) .nil))) Z4) [some (.t (ruT ru)),some (.t (bnT bn)),some (.t (wsT ws)),some (.t (J4 ws)),some (.t (Qv (row ru ws))),none,none,none] m=.ok (.t (.lst ((Zfc (key ru ws) (sortI (Q7 bn ws))).map tupT))) m:=by
  rw[ev,(Zr (Za rfl) (Za rfl)).trans (ZnN (n:=n+5) hu hn),Zf]
  show(J6 (λenv m=>ev (cf (n+8)) gv Z4 env m) [some (.t (Qv (row ru ws)))] ((sortI (Q7 bn ws)).map tupT) m).only.bind _=_
  rw[ZgA (bn:=bn) hn _ λx hx=>(mL x).mp hx]
  show pur (XH ((sortI (Q7 bn ws)).map (key ru ws)) ((sortI (Q7 bn ws)).map tupT)) m=_
  unfold XH
  have kn:∀L:List (List Int),L.Nodup->(∀x∈L,InS bn ws x)->(L.map (key ru ws)).Nodup:=λL=>by
   induction L with
   |nil=>exact λ_ _=>Vg
   |cons a L ih =>
    intro h1 h2
    obtain⟨h3,h4⟩:=Wb.mp h1
    rw[Yq,Wb]
    refine⟨λhm=>?_,ih h4 λx hx=>h2 x (Yg _ hx)⟩
    obtain⟨b,hb,e⟩:=Yz.mp hm
    rw[ZjT hn (h2 b (Yg _ hb)) (h2 a Yp) e]at hb
    exact h3 hb
  rw[if_pos ⟨kn _ nL λx hx=>(mL x).mp hx,by rw[Yc];exact lL⟩,Zby,Zfb,Y0]
  rfl
 have mQ:∀x,x∈Zfc (key ru ws) (sortI (Q7 bn ws))↔InS bn ws x:=λx=>(ZcN _).mem_iff.trans (mL x)
 have pQ:=Zlf (k:=key ru ws) (sortI (Q7 bn ws))
 generalize Zfc (key ru ws) (sortI (Q7 bn ws))=Q at hs mQ pQ
 have hf:=ZaE (call:=cf (n+8)) (tg:=.nm 6) (it:=.var 5) (body:=ZQ) (k:=.ret (.con .non) .done) (m:=m) (P:=λenv=>∃e6 e7,env=[some (.t (ruT ru)),some (.t (bnT bn)),some (.t (wsT ws)),some (.t (J4 ws)),some (.t (Qv (row ru ws))),some (.t (.lst (Q.map tupT))),e6,e7]) (emb:=tupT) (g:=fitT ws) (as:=Q) (env:=[some (.t (ruT ru)),some (.t (bnT bn)),some (.t (wsT ws)),some (.t (J4 ws)),some (.t (Qv (row ru ws))),some (.t (.lst (Q.map tupT))),none,none]) (Za rfl) rfl ⟨_,_,rfl⟩ (λx hx env he=>by
  obtain⟨e6,e7,rfl⟩:=he
  have hI:=(mQ x).mp hx
  have hlen:=ZaA hI
  refine⟨[some (.t (ruT ru)),some (.t (bnT bn)),some (.t (wsT ws)),some (.t (J4 ws)),some (.t (Qv (row ru ws))),some (.t (.lst (Q.map tupT))),some (.t (tupT x)),e7],rfl,?_⟩
  have step:∀K:S,ex (cf (n+8)) gv (.asg 7 (.call 14 (.cons Qk .nil)) K) [some (.t (ruT ru)),some (.t (bnT bn)),some (.t (wsT ws)),some (.t (J4 ws)),some (.t (Qv (row ru ws))),some (.t (.lst (Q.map tupT))),some (.t (tupT x)),e7] m=ex (cf (n+8)) gv K [some (.t (ruT ru)),some (.t (bnT bn)),some (.t (wsT ws)),some (.t (J4 ws)),some (.t (Qv (row ru ws))),some (.t (.lst (Q.map tupT))),some (.t (tupT x)),some (.t (.int (prt ws x)))] m:=λK =>
   Zm ((Z9 (Zo2 hn (QX hI) (by omega))).trans (ZmW hn ho hI))
  have ht:ev (cf (n+8)) gv (.cmp .Gt (.var 7) (.con (.int 0))) [some (.t (ruT ru)),some (.t (bnT bn)),some (.t (wsT ws)),some (.t (J4 ws)),some (.t (Qv (row ru ws))),some (.t (.lst (Q.map tupT))),some (.t (tupT x)),some (.t (.int (prt ws x)))] m=.ok (.t (.bl (decide (0<prt ws x)))) m:=Zy (Za rfl) (Zb _) (c_gt _ _)
  unfold fitT
  by_cases c:0<prt ws x
  ·rw[if_pos c]
   rw[decide_eq_true c]at ht
   show ex (cf (n+8)) gv ZQ _ m=_
   unfold ZQ
   rw[step]
   exact Qm ht (Zh (Zcf (Za rfl) (Za rfl)))
  ·rw[if_neg c]
   rw[decide_eq_false c]at ht
   refine⟨_,?_,some (.t (tupT x)),some (.t (.int (prt ws x))),rfl⟩
   unfold ZQ
   rw[step]
   exact(ZS ht).trans Z5)
 have head:∀R:Res Flow,ex (cf (n+8)) gv (.forr (.nm 6) (.var 5) ZQ (.ret (.con .non) .done)) [some (.t (ruT ru)),some (.t (bnT bn)),some (.t (wsT ws)),some (.t (J4 ws)),some (.t (Qv (row ru ws))),some (.t (.lst (Q.map tupT))),none,none] m=R->ex (cf (n+8)) gv Z7 [some (.t (ruT ru)),some (.t (bnT bn)),some (.t (wsT ws)),none,none,none,none,none] m=R:=λR h=>by
  unfold Z7
  refine(Zm ((Z9 (Za rfl)).trans (ZdO (n:=n+7) hu hn))).trans ?_
  dsimp only[Yw,Yx]
  refine(Zm (Zi2 (n:=n+5) (r:=[]) rfl rfl hl hu hn)).trans ?_
  dsimp only[Yw,Yx]
  refine(Zm hs).trans ?_
  dsimp only[Yw,Yx]
  exact h
 cases q:Q.findSome? (fitT ws)with
 |none =>
  rw[q]at hf
  obtain⟨env',h1,_⟩:=hf
  have hz:=List.findSome?_eq_none_iff.mp q
  refine⟨none,ZD (J5 _ _ _) rfl (head _ (h1.trans (Zh (Zb _)))) (Zn (cell:=false) rfl),λx hx hp=>?_⟩
  have:=hz x ((mQ x).mpr hx)
  unfold fitT at this
  rw[if_pos hp]at this
  cases this
 |some t =>
  rw[q]at hf
  obtain⟨l1,x,l2,e,h1,h2⟩:=List.findSome?_eq_some_iff.mp q
  have hx:x∈Q:=by rw[e];simp
  have c:0<prt ws x:=by
   unfold fitT at h1
   by_cases c:0<prt ws x
   ·exact c
   ·rw[if_neg c]at h1;cases h1
  have ht:t=resT (some (x,prt ws x)):=by
   unfold fitT at h1
   rw[if_pos c]at h1
   exact(YG h1).symm
  subst ht
  refine⟨some (x,prt ws x),ZD (J5 _ _ _) rfl (head _ hf) (Zn (cell:=false) rfl),(mQ x).mp hx,c,rfl,λy hy hp=>?_⟩
  have hyQ:=(mQ y).mpr hy
  rw[e]at hyQ pQ
  rcases Gs.mp hyQ with h|h
  ·have:=h2 y h
   unfold fitT at this
   rw[if_pos hp]at this
   cases this
  ·rcases Yh.mp h with rfl|h
   ·exact ZdC _
   ·exact(Y6.mp (List.pairwise_append.mp pQ).2.1).1 y h
end
section
variable{call:Nat->List W->Mem->Res W}{gv:List T}{env:Env}{m m1 m2:Mem}{a b:E}{w w':W}
theorem ZoY{op:Yca}{x y:T}{k:Bool}(h1:ev call gv a env m=.ok w m1)(h2:ev call gv b env m1=.ok w' m2)(hv:view w m2=some x)(hv':view w' m2=some y)(h3:cmpT op x y=some k):ev call gv (.cmp op a b) env m=.ok (.t (.bl k)) m2:=by
 rw[ev,h1,Zf,h2,Zf]
 show pur (((view w m2).bind λx=>(view w' m2).bind λy=>cmpT op x y).map .bl) m2=_
 rw[hv,hv']
 show pur ((cmpT op x y).map .bl) m2=_
 rw[h3]
 rfl
end
section
variable{n:Nat}{m:Mem}{ru bn:List (List Nat)}{ws us:List Wt}
theorem Zmf{x:List Int}(h:InS bn ws x):∃v∈ws,Num (ws.filter (isK v.e.kd)) x:=by
 obtain⟨v,hv,w,hw,_,_,a3,h⟩:=h
 have mem:∀u∈ws,u.e.kd=v.e.kd->u∈ws.filter (isK v.e.kd):=λu hu e=>Wu.mpr ⟨hu,by unfold isK;rw[e];exact beq_self_eq_true _⟩
 refine⟨v,hv,λa ha=>?_⟩
 rcases h with⟨_,u,hu,c1,_,rfl⟩|⟨_,rfl⟩<;>simp only[Yh,YC,or_false]at ha
 ·rcases ha with rfl|rfl|rfl
  ·exact⟨v,mem v hv rfl,rfl⟩
  ·exact⟨w,mem w hw a3,rfl⟩
  ·exact⟨u,mem u hu c1,rfl⟩
 ·rcases ha with rfl|rfl
  ·exact⟨v,mem v hv rfl,rfl⟩
  ·exact⟨w,mem w hw a3,rfl⟩
theorem Jx(hn:(ws.map (·.no)).Nodup)(p:Wt->Bool):((ws.filter p).map (·.no)).Nodup:=List.Pairwise.sublist (Yb2.map _ Yau) hn
theorem FS.none_sub(hn:(ws.map (·.no)).Nodup)(p:Wt->Bool)(h:FS ru bn ws none){r:Option (List Int×Int)}(hr:FS ru bn (ws.filter p) r):r=none:=
 (FS.uniq (Jx hn p) hr (h.sub hn (Jx hn p) (λw hw=>(Wu.mp hw).1) λ_ _ z=>by cases z))
theorem FS.some_sub(hn:(ws.map (·.no)).Nodup)(p:Wt->Bool){x:List Int}{k:Int}(h:FS ru bn ws (some (x,k)))(hx:Num (ws.filter p) x){r:Option (List Int×Int)}(hr:FS ru bn (ws.filter p) r):r=some (x,k):=
 (FS.uniq (Jx hn p) hr (h.sub hn (Jx hn p) (λw hw=>(Wu.mp hw).1) λy l z=>by cases z;exact hx))
theorem ZjP(hn:(ws.map (·.no)).Nodup)(ho:∀w∈ws,Wok w):∀{r r1 r2 r3:Option (List Int×Int)},FS ru bn ws r->FS ru bn (ws.filter (isK ryeS)) r1->FS ru bn (ws.filter (isK oatS)) r2->FS ru bn (ws.filter (isK oS)) r3 ->
  (r=r1∨r=r2∨r=r3)/\r.isNone=(r1.isNone&&(r2.isNone&&r3.isNone))
 |none,r1,r2,r3,h,h1,h2,h3=>by
  rw[h.none_sub hn _ h1,h.none_sub hn _ h2,h.none_sub hn _ h3]
  exact⟨.inl rfl,rfl⟩
 |some (x,k),r1,r2,r3,h,h1,h2,h3=>by
  obtain⟨v,hv,hx⟩:=Zmf h.1
  rcases(ho v hv).kd with e|e|e<;>rw[e]at hx
  ·rw[h.some_sub hn _ hx h1]
   exact⟨.inl rfl,rfl⟩
  ·rw[h.some_sub hn _ hx h2]
   exact⟨.inr (.inl rfl),by simp⟩
  ·rw[h.some_sub hn _ hx h3]
   exact⟨.inr (.inr rfl),by simp⟩
theorem Zf7(k:Nat)(x:List Int):Zg (k+1) (tupT x)=true:=by
 unfold tupT
 rw[Zg]
 exact Qz.mpr λt ht=>by
  obtain⟨a,_,rfl⟩:=Yz.mp ht
  cases k<;>rfl
theorem Jk(r:Option (List Int×Int)):Zg 59 (resT r)=true:=by
 rcases r with _|⟨x,k⟩
 ·rfl
 ·unfold resT
  rw[Zg]
  exact Qz.mpr λt ht=>by
   simp only[Yh,YC,or_false]at ht
   rcases ht with rfl|rfl
   ·exact Zf7 57 x
   ·rfl
theorem ZcR(r:Option (List Int×Int)):Zg 60 (resT r)=true:=by
 rcases r with _|⟨x,k⟩
 ·rfl
 ·unfold resT
  rw[Zg]
  exact Qz.mpr λt ht=>by
   simp only[Yh,YC,or_false]at ht
   rcases ht with rfl|rfl
   ·exact Zf7 58 x
   ·rfl
theorem res_none(r:Option (List Int×Int)):eqT (resT r) .non=r.isNone:=by
 rcases r with _|⟨x,k⟩
 ·rfl
 ·simp[resT,eqT]
theorem Zea(r:Option (List Int×Int)):cmpT .Is (resT r) .non=some r.isNone:=by
 rcases r with _|⟨x,k⟩<;>rfl
theorem Zd9(r:Option (List Int×Int)):cmpT .IsNot (resT r) .non=some (!r.isNone):=by
 rcases r with _|⟨x,k⟩<;>rfl
theorem ZmJ{r r1 r2 r3:Option (List Int×Int)}(h:r=r1∨r=r2∨r=r3):cmpT .NotIn (resT r) (.lst [resT r1,resT r2,resT r3])=some false:=by
 have ha:([resT r1,resT r2,resT r3].any λt=>eqT t (resT r))=true:=by
  have he:=ZgH 59 _ (Jk r)
  rcases h with h|h|h<;>subst h<;>simp[he]
 have hd:(Zg 59 (resT r)&&Zk 59 [resT r1,resT r2,resT r3])=true:=by
  rw[Zk,Zk,Zk,Jk,Jk,Jk,Jk]
  rfl
 have h1:hasT (resT r) (.lst [resT r1,resT r2,resT r3])=some true:=by
  unfold hasT
  dsimp only
  rw[ha,hd]
  split<;>rfl
 have h2:inT (resT r) (.lst [resT r1,resT r2,resT r3])=some true:=by
  rw[<-h1]
  rcases r with _|⟨x,k⟩<;>rfl
 show(inT (resT r) (.lst [resT r1,resT r2,resT r3])).map (!·)=_
 rw[h2]
 rfl
theorem ZmK{r1 r2 r3:Option (List Int×Int)}:cmpT .Eq (.lst [resT r1,resT r2,resT r3]) (.lst [.non,.non,.non])=some (r1.isNone&&(r2.isNone&&r3.isNone)):=by
 have h1:Zg 60 (.lst [resT r1,resT r2,resT r3])=true:=by
  rw[Zg,Zk,Zk,Zk,Jk,Jk,Jk]
  rfl
 show(if(Zdf (.lst [resT r1,resT r2,resT r3]) (.lst [.non,.non,.non]) || (Zg 60 (.lst [resT r1,resT r2,resT r3])&&Zg 60 (.lst [.non,.non,.non])))=true then some (eqT (.lst [resT r1,resT r2,resT r3]) (.lst [.non,.non,.non]))else none)=_
 rw[h1,show Zg 60 (.lst [.non,.non,.non])=true from rfl,YbB,Ybi,if_pos rfl,eqT,eqTs,eqTs,eqTs,res_none,res_none,res_none,eqTs,YbB]
theorem ne_bl(a:Bool):cmpT .NotEq (.bl a) (.bl a)=some false:=by cases a<;>rfl
theorem Zni(a:Int)(x:List Int):cmpT .In (.int a) (tupT x)=some (x.any λb=>b==a)/\cmpT .NotIn (.int a) (tupT x)=some (!x.any λb=>b==a):=by
 have h:hasT (.int a) (tupT x)=some (x.any λb=>b==a):=by
  unfold hasT tupT
  dsimp only
  have hf:(x.map T.int).all flat=true:=Wa.mpr λt ht=>by
   obtain⟨b,_,rfl⟩:=Yz.mp ht
   rfl
  rw[hf,show(flat (T.int a)&&true)=true from rfl,if_pos rfl,YbY]
  refine congrArg some (congrArg (λf=>List.any x f) (funext λb=>?_))
  simp[eqT]
 exact⟨h,by show(hasT (.int a) (tupT x)).map (!·)=_;rw[h];rfl⟩
theorem ZkW{a:Int}{x:List Int}:(x.any λb=>b==a)=true↔a∈x:=by
 rw[GK]
 constructor
 ·rintro ⟨b,hb,e⟩
  rw[<-eq_of_beq e]
  exact hb
 ·intro h
  exact⟨a,h,beq_self_eq_true _⟩
theorem ZgS{a:Int}(hu:ws.length<=10):cf (n+1) 34 [.t (wsT ws),.t (.int a)] m=.ok (.t (wsT (ws.filter λw=>!(w.no==a)))) m:=by
 have hc:ev (cf n) gv Zbr [some (.t (wsT ws)),some (.t (.int a))] m=.ok (.t (wsT (ws.filter λw=>!(w.no==a)))) m:=by
  unfold wsT
  rw[<-ZP (λw=>!(w.no==a)) Wt.t]
  refine ZaG ws (Za rfl) rfl (λw _=>⟨[some (.t w.t),some (.t (.int a))],rfl,?_⟩) ?_
  ·have ht:ev (cf n) gv (.cmp .NotEq (.ix (.var 0) (.con (.int 0))) (.var 1)) [some (.t w.t),some (.t (.int a))] m=.ok (.t (.bl (!(w.no==a)))) m:=Zy (ZG (Za rfl) (Zb _) rfl) (Za rfl) (ZmG _ _)
   cases h:(!(w.no==a))with
   |true=>rw[h]at ht;exact ZdV ht (Qw (Za rfl))
   |false=>rw[h]at ht;exact ZdW ht
  ·rw[ZP,Yc]
   exact YJ (Wg _ _) (YJ hu (by decide))
 exact ZD (ZfP _ _ _) rfl (Zh hc) (Zn (cell:=false) rfl)
theorem Zma{k:List Nat}(hu:ws.length<=10){e0 e1 e3 e4 e6 e7 e8 e9:Option W}:ev (cf n) gv Zc7 [e0,e1,some (.t (wsT ws)),e3,e4,some (.t (.str k)),e6,e7,e8,e9] m=.ok (.t (wsT (ws.filter (isK k)))) m:=by
 unfold wsT
 rw[<-ZP (isK k) Wt.t]
 refine ZaG ws (Za rfl) rfl (λw _=>⟨[some (.t w.t),some (.t (.str k))],rfl,?_⟩) ?_
 ·have ht:ev (cf n) gv (.cmp .Eq (.ix (.ix (.ix (.var 0) (.con (.int 1))) (.con (.int 1))) (.con (.int 1))) (.var 1)) [some (.t w.t),some (.t (.str k))] m=.ok (.t (.bl (isK k w))) m:=Zy (ZG (ZG (ZG (Za rfl) (Zb _) rfl) (Zb _) rfl) (Zb _) rfl) (Za rfl) (ZcJ _ _)
  cases h:isK k w with
  |true=>rw[h]at ht;exact ZdV ht (Qw (Za rfl))
  |false=>rw[h]at ht;exact ZdW ht
 ·rw[ZP,Yc]
  exact YJ (Wg _ _) (YJ hu (by decide))
theorem ZhM(hn:(ws.map (·.no)).Nodup){w:Wt}(hw:w∈ws):(ws.filter λv=>v.no==w.no)=[w]:=by
 induction ws with
 |nil=>cases hw
 |cons a ws ih =>
  rw[Yq,Wb]at hn
  rw[Uw]
  rcases Yh.mp hw with rfl|h
  ·rw[beq_self_eq_true,if_pos rfl,List.filter_eq_nil_iff.mpr λv hv e=>hn.1 (Yz.mpr ⟨v,hv,eq_of_beq e⟩)]
  ·rw[show(a.no==w.no)=false from by
    cases q:(a.no==w.no)with
    |false=>rfl
    |true=>exact absurd (Yz.mpr ⟨w,h,(eq_of_beq q).symm⟩) hn.1,if_neg Yl]
   exact ih hn.2 h
theorem ZdZ(hu:ws.length<=10)(hn:(ws.map (·.no)).Nodup){e1:Option W}:∀(x:List Int) (es:List Ent) (e3:Option W),Num ws x->es.length+x.length<=50->∃g3,Z2 (ex (cf n) gv Xd) (.nm 3) (x.map .int) [some (.t (wsT ws)),e1,some (.t (setT es)),e3] m=.ok (.next [some (.t (wsT ws)),e1,some (.t (setT (es++x.map (ZcH ws)))),g3]) m
 |[],es,e3,_,_=>⟨e3,by rw[Vp,Vp,Ua];rfl⟩
 |a::x,es,e3,hx,hl=>by
  rw[YB]at hl
  obtain⟨w,hw,rfl⟩:=hx a Yp
  obtain⟨g3,h2⟩:=ZdZ hu hn x (es++[w.e]) (some (.t (.int w.no))) (λb hb=>hx b (Yg _ hb)) (by rw[Yr,Y5];omega)
  have hc:ev (cf n) gv ZeY [some (.t (wsT ws)),e1,some (.t (setT es)),some (.t (.int w.no))] m=.ok (.t (.lst [w.e.t])) m:=by
   have:([w.e.t]:List T)=ws.flatMap λv=>if v.no==w.no then[v.e.t]else[]:=by
    rw[ZP (λv:Wt=>v.no==w.no) λv=>v.e.t,ZhM hn hw]
    rfl
   rw[this]
   refine ZaG ws (Za rfl) rfl (λv _=>⟨[some (.t (.int v.no)),some (.t v.e.off),some (.t (.int v.e.left)),some (.t (.int w.no))],rfl,?_⟩) (by rw[<-this];exact YJ (show(1:Nat)<=1 from Yj _) (by decide))
   have ht:ev (cf n) gv (.cmp .Eq (.var 0) (.var 3)) [some (.t (.int v.no)),some (.t v.e.off),some (.t (.int v.e.left)),some (.t (.int w.no))] m=.ok (.t (.bl (v.no==w.no))) m:=Zy (Za rfl) (Za rfl) (ZmH _ _)
   cases h:(v.no==w.no)with
   |true=>rw[h]at ht;exact ZdV ht (Qw (Zcf (Za rfl) (Za rfl)))
   |false=>rw[h]at ht;exact ZdW ht
  refine⟨g3,?_⟩
  rw[Yq,Z2]
  show(ex (cf n) gv Xd [some (.t (wsT ws)),e1,some (.t (setT es)),some (.t (.int w.no))] m).bind _=_
  have hb:ex (cf n) gv Xd [some (.t (wsT ws)),e1,some (.t (setT es)),some (.t (.int w.no))] m=.ok (.next [some (.t (wsT ws)),e1,some (.t (setT (es++[w.e]))),some (.t (.int w.no))]) m:=by
   unfold Xd
   refine(Zm (ZM (Za rfl) hc (r:=setT (es++[w.e])) ?_)).trans Z5
   unfold setT
   rw[Uc,ZkU (by rw[Yc];show es.length+1<=lim;unfold lim;omega)]
   rfl
  rw[hb,Zf]
  show Z2 _ _ _ _ _=_
  rw[h2,Yq,ZeP hn hw,Wm]
  rfl
theorem ZnJ(hu:ws.length<=10)(hn:(ws.map (·.no)).Nodup){x:List Int}(hx:Num ws x)(hl:x.length<=3):cf (n+1) 35 [.t (wsT ws),.t (tupT x)] m=.ok (.t (setT (x.map (ZcH ws)))) m:=by
 obtain⟨g3,h⟩:=ZdZ (n:=n) (m:=m) (e1:=some (.t (tupT x))) hu hn x [] none hx (by rw[Wn];omega)
 rw[G4]at h
 have key:ex (cf n) gv Zcr [some (.t (wsT ws)),some (.t (tupT x)),none,none] m=.ok (.ret (.t (setT (x.map (ZcH ws))))) m:=by
  unfold Zcr
  refine(Zm (QC Zq rfl ZW)).trans ?_
  dsimp only[Yw,Yx]
  refine(Q4 (Za rfl) rfl h).trans ?_
  exact Zh (Za rfl)
 exact ZD (Zmz _ _ _) rfl key (Zn (cell:=false) rfl)
theorem Zb6(hl:ru.length<=3)(hu:ws.length<=10)(hn:(ws.map (·.no)).Nodup)(ho:∀w∈ws,Wok w){k:List Nat}{xs:List T}(hx:xs.length<10){e3 e6 e7 e8 e9:Option W}:
  ∃r,ex (cf (n+9)) gv QK [some (.t (ruT ru)),some (.t (bnT bn)),some (.t (wsT ws)),e3,some (.c m.length),some (.t (.str k)),e6,e7,e8,e9] (m++[some (false,xs)])=.ok (.next [some (.t (ruT ru)),some (.t (bnT bn)),some (.t (wsT ws)),e3,some (.c m.length),some (.t (.str k)),e6,e7,e8,e9]) (m++[some (false,xs++[resT r])])/\FS ru bn (ws.filter (isK k)) r:=by
 obtain⟨r,h1,h2⟩:=ZdH (n:=n) (m:=m++[some (false,xs)]) (bn:=bn) (ws:=ws.filter (isK k)) hl (YJ (Wg _ _) hu) (Jx hn _) λw hw=>(ho w (Wu.mp hw).1).ent
 refine⟨r,?_,h2⟩
 unfold QK
 refine(Zce (ZgE (.inl rfl) rfl Xe ((ZaF (Za rfl) (Za rfl) (Zma hu)).trans h1) Xe (show mutM .append xs [resT r]=some (.non,xs++[resT r])from if_pos (by unfold lim;omega)))).trans ?_
 rw[Zfd]
 exact Z5
end
section
variable{n:Nat}{m:Mem}{ru bn:List (List Nat)}{ws:List Wt}
theorem ZlV(hl:ru.length<=3)(hu:ws.length<=10)(hn:(ws.map (·.no)).Nodup)(ho:∀w∈ws,Wok w){r:Option (List Int×Int)}(hr:FS ru bn ws r){w:Wt}(hw:w∈ws){e4 e5 e9:Option W}:
  ∃g9,ex (cf (n+9)) gv Xx [some (.t (ruT ru)),some (.t (bnT bn)),some (.t (wsT ws)),some (.t (resT r)),e4,e5,some (.t (.int w.no)),some (.t w.e.off),some (.t (.int w.e.left)),e9] m=.ok (.next [some (.t (ruT ru)),some (.t (bnT bn)),some (.t (wsT ws)),some (.t (resT r)),e4,e5,some (.t (.int w.no)),some (.t w.e.off),some (.t (.int w.e.left)),g9]) m:=by
 obtain⟨r',h1,h2⟩:=ZdH (n:=n) (m:=m) (bn:=bn) (ws:=ws.filter λv=>!(v.no==w.no)) hl (YJ (Wg _ _) hu) (Jx hn _) λw hw=>(ho w (Wu.mp hw).1).ent
 refine⟨some (.t (resT r')),?_⟩
 unfold Xx
 refine(Zm ((ZaF (Za rfl) (Za rfl) ((Zr (Za rfl) (Za rfl)).trans (ZgS hu))).trans h1)).trans ?_
 dsimp only[Yw,Yx]
 have hin:∀x:List Int,Num ws x->w.no∉x->Num (ws.filter λv=>!(v.no==w.no)) x:=λx hx hw' a ha=>by
  obtain⟨v,hv,rfl⟩:=hx a ha
  refine⟨v,Wu.mpr ⟨hv,?_⟩,rfl⟩
  cases q:(v.no==w.no)with
  |false=>rfl
  |true=>rw[eq_of_beq q]at ha;exact absurd ha hw'
 rcases r with _|⟨x,k⟩
 ·-- nothing is told,nor without this one
  rw[hr.none_sub hn _ h2]
  have c1:ev (cf (n+9)) gv (.or (.cmp .Is (.var 3) (.con .non)) (.cmp .NotIn (.var 6) (.ix (.var 3) (.con (.int 0))))) [some (.t (ruT ru)),some (.t (bnT bn)),some (.t (wsT ws)),some (.t (resT none)),e4,e5,some (.t (.int w.no)),some (.t w.e.off),some (.t (.int w.e.left)),some (.t (resT none))] m=.ok (.t (.bl true)) m:=ev_orT (Zy (Za rfl) (Zb _) (Zea none))
  exact(ZgD c1 ((ZS (Zy (Za rfl) (Za rfl) (Zjv (ZcR none)))).trans Z5)).trans Z5
 ·have hi:∀g9:Option W,ev (cf (n+9)) gv (.or (.cmp .Is (.var 3) (.con .non)) (.cmp .NotIn (.var 6) (.ix (.var 3) (.con (.int 0))))) [some (.t (ruT ru)),some (.t (bnT bn)),some (.t (wsT ws)),some (.t (resT (some (x,k)))),e4,e5,some (.t (.int w.no)),some (.t w.e.off),some (.t (.int w.e.left)),g9] m=.ok (.t (.bl (!x.any λb=>b==w.no))) m:=λg9 =>
   (Znp (Zy (Za rfl) (Zb _) (Zea _))).trans (Zy (Za rfl) (ZG (Za rfl) (Zb _) rfl) (Zni _ _).2)
  cases q:(x.any λb=>b==w.no)with
  |false =>
   have hi:=hi (some (.t (resT (some (x,k)))))
   rw[q]at hi
   rw[hr.some_sub hn _ (hin x (QX hr.1) λz=>by rw[ZkW.mpr z]at q;cases q) h2]
   exact(ZgD hi ((ZS (Zy (Za rfl) (Za rfl) (Zjv (ZcR _)))).trans Z5)).trans Z5
  |true =>
   have hi:=hi (some (.t (resT r')))
   rw[q]at hi
   refine(Zno hi ((ZS ?_).trans Z5)).trans Z5
   rcases r' with _|⟨y,l⟩
   ·exact ZfG (Zy (Za rfl) (Zb _) (Zd9 _))
   ·refine(Zch (Zy (Za rfl) (Zb _) (Zd9 _))).trans (Zy (Za rfl) (ZG (Za rfl) (Zb _) rfl) ((Zni _ _).1.trans (congrArg some ?_)))
    cases q2:(y.any λb=>b==w.no)with
    |false=>rfl
    |true =>
     obtain⟨v,hv,e⟩:=QX h2.1 _ (ZkW.mp q2)
     have:=(Wu.mp hv).2
     rw[e,beq_self_eq_true]at this
     cases this
theorem Zlm(hl:ru.length<=3)(hu:ws.length<=10)(hn:(ws.map (·.no)).Nodup)(ho:∀w∈ws,Wok w):cf (n+10) 36 [.t (ruT ru),.t (bnT bn),.t (wsT ws)] m=.ok (.t (.bl true)) m:=by
 obtain⟨r,h1,hr⟩:=ZdH (n:=n) (m:=m) (bn:=bn) hl hu hn λw hw=>(ho w hw).ent
 obtain⟨r1,t1,f1⟩:=Zb6 (n:=n) (m:=m) (bn:=bn) hl hu hn ho (k:=ryeS) (xs:=[]) (by decide) (e3:=some (.t (resT r))) (e6:=none) (e7:=none) (e8:=none) (e9:=none)
 obtain⟨r2,t2,f2⟩:=Zb6 (n:=n) (m:=m) (bn:=bn) hl hu hn ho (k:=oatS) (xs:=[resT r1]) (show 1<10 by decide) (e3:=some (.t (resT r))) (e6:=none) (e7:=none) (e8:=none) (e9:=none)
 obtain⟨r3,t3,f3⟩:=Zb6 (n:=n) (m:=m) (bn:=bn) hl hu hn ho (k:=oS) (xs:=[resT r1,resT r2]) (show 2<10 by decide) (e3:=some (.t (resT r))) (e6:=none) (e7:=none) (e8:=none) (e9:=none)
 obtain⟨k1,k2⟩:=ZjP hn ho hr f1 f2 f3
 have hloop:Z2 (ex (cf (n+9)) gv QK) (.nm 5) [.str ryeS,.str oatS,.str oS] [some (.t (ruT ru)),some (.t (bnT bn)),some (.t (wsT ws)),some (.t (resT r)),some (.c m.length),none,none,none,none,none] (m++[some (false,[])])=.ok (.next [some (.t (ruT ru)),some (.t (bnT bn)),some (.t (wsT ws)),some (.t (resT r)),some (.c m.length),some (.t (.str oS)),none,none,none,none]) (m++[some (false,[resT r1,resT r2,resT r3])]):=by
  rw[Z2]
  show(ex (cf (n+9)) gv QK [some (.t (ruT ru)),some (.t (bnT bn)),some (.t (wsT ws)),some (.t (resT r)),some (.c m.length),some (.t (.str ryeS)),none,none,none,none] _).bind _=_
  rw[t1,Zf]
  dsimp only
  rw[Z2]
  show(ex (cf (n+9)) gv QK [some (.t (ruT ru)),some (.t (bnT bn)),some (.t (wsT ws)),some (.t (resT r)),some (.c m.length),some (.t (.str oatS)),none,none,none,none] (m++[some (false,[resT r1])])).bind _=_
  rw[t2,Zf]
  dsimp only
  rw[Z2]
  show(ex (cf (n+9)) gv QK [some (.t (ruT ru)),some (.t (bnT bn)),some (.t (wsT ws)),some (.t (resT r)),some (.c m.length),some (.t (.str oS)),none,none,none,none] (m++[some (false,[resT r1,resT r2])])).bind _=_
  rw[t3]
  rfl
 have hat:∀xs:List T,view (.c m.length) (m++[some (false,xs)])=some (.lst xs):=λxs=>ZmN Xe
 generalize hM:m++[some (false,[resT r1,resT r2,resT r3])]=M at hloop
 have hM2:view (.c m.length) M=some (.lst [resT r1,resT r2,resT r3]):=by rw[<-hM];exact hat _
 obtain⟨env2,M2,e2,q1,q2,q3,q4,q5,q6,rfl,rfl⟩:=Za4 (f:=ex (cf (n+9)) gv Xx) (tg:=.tp [6,7,8]) (P:=λenv M'=>∃q1 q2 q3 q4 q5 q6:Option W,env=[some (.t (ruT ru)),some (.t (bnT bn)),some (.t (wsT ws)),some (.t (resT r)),q1,q2,q3,q4,q5,q6]/\M'=M) (ws.map Wt.t) [some (.t (ruT ru)),some (.t (bnT bn)),some (.t (wsT ws)),some (.t (resT r)),some (.c m.length),some (.t (.str oS)),none,none,none,none] M ⟨_,_,_,_,_,_,rfl,rfl⟩ (by
  rintro t ht env M' ⟨q1,q2,q3,q4,q5,q6,rfl,rfl⟩
  obtain⟨w,hw,rfl⟩:=Yz.mp ht
  obtain⟨g9,h⟩:=ZlV (n:=n) (m:=M') hl hu hn ho hr hw (e4:=q1) (e5:=q2) (e9:=q6)
  exact⟨[some (.t (ruT ru)),some (.t (bnT bn)),some (.t (wsT ws)),some (.t (resT r)),q1,q2,some (.t (.int w.no)),some (.t w.e.off),some (.t (.int w.e.left)),q6],_,_,rfl,h,_,_,_,_,_,_,rfl,rfl⟩)
 have key:ex (cf (n+9)) gv ZaR [some (.t (ruT ru)),some (.t (bnT bn)),some (.t (wsT ws)),none,none,none,none,none,none,none] m=.ok (.ret (.t (.bl true))) M2:=by
  unfold ZaR
  refine(Zm ((ZaF (Za rfl) (Za rfl) (Za rfl)).trans h1)).trans ?_
  dsimp only[Yw,Yx]
  refine(Zm (w:=.c m.length) (m1:=m++[some (false,[])]) (by rw[ev,evs];rfl)).trans ?_
  dsimp only[Yw,Yx]
  refine(Q4 (QC (Zd (Zb _) (Zd (Zb _) (Zd (Zb _) Zq))) rfl ZW) rfl hloop).trans ?_
  refine(ZS (m1:=M2) ?_).trans ?_
  ·refine(Znp (ZoY (Za rfl) (Za rfl) rfl hM2 (ZmJ k1))).trans ?_
   refine Zy (Zy (Za rfl) (Zb _) (Zea r)) (Zkm (Za rfl) (QC (Zd (Zb _) (Zd (Zb _) (Zd (Zb _) Zq))) rfl ZW) hM2 ZmK) ?_
   rw[k2]
   exact ne_bl _
  refine(Q4 (Za rfl) rfl e2).trans ?_
  show ex (cf (n+9)) gv _ _ M2=_
  rcases r with _|⟨x,k⟩
  ·exact Qm (Zy (Za rfl) (Zb _) (Zea none)) (Zh (Zb _))
  ·refine(ZS (Zy (Za rfl) (Zb _) (Zea _))).trans (Zh ?_)
   obtain⟨a1,a2,a3,_⟩:=hr
   have hlen:=ZaA a1
   have hp:∀e:List (Option W),e[2]?=some (some (.t (wsT ws)))->e[3]?=some (some (.t (resT (some (x,k)))))->ev (cf (n+9)) gv (.cmp .Eq (.call 14 (.cons (.call 35 (.cons (.var 2) (.cons (.ix (.var 3) (.con (.int 0))) .nil))) .nil)) (.ix (.var 3) (.con (.int 1)))) e M2=.ok (.t (.bl true)) M2:=λe z2 z3=>by
    refine Zy ((Z9 ((Zr (Za z2) (ZG (Za z3) (Zb _) rfl)).trans (ZnJ (n:=n+8) hu hn (QX a1) (by omega)))).trans (ZmW (n:=n+1) hn (λw hw=>(ho w hw).ent) a1)) (ZG (Za z3) (Zb _) rfl) ?_
    rw[a3,ZmH,beq_self_eq_true]
   refine(Zch (hp _ rfl rfl)).trans (Zy (ZG (Za rfl) (Zb _) rfl) (Zb _) ?_)
   rw[c_gt,a3,decide_eq_true a2]
 refine ZD (ZkI _ _ _) rfl key ?_
 rw[<-hM]
 unfold fin
 simp
theorem law_0{ns:List Int}{x:Int}{e2 e3 e4:Option W}:∃m' f2 f3 f4,ex (cf (n+20)) gv ZdD [some (.t (.scr ns)),some (.t (.int x)),e2,e3,e4] m=.ok (.next [some (.t (.scr ns)),some (.t (.int x)),f2,f3,f4]) m':=by
 obtain⟨s,g0,hs⟩:=ZnD (n:=n+19) (m:=m) (x:=x)
 have hi:m.length<(m++[none]).length:=by rw[Yr];exact Vl _
 obtain⟨ru,s1,g1,hs1,_,hl,_⟩:=ZnQ (n:=n+18) hi hs
 obtain⟨bn,s2,g2,hs2⟩:=ZmI (n:=n+18) hi hs1
 obtain⟨ws,s3,g3,hs3,ho,hn,hu⟩:=ZgU (n:=n+11) (most:=10) hi hs2 (by decide)
 refine⟨put (m++[none]) m.length s3,some (.c m.length),some (.t (ruT ru)),some (.t (bnT bn)),?_⟩
 unfold ZdD
 refine(Zm ((Z9 (Za rfl)).trans g0)).trans ?_
 dsimp only[Yw,Yx]
 refine(Zm ((Z9 (Za rfl)).trans g1)).trans ?_
 dsimp only[Yw,Yx]
 refine(Zm ((Z9 (Za rfl)).trans g2)).trans ?_
 dsimp only[Yw,Yx]
 exact(ZS (Zkl ((ZaF (Za rfl) (Za rfl) ((Zr (Za rfl) (Zb _)).trans g3)).trans (Zlm (n:=n+10) hl hu hn ho)))).trans Z5
end
theorem law_true(ns:List Int)(hl:ns.length<=63):∃m,J7 fns gv 41 37 [.t (.scr ns)] []=.ok (.t (.bl true)) m:=by
 obtain⟨v,hv⟩:=Zpc (n:=39) (m:=[]) (ns:=ns)
 obtain⟨env1,m1,e1,_⟩:=Za4 (f:=ex (cf 40) gv ZdD) (tg:=.nm 1) (P:=λenv m=>∃e1 e2 e3 e4,env=[some (.t (.scr ns)),e1,e2,e3,e4]) (.int v::(cut ns (some 1) (some 5)).map .int) [some (.t (.scr ns)),none,none,none,none] [] ⟨_,_,_,_,rfl⟩ (by
  rintro t ht env m ⟨e1,e2,e3,e4,rfl⟩
  have:∃x:Int,t=.int x:=by
   rcases Yh.mp ht with rfl|ht
   ·exact⟨v,rfl⟩
   ·obtain⟨x,_,rfl⟩:=Yz.mp ht
    exact⟨x,rfl⟩
  obtain⟨x,rfl⟩:=this
  obtain⟨m',f2,f3,f4,h1⟩:=law_0 (n:=20) (ns:=ns) (x:=x) (m:=m) (e2:=e2) (e3:=e3) (e4:=e4)
  exact⟨_,_,m',rfl,h1,_,_,_,_,rfl⟩)
 refine⟨[],?_⟩
 have key:ex (cf 40) gv Zh1 [some (.t (.scr ns)),none,none,none,none] []=.ok (.ret (.t (.bl true))) m1:=by
  unfold Zh1
  have hcl:(cut ns (some 1) (some 5)).length<=ns.length:=by unfold cut;simp;omega
  have hit:ev (cf 40) gv (.bin .Add (.lst (.cons (.call 22 (.cons (.var 0) (.cons (.con (.int 0)) .nil))) .nil)) (.slc (.var 0) (.con (.int 1)) (.con (.int 5)))) [some (.t (.scr ns)),none,none,none,none] []=.ok (.t (.lst (.int v::(cut ns (some 1) (some 5)).map .int))) []:=by
   simp[ev,evs,isT,Zz,EVs,hv,lim]
   rw[ZkU (by simp[lim];omega)]
   rfl
  refine(Q4 hit rfl e1).trans ?_
  exact Zh (Zb _)
 show cf 41 37 [.t (.scr ns)] []=_
 rw[cf_law]
 simp[key,Zf,fin]
end My
end
section
set_option maxHeartbeats 1000000
namespace My
open PySem PySem.Spec PyProof.Rows L2 Mi
def top(i:Nat):Stmt:=PySem.Challenge.pw_matepoint_k45_whole_who_could_be_left_ou.main.body.getD i (.Pass ⟨0,0,0,0⟩)
abbrev Xq:Stmt:=top 1
abbrev Zai:Stmt:=top 2
abbrev Zgj:Stmt:=top 4
abbrev JR:Stmt:=top 5
abbrev Zak:Stmt:=top 8
abbrev Zal:Stmt:=top 9
abbrev Zah:Stmt:=top 10
abbrev Zam:Stmt:=top 11
abbrev Ji:Stmt:=top 12
abbrev Qf:Stmt:=top 13
abbrev Qj:Stmt:=top 14
abbrev Qt:Stmt:=top 15
abbrev Qi:Stmt:=top 16
abbrev ZbB:Stmt:=top 17
abbrev Zgi:Stmt:=top 18
abbrev Zgh:Stmt:=top 20
abbrev Zdk:Stmt:=top 21
abbrev JQ:Stmt:=top 22
abbrev Xp:Stmt:=top 23
abbrev Zaj:Stmt:=top 24
abbrev Jj:Stmt:=top 25
abbrev ZR:Stmt:=top 26
abbrev Xv:Stmt:=top 28
abbrev Zdm:Stmt:=top 29
abbrev Zdr:Stmt:=top 30
abbrev Zdp:Stmt:=top 31
abbrev Zdq:Stmt:=top 32
abbrev Zan:Stmt:=top 33
abbrev Zds:Stmt:=top 34
abbrev Zdl:Stmt:=top 35
abbrev ZbD:Stmt:=top 36
abbrev Zdo:Stmt:=top 37
abbrev ZbE:Stmt:=top 38
abbrev Xu:Stmt:=top 39
abbrev Xr:Stmt:=top 40
abbrev Zdn:Stmt:=top 41
abbrev ZbC:Stmt:=top 42
abbrev Zd8:Stmt:=top 43
set_option hygiene false
local macro_rules
 | `(tactic| wtm_at $s:str)=>do
  let mut r:Array (Lean.TSyntax `tactic):=#[]
  for c in s.getString.toList do
   let t ← match c with
    | '0'=>`(tactic| exact rfl)
    | '1'=>`(tactic| refine ZlU ?_ ?_ ?_)
    | '2'=>`(tactic| exact Zor)
    | '3'=>`(tactic| exact Zoh)
    | '4'=>`(tactic| exact (vr 0))
    | '5'=>`(tactic| exact hr)
    | '6'=>`(tactic| refine ZlP ?_ ?_ ?_ ?_ ?_)
    | '7'=>`(tactic| exact go.lk)
    | '8'=>`(tactic| exact (Zn9 (by decide +kernel)))
    | '9'=>`(tactic| refine Zls ?_)
    | 'a'=>`(tactic| exact (fun _ _=>rfl))
    | 'b'=>`(tactic| exact (vr 1))
    | 'c'=>`(tactic| refine pe_ixW ?_ ?_ ?_)
    | 'd'=>`(tactic| exact (by decide))
    | 'e'=>`(tactic| exact hr.units)
    | 'f'=>`(tactic| exact (by with_unfolding_all rfl))
    | 'g'=>`(tactic| exact (vr 2))
    | 'h'=>`(tactic| exact Zlt)
    | 'i'=>`(tactic| exact (by kernel_rfl))
    | 'j'=>`(tactic| refine Zop ?_ ?_)
    | 'k'=>`(tactic| refine ZnW ?_ ?_ ?_ ?_)
    | 'l'=>`(tactic| exact ⟨rfl,rfl,rfl,by decide +kernel,rfl,by decide +kernel,by decide +kernel⟩)
    | 'm'=>`(tactic| refine ⟨?_⟩)
    | 'n'=>`(tactic| intro P w K mg base k f cdv A outer s H E T0 T1 hr xe pn xr go)
    | 'o'=>`(tactic| exact T1.f_Ldraw)
    | 'p'=>`(tactic| refine Zn0 ?_ ?_ ?_ ?_)
    | 'q'=>`(tactic| refine pi_of ?_)
    | 'r'=>`(tactic| exact (fun _=>rfl))
    | 's'=>`(tactic| refine ⟨?_,?_⟩)
    | 't'=>`(tactic| exact (vr 3))
    | 'u'=>`(tactic| exact YbN)
    | 'v'=>`(tactic| refine Zn8 ?_)
    | 'w'=>`(tactic| intro _ _ _ _ _)
    | 'x'=>`(tactic| refine Zoe ?_)
    | 'y'=>`(tactic| refine Zmu ?_ ?_ ?_ ?_ ?_ ?_ ?_)
    | 'z'=>`(tactic| refine ⟨?_,?_,?_⟩)
    | 'A'=>`(tactic| refine Zok ?_ ?_ ?_ ?_)
    | 'B'=>`(tactic| exact lk0)
    | 'C'=>`(tactic| refine Zlu ?_ ?_ ?_ ?_ ?_ ?_ ?_)
    | 'D'=>`(tactic| exact go.po)
    | 'E'=>`(tactic| exact Zoc)
    | 'F'=>`(tactic| refine sg (i:=2) ?_ ?_ ?_)
    | 'G'=>`(tactic| exact (vr 4))
    | 'H'=>`(tactic| exact XX.nd)
    | 'I'=>`(tactic| exact T0.b_len)
    | 'J'=>`(tactic| exact pe_blW)
    | 'K'=>`(tactic| refine sg (i:=3) ?_ ?_ ?_)
    | 'L'=>`(tactic| refine Zog ?_ ?_ ?_ ?_ ?_)
    | 'M'=>`(tactic| exact (vr 6))
    | 'N'=>`(tactic| refine Zhj ?_ ?_ ?_)
    | 'O'=>`(tactic| exact T0.b_range)
    | 'P'=>`(tactic| refine Zom ?_)
    | 'Q'=>`(tactic| exact (vr 7))
    | 'R'=>`(tactic| refine sg (i:=4) ?_ ?_ ?_)
    | 'S'=>`(tactic| refine pt_of ?_ ?_)
    | 'T'=>`(tactic| exact T0.b_sorted)
    | 'U'=>`(tactic| refine ZiQ ?_ ?_)
    | 'V'=>`(tactic| exact (vr 5))
    | 'W'=>`(tactic| exact T1.f_lets)
    | 'X'=>`(tactic| exact hcd)
    | 'Y'=>`(tactic| exact QT.nd)
    | 'Z'=>`(tactic| refine Zhk ?_ ?_ ?_ ?_ ?_)
    | '!'=>`(tactic| exact T0.b_tuple)
    | '#'=>`(tactic| exact Zd7.nd)
    | '$'=>`(tactic| exact (vr 9))
    | '%'=>`(tactic| refine PW.pt ?_)
    | '&'=>`(tactic| exact (Zas 0 1 rfl (show WF (["offer","left"]:List Str) from by decide +kernel)))
    | '('=>`(tactic| exact T1.f_kind_of)
    | ')'=>`(tactic| refine Zod ?_)
    | '*'=>`(tactic| refine sg (i:=5) ?_ ?_ ?_)
    | '+'=>`(tactic| refine sg (i:=7) ?_ ?_ ?_)
    | ','=>`(tactic| refine ZlN ?_ ?_ ?_ ?_ ?_)
    | '-'=>`(tactic| exact T0.b_int)
    | '.'=>`(tactic| exact Zgg.nd)
    | '/'=>`(tactic| exact T1.f_Lpick)
    | ':'=>`(tactic| exact T1.f_Lwish)
    | ';'=>`(tactic| refine Zho ?_ ?_)
    | '<'=>`(tactic| exact (vr 10))
    | '='=>`(tactic| exact Zag.nd)
    | '>'=>`(tactic| exact T1.f_first_meeting)
    | '?'=>`(tactic| exact Zge.nd)
    | '@'=>`(tactic| refine Qo (N':=["one","card"]) ?_ ?_)
    | '['=>`(tactic| exact (Zu 0 (show WF (["one","card"]:List Str) from by decide +kernel)))
    | ']'=>`(tactic| refine Zfp (N':=["offer","left"]) ?_ ?_ ?_ ?_)
    | '^'=>`(tactic| refine Zlw ?_ ?_ ?_ ?_)
    | '_'=>`(tactic| exact (Zu 1 ZbT.nd))
    | '`'=>`(tactic| exact (fun _=>Room.lam hr2))
    | '{'=>`(tactic| exact (by decide +kernel))
    | '|'=>`(tactic| exact (fun _ _ _ _ _=>rfl))
    | '}'=>`(tactic| exact (Zar 0 1 2 rfl (show WF (["number","offer","left"]:List Str) from by decide +kernel)))
    | '~'=>`(tactic| refine Zhn ?_ ?_)
    | 'À'=>`(tactic| exact (Zfw (by kernel_rfl)))
    | 'Á'=>`(tactic| refine ⟨?_,?_,?_,?_⟩)
    | 'Â'=>`(tactic| refine ZlO ?_ ?_ ?_ ?_)
    | 'Ã'=>`(tactic| refine Zlr ?_ ?_ ?_ ?_)
    | 'Ä'=>`(tactic| refine sg (i:=1) ?_ ?_ ?_)
    | 'Å'=>`(tactic| exact T1.f_Lnumber)
    | 'Æ'=>`(tactic| refine sg (i:=8) ?_ ?_ ?_)
    | 'Ç'=>`(tactic| refine sg (i:=9) ?_ ?_ ?_)
    | 'È'=>`(tactic| refine sg (i:=10) ?_ ?_ ?_)
    | 'É'=>`(tactic| refine ⟨f,fd,_,m,F.kp,b,?_⟩)
    | 'Ê'=>`(tactic| intro _ hcd _ _ _ _ _ hr _ _ _ go)
    | _=>Lean.Macro.throwUnsupported
   r:=r.push t
  `(tactic| ($[$r:tactic];*))
theorem Zfe:FnScope ["card","word"] ["card","word"] (Zc Xq):=by
 wtm_at "l"
theorem ZcP:FnScope ["card","word","name","number"] ["card","word"] (Zc Zai):=by
 wtm_at "l"
theorem ZiH:FnScope ["wish","card","word"] ["wish","card"] (Zc Zgj):=by
 wtm_at "l"
theorem Zbh:FnScope ["wish","card","size"] ["wish","card"] (Zc JR):=by
 wtm_at "l"
theorem Zg5:FnScope ["offer"] ["offer"] (Zc Zak):=by
 wtm_at "l"
theorem Zg6:FnScope ["offer"] ["offer"] (Zc Zal):=by
 wtm_at "l"
theorem Zg4:FnScope ["some","place"] ["some","place"] (Zc Zah):=by
 wtm_at "l"
theorem Zg7:FnScope ["some","place"] ["some","place"] (Zc Zam):=by
 wtm_at "l"
theorem Zdg:FnScope ["some"] ["some"] (Zc Ji):=by
 wtm_at "l"
theorem XS:FnScope ["some"] ["some"] (Zc Qf):=by
 wtm_at "l"
theorem Zaf:FnScope ["some"] ["some"] (Zc Qj):=by
 wtm_at "l"
theorem ZaY:FnScope ["some","i","j"] ["some","i","j"] (Zc Qt):=by
 wtm_at "l"
theorem Jh:FnScope ["some","i","offer","left"] ["some","i"] (Zc Qi):=by
 wtm_at "l"
theorem ZbT:FnScope ["some","i","j"] ["some"] (Zc ZbB):=by
 wtm_at "l"
theorem ZnP:FnScope ["some"] ["some"] (Zc Zgi):=by
 wtm_at "l"
theorem ZiG:FnScope ["word","waiter","number","offer","left"] ["word","waiter"] (Zc Zgh):=by
 wtm_at "l"
theorem Zlj:FnScope ["rule","waiter"] ["rule","waiter"] (Zc Zdk):=by
 wtm_at "l"
theorem Zd6:FnScope ["rule","waiters","by_rule"] ["rule","waiters"] (Zc JQ):=by
 wtm_at "l"
theorem ZbS:FnScope ["kind","waiters","alike"] ["kind","waiters"] (Zc Xp):=by
 wtm_at "l"
theorem Jw:FnScope ["borne","waiters","told","kind","givers","takers","bearers","pairs"] ["borne","waiters"] (Zc Zaj):=by
 wtm_at "l"
theorem Zdh:FnScope ["waiters"] ["waiters"] (Zc Jj):=by
 wtm_at "l"
theorem QT:FnScope ["rule","borne","waiters","known","places","by_row","numbers","many"] ["rule","borne","waiters"] (Zc ZR):=by
 wtm_at "l"
theorem Zfg:FnScope ["_law_script","_law_k"] ["_law_script","_law_k"] (Zc Xv):=by
 wtm_at "l"
theorem Zlk:FnScope ["_law_cell"] ["_law_cell"] (Zc Zdm):=by
 wtm_at "l"
theorem Zgg:FnScope ["_law_tape_here","_law_many","_law_found","_law_number_here"] ["_law_tape_here","_law_many"] (Zc Zdr):=by
 wtm_at "l"
theorem Zll:FnScope ["_law_tape_here","_law_some_here"] ["_law_tape_here","_law_some_here"] (Zc Zdp):=by
 wtm_at "l"
theorem Zgf:FnScope ["_law_k","_law_some_here"] ["_law_k"] (Zc Zdq):=by
 wtm_at "l"
theorem Zg8:FnScope ["_law_tape_here"] ["_law_tape_here"] (Zc Zan):=by
 wtm_at "l"
theorem Zdj:FnScope ["_law_tape_here","_law_name_here","_law_kind","_law_marks","_law_sizes"] ["_law_tape_here","_law_name_here","_law_kind"] (Zc Zds):=by
 wtm_at "l"
theorem Zdi:FnScope ["_law_tape_here","_law_deep","_law_way","_law_many"] ["_law_tape_here","_law_deep"] (Zc Zdl):=by
 wtm_at "l"
theorem Zd7:FnScope ["_law_tape_here","_law_side","_law_name_here","_law_kind","_law_till","_law_many","_law_least","_law_wish_here","_law_weight"] ["_law_tape_here","_law_side","_law_name_here","_law_kind","_law_till"] (Zc ZbD):=by
 wtm_at "l"
theorem ZbA:FnScope ["_law_tape_here","_law_words","_law_found","_law_k"] ["_law_tape_here"] (Zc Zdo):=by
 wtm_at "l"
theorem ZiI:FnScope ["_law_tape_here"] ["_law_tape_here"] (Zc ZbE):=by
 wtm_at "l"
theorem XX:FnScope ["_law_tape_here","_law_most","_law_found","_law_turn","_law_number_here","_law_few","_law_k","_law_side","_law_kind","_law_name_here","_law_offer_here","_law_left"] ["_law_tape_here","_law_most"] (Zc Xu):=by
 wtm_at "l"
theorem Zff:FnScope ["_law_waiters_here","_law_number_here"] ["_law_waiters_here","_law_number_here"] (Zc Xr):=by
 wtm_at "l"
theorem Zbz:FnScope ["_law_waiters_here","_law_numbers","_law_found","_law_number_here"] ["_law_waiters_here","_law_numbers"] (Zc Zdn):=by
 wtm_at "l"
theorem Zag:FnScope ["_law_rule_here","_law_borne_here","_law_waiters_here","_law_found","_law_alone","_law_kind","_law_number_here","_law_offer_here","_law_left","_law_other"] ["_law_rule_here","_law_borne_here","_law_waiters_here"] (Zc ZbC):=by
 wtm_at "l"
theorem Zge:FnScope ["_law_script","_law_cell","_law_tape_here","_law_rule_here","_law_borne_here"] ["_law_script"] (Zc Zd8):=by
 wtm_at "l"
structure Txt0 (P:YK) (w:World) (K:Frag) (mg:Str->Option Value):Prop where
 b_all:mg "all" = none
 b_any:mg "any" = none
 b_enumerate:mg "enumerate" = none
 b_int:mg "int" = none
 b_len:mg "len" = none
 b_min:mg "min" = none
 b_range:mg "range" = none
 b_sorted:mg "sorted" = none
 b_tuple:mg "tuple" = none
 g_SIDES:Zk2 K mg "SIDES" (.tup [(.str [103,105,118,101]),(.str [116,97,107,101]),(.str [98,101,97,114])])
 lam:LamK K
structure Txt1 (P:YK) (w:World) (K:Frag) (mg:Str->Option Value) (base:Heap) (k:Nat):Prop where
 f_has_mark:FOk P w K mg base fns gv k "has_mark" 0
 f_size_of:FOk P w K mg base fns gv k "size_of" 1
 f_lets:FOk P w K mg base fns gv k "lets" 2
 f_lets_size:FOk P w K mg base fns gv k "lets_size" 3
 f_name_of:FOk P w K mg base fns gv k "name_of" 4
 f_kind_of:FOk P w K mg base fns gv k "kind_of" 5
 f_wish_at:FOk P w K mg base fns gv k "wish_at" 6
 f_card_at:FOk P w K mg base fns gv k "card_at" 7
 f_least_left:FOk P w K mg base fns gv k "least_left" 8
 f_are_kinds_unlike:FOk P w K mg base fns gv k "are_kinds_unlike" 9
 f_are_names_alike:FOk P w K mg base fns gv k "are_names_alike" 10
 f_is_wish_in_way:FOk P w K mg base fns gv k "is_wish_in_way" 11
 f_is_least_in_way:FOk P w K mg base fns gv k "is_least_in_way" 12
 f_in_way:FOk P w K mg base fns gv k "in_way" 13
 f_part:FOk P w K mg base fns gv k "part" 14
 f_rank:FOk P w K mg base fns gv k "rank" 15
 f_ranks:FOk P w K mg base fns gv k "ranks" 16
 f_row_of:FOk P w K mg base fns gv k "row_of" 17
 f_sides_of:FOk P w K mg base fns gv k "sides_of" 18
 f_sets_of:FOk P w K mg base fns gv k "sets_of" 19
 f_by_numbers:FOk P w K mg base fns gv k "by_numbers" 20
 f_first_meeting:FOk P w K mg base fns gv k "first_meeting" 21
 f_Lcell_at:FOk P w K mg base fns gv k "_law_cell_at" 22
 f_Ltape:FOk P w K mg base fns gv k "_law_tape" 23
 f_Ldraw:FOk P w K mg base fns gv k "_law_draw" 24
 f_Lpick:FOk P w K mg base fns gv k "_law_pick" 25
 f_Lname:FOk P w K mg base fns gv k "_law_name" 26
 f_Lnumber:FOk P w K mg base fns gv k "_law_number" 27
 f_Lcard:FOk P w K mg base fns gv k "_law_card" 28
 f_Lwish:FOk P w K mg base fns gv k "_law_wish" 29
 f_Loffer:FOk P w K mg base fns gv k "_law_offer" 30
 f_Lrule:FOk P w K mg base fns gv k "_law_rule" 31
 f_Lborne:FOk P w K mg base fns gv k "_law_borne" 32
 f_Lwaiters:FOk P w K mg base fns gv k "_law_waiters" 33
 f_Lwithout:FOk P w K mg base fns gv k "_law_without" 34
 f_Lsome:FOk P w K mg base fns gv k "_law_some" 35
 f_Lright:FOk P w K mg base fns gv k "_law_right" 36
 f_law:FOk P w K mg base fns gv k "law" 37
abbrev PsF(ns:List Str)(x:Str)(st:Stmt)(n:Nat)(b:S):Prop:=∀{P:YK}{w:World}{K:Frag}{mg:Str->Option Value}{base:Heap}{k:Nat}{f:Addr}{cdv:Value}{A:Around}{outer:List Ws}{s:Shared}{H:Hp}{E:XK},Txt0 P w K mg->Txt1 P w K mg base k->Room k (A.deeper (envOfC x (Zc st) s.heap.objs.size f cdv))->∀{xe:Value->Shared->Prop}{pn:List (Addr×Obj)}{xr:XR},Go (asX (cxOf (CXF P w) P w K mg base ns x (Zc st) f cdv A outer s H E) xe pn) xr->Bd (asX (cxOf (CXF P w) P w K mg base ns x (Zc st) f cdv A outer s H E) xe pn) (Qp st) (tS K (J7 fns gv k) gv xr n b)
section
variable{P:YK}{w:World}{K:Frag}{mg:Str->Option Value}{base:Heap}{k:Nat}{f:Addr}{cdv:Value}{A:Around}{outer:List Ws}{s:Shared}{H:Hp}{E:XK}
theorem Zfk:PsF ["card","word"] "has_mark" Xq 2 JH:=by
 wtm_at "nm9Abc43afe"
theorem Zhc:PsF ["card","word","name","number"] "size_of" Zai 4 Xi:=by
 wtm_at "nmC0Dqc43a";exact(Zas 2 3 rfl ZcP.nd);wtm_at "dpkgbfe9thh9E"
theorem Zn3:PsF ["wish","card","word"] "lets" Zgj 3 ZaN:=by
 wtm_at "nmF";exact ZiH.nd;wtm_at "c43apkg8fe9Jhpkg8fe967";exact T1.f_has_mark;wtm_at "501b1c43a200hpkg8fe9Acb3ac43afehpkg8fe9";refine Zi8 ?_;wtm_at "67W501c43a1b200hpkg8fe9";refine ZlS ?_ ?_ ?_ ?_ ?_;wtm_at "0";exact T0.b_all;wtm_at "1@0yiiqc43arwz[us06BW50141b200dd2000hpkg8fe9";refine ZlR ?_ ?_ ?_ ?_ ?_;wtm_at "0";exact T0.b_any;wtm_at "1@0yiiqc43arwz[us06BW50141b200dd2000h967";exact T1.f_lets_size;wtm_at "50141b200"
theorem Zed:PsF ["wish","card","size"] "lets_size" JR 3 Jd:=by
 wtm_at "nmF";exact Zbh.nd;wtm_at "67";exact T1.f_size_of;wtm_at "501b1c43a200pkgEfe9Jhpkc43a8fe9Agc43afeh9Agc43afe"
theorem Zhe:PsF ["offer"] "name_of" Zak 1 ZaM:=by
 wtm_at "nm9cc43a3a"
theorem Zhf:PsF ["offer"] "kind_of" Zal 1 ZaO:=by
 wtm_at "nm9cc43a3a"
theorem Zhb:PsF ["some","place"] "wish_at" Zah 2 ZaL:=by
 wtm_at "nm9ccc4ba3a3a"
theorem Zhg:PsF ["some","place"] "card_at" Zam 2 ZaQ:=by
 wtm_at "nm9ccc4ba3a3a"
theorem Zdt:PsF ["some"] "least_left" Ji 1 Jr:=by
 wtm_at "nm9";refine Zi9 ?_ ?_ ?_ ?_ ?_;wtm_at "0";exact T0.b_min;wtm_at "1";refine Qo (N':=["offer","left"]) ?_ ?_;wtm_at "0yiiq4rwz&us0bdd2000"
theorem X3:PsF ["some"] "are_kinds_unlike" Qf 1 Qg:=by
 wtm_at "nm9A]00Iyiiq4rwz&us06B(501420dd3fe"
theorem Zaq:PsF ["some"] "are_names_alike" Qj 1 Ql:=by
 wtm_at "nm9A]00Iyiiq4rwz&us06B";exact T1.f_name_of;wtm_at "501420ddL0I142000fe"
theorem ZaZ:PsF ["some","i","j"] "is_wish_in_way" Qt 3 Qu:=by
 wtm_at "nm9";refine Zjc ?_ ?_;wtm_at "Abgfe";refine Zm0 ?_;refine Zi8 ?_;wtm_at "67W50167";exact T1.f_wish_at;wtm_at "50141b200167";exact T1.f_card_at;wtm_at "50141g200200"
theorem Zap:PsF ["some","i","offer","left"] "is_least_in_way" Qi 4 Z6:=by
 wtm_at "nm^dc4ba";exact(Zas 2 3 rfl Jh.nd);wtm_at "9A";refine ZlM ?_ ?_ ?_ ?_ ?_;wtm_at "0";exact T0.b_min;wtm_at "1cg3a1t2000067";exact T1.f_least_left;wtm_at "501420fe"
theorem ZiT:PsF ["some","i","j"] "in_way" ZbB 3 ZaP:=by
 wtm_at "nmpS67";exact T1.f_are_kinds_unlike;wtm_at "501420r9v1820hpS67";exact T1.f_are_names_alike;wtm_at "501420r9v1820hC0DN0O1L0I14200020_dC0DN0O1L0I14200020";exact(Zu 2 ZbT.nd);wtm_at "dpS67";exact T1.f_is_wish_in_way;wtm_at "50141b1g2000r9v181b1g2000hhhC0DN0O1L0I14200020_dpS67";exact T1.f_is_least_in_way;wtm_at "50141b200r9v181b200hh9E"
theorem Zn2:PsF ["some"] "part" Zgi 1 Ze6:=by
 wtm_at "nmpk67";exact T1.f_in_way;wtm_at "501420Efe967";exact T1.f_least_left;wtm_at "501420h93"
theorem Zn1:PsF ["word","waiter","number","offer","left"] "rank" Zgh 5 Ze5:=by
 wtm_at "nm^db";exact(Zar 2 3 4 rfl ZiG.nd);wtm_at "pk48fe9)ct3ahpk48fe9)Ghpk48fe9Gh9ct3a"
theorem Zly:PsF ["rule","waiter"] "ranks" Zdk 2 ZfX:=by
 wtm_at "nm9j";refine Qo (N':=["word","waiter"]) ?_ ?_;wtm_at "0yiiq4rwz";exact(Zu 0 (show WF (["word","waiter"]:List Str)from by decide +kernel));wtm_at "us06B";exact T1.f_rank;wtm_at "50141b200ddx1cb3a20"
theorem ZiS(T0:Txt0 P w K mg)(T1:Txt1 P w K mg base k)(hr:Room k (A.deeper (envOfC "row_of" (Zc JQ) s.heap.objs.size f cdv)))(hr2:Room (k+1) A)(hcd:codeIn K cdv "row_of" = true){xe:Value->Shared->Prop}{pn:List (Addr×Obj)}{xr:XR}(go:Go (asX (cxOf (CXF P w) P w K mg base ["rule","waiters","by_rule"] "row_of" (Zc JQ) f cdv A outer s H E) xe pn) xr):
  Bd (asX (cxOf (CXF P w) P w K mg base ["rule","waiters","by_rule"] "row_of" (Zc JQ) f cdv A outer s H E) xe pn) (Qp JQ) (tS K (J7 fns gv k) gv xr 3 XC):=by
 wtm_at "mF";exact Zd6.nd;refine Zeh (k:=k) (y:="one") (N':=["rule"]) "row_of" ?_ ?_ ?_ ?_ ?_ ?_ ?_ ?_ ?_ ?_ ?_ ?_ ?_ ?_ ?_;wtm_at "5`";exact T0.lam;wtm_at "XTii00{0|0b";intro _ _ _ _ _ hr;wtm_at "6B";exact T1.f_ranks;wtm_at "501b142009";refine Qo (N':=["number","offer","left"]) ?_ ?_;wtm_at "0yiiqgrwz}us04dd"
theorem Zfj:PsF ["kind","waiters","alike"] "sides_of" Xp 3 JG:=by
 wtm_at "nmF";exact ZbS.nd;refine Qo (N':=["waiter","kind"]) ?_ ?_;wtm_at "0yiiqbrwz";exact(Zu 0 (show WF (["waiter","kind"]:List Str)from by decide +kernel));wtm_at "sk6B(501c43a20bfeus04dd9";refine Qo (N':=["side","alike"]) ?_ ?_;wtm_at "0yiiq";exact(pe_glW rfl rfl T0.g_SIDES (by decide));wtm_at "rwz";exact(Zu 0 (show WF (["side","alike"]:List Str)from by decide +kernel));wtm_at "us0";refine Qo (N':=["number","offer","left","side"]) ?_ ?_;wtm_at "0yiiqbrwz";exact(Zar 0 1 2 rfl (show WF (["number","offer","left","side"]:List Str)from by decide +kernel));wtm_at "skcb3atfeus04dddd"
theorem Zhd:PsF ["borne","waiters","told","kind","givers","takers","bearers","pairs"] "sets_of" Zaj 8 Xj:=by
 wtm_at "nmF";exact Jw.nd;wtm_at "P2C0Dq";refine Zeg (N':=["waiter"]) ?_ ?_ ?_ ?_;wtm_at "00Tyiiqbrwz";exact(Zu 0 (show WF (["waiter"]:List Str)from by decide +kernel));wtm_at "us06B(501c43a20dd";exact(Zu 3 Jw.nd);wtm_at "d";refine ZiR ?_ ?_ ?_ ?_;wtm_at "d67";exact T1.f_sides_of;wtm_at "501t1b200";exact(ZlK 4 5 6 rfl Jw.nd);refine Zlx (N':=["giver","taker","takers"]) ?_ ?_ ?_ ?_ ?_ ?_ ?_;wtm_at "0yiiqGrwz";exact(Zu 0 (show WF (["giver","taker","takers"]:List Str)from by decide +kernel));wtm_at "u";refine⟨⟨_,_,_,rfl,?_,λ_=>rfl,?_,?_⟩,by decide,(show ∀i∈tgS (.nm 1)++innS (.emit (.tup (.cons (.var 0) (.cons (.var 1) .nil)))),i<3 from by decide),?_⟩;wtm_at "qg";exact(Zu 1 (show WF (["giver","taker","takers"]:List Str)from by decide +kernel));wtm_at "us0v141b200dd";exact Jw.nd;wtm_at "000pkt4feU~g1";refine Qo (N':=["giver","taker","bearer","bearers"]) ?_ ?_;wtm_at "0yiiqQrwz";exact(Zas 0 1 rfl (show WF (["giver","taker","bearer","bearers"]:List Str)from by decide +kernel));wtm_at "u";refine⟨⟨_,_,_,rfl,?_,λ_=>rfl,?_,?_⟩,by decide,(show ∀i∈tgS (.nm 2)++innS (.emit (.tup (.cons (.var 0) (.cons (.var 1) (.cons (.var 2) .nil))))),i<4 from by decide),?_⟩;wtm_at "qt";exact(Zu 2 (show WF (["giver","taker","bearer","bearers"]:List Str)from by decide +kernel));wtm_at "us0v141b1g2000dd20hU~g1Q20hh9";refine Zhl ?_ ?_ ?_ ?_ ?_;wtm_at "0T1g2000"
theorem Zdu:PsF ["waiters"] "by_numbers" Jj 1 Xk:=by
 wtm_at "nm9";refine Zei (N':=["number","offer","left"]) ?_ ?_ ?_ ?_ ?_ ?_ ?_;wtm_at "0iÀq4rwÁ}u4v1b1g200d"
theorem Zbt(T0:Txt0 P w K mg)(T1:Txt1 P w K mg base k)(hr:Room k (A.deeper (envOfC "first_meeting" (Zc ZR) s.heap.objs.size f cdv)))(hr2:Room (k+1) A)(hcd:codeIn K cdv "first_meeting" = true){xe:Value->Shared->Prop}{pn:List (Addr×Obj)}{xr:XR}(go:Go (asX (cxOf (CXF P w) P w K mg base ["rule","borne","waiters","known","places","by_row","numbers","many"] "first_meeting" (Zc ZR) f cdv A outer s H E) xe pn) xr):
  Bd (asX (cxOf (CXF P w) P w K mg base ["rule","borne","waiters","known","places","by_row","numbers","many"] "first_meeting" (Zc ZR) f cdv A outer s H E) xe pn) (Qp ZR) (tS K (J7 fns gv k) gv xr 8 Z7):=by
 wtm_at "mKY67";exact T1.f_by_numbers;wtm_at "501g20RY";refine Zei (N':=["place","number"]) ?_ ?_ ?_ ?_ ?_ ?_ ?_;wtm_at "0iÀ";refine ZlJ ?_ ?_ ?_;wtm_at "0";exact T0.b_enumerate;wtm_at "1";refine PE.tree ?_;wtm_at "6B";exact T1.f_row_of;wtm_at "50141g20020rwÁ";exact(Zas 0 1 rfl (show WF (["place","number"]:List Str)from by decide +kernel));wtm_at "ub4d*Y";refine Zeh (k:=k) (y:="numbers") (N':=["places"]) "first_meeting" ?_ ?_ ?_ ?_ ?_ ?_ ?_ ?_ ?_ ?_ ?_ ?_ ?_ ?_ ?_;wtm_at "5`";exact T0.lam;wtm_at "XTii00{0|067";exact T1.f_sets_of;wtm_at "501b1g200";intro _ _ _ _ _ hr;refine Zhm ?_ ?_ ?_ ?_ ?_;wtm_at "0T1";refine Qo (N':=["number","places"]) ?_ ?_;wtm_at "0yiiq4rwz";exact(Zu 0 (show WF (["number","places"]:List Str)from by decide +kernel));wtm_at "us0Âb4aedd2000C0DqV";exact(Zu 6 QT.nd);wtm_at "d+Y67";exact T1.f_part;wtm_at "501";refine Qo (N':=["number","known"]) ?_ ?_;wtm_at "0yiiqMrwz";exact(Zu 0 (show WF (["number","known"]:List Str)from by decide +kernel));wtm_at "us0Âb4aedd20pkQ3fe9v1M1Q200hh9E"
theorem Zfn:PsF ["_law_script","_law_k"] "_law_cell_at" Xv 2 JL:=by
 wtm_at "nmpkbL0I142000fe9c4bah93"
theorem ZlA:PsF ["_law_cell"] "_law_tape" Zdm 1 Zcq:=by
 wtm_at "nm9P1j4,0-1A4j33fe20001j43132000"
theorem ZlF:PsF ["_law_tape_here","_law_many","_law_found","_law_number_here"] "_law_draw" Zdr 4 Zcv:=by
 wtm_at "nmpkc43a3feF.jc43abÃjc43ab439ghÃjc43a343K.jjjjc43aj3c43a333K.jjtjjt3339jjjtjjt333b"
theorem ZlD:PsF ["_law_tape_here","_law_some_here"] "_law_pick" Zdp 2 Zct:=by
 wtm_at "nm9cb67o50141L0I1b2000200a"
theorem ZlE:PsF ["_law_k","_law_some_here"] "_law_name" Zdq 2 Zcu:=by
 wtm_at "nmÄ";exact Zgf.nd;wtm_at "x18181818181818181818181820000000000009cbj43a"
theorem Zhh:PsF ["_law_tape_here"] "_law_number" Zan 1 Xl:=by
 wtm_at "nm9cx167o501413200167o5014132001jj3367o501413200200067o501413200a"
theorem ZlG:PsF ["_law_tape_here","_law_name_here","_law_kind","_law_marks","_law_sizes"] "_law_card" Zds 5 Zcw:=by
 wtm_at "nmK";exact Zdj.nd;wtm_at "Z0!1";refine Qo (N':=["_law_mark","_law_tape_here"]) ?_ ?_;wtm_at "0yiiqx1818182000rwz";exact(Zu 0 (show WF (["_law_mark","_law_tape_here"]:List Str)from by decide +kernel));wtm_at "sk6Bo501b132003feus04dd2000R";exact Zdj.nd;wtm_at "Z0!1";refine Qo (N':=["_law_word","_law_tape_here"]) ?_ ?_;wtm_at "0yiiqx1818200rwz";exact(Zu 0 (show WF (["_law_word","_law_tape_here"]:List Str)from by decide +kernel));wtm_at "sk6Bo501b132003feus0v1416BÅ501b20200dd20009v1b1g1t1G20000"
theorem Zlz:PsF ["_law_tape_here","_law_deep","_law_way","_law_many"] "_law_wish" Zdl 4 Zac:=by
 wtm_at "nmF";exact Zdi.nd;wtm_at "67o50141j3j3,0-1Ab3fe2000200pkg3fe9v1820hpkg3fe9v18167/50141x1818181820000200200hpkg3fe9v18167";exact T1.f_Lname;wtm_at "50167o50141320020200hpkg3fe9v1cx1818200jg3a167/50141x1818182000200167Å5014202000hpkg3fe9v18167:50141jb3200200hK";exact Zdi.nd;wtm_at "j367o5014132009v1cx1818200jg3a1Z0!1";refine Qo (N':=["_law_k","_law_tape_here","_law_deep"]) ?_ ?_;wtm_at "0yiiN0O1t20rwz";exact(Zu 0 (show WF (["_law_k","_law_tape_here","_law_deep"]:List Str)from by decide +kernel));wtm_at "us06B:501b1jg3200dd2000200"
theorem ZiW:PsF ["_law_tape_here","_law_side","_law_name_here","_law_kind","_law_till","_law_many","_law_least","_law_wish_here","_law_weight"] "_law_offer" ZbD 9 ZbL:=by
 wtm_at "nm*#cx1j367o5014132001j367o5014132001j367o50141j33200200067o501413200a";refine sg (i:=6) ?_ ?_ ?_;wtm_at "#cx131j367o50141V2001V200067o501413200a+#cx1v1820167:50141320020067o501413200aÆ#cx167o501413200167o50141320020067o501413200a9v1b167";exact T1.f_Lcard;wtm_at "50141g1t20001Q1V1M1";exact(vr 8);wtm_at "1G20000000"
theorem ZlC:PsF ["_law_tape_here","_law_words","_law_found","_law_k"] "_law_rule" Zdo 4 Zcs:=by
 wtm_at "nmÄ";exact ZbA.nd;wtm_at "P1818181820000F";exact ZbA.nd;wtm_at "P2C0DN0O1cx131313131320000067o501413200a20";exact(Zu 3 ZbA.nd);wtm_at "dU;g1";refine Zob ?_ ?_;wtm_at "b167o50141L0I1b20002002020h9Z0!1g2000"
theorem ZiX:PsF ["_law_tape_here"] "_law_borne" ZbE 1 ZaS:=by
 wtm_at "nm9cx1v21v21v18201v18182001v181818182000020000067o501413200a"
theorem Zfm:PsF ["_law_tape_here","_law_most","_law_found","_law_turn","_law_number_here","_law_few","_law_k","_law_side","_law_kind","_law_name_here","_law_offer_here","_law_left"] "_law_waiters" Xu 12 JK:=by
 wtm_at "nmFHP2KH67o501413200RH67o501413200*H67o501413200C0DN0O167o50141jb320020";exact(Zu 6 XX.nd);wtm_at "d+H67/50141x1818181818200000200ÆHcx181818200067o50141j3V200aÇH67";exact T1.f_Lname;wtm_at "501jtjM,0-1A67o5014132003fe200020ÈH67";exact T1.f_Loffer;wtm_at "50141Q1$1";exact(vr 8);wtm_at "167o501413200200000p%";refine ZiN ?_ ?_;wtm_at "kgx2fe";refine ZiO ?_;wtm_at "k67o5014132003feÈHccg)3a3ahh";refine sg (i:=11) ?_ ?_ ?_;wtm_at "Hcx1c<3a1j367o50141c<3a20020067o501413200aU;g1v1G1<1";exact(vr 11);wtm_at "200020RHjjG367o501413200h9g"
theorem Zfl:PsF ["_law_waiters_here","_law_number_here"] "_law_without" Xr 2 Zbd:=by
 wtm_at "nm9";refine Qo (N':=["_law_waiter","_law_number_here"]) ?_ ?_;wtm_at "0yiiq4rwz";exact(Zu 0 (show WF (["_law_waiter","_law_number_here"]:List Str)from by decide +kernel));wtm_at "skc43abfeus04dd"
theorem ZlB:PsF ["_law_waiters_here","_law_numbers","_law_found","_law_number_here"] "_law_some" Zdn 4 Zcr:=by
 wtm_at "nmF";exact Zbz.nd;wtm_at "x2C0Dqb";exact(Zu 3 Zbz.nd);wtm_at "dF";exact Zbz.nd;wtm_at "jg";refine Qo (N':=["_law_one","_law_offer_here","_law_left","_law_number_here"]) ?_ ?_;wtm_at "0yiiq4rwz";exact(Zar 0 1 2 rfl (show WF (["_law_one","_law_offer_here","_law_left","_law_number_here"]:List Str)from by decide +kernel));wtm_at "sk4tfeus0v1b1g200ddh9g"
theorem ZiV:PsF ["_law_rule_here","_law_borne_here","_law_waiters_here","_law_found","_law_alone","_law_kind","_law_number_here","_law_offer_here","_law_left","_law_other"] "_law_right" ZbC 10 ZaR:=by
 wtm_at "nmK=67>50141b1g2000R=P2C0Dqx1818182000";exact(Zu 5 Zag.nd);wtm_at "dU;G167>50141b1";refine Qo (N':=["_law_waiter","_law_kind"]) ?_ ?_;wtm_at "0yiiqgrwz";exact(Zu 0 (show WF (["_law_waiter","_law_kind"]:List Str)from by decide +kernel));wtm_at "skccc43a3a3abfeus04dd200020hp%";refine ZmR ?_ ?_;wtm_at "ktGfe";refine ZmS ?_;wtm_at "kAtEfeAGx1E1E1E2000fefe9JhC0Dqg";exact(Zar 6 7 8 rfl Zag.nd);wtm_at "dÇ=67>50141b167";exact T1.f_Lwithout;wtm_at "501g1M2002000p%";refine ZmR ?_ ?_;wtm_at "ktEfe";refine ZmS ?_;wtm_at "kMct3afepk$tfe9Jhhp%";refine ZiN ?_ ?_;wtm_at "k$Efe";refine ZiO ?_;wtm_at "kMc$3afe9JhhhpktEfe9Jh9";refine Zjc ?_ ?_;wtm_at "A67";exact T1.f_part;wtm_at "50167";exact T1.f_Lsome;wtm_at "501g1ct3a20020ct3afe";refine Zm0 ?_;wtm_at "Act3a3fe"
theorem ZmV:PsF ["_law_script","_law_cell","_law_tape_here","_law_rule_here","_law_borne_here"] "law" Zd8 5 Zh1:=by
 wtm_at "nmC0Dqjx167";exact T1.f_Lcell_at;wtm_at "50141320020";refine Zoa ?_ ?_ ?_;wtm_at "4";refine Zgn ?_ ?_;wtm_at "30";refine Zgn ?_ ?_;wtm_at "30";exact(Zu 1 Zge.nd);wtm_at "dF?67";exact T1.f_Ltape;wtm_at "501b20K?67";exact T1.f_Lrule;wtm_at "501g20R?67";exact T1.f_Lborne;wtm_at "501g20p";refine ZnV ?_;wtm_at "S67";exact T1.f_Lright;wtm_at "501t1G167";exact T1.f_Lwaiters;wtm_at "501g132002000r9Jhh9J"
end
abbrev FB(K:Frag)(mg:Str->Option Value)(x:Str)(st:Stmt)(ps:List Str):Prop:=∃f fd,Fun K x x st f fd/\mg x=some (.ref f)/\Binds K fd ps []
structure TxtF (K:Frag) (mg:Str->Option Value):Prop where
 f_has_mark:FB K mg "has_mark" Xq ["card","word"]
 f_size_of:FB K mg "size_of" Zai ["card","word"]
 f_lets:FB K mg "lets" Zgj ["wish","card"]
 f_lets_size:FB K mg "lets_size" JR ["wish","card"]
 f_name_of:FB K mg "name_of" Zak ["offer"]
 f_kind_of:FB K mg "kind_of" Zal ["offer"]
 f_wish_at:FB K mg "wish_at" Zah ["some","place"]
 f_card_at:FB K mg "card_at" Zam ["some","place"]
 f_least_left:FB K mg "least_left" Ji ["some"]
 f_are_kinds_unlike:FB K mg "are_kinds_unlike" Qf ["some"]
 f_are_names_alike:FB K mg "are_names_alike" Qj ["some"]
 f_is_wish_in_way:FB K mg "is_wish_in_way" Qt ["some","i","j"]
 f_is_least_in_way:FB K mg "is_least_in_way" Qi ["some","i"]
 f_in_way:FB K mg "in_way" ZbB ["some"]
 f_part:FB K mg "part" Zgi ["some"]
 f_rank:FB K mg "rank" Zgh ["word","waiter"]
 f_ranks:FB K mg "ranks" Zdk ["rule","waiter"]
 f_row_of:FB K mg "row_of" JQ ["rule","waiters"]
 f_sides_of:FB K mg "sides_of" Xp ["kind","waiters"]
 f_sets_of:FB K mg "sets_of" Zaj ["borne","waiters"]
 f_by_numbers:FB K mg "by_numbers" Jj ["waiters"]
 f_first_meeting:FB K mg "first_meeting" ZR ["rule","borne","waiters"]
 f_Lcell_at:FB K mg "_law_cell_at" Xv ["_law_script","_law_k"]
 f_Ltape:FB K mg "_law_tape" Zdm ["_law_cell"]
 f_Ldraw:FB K mg "_law_draw" Zdr ["_law_tape_here","_law_many"]
 f_Lpick:FB K mg "_law_pick" Zdp ["_law_tape_here","_law_some_here"]
 f_Lname:FB K mg "_law_name" Zdq ["_law_k"]
 f_Lnumber:FB K mg "_law_number" Zan ["_law_tape_here"]
 f_Lcard:FB K mg "_law_card" Zds ["_law_tape_here","_law_name_here","_law_kind"]
 f_Lwish:FB K mg "_law_wish" Zdl ["_law_tape_here","_law_deep"]
 f_Loffer:FB K mg "_law_offer" ZbD ["_law_tape_here","_law_side","_law_name_here","_law_kind","_law_till"]
 f_Lrule:FB K mg "_law_rule" Zdo ["_law_tape_here"]
 f_Lborne:FB K mg "_law_borne" ZbE ["_law_tape_here"]
 f_Lwaiters:FB K mg "_law_waiters" Xu ["_law_tape_here","_law_most"]
 f_Lwithout:FB K mg "_law_without" Xr ["_law_waiters_here","_law_number_here"]
 f_Lsome:FB K mg "_law_some" Zdn ["_law_waiters_here","_law_numbers"]
 f_Lright:FB K mg "_law_right" ZbC ["_law_rule_here","_law_borne_here","_law_waiters_here"]
 f_law:FB K mg "law" Zd8 ["_law_script"]
theorem Zjr{P:YK}{w:World}{K:Frag}{mg:Str->Option Value}{base:Heap}{k:Nat}(T0:Txt0 P w K mg)(TF:TxtF K mg)(ih:Txt1 P w K mg base k):FOk P w K mg base fns gv (k+1) "row_of" 17:=by
 obtain⟨f,fd,F,m,b⟩:=TF.f_row_of;wtm_at "É";refine Zkg (fi:=17) (np:=2) (n:=3) (body:=XC) (cell:=false) F Zd6 ?_ ?_ ?_ ?_;wtm_at "000Ê";refine ZiS ?_ ?_ ?_ ?_ ?_ ?_;exact T0;exact ih;exact hr.deeper _;wtm_at "5X";exact go
theorem Zbu{P:YK}{w:World}{K:Frag}{mg:Str->Option Value}{base:Heap}{k:Nat}(T0:Txt0 P w K mg)(TF:TxtF K mg)(ih:Txt1 P w K mg base k):FOk P w K mg base fns gv (k+1) "first_meeting" 21:=by
 obtain⟨f,fd,F,m,b⟩:=TF.f_first_meeting;wtm_at "É";refine Zkg (fi:=21) (np:=3) (n:=8) (body:=Z7) (cell:=false) F QT ?_ ?_ ?_ ?_;wtm_at "000Ê";refine Zbt ?_ ?_ ?_ ?_ ?_ ?_;exact T0;exact ih;exact hr.deeper _;wtm_at "5X";exact go
theorem Qh{x:Str}{st:Stmt}{N ps:List Str}{fi np n:Nat}{b:S}{cell:Bool}(sc:FnScope N ps (Zc st))(p:PsF N x st n b)(hd:fns[fi]?=some ⟨np,n,b,cell⟩)(hps:np=ps.length)(hn:N.length=n){P:YK}{w:World}{K:Frag}{mg:Str->Option Value}{base:Heap}{k:Nat}(T0:Txt0 P w K mg)(ih:Txt1 P w K mg base k)(F:FB K mg x st ps):FOk P w K mg base fns gv (k+1) x fi:=by
 obtain⟨f,fd,F,m,bb⟩:=F;exact⟨f,fd,_,m,F.kp,bb,Znm F sc hd hps hn λ_ _ _ _ _ _ hr _ _ _ go=>p T0 ih hr go⟩
theorem Qa{x:Str}{st:Stmt}{ps:List Str}{i:Nat}{P:YK}{w:World}{K:Frag}{mg:Str->Option Value}{base:Heap}(F:FB K mg x st ps):FOk P w K mg base fns gv 0 x i:=
 let⟨_,_,F,m,b⟩:=F
 ⟨_,_,_,m,F.kp,b,ZoV⟩
theorem Znt{P:YK}{w:World}{K:Frag}{mg:Str->Option Value}{base:Heap}(T0:Txt0 P w K mg)(TF:TxtF K mg):∀k:Nat,Txt1 P w K mg base k
 |0=>⟨Qa TF.f_has_mark,Qa TF.f_size_of,Qa TF.f_lets,Qa TF.f_lets_size,Qa TF.f_name_of,Qa TF.f_kind_of,Qa TF.f_wish_at,Qa TF.f_card_at,Qa TF.f_least_left,Qa TF.f_are_kinds_unlike,Qa TF.f_are_names_alike,Qa TF.f_is_wish_in_way,Qa TF.f_is_least_in_way,Qa TF.f_in_way,Qa TF.f_part,Qa TF.f_rank,Qa TF.f_ranks,Qa TF.f_row_of,Qa TF.f_sides_of,Qa TF.f_sets_of,Qa TF.f_by_numbers,Qa TF.f_first_meeting,Qa TF.f_Lcell_at,Qa TF.f_Ltape,Qa TF.f_Ldraw,Qa TF.f_Lpick,Qa TF.f_Lname,Qa TF.f_Lnumber,Qa TF.f_Lcard,Qa TF.f_Lwish,Qa TF.f_Loffer,Qa TF.f_Lrule,Qa TF.f_Lborne,Qa TF.f_Lwaiters,Qa TF.f_Lwithout,Qa TF.f_Lsome,Qa TF.f_Lright,Qa TF.f_law⟩
 |k+1 =>
  have ih:=Znt T0 TF k
  ⟨Qh Zfe Zfk rfl rfl rfl T0 ih TF.f_has_mark,Qh ZcP Zhc rfl rfl rfl T0 ih TF.f_size_of,Qh ZiH Zn3 rfl rfl rfl T0 ih TF.f_lets,Qh Zbh Zed rfl rfl rfl T0 ih TF.f_lets_size,Qh Zg5 Zhe rfl rfl rfl T0 ih TF.f_name_of,Qh Zg6 Zhf rfl rfl rfl T0 ih TF.f_kind_of,Qh Zg4 Zhb rfl rfl rfl T0 ih TF.f_wish_at,Qh Zg7 Zhg rfl rfl rfl T0 ih TF.f_card_at,Qh Zdg Zdt rfl rfl rfl T0 ih TF.f_least_left,Qh XS X3 rfl rfl rfl T0 ih TF.f_are_kinds_unlike,Qh Zaf Zaq rfl rfl rfl T0 ih TF.f_are_names_alike,Qh ZaY ZaZ rfl rfl rfl T0 ih TF.f_is_wish_in_way,Qh Jh Zap rfl rfl rfl T0 ih TF.f_is_least_in_way,Qh ZbT ZiT rfl rfl rfl T0 ih TF.f_in_way,Qh ZnP Zn2 rfl rfl rfl T0 ih TF.f_part,Qh ZiG Zn1 rfl rfl rfl T0 ih TF.f_rank,Qh Zlj Zly rfl rfl rfl T0 ih TF.f_ranks,Zjr T0 TF ih,Qh ZbS Zfj rfl rfl rfl T0 ih TF.f_sides_of,Qh Jw Zhd rfl rfl rfl T0 ih TF.f_sets_of,Qh Zdh Zdu rfl rfl rfl T0 ih TF.f_by_numbers,Zbu T0 TF ih,Qh Zfg Zfn rfl rfl rfl T0 ih TF.f_Lcell_at,Qh Zlk ZlA rfl rfl rfl T0 ih TF.f_Ltape,Qh Zgg ZlF rfl rfl rfl T0 ih TF.f_Ldraw,Qh Zll ZlD rfl rfl rfl T0 ih TF.f_Lpick,Qh Zgf ZlE rfl rfl rfl T0 ih TF.f_Lname,Qh Zg8 Zhh rfl rfl rfl T0 ih TF.f_Lnumber,Qh Zdj ZlG rfl rfl rfl T0 ih TF.f_Lcard,Qh Zdi Zlz rfl rfl rfl T0 ih TF.f_Lwish,Qh Zd7 ZiW rfl rfl rfl T0 ih TF.f_Loffer,Qh ZbA ZlC rfl rfl rfl T0 ih TF.f_Lrule,Qh ZiI ZiX rfl rfl rfl T0 ih TF.f_Lborne,Qh XX Zfm rfl rfl rfl T0 ih TF.f_Lwaiters,Qh Zff Zfl rfl rfl rfl T0 ih TF.f_Lwithout,Qh Zbz ZlB rfl rfl rfl T0 ih TF.f_Lsome,Qh Zag ZiV rfl rfl rfl T0 ih TF.f_Lright,Qh Zge ZmV rfl rfl rfl T0 ih TF.f_law⟩
end My
namespace My
open PySem PySem.Spec PyProof.Rows L2 Mi
theorem us_1{α:Type}{P:List α->Prop}{us:List α}(hl:us.length=1)(h:∀x0:α,P [x0]):P us:=by
 rcases us with _|⟨x0,us⟩
 ·simp at hl
 rcases us with _|⟨y,us⟩
 ·exact h x0
 ·simp at hl
theorem us_2{α:Type}{P:List α->Prop}{us:List α}(hl:us.length=2)(h:∀x0 x1:α,P [x0,x1]):P us:=by
 rcases us with _|⟨x0,us⟩
 ·simp at hl
 rcases us with _|⟨x1,us⟩
 ·simp at hl
 rcases us with _|⟨y,us⟩
 ·exact h x0 x1
 ·simp at hl
theorem us_3{α:Type}{P:List α->Prop}{us:List α}(hl:us.length=3)(h:∀x0 x1 x2:α,P [x0,x1,x2]):P us:=by
 rcases us with _|⟨x0,us⟩
 ·simp at hl
 rcases us with _|⟨x1,us⟩
 ·simp at hl
 rcases us with _|⟨x2,us⟩
 ·simp at hl
 rcases us with _|⟨y,us⟩
 ·exact h x0 x1 x2
 ·simp at hl
theorem us_5{α:Type}{P:List α->Prop}{us:List α}(hl:us.length=5)(h:∀x0 x1 x2 x3 x4:α,P [x0,x1,x2,x3,x4]):P us:=by
 rcases us with _|⟨x0,us⟩
 ·simp at hl
 rcases us with _|⟨x1,us⟩
 ·simp at hl
 rcases us with _|⟨x2,us⟩
 ·simp at hl
 rcases us with _|⟨x3,us⟩
 ·simp at hl
 rcases us with _|⟨x4,us⟩
 ·simp at hl
 rcases us with _|⟨y,us⟩
 ·exact h x0 x1 x2 x3 x4
 ·simp at hl
abbrev FE(K:Frag)(x:Str)(st:Stmt):Prop:=∃(f:Addr) (oc kV dc pm cd ct:Value) (od an:Option Addr) (sl:Array (Option Value)),nsIn K Y8 x=some (some (.ref f))/\K.lookup f=some ⟨oc,od,.func (fnOf x x (Xg st) (Qp st) (Zc st) .none kV dc pm an cd ct),sl⟩/\codeIn K cd x=true
theorem Qc{K:Frag}{tbs:List Addr}(tT:∀P∈tbs,K.lookup P=some (tabObj #[])){h:Heap}{mg:Str->Option Value}{x:Str}{st:Stmt}{ps:List Str}(X:K.In h)(G:h.Ns Y8 mg)(e:FE K x st)(hb:∀(kV doc pm:Value) (an:Option Addr) (cdv ct:Value) (us:List Value),us.length=ps.length->U6 (fnOf x x (Xg st) (Qp st) (Zc st) .none kV doc pm an cdv ct) ⟨us,[]⟩=pure (ps.zip us)):FB (Qd tbs K) mg x st ps:=by
 obtain⟨f,oc,kV,dc,pm,cd,ct,od,an,sl,a,l,c⟩:=e
 have F:=Znl (st:=st) (ZeJ tT l (λz=>by cases z)) (Zka tT c) (Zj9 tT l)
 exact⟨_,_,F,mg_of X G a,F.binds (ps:=ps) hb⟩
theorem fe_in{K:Frag}{x:Str}{st:Stmt}{f:Addr}{oc kV dc pm cd ct:Value}{od an:Option Addr}{sl:Array (Option Value)}(a:nsIn K Y8 x=some (some (.ref f)))(l:K.lookup f=some ⟨oc,od,.func (fnOf x x (Xg st) (Qp st) (Zc st) .none kV dc pm an cd ct),sl⟩)(c:codeIn K cd x=true):FE K x st:=
 ⟨_,_,_,_,_,_,_,_,_,_,a,l,c⟩
theorem bd_1{fd:Uj}{ps:List Str}(h:∀x0:Value,U6 fd ⟨[x0],[]⟩=pure (VJ ps [x0]))(us:List Value)(hl:us.length=1):U6 fd ⟨us,[]⟩=pure (VJ ps us):=us_1 (P:=λus=>U6 fd ⟨us,[]⟩=pure (VJ ps us)) hl h
theorem bd_2{fd:Uj}{ps:List Str}(h:∀x0 x1:Value,U6 fd ⟨[x0,x1],[]⟩=pure (VJ ps [x0,x1]))(us:List Value)(hl:us.length=2):U6 fd ⟨us,[]⟩=pure (VJ ps us):=us_2 (P:=λus=>U6 fd ⟨us,[]⟩=pure (VJ ps us)) hl h
theorem bd_3{fd:Uj}{ps:List Str}(h:∀x0 x1 x2:Value,U6 fd ⟨[x0,x1,x2],[]⟩=pure (VJ ps [x0,x1,x2]))(us:List Value)(hl:us.length=3):U6 fd ⟨us,[]⟩=pure (VJ ps us):=us_3 (P:=λus=>U6 fd ⟨us,[]⟩=pure (VJ ps us)) hl h
theorem bd_5{fd:Uj}{ps:List Str}(h:∀x0 x1 x2 x3 x4:Value,U6 fd ⟨[x0,x1,x2,x3,x4],[]⟩=pure (VJ ps [x0,x1,x2,x3,x4]))(us:List Value)(hl:us.length=5):U6 fd ⟨us,[]⟩=pure (VJ ps us):=us_5 (P:=λus=>U6 fd ⟨us,[]⟩=pure (VJ ps us)) hl h
theorem all_mk{l:Yb7}{w:World}{K:Frag}{h:Heap}{mg:Str->Option Value}{fa:Addr}(tT:∀P∈([126,146]:List Addr),K.lookup P=some (tabObj #[]))(tB:lamB ([126,146]:List Addr) K=true)(X:K.In h)(G:h.Ns Y8 mg)(hfa:mg "law" = some (.ref fa))(h0:FE K "has_mark" Xq)(h1:FE K "size_of" Zai)(h2:FE K "lets" Zgj)(h3:FE K "lets_size" JR)(h4:FE K "name_of" Zak)(h5:FE K "kind_of" Zal)(h6:FE K "wish_at" Zah)(h7:FE K "card_at" Zam)(h8:FE K "least_left" Ji)(h9:FE K "are_kinds_unlike" Qf)(h10:FE K "are_names_alike" Qj)(h11:FE K "is_wish_in_way" Qt)(h12:FE K "is_least_in_way" Qi)(h13:FE K "in_way" ZbB)(h14:FE K "part" Zgi)(h15:FE K "rank" Zgh)(h16:FE K "ranks" Zdk)(h17:FE K "row_of" JQ)(h18:FE K "sides_of" Xp)(h19:FE K "sets_of" Zaj)(h20:FE K "by_numbers" Jj)(h21:FE K "first_meeting" ZR)(h22:FE K "_law_cell_at" Xv)(h23:FE K "_law_tape" Zdm)(h24:FE K "_law_draw" Zdr)(h25:FE K "_law_pick" Zdp)(h26:FE K "_law_name" Zdq)(h27:FE K "_law_number" Zan)(h28:FE K "_law_card" Zds)(h29:FE K "_law_wish" Zdl)(h30:FE K "_law_offer" ZbD)(h31:FE K "_law_rule" Zdo)(h32:FE K "_law_borne" ZbE)(h33:FE K "_law_waiters" Xu)(h34:FE K "_law_without" Xr)(h35:FE K "_law_some" Zdn)(h36:FE K "_law_right" ZbC)(h37:FE K "law" Zd8){ga0:Addr}{its0:Array Value}{gn0:Nat}{gsl0:Array (Option Value)}(gv0:nsIn K Y8 "SIDES" = some (some (.ref ga0)))(gl0:K.lookup ga0=some ⟨.type "tuple",none,.seq its0 gn0,gsl0⟩)(gz0:its0.size<=YM)(gs0:StrsV [[103,105,118,101],[116,97,107,101],[98,101,97,114]] its0.toList)(z0:nsIn K Y8 "all" = some none)(z1:nsIn K Y8 "any" = some none)(z2:nsIn K Y8 "enumerate" = some none)(z3:nsIn K Y8 "int" = some none)(z4:nsIn K Y8 "len" = some none)(z5:nsIn K Y8 "min" = some none)(z6:nsIn K Y8 "range" = some none)(z7:nsIn K Y8 "sorted" = some none)(z8:nsIn K Y8 "tuple" = some none): ∃fd:Uj,(∀(s:Shared) (v:Value),YbI s fd ⟨[v],[]⟩ [("_law_script",v)])/\∀base:Heap,(Qd ([126,146]:List Addr) K).In base->base.Ns Y8 mg->FnOk l.prog w (Qd ([126,146]:List Addr) K) mg base (CXF l.prog w) 41 fa fd ["_law_script"] (spF (Qd ([126,146]:List Addr) K) fns gv 41 37):=by
 have T0:Txt0 l.prog w (Qd ([126,146]:List Addr) K) mg:=⟨Vv X G z0,Vv X G z1,Vv X G z2,Vv X G z3,Vv X G z4,Vv X G z5,Vv X G z6,Vv X G z7,Vv X G z8,Zkb (mg_of X G gv0) (ZeJ tT gl0 (λz=>by cases z)) gz0 gs0,Zm9 tT tB⟩
 have TF:TxtF (Qd ([126,146]:List Addr) K) mg:=⟨Qc tT X G h0 λ_ _ _ _ _ _ us hl=>bd_2 (λ_ _=>rfl) us hl,Qc tT X G h1 λ_ _ _ _ _ _ us hl=>bd_2 (λ_ _=>rfl) us hl,Qc tT X G h2 λ_ _ _ _ _ _ us hl=>bd_2 (λ_ _=>rfl) us hl,Qc tT X G h3 λ_ _ _ _ _ _ us hl=>bd_2 (λ_ _=>rfl) us hl,Qc tT X G h4 λ_ _ _ _ _ _ us hl=>bd_1 (λ_=>rfl) us hl,Qc tT X G h5 λ_ _ _ _ _ _ us hl=>bd_1 (λ_=>rfl) us hl,Qc tT X G h6 λ_ _ _ _ _ _ us hl=>bd_2 (λ_ _=>rfl) us hl,Qc tT X G h7 λ_ _ _ _ _ _ us hl=>bd_2 (λ_ _=>rfl) us hl,Qc tT X G h8 λ_ _ _ _ _ _ us hl=>bd_1 (λ_=>rfl) us hl,Qc tT X G h9 λ_ _ _ _ _ _ us hl=>bd_1 (λ_=>rfl) us hl,Qc tT X G h10 λ_ _ _ _ _ _ us hl=>bd_1 (λ_=>rfl) us hl,Qc tT X G h11 λ_ _ _ _ _ _ us hl=>bd_3 (λ_ _ _=>rfl) us hl,Qc tT X G h12 λ_ _ _ _ _ _ us hl=>bd_2 (λ_ _=>rfl) us hl,Qc tT X G h13 λ_ _ _ _ _ _ us hl=>bd_1 (λ_=>rfl) us hl,Qc tT X G h14 λ_ _ _ _ _ _ us hl=>bd_1 (λ_=>rfl) us hl,Qc tT X G h15 λ_ _ _ _ _ _ us hl=>bd_2 (λ_ _=>rfl) us hl,Qc tT X G h16 λ_ _ _ _ _ _ us hl=>bd_2 (λ_ _=>rfl) us hl,Qc tT X G h17 λ_ _ _ _ _ _ us hl=>bd_2 (λ_ _=>rfl) us hl,Qc tT X G h18 λ_ _ _ _ _ _ us hl=>bd_2 (λ_ _=>rfl) us hl,Qc tT X G h19 λ_ _ _ _ _ _ us hl=>bd_2 (λ_ _=>rfl) us hl,Qc tT X G h20 λ_ _ _ _ _ _ us hl=>bd_1 (λ_=>rfl) us hl,Qc tT X G h21 λ_ _ _ _ _ _ us hl=>bd_3 (λ_ _ _=>rfl) us hl,Qc tT X G h22 λ_ _ _ _ _ _ us hl=>bd_2 (λ_ _=>rfl) us hl,Qc tT X G h23 λ_ _ _ _ _ _ us hl=>bd_1 (λ_=>rfl) us hl,Qc tT X G h24 λ_ _ _ _ _ _ us hl=>bd_2 (λ_ _=>rfl) us hl,Qc tT X G h25 λ_ _ _ _ _ _ us hl=>bd_2 (λ_ _=>rfl) us hl,Qc tT X G h26 λ_ _ _ _ _ _ us hl=>bd_1 (λ_=>rfl) us hl,Qc tT X G h27 λ_ _ _ _ _ _ us hl=>bd_1 (λ_=>rfl) us hl,Qc tT X G h28 λ_ _ _ _ _ _ us hl=>bd_3 (λ_ _ _=>rfl) us hl,Qc tT X G h29 λ_ _ _ _ _ _ us hl=>bd_2 (λ_ _=>rfl) us hl,Qc tT X G h30 λ_ _ _ _ _ _ us hl=>bd_5 (λ_ _ _ _ _=>rfl) us hl,Qc tT X G h31 λ_ _ _ _ _ _ us hl=>bd_1 (λ_=>rfl) us hl,Qc tT X G h32 λ_ _ _ _ _ _ us hl=>bd_1 (λ_=>rfl) us hl,Qc tT X G h33 λ_ _ _ _ _ _ us hl=>bd_2 (λ_ _=>rfl) us hl,Qc tT X G h34 λ_ _ _ _ _ _ us hl=>bd_2 (λ_ _=>rfl) us hl,Qc tT X G h35 λ_ _ _ _ _ _ us hl=>bd_2 (λ_ _=>rfl) us hl,Qc tT X G h36 λ_ _ _ _ _ _ us hl=>bd_3 (λ_ _ _=>rfl) us hl,Qc tT X G h37 λ_ _ _ _ _ _ us hl=>bd_1 (λ_=>rfl) us hl⟩
 obtain⟨f37,oc37,kV37,dc37,pm37,cd37,ct37,od37,an37,sl37,a37,l37,c37⟩:=h37
 have e:=hfa.symm.trans (mg_of X G a37)
 cases e
 have F37:=Znl (st:=Zd8) (ZeJ tT l37 (λz=>by cases z)) (Zka tT c37) (Zj9 tT l37)
 refine⟨fnOf "law" "law" (Xg Zd8) (Qp Zd8) (Zc Zd8) .none kV37 dc37 pm37 an37 cd37 ct37,λs v=>.of_eq rfl,λbase _ _=>?_⟩
 refine Znm (fi:=37) (np:=1) (n:=5) (body:=Zh1) (cell:=false) F37 Zge ?_ ?_ ?_ ?_
 exact rfl
 exact rfl
 exact rfl
 intro _ _ _ _ _ _ hr _ _ _ go
 refine ZmV ?_ ?_ ?_ ?_
 exact T0
 exact Znt T0 TF 40
 exact hr
 exact go
theorem walkX{l:Yb7}{q:YK}{loose:List Str}{XP:(Str->Option Value)->Heap->Prop}{d:DefRec}{K:Params->Frag}{as:List Addr}{n t:Nat}(hn:l.most=some 63)(hdf:d.params.defaults=[])(he:∀P,as=(K P).map (·.1))(T:∀(w:World) P,P∈([126,146]:List Addr)->(K w.params).lookup P=some (tabObj #[]))(C:∀(w:World) P,P∈([126,146]:List Addr)->∃c,Ybn (K w.params) c P=true)(B:∀w:World,lamB ([126,146]:List Addr) (K w.params)=true)(F:∀(w:World) (mg:Str->Option Value) (fa:Addr) (h:Heap),(K w.params).In h->h.Ns Y8 mg->mg d.name=some (.ref fa) ->
   ∃fd:Uj,(∀(s:Shared) (u:Value),YbI s fd ⟨[u],[]⟩ [("_law_script",u)])/\∀base:Heap,(Qd ([126,146]:List Addr) (K w.params)).In base->base.Ns Y8 mg->FnOk l.prog w (Qd ([126,146]:List Addr) (K w.params)) mg base (CXF l.prog w) 41 fa fd ["_law_script"] (spF (Qd ([126,146]:List Addr) (K w.params)) fns gv 41 37)):
  PySem.W.WalkX q loose XP (PySem.W.X.obsZ as) (PySem.W.X.valZ K n t) l.row.toRowW d [] (λf vs=>U8 f vs):=by
 intro w s₀ s₁ mg mb G y fa o pm cd doc dV kV ho hd hcd hD hmg hg args vals as' L
 exact Mi.walk_ofT (n:=63) (k:=41) (x:="_law_script") (CX:=λw=>CXF l.prog w) (sp:=λw=>spF (Qd ([126,146]:List Addr) (K w.params)) fns gv 41 37) (YP:=λw h=>(K w.params).In h) hn (by decide) hdf ⟨rfl,by decide,by decide⟩ (λ_ _ h=>h) T C B F (λ_ _ a ns hl hO hS=>law_sp hO hS (law_true ns hl)) (λ_ _ _ _ _ z=>by obtain⟨_,_,_,_,_,_,h⟩:=z;exact h) w s₀ s₁ mg mb G (PySem.W.InK.keeps w _ _ (PySem.W.X.z_facts he y).2.1 (PySem.W.Laid.keeps L)) fa o pm cd doc dV kV ho hd hcd hD hmg hg args vals as'
end My
set_option Elab.async false
namespace PySem.W.Fast
def tw4029204231447066513:=()
def tw17739586978023510465:=()
def tw14532519064856667223:=()
def tw2322004300813218407:=()
def tw6949851051789695841:=()
def tw10801605887255192403:=()
def tw11794944758459834893:=()
def tw3462756093913550463:=()
def tw13153484761751508947:=()
def tw16414018820534315888:=()
def tw13853609062547350773:=()
def tw10016011682154433773:=()
def tw5297866387896657796:=()
def tw3861778096581416996:=()
def tw18326870551117851227:=()
def tw401204411501067583:=()
def tw16475455472814427015:=()
def tw5936787368368932580:=()
def tw9067011105568954047:=()
def tw1873446909032092478:=()
def tw1964337307318385199:=()
def tw4549418972906763953:=()
def tw4817271586913402192:=()
def tw1777989770317286093:=()
def tw17187262246252161848:=()
def tw3978564515831247592:=()
def tw16222062264660145796:=()
def tw10690396308454732951:=()
def tw11941503990768681129:=()
def tw9266595306951179281:=()
def tw17263339148723582342:=()
def tw12305663121197977962:=()
def tw7053365496914635837:=()
def tw12311505082433968118:=()
def tw4024355606539467232:=()
def tw17391828253237767055:=()
def tw357012292933043340:=()
def tw16409696940652879354:=()
def tw1973706384563118565:=()
def tw2594581238305210492:=()
def tw13386354729323702960:=()
def tw4705912852900567837:=()
def tw2934774702399497621:=()
def tw6721314292105000487:=()
def tw2379712219340519605:=()
def tw13682241216633491842:=()
def tw5189335823419721709:=()
def tw8178676486012981831:=()
def tw16998892179176432572:=()
def tw7884148692638480873:=()
def tw15843576324028987528:=()
def tw16984622022595585536:=()
def tw5043235009499158296:=()
def tw14699865007486311108:=()
def tw4667435915012497055:=()
def tw13934610455582370828:=()
def tw17792878777308324839:=()
def tw6062385348560118292:=()
def tw4126208551577096557:=()
def tw13184115854272794228:=()
def tw1187823297251961488:=()
def tw6188620607321063460:=()
def tw12992145126801245742:=()
def tw7789866324892938539:=()
def tw1301154310709021028:=()
def tw4944515054837504174:=()
def tw3899413583356351472:=()
def tw12095061363464564283:=()
def tw6324516755410801333:=()
def tw14172604162546865713:=()
def tw4739702270814009483:=()
def tw9230529260550056265:=()
def tw10146210207723601883:=()
def tw1643069629770958610:=()
def tw8007233499179433256:=()
def tw10463443214347108602:=()
def tw8008911615495634236:=()
def tw2006863045200586364:=()
def tw7087678332645702646:=()
def tw12199104104035986048:=()
def tw9697039496344062995:=()
def tw1293405070348690783:=()
def tw15785830525909844621:=()
def tw12145027047133326890:=()
def tw13707748910346285532:=()
def tw16403653519903633289:=()
def tw15083912622182365243:=()
def tw4393123788934451853:=()
def tw4210261636777598175:=()
def tw8880927979022746251:=()
def tw3568977487385532144:=()
def tw8063485135512675152:=()
def tw17660217006698129945:=()
def tw3863588671551953806:=()
def tw1588274768066540461:=()
def tw7404778159403514005:=()
def tw6339380690754420515:=()
def tw18236370412112718495:=()
def tw8816755619326667506:=()
def tw4315544966906246550:=()
def tw14505204801287556949:=()
def tw3069080588144938662:=()
def tw13805721977741535932:=()
def tw9360713425049408994:=()
def tw9551014943955652639:=()
def tw17648804238673379797:=()
def tw7783351185187616477:=()
def tw8345048044689316440:=()
def tw8044050445625184628:=()
def tw18291944658970732114:=()
def tw4043508253774809786:=()
def tw11376168368794420275:=()
def tw5469095363855316030:=()
def tw10948345758614583328:=()
def tw14908571903385995441:=()
def tw4085356652243976294:=()
def tw3696126166242586257:=()
def tw15088694706087698211:=()
def tw8697762633672825478:=()
def tw9949565740040231558:=()
def tw13897415514104912243:=()
def tw1104949607187474556:=()
def tw1866055967447846243:=()
def tw14060958637134641889:=()
def tw2012955417517325746:=()
def tw4637994198548219670:=()
def tw13702798077215504456:=()
def tw6492012282977367459:=()
def tw2243133538715434215:=()
def tw6004732348874138150:=()
def tw2587477343053041484:=()
def tw4640325207509852418:=()
def tw14903172822786736599:=()
def tw14942639429487657411:=()
def tw4008225168885549484:=()
def tw5374047821272184932:=()
def tw13641398622687086085:=()
def tw4378351484365114328:=()
def tw4129397372803968680:=()
def tw6937163319266613781:=()
def tw12459812442707517093:=()
def tw370997025966997474:=()
def tw17912866282004186818:=()
def tw13093477862215108848:=()
def tw17895004218383155973:=()
def tw12827719164303217369:=()
def tw3667470812381199930:=()
def tw14130174611946842178:=()
def tw14051455084510220629:=()
def tw15667818350491031594:=()
def tw9573449119816047877:=()
def tw9379498402029024983:=()
def tw3003571706943178493:=()
def tw16154215236272404133:=()
end PySem.W.Fast
def PySem.W.Fast.tw8556686342251860345:PySem.Program:=PySem.Challenge.pw_matepoint_k45_whole_who_could_be_left_ou
theorem PySem.W.Fast.te8556686342251860345:PySem.Challenge.pw_matepoint_k45_whole_who_could_be_left_ou=PySem.W.Fast.tw8556686342251860345:=rfl
open PySem PySem.W PyProof.Rows
set_option maxRecDepth 100000 in
set_option maxHeartbeats 0 in
theorem PySem.Challenge.cw_matepoint_k45_whole_who_could_be_left_ou_holds : PySem.Challenge.rw_matepoint_k45_whole_who_could_be_left_ou.Holds := by
 w_on;o_law;z_head;(case hw=>w_witness2)
 k_fill
 refine My.walkX (l:=PySem.Challenge.rw_matepoint_k45_whole_who_could_be_left_ou) rfl rfl (λ_=>rfl) ?T ?C ?B ?F
 case T=>exact λw=>(Ux.mpr ⟨by k_is,(Ux.mpr ⟨by k_is,(λ_ h=>absurd h YC)⟩)⟩)
 case C=>exact λw=>(Ux.mpr ⟨⟨128,by kernel_rfl⟩,(Ux.mpr ⟨⟨148,by kernel_rfl⟩,(λ_ h=>absurd h YC)⟩)⟩)
 case B=>exact λw=>by kernel_rfl
 case F =>
  intro w mg fa h KX G hmg
  refine' My.all_mk ?tT ?tB KX G hmg ?h0 ?h1 ?h2 ?h3 ?h4 ?h5 ?h6 ?h7 ?h8 ?h9 ?h10 ?h11 ?h12 ?h13 ?h14 ?h15 ?h16 ?h17 ?h18 ?h19 ?h20 ?h21 ?h22 ?h23 ?h24 ?h25 ?h26 ?h27 ?h28 ?h29 ?h30 ?h31 ?h32 ?h33 ?h34 ?h35 ?h36 ?h37 ?gv0 ?gl0 ?gz0 ?gs0 ?z0 ?z1 ?z2 ?z3 ?z4 ?z5 ?z6 ?z7 ?z8
  (case h0|h1|h2|h3|h4|h5|h6|h7|h8|h9|h10|h11|h12|h13|h14|h15|h16|h17|h18|h19|h20|h21|h22|h23|h24|h25|h26|h27|h28|h29|h30|h31|h32|h33|h34|h35|h36|h37=>refine' My.fe_in ?a ?l ?c;(case a=>k_is);(case l=>k_is);(case c=>k_is))
  (case tT=>exact(Ux.mpr ⟨by k_is,(Ux.mpr ⟨by k_is,(λ_ h=>absurd h YC)⟩)⟩))
  (case tB=>kernel_rfl)
  (case gv0|gl0=>k_is)
  (case gz0=>decide)
  (case gs0=>exact(.cons (by decide +kernel) (.cons (by decide +kernel) (.cons (by decide +kernel) .nil))))
  (case z0|z1|z2|z3|z4|z5|z6|z7|z8=>k_is)
end
