import PyProof.Rows.All
import Wide.All
import OpenK.AllK
import Wide.FinOn
import Lean
import PyProof.EqAt
import PyProof.EqKinds
import PyProof.TupleCall
import PyProof.ToksMono
import PyProof.StrCalls6
import PyProof.StrLawsReplace
import PyProof.DictUpdate
import PySem.Challenge.RW_matepoint_k51_houses_that_are_none
set_option Elab.async false
set_option linter.all false
set_option maxRecDepth 100000
noncomputable section
open PySem renaming wpAny_bind->Yb,wpAny_pure->Yd,mainGlobals->Yr,Program->Yx,sizeLine->YC,wpAny_newObj_type->YZ,compareOp->Y7,Env->Wb,wpAny_holding->Wg,starEach->Wq,foldedSetIterable->Wu,strKind->Wx,assignEach->Wz,wpAny_callSpecial?_slot->WL,Comprehension->WN,wpAny_Call_Name_kw->WQ,binaryOp->WW,wpAny_call_entry->WY,wpAny_setEntries_of->W0,wpAny_setState_of->W4,FuncData->W5,wpAny_setField->W7,bootBuiltins->Ub,wpAny_truthy_bool->Ug,sizeLine_eq->Uh,wpAny_standAt->Uj,bindArgs->Uk,wpAny_mono->Uq,SetTable->Ut,wpAny_isNot_other->Uy,letOwnedTupleGo->UG,mem_of_lookup->UL,wpAny_askSetting->U3,codeAny_mono->U6,standAt->Gb,wpAny_field->Ge,codeAny_builtin->Gh,wpAny_is_other->Gr,codeAny->Gv,sliceBounds->Gx,Str->Gz,NameKind->GC,call->GD,wpAny_fieldsOf->GR,call_meets->Vc,wpAny_rule->Ve,holding->Vh,wpAny_passesOwn->Vi,attributeBase->Vk,cellsFrom->Vn,scanBound->Vp,codeAny_of_tree->Vq,wpAny_attempt->Vr,compTurn->Vs,builtinsNs->Vx,wpAny_typeOf->VD,pickOrder->VF,noteFrame->VG,getItem->VH,codeAny_call_builtin->VM,sysModules->V0,swapsWith->V2,theWindowsPlace->Yab,wpAny_ite_false->Yac,wpAny_loadPart'->Yad,Operator->Yag,wpAny_pyIter_tuple->Yak,wpAny_call->Yar,wpAny_sequenceKey->Yas,fits_of_scanBound->Yaw,wpAny_pyIter_list->Yax,behindInMarks->YaE,relayAll->YaG,plainId_quiet->YaH,comprehension->YaK,wpAny_execs_cons->YaN,noFill_tuple_add->YaO,wpAny_execs_nil->YaW,Arguments->YaZ,codeAmong->Ya1,compStart->Ya3,typeIs_int->Ya5,slotArgs->Ya6,wpAny_runValue->Ya9,isSubtype_type->Yba,keywordEach->Ybc,slicePicked->Ybd,seq_tuple_add->Ybf,evalPart_none->Ybh,wpAny_newList->Ybj,setFlight->Ybk,BindsTo->Ybo,typeLookup->Ybp,callerA->Ybs,Within->Ybu,concat_meets->Yby,seqIndex_neg->Ybz,setAddHashed->YbB,getMethod->YbG,seqIndex_of->YbH,subscripted->YbI,slicePick->YbJ,wpAny_of_eq->YbL,wpAny_alloc->YbM,Fin->YbN,clausesOf->YbO,wpAny_Name->YbQ,typeIs_str->YbT,setsByText->YbU,closureFor->YbV,sliceRange->YbX,GenState->YbZ,backToKw->Yb0,Keyword->Yb1,compPost->Yb3,PassesOwn->Yb6,seqIndex?->Yca,drawOrder->Ycb,TriplesOk->Ycc,raiseStmt->Ycd,onTheHeap->Yce,spliced->Ycf,setNext->Ycg
open PySem.Heap renaming get?_push_of_some->Yc,get?_push_size->Yl,lt_size->Yp,size_push->Y4,get?_update_other->Y6,get?_update_self->Wo,get?_update_ne->Gp,SameBut->Gs,get?_none_of_le->VL,ExtBut->V7
open List renaming getElem?_eq_some_iff->Ye,length_append->Yh,length_map->Yi,size_toArray->Yk,mem_append_right->Ym,replicate->Yn,getElem?_set_ne->Yo,mem_cons->Ys,getElem?_append_right->Yu,mem_cons_of_mem->Yw,getElem?_append_left->Yy,getElem?_set_self->YB,mem_cons_self->YD,not_mem_nil->YF,forall_mem_cons->YG,getElem?_eq_getElem->YH,getElem?_map->YJ,range->YM,all_eq_true->YT,append_assoc->YW,lookup_cons->Y8,map_cons->Wa,pairwise_cons->Wc,mem_append_left->Wf,length_cons->Wh,length_take->Wi,mem_singleton->Wl,length_replicate->Wn,getElem?_replicate->Wr,append_nil->Ws,length_set->Wt,replicate_succ->WD,length_singleton->WF,length_range->WM,mem_of_getElem?->WP,mem_range->W6,mem_map->Uc,filterMap_cons->Ue,getElem?_eq_none->Uo,flatten_cons->Ux,mem_append->Uz,length_nil->UT,zip->UV,isEmpty_nil->U4,all_cons->U8,contains_iff_mem->Ga,Nodup->Gi,pairwise_singleton->Gn,lookup->Gw,nil_append->Gy,length_eraseIdx_of_lt->GP,getElem?_zip_eq_some->GX,getElem?_eq_none_iff->GZ,any_eq_true->G4,getElem_of_mem->G5,getElem?_range->G6,nodup_cons->Vm,zip_cons_cons->Vt,length_eq_zero_iff->Vu,reverse_cons->Vz,length_drop->VJ,set_append_left->VN,any_cons->VP,foldl_cons->V4,map_append->V6,length_zip->V9,forIn_cons->Yaa,take_set_of_le->Yae,take_left'->Yaf,filterMap_map->Yai,all_map->Yam,getElem?_take->Yan,drop_zero->Yaq,foldl->Yat,nodup_append->Yau,ext_getElem?->Yaz,length->YaF,set_comm->YaM,getElem_mem->YaP,take_length->YaS,cons_append->YaU,of_mem_zip->YaY,map_map->Ya0,take_set->Ybl,getD->YbP
open Bool renaming and_eq_true->Yg,false_ne_true->Yt,false_eq_true->Yz,and_false->Ww,or_eq_true->W9,not_true->Ul,false_and->Gd,eq_iff_iff->Vj,eq_false_iff->Vy,not_eq_true'->YaC,true_and->YaL
open Nat renaming le_refl->Yj,lt_of_lt_of_le->Yq,ne_of_lt->Yv,le_of_ble_eq_true->YS,lt_succ_of_lt->Y0,lt_irrefl->Y9,zero_le->Wd,le_trans->Wm,lt_succ_self->WX,sub_self->Uw,le_succ->UJ,ne_of_gt->Gu,le_of_lt->G8,lt_trans->Vd,le_of_eq->Ybv,mul_comm->YbA,not_lt->YbW
open And renaming intro->YK
open Array renaming length_toList->YL,getElem?_eq_some_iff->Ud,getElem?_toList->U9,getD->YbY
open Option.some renaming inj->YQ
open PySem.NameKind renaming free->YX,cell->YaJ
open PySem.Value renaming ref->Y5,none->W2,bool->W3,isStrOf->Gk,str->GQ,type->G7,builtin->Vv,isStrOf_shape->V1,int->YaV,float->YbE
open PySem.Builtin.Slice renaming slicePlaces->We,sliceAdjust->WT,sliceApplied->UW
open PyProof.Rows renaming slot_tuple_getitem->Wj,callWith_type1->W8,callWith_builtin1->Gj,listUpdate_at->VR,entry_tuple_getitem->V3,get?_update_seq->V8,args_tuple_getitem->Yaj,slicePart_none->Yap,AllBare->YaD,tupleItemsOf_->Ybg,subscriptTail->Ybi,IntsAre->Ybr,Subscript_->YbS,StrsAre->Yb2,general'->Yb4
open PySem.Builtin.Tuple renaming tupleExact->Wk,tupleItemsOf->GK
open PySem.PyData renaming eqv->Wv,canLay0->Gq,depth->Vf,eqvAll->VV,canLayAll0->YaA,depthAll->Ya2
open PySem.Obj renaming data_mapFields->Wy,mapSeq->Ui,isFreed_of_fields->Um,mapFields->Gm,putSet->Yav,cls_mapFields->Yay
open PySem.Heap.SameBut renaming update->WK
open Ne renaming symm->WR
open ForInStep renaming yield->Ua
open True renaming intro->Ur
open PySem.Builtin.Str renaming occurrences->Us
open PyProof.Rows.F renaming plain_set_update_loop->Uu
open PySem.SetTable renaming below->Uv,grown->Gf
open False renaming elim->U0
open PySem.W renaming mg_none_of->U5,kia_one->Vl,emptyDict->VB,hasDictIn->YaX,codeHdIn->Ya7,cellsFrom_some->Ya8,instObj->Ybb,specialIn->Ybe,plainGet->YbD,plainGet_of->YbF,OpenLaw->YbK,callWith_K->YbR,methodObj->Yb5,plainOver->Yb7,kitx_list->Yb9,kas_rev->Ych
open PySem.Str renaming ofString->U7,empty->Yb8
open PySem.Around renaming under_plainId->Gg,under->Ybw
open Int renaming toNat_natCast->GJ,emod_lt_of_pos->Yao,emod_nonneg->Ya4
open Option renaming isSome_iff_exists->G9,bind_some->YaT
open PySem.F renaming args_tuple_add_2->Va,entry_tuple_add->Vo,slot_tuple_add->Vw,slot_int_rmul->V5,args_tuple_mul_2->Yal,entry_tuple_mul->YaB,slot_tuple_mul->YaR
open PySem.Builtin.List renaming listTooLong->Vb
open PySem.AutoSeq1 renaming sub_tuple_tuple->Vg,idx_int->YaQ
open PySem.Calls renaming spliced_cons->Yah
open PySem.Shared renaming TypeIs->YaI
open Sum renaming inl->Ybm,inr->Ybn
open PySem.SeqAt renaming EqAt->Ybq
open PyProof.Rows.SortSt renaming mk'->Ybt
open PySem.Code renaming isFrame->Ybx
open PySem.pickOrder renaming go->YbC
open PySem.W (Frag OpenLaw callWith_K cellsFrom_some codeHdIn codeIn emptyDict findIn fnOf hasDictIn instObj isFn keepIn kia_one kitOne kitx_list lookIn makesIn methodObj mg_none_of mg_of mroIn nsIn plainGet plainGet_of plainOver specialIn tabObj takerIn)
section
set_option Elab.async false
namespace L2
open PySem PySem.Spec PyProof.Rows
noncomputable abbrev Key:=Sum Int Str
noncomputable def keyIs:Key->Value->Bool
 |.inl k,v=>Value.isInt k v
 |.inr x,v=>Gk x v
noncomputable def keyH(w:World):Key->Int
 |.inl k=>hashInt k
 |.inr x=>hashStr w x
theorem ZZ:∀{k:Key}{v:Value},keyIs k v=true->(∃i t,k=Ybm i/\v=YaV i t)∨(∃x t,k=Ybn x/\v=GQ x t)
 |.inl i,v,h=>by
  obtain⟨t,e⟩:=Value.isInt_shape (k:=i) (v:=v) h
  exact .inl ⟨i,t,rfl,e⟩
 |.inr x,v,h=>by
  obtain⟨t,e⟩:=V1 (x:=x) (v:=v) h
  exact .inr ⟨x,t,rfl,e⟩
theorem key_ll(a b:Int):decide ((Ybm a:Key)=Ybm b)=(a==b):=by
 by_cases e:a=b
 ·subst e;simp
 ·have h:¬(Ybm a:Key)=Ybm b:=λq=>e (Sum.inl.inj q)
  rw[decide_eq_false h]
  exact(beq_eq_false_iff_ne.mpr e).symm
theorem key_rr(a b:Str):decide ((Ybn a:Key)=Ybn b)=decide (a=b):=by
 by_cases e:a=b
 ·subst e;simp
 ·have h:¬(Ybn a:Key)=Ybn b:=λq=>e (Sum.inr.inj q)
  rw[decide_eq_false h,decide_eq_false e]
theorem key_lr(a:Int)(b:Str):decide ((Ybm a:Key)=Ybn b)=false:=decide_eq_false (λq=>nomatch q)
theorem key_rl(a:Str)(b:Int):decide ((Ybn a:Key)=Ybm b)=false:=decide_eq_false (λq=>nomatch q)
noncomputable def ZeF(prog:Yx)(w:World):PySem.KeyKind prog w Key where
 is:=keyIs
 hash:=keyH w
 inj:=λv a b ha hb=>by
  rcases ZZ ha with⟨i,t,rfl,rfl⟩|⟨x,t,rfl,rfl⟩
  ·rcases ZZ hb with⟨j,u,rfl,e⟩|⟨y,u,rfl,e⟩
   ·injection e with e1 _;rw[e1]
   ·exact nomatch e
  ·rcases ZZ hb with⟨j,u,rfl,e⟩|⟨y,u,rfl,e⟩
   ·exact nomatch e
   ·injection e with e1 _;rw[e1]
 byValue:=λk v h=>by
  rcases ZZ h with⟨i,t,rfl,rfl⟩|⟨x,t,rfl,rfl⟩<;>rfl
 pyHash:=λhv h=>by
  rcases ZZ hv with⟨i,t,rfl,rfl⟩|⟨x,t,rfl,rfl⟩
  ·exact wpAny_pyHash_int h
  ·exact wpAny_pyHash_str h
 eqBool:=λhu hv h=>by
  rcases ZZ hu with⟨i,t,rfl,rfl⟩|⟨x,t,rfl,rfl⟩
  ·rcases ZZ hv with⟨j,u,rfl,rfl⟩|⟨y,u,rfl,rfl⟩
   ·rw[key_ll]at h;exact wpAny_eqBool_int h
   ·rw[key_lr]at h;exact SeqAt.EqAt.int_str i t y u _ _ _ _ h
  ·rcases ZZ hv with⟨j,u,rfl,rfl⟩|⟨y,u,rfl,rfl⟩
   ·rw[key_rl]at h;exact SeqAt.EqAt.str_int x t j u _ _ _ _ h
   ·rw[key_rr]at h;exact wpAny_eqBool_str h
 «strs»:=λk x t v h=>by
  rcases ZZ h with⟨i,u,rfl,e⟩|⟨y,u,rfl,e⟩
  ·exact nomatch e
  ·injection e with e1 _
   subst e1
   cases v<;>rfl
inductive V where
 |non|bl (b:Bool)|int (i:Int)|str (x:Str)|byt (b:Array UInt8)|flt (b:UInt64)|ref (a:Addr)|ty (n:String)
 deriving DecidableEq
noncomputable def RelV:V->Value->Prop
 |.non,u=>u=W2
 |.bl b,u=>u=W3 b
 |.int i,u=>∃t,u=YaV i t
 |.str x,u=>∃t,u=GQ x t
 |.byt b,u=>∃t,u=Value.bytes b t
 |.flt b,u=>∃t,u=YbE b t
 |.ref a,u=>u=Y5 a
 |.ty n,u=>u=G7 n
noncomputable abbrev Vals:List V->List Value->Prop:=Paired RelV
theorem Vals.length{xs:List V}{us:List Value}(r:Vals xs us):xs.length=us.length:=Paired.length r
theorem Vals.get:∀{xs:List V}{us:List Value}{i:Nat}{x:V},Vals xs us->xs[i]?=some x->∃u,us[i]?=some u/\RelV x u
 |_,_,_,_,.nil,e=>by simp at e
 |_,_,0,_,.cons r _,e=>by simp at e;subst e;exact⟨_,rfl,r⟩
 |_,_,i+1,x,.cons _ t,e=>by
  obtain⟨u,h1,h2⟩:=Vals.get (i:=i) (x:=x) t (by simpa using e)
  exact⟨u,by simpa using h1,h2⟩
theorem Vals.set{x:V}{u:Value}(r:RelV x u):∀{xs:List V}{us:List Value}(i:Nat),Vals xs us->Vals (xs.set i x) (us.set i u)
 |_,_,_,.nil=>.nil
 |_,_,0,.cons _ t=>.cons r t
 |_,_,i+1,.cons q t=>.cons q (Vals.set r i t)
theorem Vals.append:∀{xs ys:List V}{us ws:List Value},Vals xs us->Vals ys ws->Vals (xs++ys) (us++ws)
 |_,_,_,_,.nil,s=>s
 |_,_,_,_,.cons r t,s=>.cons r (Vals.append t s)
theorem Vals.take:∀{xs:List V}{us:List Value}(n:Nat),Vals xs us->Vals (xs.take n) (us.take n)
 |_,_,0,_=>.nil
 |_,_,_+1,.nil=>.nil
 |_,_,n+1,.cons r t=>.cons r (Vals.take n t)
theorem Vals.drop:∀{xs:List V}{us:List Value}(n:Nat),Vals xs us->Vals (xs.drop n) (us.drop n)
 |_,_,0,r=>r
 |_,_,_+1,.nil=>.nil
 |_,_,n+1,.cons _ t=>Vals.drop n t
noncomputable def RelO:Option V->Option Value->Prop
 |some v,some u=>RelV v u
 |none,none=>True
 |_,_=>False
noncomputable def KV{κ:Type}:List (κ×V)->List (κ×Value)->Prop:=Paired λ(p:κ×V) (q:κ×Value)=>p.1=q.1/\RelV p.2 q.2
noncomputable def kV:Key->V
 |.inl i=>.int i
 |.inr x=>.str x
inductive HO where
 |lst (xs:List V)
 |tup (xs:List V)
 |dK (kvs:List (Key×V))|dT (kvs:List (List Key×V))
 |set (S:Int->Bool) (n:Nat)
 |ins (C dx:Addr) (fs:List (Str×V))
 |own (x:Addr)
 |xd (fs:List (Str×V))
 |met (f x:Addr)
 |rng (lo hi:Int)
 |frz (o:Obj) (u:HO)
 |tbl (ps:Array Value)
 |ext (φ:Heap->Prop)
noncomputable abbrev Hp:=Addr->Option HO
noncomputable def upd(H:Hp)(a:Addr)(o:HO):Hp:=λb=>if b=a then some o else H b
theorem ZL{H:Hp}{a:Addr}{o:HO}:upd H a o a=some o:=by unfold upd;rw[if_pos rfl]
theorem Zm{H:Hp}{a b:Addr}{o:HO}(h:b≠a):upd H a o b=H b:=by unfold upd;rw[if_neg h]
theorem Z9{H:Hp}{a b:Addr}{o:HO}(h:H a=some o)(h':H b=none):a≠b:=by
 intro e;subst e;rw[h]at h';cases h'
noncomputable def TupP(h:Heap)(a:Addr)(items:Array Value):Prop:=∃o,h.get? a=some o/\o.cls=.type "tuple"/\(∃n,o.data=.seq items n)/\o.dict=none
theorem TupP.is{h:Heap}{a:Addr}{items:Array Value}(x:TupP h a items):IsTup h a items:=let⟨o,h1,h2,h3,_⟩:=x;⟨o,h1,h2,h3⟩
theorem TupP.new(h:Heap)(items:Array Value):TupP (h.push { cls:=.type "tuple",data:=.seq items }) h.objs.size items:=⟨_,Yl _ rfl,rfl,⟨_,rfl⟩,rfl⟩
section
variable(P:Yx) (w:World)
noncomputable def QJ(H:Hp)(h:Heap)(a:Addr):HO->Prop
 |.lst xs=>xs.length<=YC/\∃(its:List Value) (n:Nat),Vals xs its/\h.get? a=some { cls:=.type "list",data:=.seq its.toArray n }
 |.tup xs=>xs.length<=YC/\∃its:List Value,Vals xs its/\TupP h a its.toArray
 |.dK kvs=>kvs.length<=YC/\(a==V0)=false/\∃vs,KV kvs vs/\h.DictOf (ZeF P w) a vs
 |.dT kvs=>kvs.length<=YC/\(a==V0)=false/\∃xs:List (List Key×Addr×Value),
  Paired (λ(p:List Key×V) (q:List Key×Addr×Value)=>p.1=q.1/\H q.2.1=some (.tup (p.1.map kV))/\RelV p.2 q.2.2) kvs xs /\
  ∃o es ep,h.get? a=some o/\o.ExactDict/\o.data=.dict es ep/\es.toList=xs.map (entryOfKey (tupleKind (ZeF P w)))/\(xs.map (·.1)).Nodup
 |.set S n=>h.SetOf (intKind P w) a S n
 |.ins C dx fs=>H dx=some (.own a)/\fs.length<=1000/\dx≠a/\h.get? a=some (Ybb C dx) /\
  ∃mA,h.Ns1 dx mA/\(∀f,RelO (fs.lookup f) (mA f))/\Ybu mA (fs.map (·.1))
 |.own _=>∃o,h.get? a=some o
 |.xd fs=>∃mA,h.Ns1 a mA/\∀f,RelO (fs.lookup f) (mA f)
 |.rng lo hi=>∃t u v,h.get? a=some { cls:=.type "range",data:=.fields #[.int lo t,.int hi u,.int 1 v] }
 |.frz o u=>h.get? a=some o/\QJ H h a u
 |.tbl ps=>h.get? a=some { cls:=.none,data:=.fields ps }
 |.met f x=>h.get? a=some (Yb5 (.ref f) (.ref x))
 |.ext φ=>φ h/\(∃o,h.get? a=some o)/\∀h1 h2:Heap,φ h1->(∀o,h1.get? a=some o->h2.get? a=some o)->φ h2
noncomputable def HOk(H:Hp)(h:Heap):Prop:=∀a o,H a=some o->QJ P w H h a o
end
section
variable{P:Yx}{w:World}{H H':Hp}{h h':Heap}{a:Addr}{o:HO}
theorem QJ.lt(x:QJ P w H h a o):a<h.objs.size:=by
 cases o with
 |lst xs=>obtain⟨_,_,_,_,e⟩:=x;exact Yp e
 |tup xs=>obtain⟨_,_,_,p⟩:=x;exact p.is.lt
 |dK kvs=>obtain⟨_,_,_,_,o,_,_,e,_⟩:=x;exact Yp e
 |dT kvs=>obtain⟨_,_,_,_,o,_,_,e,_⟩:=x;exact Yp e
 |set S n=>obtain⟨o,_,_,_,e,_⟩:=x;exact Yp e
 |ins C dx fs=>obtain⟨_,_,_,e,_⟩:=x;exact Yp e
 |own y=>obtain⟨_,e⟩:=x;exact Yp e
 |xd fs=>obtain⟨_,⟨_,_,_,e,_⟩,_⟩:=x;exact Yp e
 |rng lo hi=>obtain⟨_,_,_,e⟩:=x;exact Yp e
 |frz ob u=>obtain⟨e,_⟩:=x;exact Yp e
 |tbl ps=>exact Yp (show h.get? a=some _ from x)
 |met f y=>exact Yp (show h.get? a=some _ from x)
 |ext φ=>obtain⟨_,⟨_,e⟩,_⟩:=x;exact Yp e
theorem Paired.mapP{α β:Type}{F G:α->β->Prop}:∀{l₁:List α}{l₂:List β},Paired F l₁ l₂->(∀a b,F a b->G a b)->Paired G l₁ l₂
 |_,_,.nil,_=>.nil
 |_,_,.cons r t,f=>.cons (f _ _ r) (Paired.mapP t f)
theorem QJ.stay(x:QJ P w H h a o)(k:∀b u,(b=a∨H b=some (.own a))->h.get? b=some u->h'.get? b=some u)(ho:∀b,H b=some (.own a)->H' b=some (.own a))(ht:∀b xs,H b=some (.tup xs)->H' b=some (.tup xs)):QJ P w H' h' a o:=by
 induction o with
 |lst xs=>obtain⟨z,its,n,r,e⟩:=x;exact⟨z,its,n,r,k _ _ (.inl rfl) e⟩
 |tup xs=>obtain⟨z,its,r,ob,e,c⟩:=x;exact⟨z,its,r,ob,k _ _ (.inl rfl) e,c⟩
 |dK kvs=>obtain⟨z,y,vs,r,ob,es,ep,e,c⟩:=x;exact⟨z,y,vs,r,ob,es,ep,k _ _ (.inl rfl) e,c⟩
 |dT kvs =>
  obtain⟨z,y,xs,r,ob,es,ep,e,c⟩:=x
  exact⟨z,y,xs,Paired.mapP r λp q z=>⟨z.1,ht _ _ z.2.1,z.2.2⟩,ob,es,ep,k _ _ (.inl rfl) e,c⟩
 |set S n=>obtain⟨ob,es,ep,t,e,c⟩:=x;exact⟨ob,es,ep,t,k _ _ (.inl rfl) e,c⟩
 |ins C dx fs =>
  obtain⟨d,z,ne,e,mA,⟨od,es,ep,e2,c⟩,r⟩:=x
  exact⟨ho _ d,z,ne,k _ _ (.inl rfl) e,mA,⟨od,es,ep,k _ _ (.inr d) e2,c⟩,r⟩
 |own y=>obtain⟨ob,e⟩:=x;exact⟨ob,k _ _ (.inl rfl) e⟩
 |xd fs=>obtain⟨mA,⟨od,es,ep,e,c⟩,r⟩:=x;exact⟨mA,⟨od,es,ep,k _ _ (.inl rfl) e,c⟩,r⟩
 |rng lo hi=>obtain⟨t,u,v,e⟩:=x;exact⟨t,u,v,k _ _ (.inl rfl) e⟩
 |frz ob u ih=>obtain⟨e,q⟩:=x;exact⟨k _ _ (.inl rfl) e,ih q⟩
 |tbl ps =>
  have e:h.get? a=some { cls:=.none,data:=.fields ps }:=x
  show h'.get? a=some { cls:=.none,data:=.fields ps }
  exact k a _ (.inl rfl) e
 |met f y =>
  have e:h.get? a=some (Yb5 (.ref f) (.ref y)):=x
  show h'.get? a=some (Yb5 (.ref f) (.ref y))
  exact k a _ (.inl rfl) e
 |ext φ=>obtain⟨p,⟨o,e⟩,st⟩:=x;exact⟨st _ _ p λo q=>k _ _ (.inl rfl) q,⟨o,k _ _ (.inl rfl) e⟩,st⟩
theorem HOk.lt(x:HOk P w H h)(e:H a=some o):a<h.objs.size:=(x a o e).lt
theorem HOk.fresh(x:HOk P w H h)(e:h.objs.size<=a):H a=none:=by
 cases q:H a with
 |none=>rfl
 |some u=>exact absurd (Yq (x.lt q) e) (Y9 _)
theorem HOk.kept(x:HOk P w H h)(k:∀b u,h.get? b=some u->h'.get? b=some u):HOk P w H h':=λa o e =>
 (x a o e).stay (λb u _ q=>k b u q) (λ_ q=>q) λ_ _ q=>q
theorem HOk.laid(x:HOk P w H h)(k:∀b u,h.get? b=some u->h'.get? b=some u)(hp:h.objs.size<=a)(new:QJ P w (upd H a o) h' a o):HOk P w (upd H a o) h':=λb u e=>by
 have hn:=x.fresh hp
 by_cases hb:b=a
 ·subst hb;rw[ZL]at e;cases e;exact new
 ·rw[Zm hb]at e
  exact(x b u e).stay (λc v _ q=>k c v q) (λc q=>by rw[Zm (Z9 q hn)];exact q) λc xs q=>by rw[Zm (Z9 q hn)];exact q
end
noncomputable def Rd(H:Hp)(a:Addr)(u:HO):Prop:=H a=some u∨∃o,H a=some (.frz o u)
theorem Rd.ok{P:Yx}{w:World}{H:Hp}{h:Heap}{a:Addr}{u:HO}(r:Rd H a u)(x:HOk P w H h):QJ P w H h a u:=by
 rcases r with r|⟨o,r⟩
 ·exact x a u r
 ·obtain⟨_,q⟩:=x a _ r
  exact q
noncomputable def Mut:Option HO->Prop
 |some (.lst _)=>True
 |some (.dK _)=>True
 |some (.dT _)=>True
 |some (.set _ _)=>True
 |some (.ins _ _ _)=>True
 |some (.ext _)=>True
 |_=>False
section
variable{P:Yx}{w:World}{H:Hp}{h h':Heap}{x e:Addr}{o':HO}
theorem HOk.write(ok:HOk P w H h)(mu:Mut (H x))(he:e=x∨H e=some (.own x))(k:∀b u,b≠e->h.get? b=some u->h'.get? b=some u)(heo:∃u,h'.get? e=some u)(new:QJ P w (upd H x o') h' x o'):HOk P w (upd H x o') h':=λb u q=>by
 have nown:∀c y,H c=some (.own y)->c≠x:=λc y r z=>by subst z;rw[r]at mu;exact mu
 have ntup:∀c xs,H c=some (.tup xs)->c≠x:=λc xs r z=>by subst z;rw[r]at mu;exact mu
 by_cases hb:b=x
 ·subst hb;rw[ZL]at q;cases q;exact new
 ·rw[Zm hb]at q
  by_cases hbe:b=e
  ·have q':H b=some (.own x):=by
    rcases he with z|z
    ·exact absurd (hbe.trans z) hb
    ·rw[hbe];exact z
   rw[q]at q';cases q'
   obtain⟨v,hv⟩:=heo
   exact⟨v,by rw[hbe];exact hv⟩
  ·refine(ok b u q).stay (λc v hc r=>k c v ?_ r) (λc r=>by rw[Zm (nown c b r)];exact r) λc xs r=>by rw[Zm (ntup c xs r)];exact r
   rcases hc with rfl|hc
   ·exact hbe
   ·rintro rfl
    rcases he with z|z
    ·exact nown c b hc z
    ·rw[hc]at z;cases z;exact hb rfl
end
structure Un (fs ex:List Addr) (H H':Hp) (h h':Heap):Prop where
 keep:∀b o,h.get? b=some o->H b=none->b∉fs->b∉ex->h'.get? b=some o
 slot:∀b o,h.get? b=some o->H b=none->b∈fs->b∉ex->∃sl,h'.get? b=some { o with slots:=sl }
 free:∀b o,h.get? b=some o->H b=none->b∉ex->H' b=none
 there:∀b o,h.get? b=some o->b∉ex->∃o',h'.get? b=some o'
 tups:∀b xs,H b=some (.tup xs)->H' b=some (.tup xs)
 frzs:∀b o u,H b=some (.frz o u)->H' b=some (.frz o u)
 tbls:∀b ps,H b=some (.tbl ps)->∃more,H' b=some (.tbl (ps++more))
section
variable{fs fs' ex ex':List Addr}{H H1 H2:Hp}{h h1 h2 h':Heap}{a x e:Addr}{o:HO}
theorem Un.any(u:Un fs ex H H1 h h1){b:Addr}{ob:Obj}(q:h.get? b=some ob)(n:H b=none)(hx:b∉ex):∃sl,h1.get? b=some { ob with slots:=sl }:=by
 by_cases hb:b∈fs
 ·exact u.slot b ob q n hb hx
 ·exact⟨ob.slots,u.keep b ob q n hb hx⟩
theorem Un.kept(k:∀b u,h.get? b=some u->h'.get? b=some u):Un fs ex H H h h':=
 ⟨λb ob q _ _ _=>k b ob q,λb ob q _ _ _=>⟨ob.slots,k b ob q⟩,λ_ _ _ n _=>n,λb ob q _=>⟨ob,k b ob q⟩,λ_ _ q=>q,λ_ _ _ q=>q,λ_ ps q=>⟨#[],by rw[q];simp⟩⟩
theorem Un.refl:Un fs ex H H h h:=Un.kept λ_ _ q=>q
theorem Un.laid(k:∀b u,h.get? b=some u->h'.get? b=some u)(hp:h.objs.size<=a)(hn:H a=none):Un fs ex H (upd H a o) h h' where
 keep:=λb u q _ _ _=>k b u q
 slot:=λb u q _ _ _=>⟨u.slots,k b u q⟩
 free:=λb u q n _=>by rw[Zm (Yv (Yq (Yp q) hp))];exact n
 there:=λb u q _=>⟨u,k b u q⟩
 tups:=λb xs q=>by rw[Zm (Z9 q hn)];exact q
 frzs:=λb u xs q=>by rw[Zm (Z9 q hn)];exact q
 tbls:=λb ps q=>⟨#[],by rw[Zm (Z9 q hn),q];simp⟩
theorem Un.write(mu:Mut (H x))(he:e=x∨H e=some (.own x))(k:∀b u,b≠e->h.get? b=some u->h'.get? b=some u)(heo:∃u,h'.get? e=some u):Un fs ex H (upd H x o) h h':=by
 have hx:∀b,H b=none->b≠x:=λb n z=>by subst z;rw[n]at mu;exact mu
 have hb:∀b,H b=none->b≠e:=λb n z=>by
  subst z
  rcases he with r|r
  ·exact hx b n r
  ·rw[n]at r;cases r
 have hm:∀b u,H b=some u->¬Mut (some u)->b≠x:=λb u q nm z=>by subst z;rw[q]at mu;exact nm mu
 refine⟨λb u q n _ _=>k b u (hb b n) q,λb u q n _ _=>⟨u.slots,k b u (hb b n) q⟩,λb u q n _=>by rw[Zm (hx b n)];exact n,λb u q _=>?_,
  λb xs q=>by rw[Zm (hm b _ q λz=>z)];exact q,λb u xs q=>by rw[Zm (hm b _ q λz=>z)];exact q,λb ps q=>⟨#[],by rw[Zm (hm b _ q λz=>z),q];simp⟩⟩
 by_cases hbe:b=e
 ·subst hbe;exact heo
 ·exact⟨u,k b u hbe q⟩
end
noncomputable def trk(h:Heap)(H:Hp):List Addr:=(YM h.objs.size).filter λa=>(H a).isSome
noncomputable def hidT(h:Heap)(H:Hp):Heap:=PySem.W.hideAll h (trk h H)
theorem Ziq(h:Heap)(H:Hp):(hidT h H).objs.size=h.objs.size:=PySem.W.hideAll_size _ _
theorem Zj0{h:Heap}{H:Hp}{b:Addr}{o:Obj}(e:h.get? b=some o)(n:H b=none):(hidT h H).get? b=some o:=
 PySem.W.hideAll_get _ e λhm=>by
  have q:(H b).isSome=true:=(List.mem_filter.mp hm).2
  rw[n]at q;simp at q
theorem ZlN{h:Heap}{H:Hp}{b:Addr}{o:Obj}(e:(hidT h H).get? b=some o):h.get? b=some o/\H b=none:=by
 have e':h.get? b=some o:=PySem.W.of_hideAll (trk h H) e
 refine⟨e',?_⟩
 cases q:H b with
 |none=>rfl
 |some x =>
  have hm:b∈trk h H:=List.mem_filter.mpr ⟨W6.mpr (Yp e'),by simp[q]⟩
  have z:(hidT h H).get? b=none:=PySem.W.hideAll_none (trk h H) hm
  rw[z]at e;cases e
noncomputable def Zms(g h:Heap)(L:Addr):List (Addr×Obj):=(YM h.objs.size).filterMap λa=>if a=L∨(g.get? a).isSome=true then none else(h.get? a).map λo=>(a,o)
noncomputable def rest(g h:Heap)(L d:Addr):List (Addr×Obj):=(Zms g h L).filter λp=>decide (p.1≠d)
structure Mod (K:Frag) (mg:Str->Option Value) (base:Heap):Prop where
 kin:K.In base
 glob:base.Ns Yr mg
 blt:∃mb,base.Ns Vx mb/\∀x:Str,x≠"__name__"->mb x=Ub x
 nolimit:base.NoLimit
 bm:∃bm ob,mg "__builtins__" = some (.ref bm)/\bm≠Vx/\base.get? bm=some ob/\ob.cls=.type "module"/\ob.dict=some Vx/\ob.data=.plain
structure Cx where
 prog:Yx
 w:World
 K:Frag
 mg:Str->Option Value
 base:Heap
 A:Around
 N:List Str
 s₀:Shared
 H₀:Hp
 env:Env
 outer:List Env
 stack:List Env
 ex:List Addr
 fn:Str->Bool
 calm:Bool
 pn:List (Addr×Obj)
 xe:Value->Shared->Prop
noncomputable def frs(l:List Env):List Addr:=l.filterMap (·.frame)
noncomputable abbrev Cx.fs(X:Cx):List Addr:=frs X.outer
noncomputable def Vis(sc:Scope)(x:Str):Prop:=sc.names.lookup x=some .local∨sc.names.lookup x=some .cell∨sc.names.lookup x=some .free
noncomputable def Loc(sc:Scope)(x:Str):Prop:=sc.names.lookup x=some .local∨sc.names.lookup x=some .cell
noncomputable def Look(env:Env)(h:Heap)(m:Str->Option Value)(x:Str)(u:Value):Prop:=
 (env.kindOf x=some .local/\m x=some u)∨((env.kindOf x=some .cell∨env.kindOf x=some .free)/\∃c,env.cells.lookup x=some c/\h.IsCell c (some u))
structure Cx.Ok (X:Cx):Prop where
 mod:Mod X.K X.mg X.base
 kind:X.env.scope.kind=.function
 glob:X.env.globals=Yr
 blt:X.env.builtins=Vx
 above:X.s₀.heap.objs.size<=X.env.locals
 inj:∀x y c,X.env.cells.lookup x=some c->X.env.cells.lookup y=some c->x=y
 has:∀x,(X.env.kindOf x=some .cell∨X.env.kindOf x=some .free)->∃c,X.env.cells.lookup x=some c
 cab:∀x c,X.fn x=true->X.env.cells.lookup x=some c->X.s₀.heap.objs.size<=c
 hd:X.calm=true->X.A.handled=none
 frames:X.A.frames=some X.stack
 stk:X.stack=X.outer∨(X.stack=X.env::X.outer/\X.env.frame=some X.env.locals)
 exf:∀b∈X.ex,b≠X.env.locals/\∀x c,X.env.cells.lookup x=some c->c≠b
 bs:∀b o,X.base.get? b=some o->X.s₀.heap.get? b=some o/\X.H₀ b=none
 bsz:X.base.objs.size<=X.s₀.heap.objs.size
 noex:∀b o,X.base.get? b=some o->b∉X.ex
 exfs:∀b∈X.ex,b∉X.fs
 funs:X.s₀.heap.FunFrames X.base X.outer
 frf:∀b∈X.fs,X.H₀ b=none
structure Inv (X:Cx) (pins:List (Addr×Obj)) (σ:List (Option V)) (H:Hp) (s:Shared):Prop where
 ok:X.Ok
 os:s.os=X.s₀.os
 bare:YaD s.gens
 base:Un X.fs X.ex X.H₀ H X.s₀.heap s.heap
 loc:∃m,s.heap.Ns X.env.locals m/\∀(i:Nat) (x:Str) (v:V),X.N[i]?=some x->σ[i]?=some (some v)->Vis X.env.scope x->∃u,RelV v u/\Look X.env s.heap m x u
 cell:∀x c,X.env.cells.lookup x=some c->∃v,s.heap.IsCell c v
 free:H X.env.locals=none
 freeC:∀x c,X.env.cells.lookup x=some c->H c=none
 pin:∀p∈X.pn++pins,s.heap.get? p.1=some p.2/\H p.1=none/\p.1≠X.env.locals/\p.1∉X.fs/\∀v,p.2.data≠.cell v
 hok:HOk X.prog X.w H s.heap
 len:σ.length=X.N.length
section
variable{X:Cx}{pins:List (Addr×Obj)}{σ:List (Option V)}{H H':Hp}{s:Shared}{h':Heap}
theorem Cx.Ok.nofr(ok:X.Ok){b:Addr}{o:Obj}(e:X.base.get? b=some o):b∉X.fs:=λhb=>by
 have:=(ok.funs.mem hb).1
 rw[e]at this;cases this
theorem Inv.bs(I:Inv X pins σ H s):∀b o,X.base.get? b=some o->s.heap.get? b=some o/\H b=none:=λb o e =>
 ⟨I.base.keep b o (I.ok.bs b o e).1 (I.ok.bs b o e).2 (I.ok.nofr e) (I.ok.noex b o e),I.base.free b o (I.ok.bs b o e).1 (I.ok.bs b o e).2 (I.ok.noex b o e)⟩
theorem Inv.bk(I:Inv X pins σ H s):∀b o,X.base.get? b=some o->s.heap.get? b=some o:=λb o e=>(I.bs b o e).1
theorem Inv.mod(I:Inv X pins σ H s):Mod X.K X.mg X.base:=I.ok.mod
theorem Inv.kIn(I:Inv X pins σ H s):X.K.In s.heap:=I.ok.mod.kin.keeps I.bk
theorem Inv.lt(I:Inv X pins σ H s):X.env.locals<s.heap.objs.size:=let⟨_,hn,_⟩:=I.loc;hn.lt
theorem Inv.sz(I:Inv X pins σ H s):X.s₀.heap.objs.size<=s.heap.objs.size:=Wm I.ok.above (G8 I.lt)
theorem Inv.nofs(I:Inv X pins σ H s){a:Addr}(h:s.heap.objs.size<=a):a∉X.fs:=λhb=>by
 obtain⟨_,o,ho,_⟩:=I.ok.funs.mem hb
 exact absurd (Yq (Yp ho) (Wm I.sz h)) (Y9 _)
theorem Inv.cne(I:Inv X pins σ H s):∀x c,X.env.cells.lookup x=some c->c≠X.env.locals:=λx c e z=>by
 obtain⟨v,o,ho,hd⟩:=I.cell x c e
 obtain⟨m,⟨o',es,ep,ho',hd',_⟩,_⟩:=I.loc
 rw[z,ho']at ho;cases ho;rw[hd']at hd;cases hd
theorem Inv.funs(I:Inv X pins σ H s):s.heap.FunFrames X.base X.outer:=by
 have all:∀(l:List Env),(∀b∈frs l,b∈X.fs)->X.s₀.heap.FunFrames X.base l->s.heap.FunFrames X.base l:=by
  intro l
  induction l with
  |nil=>intro _ _;trivial
  |cons env r ih =>
   intro hs hl
   obtain⟨hk,⟨L,o,hf,hn,ho,hd⟩,hr⟩:=hl
   have hL:L∈X.fs:=hs L (by unfold frs;rw[Ue,hf];exact YD)
   obtain⟨sl,e⟩:=I.base.slot L o ho (I.ok.frf L hL) hL λz=>I.ok.exfs L z hL
   exact⟨hk,⟨L,_,hf,hn,e,hd⟩,ih (λb hb=>hs b (by unfold frs;rw[Ue,hf];exact Yw _ hb)) hr⟩
 exact all X.outer (λ_ hb=>hb) I.ok.funs
theorem Inv.stack(I:Inv X pins σ H s):s.heap.FunFrames X.base X.stack:=by
 rcases I.ok.stk with e|⟨e,hf⟩
 ·rw[e];exact I.funs
 ·rw[e]
  obtain⟨m,hn,_⟩:=I.loc
  refine .cons (by rw[I.ok.kind];decide) hf hn ?_ I.funs
  exact VL (Wm I.ok.bsz I.ok.above)
theorem Inv.stkSub(I:Inv X pins σ H s):∀b∈frs X.stack,b∈X.env.locals::X.fs:=λb hb=>by
 rcases I.ok.stk with e|⟨e,hf⟩
 ·rw[e]at hb;exact Yw _ hb
 ·rw[e]at hb
  unfold frs at hb
  rw[Ue,hf]at hb
  exact hb
theorem Inv.stkFree(I:Inv X pins σ H s):∀b∈frs X.stack,H b=none:=λb hb=>by
 rcases Ys.mp (I.stkSub b hb)with e|hb
 ·rw[e];exact I.free
 ·obtain⟨_,o,ho,_⟩:=I.ok.funs.mem hb
  exact I.base.free b o ho (I.ok.frf b hb) λz=>I.ok.exfs b z hb
theorem Inv.step{g':Array YbZ}{t':Nat}{d':Drawn}{ch:List Addr}(I:Inv X pins σ H s)(hch:∀b∈ch,(b∈X.ex∨X.s₀.heap.objs.size<=b)/\b≠X.env.locals/\(∀x c,X.env.cells.lookup x=some c->c≠b)/\∀p∈X.pn++pins,p.1≠b)(keep:∀b o,b≠X.env.locals->b∉X.fs->b∉ch->s.heap.get? b=some o->H b=none->h'.get? b=some o)(slot:∀b o,b≠X.env.locals->b∈X.fs->b∉ch->s.heap.get? b=some o->H b=none->∃sl,h'.get? b=some { o with slots:=sl })(free:∀b o,b∉ch->s.heap.get? b=some o->H b=none->H' b=none)(there:∀b o,b∉ch->s.heap.get? b=some o->∃o',h'.get? b=some o')(tups:∀b xs,H b=some (.tup xs)->H' b=some (.tup xs))(frzs:∀b o u,H b=some (.frz o u)->H' b=some (.frz o u))(tbls:∀b ps,H b=some (.tbl ps)->∃more,H' b=some (.tbl (ps++more)))(ns:∀m,s.heap.Ns X.env.locals m->h'.Ns X.env.locals m)(hok:HOk X.prog X.w H' h')(hg:YaD g'):
  Inv X pins σ H' { s with heap:=h',gens:=g',drawn:=d',toks:=t' }:=by
 have neL:∀b o,X.s₀.heap.get? b=some o->b≠X.env.locals:=λb o e=>Yv (Yq (Yp e) I.ok.above)
 have neC:∀b o,X.s₀.heap.get? b=some o->b∉X.ex->b∉ch:=λb o e hx hb=>by
  rcases(hch b hb).1 with z|z
  ·exact hx z
  ·exact absurd (Yq (Yp e) z) (Y9 _)
 have cellK:∀x c,X.env.cells.lookup x=some c->∀v,s.heap.IsCell c v->h'.IsCell c v:=λx c e v ⟨o,ho,hd⟩=>by
  have nch:c∉ch:=λz=>(hch c z).2.2.1 x c e rfl
  by_cases hc:c∈X.fs
  ·obtain⟨sl,q⟩:=slot c o (I.cne x c e) hc nch ho (I.freeC x c e)
   exact⟨_,q,hd⟩
  ·exact⟨o,keep c o (I.cne x c e) hc nch ho (I.freeC x c e),hd⟩
 refine⟨I.ok,I.os,hg,⟨λb o e n hb hx=>?_,λb o e n hb hx=>?_,λb o e n hx=>?_,λb o e hx=>?_,λb xs e=>tups b xs (I.base.tups b xs e),λb o xs e=>frzs b o xs (I.base.frzs b o xs e),λb ps e=>?_⟩,?_,λx c e=>?_,?_,λx c e=>?_,λp hp=>?_,hok,I.len⟩
 ·exact keep b o (neL b o e) hb (neC b o e hx) (I.base.keep b o e n hb hx) (I.base.free b o e n hx)
 ·obtain⟨sl,e1⟩:=I.base.slot b o e n hb hx
  obtain⟨sl',e2⟩:=slot b _ (neL b o e) hb (neC b o e hx) e1 (I.base.free b o e n hx)
  exact⟨sl',e2⟩
 ·obtain⟨o',e1⟩:=I.base.there b o e hx
  exact free b o' (neC b o e hx) e1 (I.base.free b o e n hx)
 ·obtain⟨o',e1⟩:=I.base.there b o e hx
  exact there b o' (neC b o e hx) e1
 ·obtain⟨m1,e1⟩:=I.base.tbls b ps e
  obtain⟨m2,e2⟩:=tbls b _ e1
  exact⟨m1++m2,by rw[e2,Array.append_assoc]⟩
 ·obtain⟨m,hn,hl⟩:=I.loc
  refine⟨m,ns m hn,λi x v e1 e2 e3=>?_⟩
  obtain⟨u,r,l⟩:=hl i x v e1 e2 e3
  refine⟨u,r,?_⟩
  rcases l with l|⟨k,c,e,z⟩
  ·exact .inl l
  ·exact .inr ⟨k,c,e,cellK x c e _ z⟩
 ·obtain⟨v,z⟩:=I.cell x c e
  exact⟨v,cellK x c e v z⟩
 ·obtain⟨m,⟨o,_,_,ho,_⟩,_⟩:=I.loc
  exact free _ o (λz=>(hch _ z).2.1 rfl) ho I.free
 ·obtain⟨v,o,ho,hd⟩:=I.cell x c e
  exact free c o (λz=>(hch c z).2.2.1 x c e rfl) ho (I.freeC x c e)
 ·obtain⟨e,n,ne,nf,d⟩:=I.pin p hp
  have nch:p.1∉ch:=λz=>(hch p.1 z).2.2.2 p hp rfl
  exact⟨keep p.1 p.2 ne nf nch e n,free p.1 p.2 nch e n,ne,nf,d⟩
theorem Inv.un{t':Nat}(I:Inv X pins σ H s)(u:Un X.fs [] H H' s.heap h')(hok:HOk X.prog X.w H' h'):Inv X pins σ H' { s with heap:=h',toks:=t' }:=by
 obtain⟨m,⟨o,es,ep,ho,r⟩,_⟩:=id I.loc
 obtain⟨sl,hL⟩:=u.any ho I.free (by simp)
 exact I.step (g':=s.gens) (d':=s.drawn) (ch:=[]) (λ_ z=>nomatch z) (λb o _ hb _ e n=>u.keep b o e n hb (by simp)) (λb o _ hb _ e n=>u.slot b o e n hb (by simp)) (λb o _ e n=>u.free b o e n (by simp)) (λb o _ e=>u.there b o e (by simp)) u.tups u.frzs u.tbls (λm' hm=>by
  obtain⟨o',es',ep',ho',r'⟩:=hm
  rw[ho]at ho';cases ho'
  exact⟨_,es',ep',hL,r'⟩) hok I.bare
theorem Inv.call{g':Array YbZ}{t':Nat}{d':Drawn}{ch:List Addr}(I:Inv X pins σ H s)(u:Un (frs X.stack) ch H H' s.heap h')(hok:HOk X.prog X.w H' h')(hg:YaD g')(hch:∀b∈ch,(b∈X.ex∨X.s₀.heap.objs.size<=b)/\b≠X.env.locals/\(∀x c,X.env.cells.lookup x=some c->c≠b)/\∀p∈X.pn++pins,p.1≠b):
  Inv X pins σ H' { s with heap:=h',gens:=g',drawn:=d',toks:=t' }:=by
 obtain⟨m,⟨o,es,ep,ho,r⟩,_⟩:=id I.loc
 obtain⟨sl,hL⟩:=u.any ho I.free λz=>(hch _ z).2.1 rfl
 exact I.step (ch:=ch) hch (λb o hL hb hc e n=>u.keep b o e n (λz=>(Ys.mp (I.stkSub b z)).elim hL hb) hc) (λb o _ _ hc e n=>u.any e n hc) (λb o hc e n=>u.free b o e n hc) (λb o hc e=>u.there b o e hc) u.tups u.frzs u.tbls (λm' hm=>by
  obtain⟨o',es',ep',ho',r'⟩:=hm
  rw[ho]at ho';cases ho'
  exact⟨_,es',ep',hL,r'⟩) hok hg
theorem Inv.turned{t':Nat}{it:Addr}(I:Inv X pins σ H s)(k:∀b o,b≠it->s.heap.get? b=some o->h'.get? b=some o)(hn:H it=none)(hL:it≠X.env.locals)(h1:it∈X.ex∨X.s₀.heap.objs.size<=it)(h2:∀x c,X.env.cells.lookup x=some c->c≠it)(h3:∀p∈X.pn++pins,p.1≠it):Inv X pins σ H { s with heap:=h',toks:=t' }:=by
 have nit:∀b u,H b=some u->b≠it:=λb u e z=>by rw[z,hn]at e;cases e
 refine I.step (g':=s.gens) (d':=s.drawn) (ch:=[it]) (λb hb=>?_) (λb o _ _ hc e _=>k b o (λz=>hc (by simp[z])) e) (λb o _ _ hc e _=>⟨o.slots,k b o (λz=>hc (by simp[z])) e⟩) (λ_ _ _ _ n=>n)
  (λb o hc e=>⟨o,k b o (λz=>hc (by simp[z])) e⟩) (λ_ _ e=>e) (λ_ _ _ e=>e) (λb ps e=>⟨#[],by rw[e];simp⟩) (λm hm=>?_) (λb u e=>?_) I.bare
 ·have e:b=it:=by simpa using hb
  subst e
  exact⟨h1,hL,h2,h3⟩
 ·obtain⟨o,es,ep,ho,r⟩:=hm
  exact⟨o,es,ep,k _ o (WR hL) ho,r⟩
 ·refine(I.hok b u e).stay (λc v hc q=>k c v ?_ q) (λ_ q=>q) λ_ _ q=>q
  rcases hc with z|z
  ·rw[z];exact nit b u e
  ·exact nit c _ z
theorem Inv.tok(I:Inv X pins σ H s)(t:Nat):Inv X pins σ H { s with toks:=t }:=I.un (h':=s.heap) (t':=t) Un.refl I.hok
theorem Inv.kept{t':Nat}(I:Inv X pins σ H s)(k:∀b u,s.heap.get? b=some u->h'.get? b=some u):Inv X pins σ H { s with heap:=h',toks:=t' }:=I.un (Un.kept k) (I.hok.kept k)
theorem Inv.laid{a:Addr}{o:HO}{t':Nat}(I:Inv X pins σ H s)(k:∀b u,s.heap.get? b=some u->h'.get? b=some u)(hp:s.heap.objs.size<=a)(new:QJ X.prog X.w (upd H a o) h' a o):
 Inv X pins σ (upd H a o) { s with heap:=h',toks:=t' }:=I.un (Un.laid k hp (I.hok.fresh hp)) (I.hok.laid k hp new)
theorem Inv.write{x e:Addr}{o:HO}{t':Nat}(I:Inv X pins σ H s)(mu:Mut (H x))(he:e=x∨H e=some (.own x))(k:∀b u,b≠e->s.heap.get? b=some u->h'.get? b=some u)(heo:∃u,h'.get? e=some u)(new:QJ X.prog X.w (upd H x o) h' x o):Inv X pins σ (upd H x o) { s with heap:=h',toks:=t' }:=I.un (Un.write mu he k heo) (I.hok.write mu he k heo new)
theorem Inv.weak{σ':List (Option V)}(I:Inv X pins σ H s)(hl:σ'.length=σ.length)(w:∀(i:Nat) v,σ'[i]?=some (some v)->σ[i]?=some (some v)):Inv X pins σ' H s:=
 ⟨I.ok,I.os,I.bare,I.base,let⟨m,hn,hl'⟩:=I.loc;⟨m,hn,λi x v e1 e2 e3=>hl' i x v e1 (w i v e2) e3⟩,I.cell,I.free,I.freeC,I.pin,I.hok,hl.trans I.len⟩
theorem Inv.pins_of{pins':List (Addr×Obj)}(I:Inv X pins σ H s)(h:∀p∈pins',s.heap.get? p.1=some p.2/\H p.1=none/\p.1≠X.env.locals/\p.1∉X.fs/\∀v,p.2.data≠.cell v):Inv X pins' σ H s:=
 ⟨I.ok,I.os,I.bare,I.base,I.loc,I.cell,I.free,I.freeC,λp hp=>(Uz.mp hp).elim (λz=>I.pin p (Wf _ z)) (h p),I.hok,I.len⟩
theorem ZcX{N:List Str}(hN:N.Nodup){i j:Nat}{x:Str}(a:N[i]?=some x)(b:N[j]?=some x):i=j:=by
 obtain⟨h1,e1⟩:=Ye.mp a
 obtain⟨h2,e2⟩:=Ye.mp b
 exact(List.getElem_inj hN).mp (e1.trans e2.symm)
theorem Zdz{M:Model}{A:Around}{E:Value->Shared->Prop}{i:Nat}{x:Str}{v:V}{u:Value}{Q:Unit->Shared->Prop}(I:Inv X pins σ H s)(hN:X.N.Nodup)(hi:X.N[i]?=some x)(hx:Loc X.env.scope x)(r:RelV v u)(h:∀s',Inv X pins (σ.set i (some v)) H s'->(∃a,Gs a s.heap s'.heap/\(a=X.env.locals∨X.env.cells.lookup x=some a))->Q () s')(hf:X.fn x=true∨X.env.scope.names.lookup x=some .local:=by first|exact .inl rfl|exact .inr rfl|assumption):wpAny M A (storeName X.env x u) Q E s:=by
 obtain⟨m,hn,hl⟩:=id I.loc
 have hcls:(X.env.scope.kind==.class || (X.env.scope.kind==.module&&X.env.locals != X.env.globals))=false:=by rw[I.ok.kind];rfl
 have hiσ:i<σ.length:=by rw[I.len];exact(Ye.mp hi).1
 have cne:=I.cne
 have tracked:∀{a:Addr}{h':Heap},(∃o,s.heap.get? a=some o/\H a=none)->Gs a s.heap h'->HOk X.prog X.w H h':=λ{a h'} ha hs b ob e=>by
  obtain⟨_,_,hfree⟩:=ha
  refine(I.hok b ob e).stay (λc w' hc q=>(hs.2 c ?_).trans q) (λ_ q=>q) λ_ _ q=>q
  rintro rfl
  rcases hc with rfl|hc
  ·rw[hfree]at e;cases e
  ·rw[hfree]at hc;cases hc
 rcases hx with hk|hk
 ·refine wpAny_storeName_local hk hn (λh' hn' hs=>?_) hcls
  obtain⟨oL,_,_,hoL,_⟩:=id hn
  refine h _ ⟨I.ok,I.os,I.bare,⟨λb o e n hb hx=>?_,λb o e n hb hx=>?_,I.base.free,λb o e hx=>?_,I.base.tups,I.base.frzs,I.base.tbls⟩,⟨_,hn',λj y v' e1 e2 e3=>?_⟩,λy c e=>?_,I.free,I.freeC,λp hp=>?_,tracked ⟨oL,hoL,I.free⟩ hs,by simpa using I.len⟩ ⟨_,hs,.inl rfl⟩
  ·exact(hs.2 b (Yv (Yq (Yp e) I.ok.above))).trans (I.base.keep b o e n hb hx)
  ·obtain⟨sl,e1⟩:=I.base.slot b o e n hb hx
   exact⟨sl,(hs.2 b (Yv (Yq (Yp e) I.ok.above))).trans e1⟩
  ·obtain⟨o',e1⟩:=I.base.there b o e hx
   exact⟨o',(hs.2 b (Yv (Yq (Yp e) I.ok.above))).trans e1⟩
  ·by_cases hj:j=i
   ·subst hj
    rw[hi]at e1;cases e1
    rw[YB hiσ]at e2
    cases e2
    exact⟨u,r,.inl ⟨hk,by simp⟩⟩
   ·rw[Yo (WR hj)]at e2
    obtain⟨u',r',q⟩:=hl j y v' e1 e2 e3
    refine⟨u',r',?_⟩
    rcases q with⟨k,e⟩|⟨k,c,e,z⟩
    ·refine .inl ⟨k,?_⟩
     have:y≠x:=λe=>hj (ZcX hN e1 (e▸hi))
     simp[this,e]
    ·exact .inr ⟨k,c,e,z.sameBut hs (cne y c e)⟩
  ·obtain⟨w',z⟩:=I.cell y c e
   exact⟨w',z.sameBut hs (cne y c e)⟩
  ·obtain⟨e,n,ne,nf,d⟩:=I.pin p hp
   exact⟨(hs.2 p.1 ne).trans e,n,ne,nf,d⟩
 ·have hfn:X.fn x=true:=by
   rcases hf with z|z
   ·exact z
   ·rw[z]at hk;cases hk
  obtain⟨c,hc⟩:=I.ok.has x (.inl hk)
  obtain⟨w',z⟩:=I.cell x c hc
  refine wpAny_storeName_cell I.ok.kind hk hc z (λh' hc' hs=>?_)
  obtain⟨oc,hoc,hocd⟩:=id z
  refine h { s with heap:=h' } ⟨I.ok,I.os,I.bare,⟨λb o e n hb hx=>?_,λb o e n hb hx=>?_,I.base.free,λb o e hx=>?_,I.base.tups,I.base.frzs,I.base.tbls⟩,⟨m,hn.sameBut hs (WR (cne x c hc)),λj y v' e1 e2 e3=>?_⟩,λy c' e=>?_,I.free,I.freeC,λp hp=>?_,tracked ⟨oc,hoc,I.freeC x c hc⟩ hs,by simpa using I.len⟩ ⟨c,hs,.inr hc⟩
  ·exact(hs.2 b (Yv (Yq (Yp e) (I.ok.cab x c hfn hc)))).trans (I.base.keep b o e n hb hx)
  ·obtain⟨sl,e1⟩:=I.base.slot b o e n hb hx
   exact⟨sl,(hs.2 b (Yv (Yq (Yp e) (I.ok.cab x c hfn hc)))).trans e1⟩
  ·obtain⟨o',e1⟩:=I.base.there b o e hx
   exact⟨o',(hs.2 b (Yv (Yq (Yp e) (I.ok.cab x c hfn hc)))).trans e1⟩
  ·by_cases hj:j=i
   ·subst hj
    rw[hi]at e1;cases e1
    rw[YB hiσ]at e2
    cases e2
    exact⟨u,r,.inr ⟨.inl hk,c,hc,hc'⟩⟩
   ·rw[Yo (WR hj)]at e2
    obtain⟨u',r',q⟩:=hl j y v' e1 e2 e3
    refine⟨u',r',?_⟩
    rcases q with q|⟨k,c',e,z'⟩
    ·exact .inl q
    ·refine .inr ⟨k,c',e,z'.sameBut hs ?_⟩
     rintro rfl
     exact hj (ZcX hN e1 (I.ok.inj _ _ _ e hc▸hi))
  ·by_cases hcc:c'=c
   ·subst hcc;exact⟨_,hc'⟩
   ·obtain⟨w2,z2⟩:=I.cell y c' e
    exact⟨w2,z2.sameBut hs hcc⟩
  ·obtain⟨e,n,ne,nf,d⟩:=I.pin p hp
   refine⟨(hs.2 p.1 ?_).trans e,n,ne,nf,d⟩
   intro q
   rw[q,hoc]at e
   have q':oc=p.2:=YQ e
   exact d w' (by rw[<-q'];exact hocd)
theorem Zcz{M:Model}{A:Around}{E:Value->Shared->Prop}{i:Nat}{x:Str}{v:V}{u:Value}{Q:Unit->Shared->Prop}(I:Inv X pins σ H s)(hN:X.N.Nodup)(hi:X.N[i]?=some x)(hx:Loc X.env.scope x)(r:RelV v u)(h:∀s',Inv X pins (σ.set i (some v)) H s'->Q () s')(hf:X.fn x=true∨X.env.scope.names.lookup x=some .local:=by first|exact .inl rfl|exact .inr rfl|assumption):wpAny M A (storeName X.env x u) Q E s:=
 Zdz I hN hi hx r (λs' I' _=>h s' I') hf
theorem Inv.call'{s':Shared}{ch:List Addr}(I:Inv X pins σ H s)(ho:s'.os=s.os)(u:Un (frs X.stack) ch H H' s.heap s'.heap)(hok:HOk X.prog X.w H' s'.heap)(hg:YaD s'.gens)(hch:∀b∈ch,(b∈X.ex∨X.s₀.heap.objs.size<=b)/\b≠X.env.locals/\(∀x c,X.env.cells.lookup x=some c->c≠b)/\∀p∈X.pn++pins,p.1≠b):Inv X pins σ H' s':=by
 obtain⟨h',g',d',t',o'⟩:=s'
 have e:o'=s.os:=ho
 subst e
 exact I.call (g':=g') (t':=t') (d':=d') u hok hg hch
end
noncomputable abbrev XK:=Value->Option Addr->Hp->Prop
noncomputable abbrev St:=List (Option V)
noncomputable abbrev VK:=V->Hp->Prop
noncomputable abbrev TE:=St->Hp->VK->Prop
noncomputable abbrev TT:=St->Hp->(Bool->Hp->Prop)->Prop
noncomputable abbrev TA:=St->Hp->(List V->Hp->Prop)->Prop
structure Ends where
 nx:St->Hp->Prop
 rt:VK
 bk:St->Hp->Prop:=λ_ _=>False
 ct:St->Hp->Prop:=λ_ _=>False
noncomputable abbrev TS:=Ends->St->Hp->Prop
noncomputable def EP(X:Cx)(pins:List (Addr×Obj))(σ:St)(Q:VK)(u:Value)(s':Shared):Prop:=∃v H',Inv X pins σ H' s'/\RelV v u/\Q v H'
noncomputable def TP(X:Cx)(pins:List (Addr×Obj))(σ:St)(Q:Bool->Hp->Prop)(b:Bool)(s':Shared):Prop:=∃H',Inv X pins σ H' s'/\Q b H'
noncomputable def AP(X:Cx)(pins:List (Addr×Obj))(σ:St)(Q:List V->Hp->Prop)(us:List Value)(s':Shared):Prop:=∃vs H',Inv X pins σ H' s'/\Vals vs us/\Q vs H'
noncomputable def SP(X:Cx)(pins:List (Addr×Obj))(D:Ends)(f:Flow)(s':Shared):Prop:=
 match f with
 |.next=>∃σ' H',Inv X pins σ' H' s'/\D.nx σ' H'
 |.brk=>∃σ' H',Inv X pins σ' H' s'/\D.bk σ' H'
 |.cont=>∃σ' H',Inv X pins σ' H' s'/\D.ct σ' H'
 |.ret u=>∃v σ' H',Inv X pins σ' H' s'/\RelV v u/\D.rt v H'
noncomputable def PE(X:Cx)(e:Expr)(t:TE):Prop:=
 ∀(pins:List (Addr×Obj)) (s:Shared) (σ:St) (H:Hp) (Q:VK),Inv X pins σ H s->t σ H Q->wpAny (model X.prog X.w) X.A (eval e X.env) (EP X pins σ Q) X.xe s
noncomputable def PT(X:Cx)(e:Expr)(t:TT):Prop:=
 ∀(pins:List (Addr×Obj)) (s:Shared) (σ:St) (H:Hp) (Q:Bool->Hp->Prop),Inv X pins σ H s->t σ H Q->wpAny (model X.prog X.w) X.A (isTrue e X.env (eval e X.env)) (TP X pins σ Q) X.xe s
noncomputable def PW(X:Cx)(e:Expr)(t:TT):Prop:=
 ∀(whole:Sem Value) (pins:List (Addr×Obj)) (s:Shared) (σ:St) (H:Hp) (Q:Bool->Hp->Prop),Inv X pins σ H s->t σ H Q->wpAny (model X.prog X.w) X.A (isTrue e X.env whole) (TP X pins σ Q) X.xe s
theorem PW.pt{X:Cx}{e:Expr}{t:TT}(h:PW X e t):PT X e t:=h _
noncomputable def PA(X:Cx)(es:List Expr)(t:TA):Prop:=
 ∀(pos:Pos) (pins:List (Addr×Obj)) (s:Shared) (σ:St) (H:Hp) (Q:List V->Hp->Prop),Inv X pins σ H s->t σ H Q->wpAny (model X.prog X.w) X.A (Ycf (backTo pos (Wq es X.env))) (AP X pins σ Q) X.xe s
noncomputable def PS(X:Cx)(st:Stmt)(t:TS):Prop:=
 ∀(pins:List (Addr×Obj)) (s:Shared) (σ:St) (H:Hp) (D:Ends),Inv X pins σ H s->t D σ H->wpAny (model X.prog X.w) X.A (exec st X.env) (SP X pins D) X.xe s
noncomputable def PSs(X:Cx)(st:List Stmt)(t:TS):Prop:=
 ∀(pins:List (Addr×Obj)) (s:Shared) (σ:St) (H:Hp) (D:Ends),Inv X pins σ H s->t D σ H->wpAny (model X.prog X.w) X.A (execs st X.env) (SP X pins D) X.xe s
theorem thn{α:Type}{t:Sem α}{Q Q':α->Shared->Prop}{M:Model}{A:Around}{E:Value->Shared->Prop}{s:Shared}(h:wpAny M A t Q E s)(hQ:∀a s,Q a s->Q' a s):wpAny M A t Q' E s:=Uq h hQ λ_ _ x=>x
section
variable{X:Cx}
theorem bin{a b:Expr}{ta tb:TE}(ha:PE X a ta)(hb:PE X b tb){pins:List (Addr×Obj)}{s:Shared}{σ:St}{H:Hp}{R:V->V->Hp->Prop}(I:Inv X pins σ H s)(h:ta σ H λx H1=>tb σ H1 λy H2=>R x y H2){α:Type}{Q:α->Shared->Prop}{f:Value->Value->Sem α}(hf:∀v u s2 x y H2,Inv X pins σ H2 s2->RelV x v->RelV y u->R x y H2->wpAny (model X.prog X.w) X.A (f v u) Q X.xe s2):
  wpAny (model X.prog X.w) X.A (eval a X.env) (λv s₁=>wpAny (model X.prog X.w) X.A (eval b X.env) (λu s₂=>wpAny (model X.prog X.w) X.A (f v u) Q X.xe s₂) X.xe s₁) X.xe s:=by
 refine thn (ha pins s σ H _ I h) λv s1 ⟨x,H1,I1,r1,q1⟩=>?_
 refine thn (hb pins s1 σ H1 _ I1 q1) λu s2 ⟨y,H2,I2,r2,q2⟩=>?_
 exact hf v u s2 x y H2 I2 r1 r2 q2
noncomputable def tVar(i:Nat):TE:=λσ H Q=>∃v,σ[i]?=some (some v)/\Q v H
noncomputable def tC(v:V):TE:=λ_ H Q=>Q v H
theorem Zkz{i:Nat}{x:Str}{pos:Pos}(hN:X.N[i]?=some x)(hv:Vis X.env.scope x)(hd:(x==("__debug__" : Str))=false:=by decide)(hcd:(x==("__classdict__" : Str))=false:=by decide):PE X (.Name x pos) (tVar i):=by
 intro pins s σ H Q I h
 obtain⟨v,e,h⟩:=h
 obtain⟨m,hn,hl⟩:=I.loc
 obtain⟨u,r,l⟩:=hl i x v hN e hv
 have fin:EP X pins σ Q u s:=⟨v,H,I,r,h⟩
 rcases l with⟨hk,hm⟩|⟨hk,c,hc,hcell⟩
 ·exact YbQ (wpAny_loadName_local I.ok.kind hk hn hm fin) hd
 ·rcases hk with hk|hk
  ·exact YbQ (wpAny_loadName_cell I.ok.kind hk hc hcell fin) hd
  ·exact YbQ (wpAny_loadName_free I.ok.kind hk hc hcell fin hcd) hd
theorem pe_int{i j pos}:PE X (.Constant (.int i) j pos) (tC (.int i)):=λ_ _ _ H _ I h=>wpAny_Constant_int ⟨.int i,H,I.tok _,⟨_,rfl⟩,h⟩
theorem pe_bl{b j pos}:PE X (.Constant (.bool b) j pos) (tC (.bl b)):=λ_ _ _ H _ I h=>Constant_bool ⟨.bl b,H,I,rfl,h⟩
theorem pe_non{j pos}:PE X (.Constant .none j pos) (tC .non):=λ_ _ _ H _ I h=>Constant_none ⟨.non,H,I,rfl,h⟩
theorem pe_str{x j pos}:PE X (.Constant (.str x) j pos) (tC (.str x)):=λ_ _ _ H _ I h=>Calls.Constant_str ⟨.str x,H,I.tok _,⟨_,rfl⟩,h⟩
noncomputable def Gl(X:Cx)(x:Str):Prop:=X.env.kindOf x=some .globalImplicit
theorem ZbB{E:Value->Shared->Prop}{pins:List (Addr×Obj)}{s:Shared}{σ:St}{H:Hp}{x:Str}{u:Value}{pos:Pos}{Q:Value->Shared->Prop}(I:Inv X pins σ H s)(hg:Gl X x)(hm:X.mg x=some u)(h:Q u s)(hd:(x==("__debug__" : Str))=false:=by decide):wpAny (model X.prog X.w) X.A (eval (.Name x pos) X.env) Q E s:=
 Calls.Name_function_global I.ok.kind hg (Calls.loadGlobal_global (by rw[I.ok.glob];exact I.mod.glob.keeps I.bk) hm h) hd
theorem J9{E:Value->Shared->Prop}{pins:List (Addr×Obj)}{s:Shared}{σ:St}{H:Hp}{x:Str}{u:Value}{pos:Pos}{Q:Value->Shared->Prop}(I:Inv X pins σ H s)(hg:Gl X x)(hm:X.mg x=none)(hv:Ub x=some u)(h:Q u s)(hn:x≠"__name__":=by decide)(hd:(x==("__debug__" : Str))=false:=by decide):wpAny (model X.prog X.w) X.A (eval (.Name x pos) X.env) Q E s:=by
 obtain⟨mb,h1,h2⟩:=I.mod.blt
 exact Calls.Name_function_global I.ok.kind hg (Calls.loadGlobal_builtin (by rw[I.ok.glob];exact I.mod.glob.keeps I.bk) hm (by rw[I.ok.blt];exact h1.keeps I.bk) ((h2 x hn).trans hv) h) hd
theorem Qt{x:Str}{v:V}{u:Value}{pos:Pos}(hg:Gl X x)(hm:X.mg x=some u)(r:RelV v u)(hd:(x==("__debug__" : Str))=false:=by decide):PE X (.Name x pos) (tC v):=
 λ_ _ _ H _ I h=>ZbB I hg hm ⟨v,H,I,r,h⟩ hd
theorem ZhO{x:Str}{v:V}{u:Value}{pos:Pos}(hg:Gl X x)(hm:X.mg x=none)(hv:Ub x=some u)(r:RelV v u)(hn:x≠"__name__":=by decide)(hd:(x==("__debug__" : Str))=false:=by decide):PE X (.Name x pos) (tC v):=
 λ_ _ _ H _ I h=>J9 I hg hm hv ⟨v,H,I,r,h⟩ hn hd
variable{a b:Expr}{ta tb:TE}{pos:Pos}
noncomputable def tB(t:TE):TT:=λσ H Q=>t σ H λx H1=>∃c,x=.bl c/\Q c H1
variable{tA tB':TT}{rest:List Expr}
noncomputable def tOr(t u:TT):TT:=λσ H Q=>t σ H λc H1=>if c=true then Q true H1 else u σ H1 Q
noncomputable def tNot(t:TT):TT:=λσ H Q=>t σ H λc H1=>Q (!c) H1
theorem pw_or1(ha:PT X a tA):PW X (.BoolOp .Or [a] pos) tA:=by
 intro wh pins s σ H Q I h
 refine isTrue_or (thn (ha pins s σ H Q I h) λc s1 e=>?_)
 cases c with
 |false=>exact isTrue_or_nil e
 |true=>exact e
theorem pw_or(ha:PT X a tA)(hb:PW X (.BoolOp .Or (b::rest) pos) tB'):PW X (.BoolOp .Or (a::b::rest) pos) (tOr tA tB'):=by
 intro wh pins s σ H Q I h
 refine isTrue_or (thn (ha pins s σ H _ I h) λc s1 ⟨H1,I1,q1⟩=>?_)
 cases c with
 |true=>exact⟨H1,I1,q1⟩
 |false=>exact hb wh pins s1 σ H1 Q I1 q1
theorem pt_not(ha:PT X a tA):PT X (.UnaryOp .Not a pos) (tNot tA):=by
 intro pins s σ H Q I h
 exact isTrue_not (ha pins s σ H (λc H1=>Q (!c) H1) I h)
noncomputable def tAndV(ta tb:TE):TE:=λσ H Q=>ta σ H λx H1=>∃c,x=.bl c/\if c=true then tb σ H1 Q else Q (.bl false) H1
noncomputable def tOrV(ta tb:TE):TE:=λσ H Q=>ta σ H λx H1=>∃c,x=.bl c/\if c=true then Q (.bl true) H1 else tb σ H1 Q
noncomputable def tNotV(ta:TE):TE:=λσ H Q=>ta σ H λx H1=>∃c,x=.bl c/\Q (.bl (!c)) H1
theorem pe_one{op}{t:TE}(h:PE X a t):PE X (.BoolOp op [a] pos) t:=λpins s σ H Q I hw=>BoolOp_one (h pins s σ H Q I hw)
theorem pe_and(ha:PE X a ta)(hb:PE X (.BoolOp .And (b::rest) pos) tb):PE X (.BoolOp .And (a::b::rest) pos) (tAndV ta tb):=by
 intro pins s σ H Q I h
 refine BoolOp_and (thn (ha pins s σ H _ I h) λv s1 ⟨x,H1,I1,r1,q1⟩=>?_)
 obtain⟨c,rfl,q1⟩:=q1
 cases r1
 refine Ug ?_
 cases c with
 |true=>exact hb pins s1 σ H1 Q I1 q1
 |false=>exact⟨.bl false,H1,I1,rfl,q1⟩
theorem pe_or(ha:PE X a ta)(hb:PE X (.BoolOp .Or (b::rest) pos) tb):PE X (.BoolOp .Or (a::b::rest) pos) (tOrV ta tb):=by
 intro pins s σ H Q I h
 refine BoolOp_or (thn (ha pins s σ H _ I h) λv s1 ⟨x,H1,I1,r1,q1⟩=>?_)
 obtain⟨c,rfl,q1⟩:=q1
 cases r1
 refine Ug ?_
 cases c with
 |false=>exact hb pins s1 σ H1 Q I1 q1
 |true=>exact⟨.bl true,H1,I1,rfl,q1⟩
theorem pe_not(ha:PE X a ta):PE X (.UnaryOp .Not a pos) (tNotV ta):=by
 intro pins s σ H Q I h
 refine UnaryOp_ (thn (ha pins s σ H _ I h) λv s1 ⟨x,H1,I1,r1,q1⟩=>?_)
 obtain⟨c,rfl,q1⟩:=q1
 cases r1
 exact not_of (Ug ⟨.bl (!c),H1,I1,rfl,q1⟩)
end
noncomputable def SqL(K:Frag)(H:Hp)(a:Addr)(xs:List V):Prop:=
 Rd H a (.lst xs) ∨
  ∃(o:Obj) (its:Array Value) (n:Nat),K.lookup a=some o/\o.cls=.type "list"/\o.dict=none/\o.data=.seq its n/\its.size<=YC/\Vals xs its.toList
noncomputable def SqT(K:Frag)(H:Hp)(a:Addr)(xs:List V):Prop:=
 Rd H a (.tup xs) ∨
  ∃(o:Obj) (its:Array Value) (n:Nat),K.lookup a=some o/\o.cls=.type "tuple"/\o.data=.seq its n/\its.size<=YC/\Vals xs its.toList/\o.dict=none
noncomputable def absV:Value->Option V
 |.none=>some .non
 |.bool b=>some (.bl b)
 |.int i _=>some (.int i)
 |.str x _=>some (.str x)
 |.bytes b _=>some (.byt b)
 |.float b _=>some (.flt b)
 |.ref a=>some (.ref a)
 |.type n=>some (.ty n)
 |_=>none
theorem RelV.abs{x:V}{u:Value}(r:RelV x u):absV u=some x:=by
 cases x with
 |non=>cases r;rfl
 |bl _=>cases r;rfl
 |int _=>obtain⟨t,rfl⟩:=r;rfl
 |str _=>obtain⟨t,rfl⟩:=r;rfl
 |byt _=>obtain⟨t,rfl⟩:=r;rfl
 |flt _=>obtain⟨t,rfl⟩:=r;rfl
 |ref _=>cases r;rfl
 |ty _=>cases r;rfl
theorem RelV.inj{x y:V}{u:Value}(r:RelV x u)(q:RelV y u):x=y:=YQ (r.abs.symm.trans q.abs)
theorem Vals.inj:∀{xs ys:List V}{us:List Value},Vals xs us->Vals ys us->xs=ys
 |_,_,_,.nil,.nil=>rfl
 |_,_,_,.cons r t,.cons r' t'=>by rw[r.inj r',Vals.inj t t']
section
variable{X:Cx}{pins:List (Addr×Obj)}{σ:St}{H:Hp}{s:Shared}{a:Addr}{xs ys:List V}
theorem SqL.of{K:Frag}(h:H a=some (.lst xs)):SqL K H a xs:=.inl (.inl h)
theorem SqT.of{K:Frag}(h:H a=some (.tup xs)):SqT K H a xs:=.inl (.inl h)
theorem Inv.list(I:Inv X pins σ H s)(h:SqL X.K H a xs):∃its:List Value,Vals xs its/\PlainL s.heap a its.toArray/\xs.length<=YC:=by
 rcases h with h|⟨o,its,n,hk,hc,hd,hs,hz,r⟩
 ·obtain⟨z,its,n,r,e⟩:=h.ok I.hok
  exact⟨its,r,⟨_,n,e,rfl,rfl,rfl⟩,z⟩
 ·refine⟨its.toList,r,⟨o,n,I.kIn a o hk,hc,hd,by simpa using hs⟩,?_⟩
  have e:=r.length
  simp only[YL]at e
  omega
theorem Inv.tuple(I:Inv X pins σ H s)(h:SqT X.K H a xs):∃its:List Value,Vals xs its/\IsTup s.heap a its.toArray/\xs.length<=YC:=by
 rcases h with h|⟨o,its,n,hk,hc,hs,hz,r,hdn⟩
 ·obtain⟨z,its,r,p⟩:=h.ok I.hok
  exact⟨its,r,p.is,z⟩
 ·refine⟨its.toList,r,⟨o,I.kIn a o hk,hc,n,by simpa using hs⟩,?_⟩
  have e:=r.length
  simp only[YL]at e
  omega
theorem Inv.tupleP(I:Inv X pins σ H s)(h:SqT X.K H a xs):∃its:List Value,Vals xs its/\TupP s.heap a its.toArray/\xs.length<=YC:=by
 rcases h with h|⟨o,its,n,hk,hc,hs,hz,r,hdn⟩
 ·obtain⟨z,its,r,p⟩:=h.ok I.hok
  exact⟨its,r,p,z⟩
 ·refine⟨its.toList,r,⟨o,I.kIn a o hk,hc,⟨n,by simpa using hs⟩,hdn⟩,?_⟩
  have e:=r.length
  simp only[YL]at e
  omega
theorem Inv.list_inj(I:Inv X pins σ H s)(h:SqL X.K H a xs)(h':SqL X.K H a ys):xs=ys:=by
 obtain⟨its,r,⟨o,n,e,_,_,d⟩,_⟩:=I.list h
 obtain⟨its',r',⟨o',n',e',_,_,d'⟩,_⟩:=I.list h'
 rw[e]at e';cases e'
 rw[d]at d'
 injection d' with d1 _
 have:its=its':=by simpa using congrArg Array.toList d1
 subst this
 exact r.inj r'
theorem Inv.tuple_inj(I:Inv X pins σ H s)(h:SqT X.K H a xs)(h':SqT X.K H a ys):xs=ys:=by
 obtain⟨its,r,⟨o,e,_,n,d⟩,_⟩:=I.tuple h
 obtain⟨its',r',⟨o',e',_,n',d'⟩,_⟩:=I.tuple h'
 rw[e]at e';cases e'
 rw[d]at d'
 injection d' with d1 _
 have:its=its':=by simpa using congrArg Array.toList d1
 subst this
 exact r.inj r'
end
noncomputable abbrev Cx.wish(X:Cx)(E:Value->Shared->Prop):Cx:={ X with xe:=E }
noncomputable abbrev Cx.nox(X:Cx):Cx:=X.wish λ_ _=>False
section
variable{X:Cx}{st:Stmt}{rest:List Stmt}{t u:TS}{e:Expr}{te:TE}{pos:Pos}
noncomputable def Zje:TS:=λD σ H=>D.nx σ H
noncomputable def tSeq(t u:TS):TS:=λD σ H=>t { D with nx:=u D } σ H
theorem Zex:PSs X [] Zje:=λ_ _ σ H _ I h=>YaW ⟨σ,H,I,h⟩
theorem Q7(h1:PS X st t)(h2:PSs X rest u):PSs X (st::rest) (tSeq t u):=by
 intro pins s σ H D I h
 refine YaN (thn (h1 pins s σ H { D with nx:=u D } I h) λf s1 q=>?_)
 cases f with
 |next =>
  obtain⟨σ',H',I',q⟩:=q
  exact h2 pins s1 σ' H' D I' q
 |ret v=>exact q
 |brk=>exact q
 |cont=>exact q
theorem Inv.quiet{pins:List (Addr×Obj)}{σ:St}{H:Hp}{s:Shared}(I:Inv X pins σ H s):interactive X.env=false:=by simp[interactive,I.ok.kind]
noncomputable def tDrop(te:TE):TS:=λD σ H=>te σ H λ_ H1=>D.nx σ H1
theorem Zlc(he:PE X e te)(hs:V2 e none pos.line X.env=pure false:=by rfl):PS X (.Expr e pos) (tDrop te):=by
 intro pins s σ H D I h
 exact wpAny_Expr_any (thn (he pins s σ H _ I h) λv s1 ⟨x,H1,I1,r1,q1⟩=>⟨σ,H1,I1,q1⟩) I.quiet hs
noncomputable def tRet(te:TE):TS:=λD σ H=>te σ H D.rt
theorem ps_ret(he:PE X e te):PS X (.Return (some e) pos) (tRet te):=by
 intro pins s σ H D I h
 exact wpAny_Return_some (thn (he pins s σ H _ I h) λv s1 ⟨x,H1,I1,r1,q1⟩=>⟨x,σ,H1,I1,r1,q1⟩)
noncomputable def tIfS(c:TT)(t u:TS):TS:=λD σ H=>c σ H λb H1=>if b=true then t D σ H1 else u D σ H1
theorem ps_if{c:Expr}{a b:List Stmt}{tc:TT}(hc:PT X c tc)(ha:PSs X a t)(hb:PSs X b u):PS X (.If c a b pos) (tIfS tc t u):=by
 intro pins s σ H D I h
 refine wpAny_If (thn (hc pins s σ H _ I h) λd s1 ⟨H1,I1,q1⟩=>?_)
 cases d with
 |true=>exact ha pins s1 σ H1 D I1 q1
 |false=>exact hb pins s1 σ H1 D I1 q1
noncomputable def tNever:TS:=λ_ _ _=>False
theorem Zhx{sts:List Stmt}:PSs X sts tNever:=λ_ _ _ _ _ _ h=>h.elim
end
noncomputable abbrev TG:=V->St->Hp->(St->Hp->Prop)->Prop
noncomputable abbrev TGs:=List V->St->Hp->(St->Hp->Prop)->Prop
noncomputable def PG(X:Cx)(target:Expr)(t:TG):Prop:=
 ∀(pins:List (Addr×Obj)) (s:Shared) (σ:St) (H:Hp) (v:V) (u:Value) (Q:St->Hp->Prop),Inv X pins σ H s->RelV v u->t v σ H Q ->
  wpAny (model X.prog X.w) X.A (assign target X.env u) (λ_ s'=>∃σ' H',Inv X pins σ' H' s'/\Q σ' H') X.xe s
noncomputable def PGs(X:Cx)(ts:List Expr)(t:TGs):Prop:=
 ∀(pins:List (Addr×Obj)) (s:Shared) (σ:St) (H:Hp) (vs:List V) (us:List Value) (Q:St->Hp->Prop),Inv X pins σ H s->Vals vs us->t vs σ H Q ->
  wpAny (model X.prog X.w) X.A (assignInOrder ((Wz ts X.env).map (·.2)) us) (λ_ s'=>∃σ' H',Inv X pins σ' H' s'/\Q σ' H') X.xe s
noncomputable abbrev TSet:=V->V->V->Hp->(Hp->Prop)->Prop
noncomputable def PSet(X:Cx)(t:TSet):Prop:=
 ∀(pins:List (Addr×Obj)) (s:Shared) (σ:St) (H:Hp) (o i v:V) (ov iv u:Value) (Q:Hp->Prop),Inv X pins σ H s->RelV o ov->RelV i iv->RelV v u->t o i v H Q ->
  wpAny (model X.prog X.w) X.A (setItem ov iv u) (λ_ s'=>∃H',Inv X pins σ H' s'/\Q H') X.xe s
section
variable{X:Cx}{pos:Pos}
noncomputable def Zl2(i:Nat):TG:=λv σ H Q=>Q (σ.set i (some v)) H
theorem Zau{i:Nat}{x:Str}(hN:X.N.Nodup)(hi:X.N[i]?=some x)(hx:Loc X.env.scope x)(hf:X.fn x=true∨X.env.scope.names.lookup x=some .local:=by first|exact .inl rfl|exact .inr rfl|assumption):PG X (.Name x pos) (Zl2 i):=by
 intro pins s σ H v u Q I r h
 exact wpAny_assign_Name (Zcz I hN hi hx r (λs' I'=>⟨_,H,I',h⟩) hf)
noncomputable def gNil:TGs:=λvs σ H Q=>vs=[]/\Q σ H
noncomputable def gCons(t:TG)(u:TGs):TGs:=λvs σ H Q=>∃v r,vs=v::r/\t v σ H λσ' H'=>u r σ' H' Q
theorem ZhH:PGs X [] gNil:=by
 intro pins s σ H vs us Q I r h
 obtain⟨e,h⟩:=h
 subst e
 cases r
 exact assignInOrder_nil ⟨σ,H,I,h⟩
theorem Xy{e:Expr}{es:List Expr}{t:TG}{u:TGs}(h1:PG X e t)(h2:PGs X es u)(hs:(Wz (e::es) X.env).map (·.2)=assign e X.env::(Wz es X.env).map (·.2):=by rfl):PGs X (e::es) (gCons t u):=by
 intro pins s σ H vs us Q I r h
 obtain⟨v,vr,e1,h⟩:=h
 subst e1
 cases r with
 |cons r rr =>
  rw[hs]
  refine assignInOrder_cons (thn (h1 pins s σ H _ _ _ I r h) λ_ s1 ⟨σ1,H1,I1,q1⟩=>?_)
  exact h2 pins s1 σ1 H1 _ _ Q I1 rr q1
noncomputable def gTup(K:Frag)(n:Nat)(t:TGs):TG:=λv σ H Q=>∃a xs,v=.ref a/\SqT K H a xs/\xs.length=n/\t xs σ H Q
theorem Zky{es:List Expr}{k:Nat}{t:TGs}{n:Nat}(hc:X.calm=true)(h:PGs X es t)(hn:(Wz es X.env).length=n:=by rfl)(hst:(Wz es X.env).findIdx? (·.1)=none:=by rfl):PG X (.Tuple es k pos) (gTup X.K n t):=by
 intro pins s σ H v u Q I r hw
 obtain⟨a,xs,e1,hq,hl,hw⟩:=hw
 subst e1
 cases r
 obtain⟨its,rv,ht,hz⟩:=I.tuple hq
 refine assign_Tuple_tuple (I.ok.hd hc) ht (by simp[hn,<-hl,rv.length]) hst λh' hx=>?_
 have I1:Inv X pins σ H { s with heap:=h' }:=I.kept (t':=s.toks) λb o e=>hx b o (Yv (Yp e)) e
 exact h pins _ σ H xs _ Q I1 (by simpa using rv) hw
noncomputable def gSub(to ti:TE)(t:TSet):TG:=λv σ H Q=>to σ H λo H1=>ti σ H1 λi H2=>t o i v H2 λH3=>Q σ H3
theorem pg_sub{o i:Expr}{to ti:TE}{t:TSet}(ho:PE X o to)(hi:PE X i ti)(hs:PSet X t)(ha:∀v,assign (.Subscript o i pos) X.env v=(do
  let ov <-Vh [v] (eval o X.env)
  let iv <-Vh [v,ov] (eval i X.env)
  Gb pos
  Vh [v,ov,iv] (setItem ov iv v)
  release [v,ov,iv] []):=by intro _;rfl):PG X (.Subscript o i pos) (gSub to ti t):=by
 intro pins s σ H v u Q I r h
 rw[ha]
 refine Yb (Wg (thn (ho pins s σ H _ I h) λov s1 ⟨x,H1,I1,r1,q1⟩=>?_))
 refine Yb (Wg (thn (hi pins s1 σ H1 _ I1 q1) λiv s2 ⟨y,H2,I2,r2,q2⟩=>?_))
 refine Yb (Uj (Yb (Wg (thn (hs pins s2 σ H2 x y v ov iv u _ I2 r1 r2 r q2) λ_ s3 ⟨H3,I3,q3⟩=>?_))))
 exact wpAny_release ⟨σ,H3,I3,q3⟩
noncomputable def tAsg(te:TE)(g:TG):TS:=λD σ H=>te σ H λx H1=>g x σ H1 D.nx
theorem ps_asg{tg e:Expr}{te:TE}{g:TG}(he:PE X e te)(hg:PG X tg g)(hs:swapsWithSole [tg] e pos.line X.env=pure false:=by rfl)(hw:swappedStores [tg] e X.env=pure none:=by rfl)(h1:(Wz [tg] X.env).map (·.2)=[assign tg X.env]:=by rfl):PS X (.Assign [tg] e pos) (tAsg te g):=by
 intro pins s σ H D I h
 refine wpAny_Assign_stores (thn (he pins s σ H _ I h) λv s1 ⟨x,H1,I1,r1,q1⟩=>?_) hs hw
 rw[h1]
 exact thn (hg pins s1 σ H1 x v _ I1 r1 q1) λ_ s2 q=>q
theorem ps_set{i:Nat}{x:Str}{e:Expr}{te:TE}{pos':Pos}(hN:X.N.Nodup)(hi:X.N[i]?=some x)(hx:Loc X.env.scope x)(he:PE X e te)(hs:V2 e (some (.Name x pos')) pos.line X.env=pure false:=by rfl)(hf:X.fn x=true∨X.env.scope.names.lookup x=some .local:=by first|exact .inl rfl|exact .inr rfl|assumption):
  PS X (.Assign [.Name x pos'] e pos) (tAsg te (Zl2 i)):=by
 intro pins s σ H D I h
 refine wpAny_Assign_Name (thn (he pins s σ H _ I h) λv s1 ⟨y,H1,I1,r1,q1⟩=>?_) hs
 exact Zcz I1 hN hi hx r1 (λs2 I2=>⟨_,H1,I2,q1⟩) hf
end
structure It where
 go:Nat->Hp->Prop
 yld:Nat->Hp->V->Hp->Prop
 stop:Nat->Hp->Prop
noncomputable def FpOk(X:Cx)(pins:List (Addr×Obj))(H:Hp)(b:Addr):Prop:=
 H b=none/\b≠X.env.locals/\b∉X.fs/\(b∈X.ex∨X.s₀.heap.objs.size<=b)/\(∀x c,X.env.cells.lookup x=some c->c≠b)/\∀p∈X.pn++pins,p.1≠b
theorem Inv.fpOk{X:Cx}{pins:List (Addr×Obj)}{σ:St}{H H':Hp}{s:Shared}{b:Addr}(I:Inv X pins σ H s)(hb:s.heap.objs.size<=b)(hn:H' b=none):FpOk X pins H' b:=by
 refine⟨hn,Gu (Yq I.lt hb),I.nofs hb,.inr (Wm I.sz hb),λx c e z=>?_,λp hp z=>?_⟩
 ·obtain⟨v,q⟩:=I.cell x c e
  exact absurd (Yq q.lt (by rw[z];exact hb)) (Y9 _)
 ·exact absurd (Yq (Yp (I.pin p hp).1) (by rw[z];exact hb)) (Y9 _)
structure Turn (P:Yx) (w:World) (K:Frag) (tg:Expr) (J:It) (fp:List Addr) (it:Addr) (tn:Nat->Heap->Prop):Prop where
 mem:it∈fp
 obj:∀i h,tn i h->∀b∈fp,∃o,h.get? b=some o/\∀v,o.data≠.cell v
 keep:∀i h h',tn i h->(∀b∈fp,∀o,h.get? b=some o->h'.get? b=some o)->tn i h'
 item:∀(X:Cx),X.prog=P->X.w=w->X.K=K->X.calm=true->∀(i:Nat) (pins:List (Addr×Obj)) (s:Shared) (σ:St) (H:Hp) (E:Value->Shared->Prop),Inv X pins σ H s->(∀b∈fp,FpOk X pins H b)->tn i s.heap->J.go i H ->
  wpAny (model P w) X.A (pyNext (.ref it)) (λr s1=>∃u,r=some u /\
   wpAny (model P w) X.A (UG tg (.ref it) u) (λ_ s2=>∃x H',Inv X pins σ H' s2/\RelV x u/\J.yld i H x H'/\tn (i+1) s2.heap/\∀b∈fp,H' b=none) E s1) E s
 done:∀(X:Cx),X.prog=P->X.w=w->X.K=K->X.calm=true->∀(i:Nat) (pins:List (Addr×Obj)) (s:Shared) (σ:St) (H:Hp) (E:Value->Shared->Prop),Inv X pins σ H s->(∀b∈fp,FpOk X pins H b)->tn i s.heap->J.stop i H ->
  wpAny (model P w) X.A (pyNext (.ref it)) (λr s1=>r=none/\Inv X pins σ H s1) E s
 self:∀(A:Around) (i:Nat) (s:Shared) (Q:Value->Shared->Prop) (E:Value->Shared->Prop),tn i s.heap->Q (.ref it) s->wpAny (model P w) A (pyIter (.ref it)) Q E s
noncomputable abbrev TI:=St->Hp->(It->Hp->Prop)->Prop
noncomputable def PIE(X:Cx)(pins:List (Addr×Obj))(σ:St)(tg:Expr)(R:It->Hp->Prop)(itv:Value)(s2:Shared):Prop:=
 ∃(it:Addr) (fp:List Addr) (tn:Nat->Heap->Prop) (J:It) (H':Hp),itv=.ref it/\Inv X pins σ H' s2/\Turn X.prog X.w X.K tg J fp it tn/\tn 0 s2.heap/\(∀b∈fp,FpOk X pins H' b)/\R J H'
noncomputable def PI(X:Cx)(tg iter:Expr)(wi:TI):Prop:=
 ∀(pins:List (Addr×Obj)) (s:Shared) (σ:St) (H:Hp) (R:It->Hp->Prop),Inv X pins σ H s->wi σ H R ->
  wpAny (model X.prog X.w) X.A (eval iter X.env) (λv s1=>wpAny (model X.prog X.w) X.A (pyIter v) (PIE X pins σ tg R) X.xe s1) X.xe s
theorem Zj1{M:Model}{A:Around}{E:Value->Shared->Prop}{s:Shared}{tg:Expr}{it:Addr}{u:Value}{o:Obj}{n:String}{vs:Array Value}{Q:Unit->Shared->Prop}(ho:s.heap.get? it=some o)(hc:o.cls=.type n)(hd:o.data=.fields vs)(hn:["enumerate","zip","dict_itemiterator","dict_reverseitemiterator","odict_iterator","itertools.zip_longest","itertools.pairwise"].contains n=false)(hQ:Q () s):wpAny M A (UG tg (.ref it) u) Q E s:=by
 unfold UG
 cases tg<;>first
  |exact Yd hQ
  |(cases u<;>first
   |exact Yd hQ
   |(
    refine Yb (wpAny_load ho ?_)
    rw[hc,hd]
    show wpAny M A (if(["enumerate","zip","dict_itemiterator","dict_reverseitemiterator","odict_iterator","itertools.zip_longest","itertools.pairwise"].contains n&&vs[0]?==some (rawInt _))=true then _ else _) Q E s
    rw[if_neg (by intro h;rw[hn,Gd]at h;cases h)]
    exact Yd hQ))
noncomputable def Itl(K:Frag)(a:Addr):It:=
 ⟨λi H=>∃xs x,SqL K H a xs/\xs[i]?=some x,λi H x H'=>H'=H/\∀xs,SqL K H a xs->xs[i]?=some x,λi H=>∃xs,SqL K H a xs/\xs.length<=i⟩
noncomputable def Itt(K:Frag)(a:Addr):It:=
 ⟨λi H=>∃xs x,SqT K H a xs/\xs[i]?=some x,λi H x H'=>H'=H/\∀xs,SqT K H a xs->xs[i]?=some x,λi H=>∃xs,SqT K H a xs/\xs.length<=i⟩
noncomputable def Itr(lo:Int)(n:Nat):It:=⟨λi _=>i<n,λi H x H'=>H'=H/\x=.int (lo+i),λi _=>n<=i⟩
theorem Zg6{P:Yx}{w:World}{K:Frag}{tg:Expr}(a it:Addr):Turn P w K tg (Itl K a) [it] it (λi h=>h.IsListIter it a i) where
 mem:=by simp
 obj:=λi h st b hb=>by
  have e:b=it:=by simpa using hb
  subst e
  obtain⟨o,e,c,d⟩:=st
  exact⟨o,e,λv z=>by rw[d]at z;cases z⟩
 keep:=λi h h' st k=>st.at λo e=>k it (by simp) o e
 item:=by
  intro X hP hw hK hc i pins s σ H E I hf st hg
  subst hP hw hK
  obtain⟨xs,x,hq,hx⟩:=hg
  obtain⟨its,rv,p,hz⟩:=I.list hq
  obtain⟨u,hu,ru⟩:=rv.get hx
  obtain⟨f0,f1,f2,f3,f4,f5⟩:=hf it (by simp)
  refine wpAny_pyNext_list_item st p.isList (x:=u) (by simpa using hu) λh' st' sb=>?_
  have I1:Inv X pins σ H { s with heap:=h' }:=I.turned (t':=s.toks) (λb o hb e=>(sb.2 b hb).trans e) f0 f1 f3 f4 f5
  obtain⟨o,e,c,d⟩:=id st'
  exact⟨u,rfl,Zj1 (s:={ s with heap:=h' }) e c d (by decide) ⟨x,H,I1,ru,⟨rfl,λys hy=>by rw[I.list_inj hy hq];exact hx⟩,st',λb hb=>(hf b hb).1⟩⟩
 done:=by
  intro X hP hw hK hc i pins s σ H E I hf st hg
  subst hP hw hK
  obtain⟨xs,hq,hx⟩:=hg
  obtain⟨its,rv,p,hz⟩:=I.list hq
  obtain⟨f0,f1,f2,f3,f4,f5⟩:=hf it (by simp)
  have hl:=rv.length
  exact wpAny_pyNext_list_end (I.ok.hd hc) st p.isList (by simp;omega) λh' eb=>⟨rfl,I.turned (t':=s.toks) (λb o hb e=>eb b o hb e) f0 f1 f3 f4 f5⟩
 self:=λ_ _ _ _ _ st h=>wpAny_pyIter_listiter st h
theorem ZfT{P:Yx}{w:World}{K:Frag}{tg:Expr}(a it:Addr):Turn P w K tg (Itt K a) [it] it (λi h=>h.IsTupleIter it a i) where
 mem:=by simp
 obj:=λi h st b hb=>by
  have e:b=it:=by simpa using hb
  subst e
  obtain⟨o,e,c,d⟩:=st
  exact⟨o,e,λv z=>by rw[d]at z;cases z⟩
 keep:=λi h h' st k=>st.at λo e=>k it (by simp) o e
 item:=by
  intro X hP hw hK hc i pins s σ H E I hf st hg
  subst hP hw hK
  obtain⟨xs,x,hq,hx⟩:=hg
  obtain⟨its,rv,p,hz⟩:=I.tuple hq
  obtain⟨u,hu,ru⟩:=rv.get hx
  obtain⟨f0,f1,f2,f3,f4,f5⟩:=hf it (by simp)
  refine wpAny_pyNext_tuple_item st (show s.heap.IsTuple a its.toArray from p) (x:=u) (by simpa using hu) λh' st' sb=>?_
  have I1:Inv X pins σ H { s with heap:=h' }:=I.turned (t':=s.toks) (λb o hb e=>(sb.2 b hb).trans e) f0 f1 f3 f4 f5
  obtain⟨o,e,c,d⟩:=id st'
  exact⟨u,rfl,Zj1 (s:={ s with heap:=h' }) e c d (by decide) ⟨x,H,I1,ru,⟨rfl,λys hy=>by rw[I.tuple_inj hy hq];exact hx⟩,st',λb hb=>(hf b hb).1⟩⟩
 done:=by
  intro X hP hw hK hc i pins s σ H E I hf st hg
  subst hP hw hK
  obtain⟨xs,hq,hx⟩:=hg
  obtain⟨its,rv,p,hz⟩:=I.tuple hq
  obtain⟨f0,f1,f2,f3,f4,f5⟩:=hf it (by simp)
  have hl:=rv.length
  exact wpAny_pyNext_tuple_end (I.ok.hd hc) st (show s.heap.IsTuple a its.toArray from p) (by simp;omega) λh' eb=>⟨rfl,I.turned (t':=s.toks) (λb o hb e=>eb b o hb e) f0 f1 f3 f4 f5⟩
 self:=λ_ _ _ _ _ st h=>wpAny_pyIter_tupleiter st h
theorem ZfU{P:Yx}{w:World}{K:Frag}{tg:Expr}(it:Addr)(lo:Int)(n:Nat):Turn P w K tg (Itr lo n) [it] it (λi h=>IsRangeIter h it (lo+(i:Nat)*1) ((n:Int)-(i:Nat)) 1) where
 mem:=by simp
 obj:=λi h st b hb=>by
  have e:b=it:=by simpa using hb
  subst e
  exact⟨_,st,λv z=>by
   have z':Data.fields _=Data.cell v:=z
   cases z'⟩
 keep:=λi h h' st k=>k it (by simp) _ st
 item:=by
  intro X hP hw hK hc i pins s σ H E I hf st hg
  subst hP hw hK
  obtain⟨f0,f1,f2,f3,f4,f5⟩:=hf it (by simp)
  have W:=Walks.range (prog:=X.prog) (w:=X.w) (I.ok.hd hc) it lo 1 n
  refine W.item i s _ _ hg st λv h' tk hv st' kk=>?_
  obtain⟨t,rfl⟩:=hv
  have I1:Inv X pins σ H { s with heap:=h',toks:=tk }:=I.turned (λb o hb e=>kk b o (by simpa using hb) e) f0 f1 f3 f4 f5
  refine⟨_,rfl,Zj1 (s:={ s with heap:=h',toks:=tk }) (n:="range_iterator") st' rfl rfl (by decide) ⟨.int (lo+i),H,I1,⟨t,?_⟩,⟨rfl,rfl⟩,st',λb hb=>(hf b hb).1⟩⟩
  rw[Int.mul_one]
 done:=by
  intro X hP hw hK hc i pins s σ H E I hf st hg
  subst hP hw hK
  obtain⟨f0,f1,f2,f3,f4,f5⟩:=hf it (by simp)
  exact wpAny_pyNext_range_end (I.ok.hd hc) st (by have:n<=i:=hg;omega) λh' eb=>⟨rfl,I.turned (t':=s.toks) (λb o hb e=>eb b o hb e) f0 f1 f3 f4 f5⟩
 self:=λ_ _ _ _ _ st h=>wpAny_pyIter_rangeiter st h
section
variable{X:Cx}{tg:Expr}
theorem Zfp{pins:List (Addr×Obj)}{σ:St}{H:Hp}{s:Shared}{R:It->Hp->Prop}{E:Value->Shared->Prop}{lo hi:Int}{t u v:Tok}{tk:Nat}(I:Inv X pins σ H s)(h1:-(2^62)<=lo)(h2:lo<2^62)(h3:-(2^62)<=hi)(h4:hi<2^62)(q:R (Itr lo (hi-lo).toNat) H):wpAny (model X.prog X.w) X.A (pyIter (.ref s.heap.objs.size)) (PIE X pins σ tg R) E { s with heap:=s.heap.push { cls:=.type "range",data:=.fields #[.int lo t,.int hi u,.int 1 v] },toks:=tk }:=by
 refine wpAny_pyIter_range (IsRange.new ..) (small_one h1 h2 h3 h4) ?_
 have I1:Inv X pins σ H { s with heap:=s.heap.push { cls:=.type "range",data:=.fields #[.int lo t,.int hi u,.int 1 v] },toks:=tk }:=I.kept λb o e=>Yc _ e
 refine⟨(s.heap.push { cls:=.type "range",data:=.fields #[.int lo t,.int hi u,.int 1 v] }).objs.size,[(s.heap.push { cls:=.type "range",data:=.fields #[.int lo t,.int hi u,.int 1 v] }).objs.size],_,_,H,rfl,
  I1.kept (t':=tk) λb o e=>Yc _ e,ZfU _ lo (hi-lo).toNat,?_,λb hb=>?_,q⟩
 ·have e1:lo+((0:Nat):Int)*1=lo:=by simp
  have e2:(((hi-lo).toNat:Nat):Int)-((0:Nat):Int)=Builtin.Range.rangeSize lo hi 1:=by rw[rangeSize_one];split<;>omega
  show IsRangeIter _ _ (lo+((0:Nat):Int)*1) ((((hi-lo).toNat:Nat):Int)-((0:Nat):Int)) 1
  rw[e1,e2]
  exact Yl _ rfl
 ·have e:b=(s.heap.push { cls:=.type "range",data:=.fields #[.int lo t,.int hi u,.int 1 v] }).objs.size:=by simpa using hb
  subst e
  exact I1.fpOk (Yj _) (I1.hok.fresh (Yj _))
noncomputable def iRng1(ta:TA):TI:=λσ H R=>ta σ H λvs H1=>∃j:Int,vs=[.int j]/\-(2^62)<=j/\j<2^62/\R (Itr 0 j.toNat) H1
noncomputable def iRng2(ta:TA):TI:=λσ H R=>ta σ H λvs H1=>∃i j:Int,vs=[.int i,.int j]/\(-(2^62)<=i/\i<2^62/\-(2^62)<=j/\j<2^62)/\R (Itr i (j-i).toNat) H1
theorem ZhG{a:Expr}{ta:TA}{p pos:Pos}(hg:Gl X "range")(hm:X.mg "range" = none)(ha:PA X [a] ta)(hs:Wq [a] X.env=[(false,eval a X.env)]:=by rfl):PI X tg (.Call (.Name "range" p) [a] [] pos) (iRng1 ta):=by
 intro pins s σ H R I h
 refine Call_ (J9 I hg hm boot_range (W8 (thn (ha pos pins s σ H _ I h) λus s1 ⟨vs,H1,I1,r1,q1⟩=>?_) hs rfl))
 obtain⟨j,e,q1,q2,q⟩:=q1
 subst e
 cases r1 with
 |cons r rr =>
  cases rr
  obtain⟨t,rfl⟩:=r
  exact call_range_1 (Zfp I1 (by omega) (by omega) q1 q2 (by simpa using q))
theorem ZhF{a b:Expr}{ta:TA}{p pos:Pos}(hg:Gl X "range")(hm:X.mg "range" = none)(ha:PA X [a,b] ta)(hs:Wq [a,b] X.env=[(false,eval a X.env),(false,eval b X.env)]:=by rfl)(hs2:Wq [b] X.env=[(false,eval b X.env)]:=by rfl):
  PI X tg (.Call (.Name "range" p) [a,b] [] pos) (iRng2 ta):=by
 intro pins s σ H R I h
 refine Call_ (J9 I hg hm boot_range (W8 (thn (ha pos pins s σ H _ I h) λus s1 ⟨vs,H1,I1,r1,q1⟩=>?_) (by rw[hs,hs2]) (by rw[hs2];rfl)))
 obtain⟨i,j,e,⟨q1,q2,q3,q4⟩,q⟩:=q1
 subst e
 cases r1 with
 |cons r rr =>
  cases rr with
  |cons r' rr =>
   cases rr
   obtain⟨t,rfl⟩:=r
   obtain⟨t',rfl⟩:=r'
   exact call_range_2 (Zfp I1 q1 q2 q3 q4 q)
noncomputable def tFor(wi:TI)(g:TG)(tb:TS):TS:=λD σ H=>wi σ H λJ H1=>∃W:Nat->Nat->St->Hp->Prop,(∃m,W 0 m σ H1)/\∀i m σ H,W i m σ H ->
 (J.stop i H/\D.nx σ H)∨(J.go i H/\∃N:St->Hp->Prop,(∀σ' H',N σ' H'->∃m',m'<m/\W (i+1) m' σ' H')/\∀x H',J.yld i H x H'->g x σ H' λσ2 H2=>tb { D with nx:=N,ct:=N,bk:=D.nx } σ2 H2)
noncomputable def J8(fp:List Addr)(h:Heap):List (Addr×Obj):=fp.filterMap λb=>(h.get? b).map λo=>(b,o)
theorem Z2{fp:List Addr}{h:Heap}{b:Addr}{o:Obj}(hb:b∈fp)(e:h.get? b=some o):(b,o)∈J8 fp h:=List.mem_filterMap.mpr ⟨b,hb,by rw[e];rfl⟩
theorem Zd0{fp:List Addr}{h:Heap}{p:Addr×Obj}(hp:p∈J8 fp h):p.1∈fp/\h.get? p.1=some p.2:=by
 obtain⟨b,hb,e⟩:=List.mem_filterMap.mp hp
 cases q:h.get? b with
 |none=>rw[q]at e;cases e
 |some o =>
  rw[q]at e
  have e':(b,o)=p:=YQ e
  subst e'
  exact⟨hb,q⟩
theorem Inv.pinned{pins:List (Addr×Obj)}{σ:St}{H:Hp}{s:Shared}{fp:List Addr}(I:Inv X pins σ H s)(hf:∀b∈fp,FpOk X pins H b)(ho:∀b∈fp,∃o,s.heap.get? b=some o/\∀v,o.data≠.cell v):Inv X (pins++J8 fp s.heap) σ H s:=
 I.pins_of λp hp=>(Uz.mp hp).elim (λz=>I.pin p (Ym _ z)) λz=>by
  obtain⟨hb,e⟩:=Zd0 z
  obtain⟨f0,f1,f2,_⟩:=hf p.1 hb
  obtain⟨o,e',d⟩:=ho p.1 hb
  rw[e]at e';cases e'
  exact⟨e,f0,f1,f2,d⟩
theorem Inv.unpinned{pins pl:List (Addr×Obj)}{σ:St}{H:Hp}{s:Shared}(I:Inv X (pins++pl) σ H s):Inv X pins σ H s:=I.pins_of λp hp=>I.pin p (Ym _ (Wf _ hp))
theorem ps_for{iter:Expr}{body:List Stmt}{wi:TI}{g:TG}{tb:TS}{pos:Pos}(hp:Yb6 (model X.prog X.w) X.A X.env X.xe)(hc:X.calm=true)(hi:PI X tg iter wi)(hg:PG X tg g)(hb:PSs X body tb)(hs:∀x,Wu iter X.env x=pure x:=by intro _;rfl):PS X (.For tg iter body [] pos) (tFor wi g tb):=by
 intro pins s σ H D I h
 refine wpAny_For (thn (hi pins s σ H _ I h) λv s1 h1=>thn h1 λitv s2 h2=>?_) hs
 obtain⟨it,fp,tn,J,H2,e,I2,T,st2,f2,W,⟨m0,w0⟩,turn⟩:=h2
 subst e
 -- what stays true of the iterator's objects through the loop
 have stat:∀{H':Hp},(∀b∈fp,H' b=none)->∀b∈fp,FpOk X pins H' b:=λhn b hb=>⟨hn b hb,(f2 b hb).2⟩
 refine codeAny_forLoop_any (λn s'=>∃i σ' H',Inv X pins σ' H' s'/\tn i s'.heap/\(∀b∈fp,H' b=none)/\W i n σ' H') ?_ m0 ⟨0,σ,H2,I2,st2,λb hb=>(f2 b hb).1,w0⟩
 rintro n s3 ⟨i,σ3,H3,I3,st3,fr3,w3⟩
 rcases turn i n σ3 H3 w3 with⟨stop,qn⟩|⟨go,N,hN,step⟩
 ·refine Vi hp (thn (T.done X rfl rfl rfl hc i pins s3 σ3 H3 X.xe I3 (stat fr3) st3 stop) λr s4 ⟨hr,I4⟩=>?_)
  subst hr
  exact YaW ⟨σ3,H3,I4,qn⟩
 ·refine Vi hp (thn (T.item X rfl rfl rfl hc i pins s3 σ3 H3 X.xe I3 (stat fr3) st3 go) λr s4 ⟨u,hr,h4⟩=>?_)
  subst hr
  refine Vi hp (thn h4 λ_ s5 ⟨x,H5,I5,r5,y5,st5,fr5⟩=>?_)
  have I5':=I5.pinned (stat fr5) (T.obj _ _ st5)
  refine Vi hp (thn (hg _ s5 σ3 H5 x u _ I5' r5 (step x H5 y5)) λ_ s6 ⟨σ6,H6,I6,q6⟩=>?_)
  refine Vi hp (thn (hb _ s6 σ6 H6 _ I6 q6) λf s7 q7=>?_)
  have again:∀{σ7:St}{H7:Hp},Inv X (pins++J8 fp s5.heap) σ7 H7 s7->N σ7 H7->∃m,m<n/\∃i σ' H',Inv X pins σ' H' s7/\tn i s7.heap/\(∀b∈fp,H' b=none)/\W i m σ' H':=λ{σ7 H7} I7 n7=>by
   obtain⟨m',hm,w7⟩:=hN σ7 H7 n7
   refine⟨m',hm,i+1,σ7,H7,I7.unpinned,T.keep _ _ _ st5 λb hb o e=>(I7.pin (b,o) (Ym _ (Ym _ (Z2 hb e)))).1,λb hb=>?_,w7⟩
   obtain⟨o,e,d⟩:=T.obj _ _ st5 b hb
   exact(I7.pin (b,o) (Ym _ (Ym _ (Z2 hb e)))).2.1
  cases f with
  |next=>obtain⟨σ7,H7,I7,n7⟩:=q7;exact again I7 n7
  |cont=>obtain⟨σ7,H7,I7,n7⟩:=q7;exact again I7 n7
  |brk=>obtain⟨σ7,H7,I7,q7⟩:=q7;exact⟨σ7,H7,I7.unpinned,q7⟩
  |ret v=>obtain⟨x7,σ7,H7,I7,r7,q7⟩:=q7;exact⟨x7,σ7,H7,I7.unpinned,r7,q7⟩
end
noncomputable abbrev R2:=V->V->Hp->VK->Prop
noncomputable def OpR(X:Cx)(f:Value->Value->Sem Value)(r:R2):Prop:=
 ∀(pins:List (Addr×Obj)) (s:Shared) (σ:St) (H:Hp) (x y:V) (v u:Value) (Q:VK),Inv X pins σ H s->RelV x v->RelV y u->r x y H Q ->
  wpAny (model X.prog X.w) X.A (f v u) (EP X pins σ Q) X.xe s
noncomputable def UnR(X:Cx)(f:Value->Sem Value)(r:V->Hp->VK->Prop):Prop:=
 ∀(pins:List (Addr×Obj)) (s:Shared) (σ:St) (H:Hp) (x:V) (v:Value) (Q:VK),Inv X pins σ H s->RelV x v->r x H Q ->
  wpAny (model X.prog X.w) X.A (f v) (EP X pins σ Q) X.xe s
noncomputable def J1(X:Cx)(f:Value)(r:List V->Hp->VK->Prop):Prop:=
 ∀(pins:List (Addr×Obj)) (s:Shared) (σ:St) (H:Hp) (xs:List V) (us:List Value) (Q:VK),Inv X pins σ H s->Vals xs us->r xs H Q ->
  wpAny (model X.prog X.w) X.A (call f us) (EP X pins σ Q) X.xe s
noncomputable def TruR(X:Cx)(r:V->Hp->(Bool->Hp->Prop)->Prop):Prop:=
 ∀(pins:List (Addr×Obj)) (s:Shared) (σ:St) (H:Hp) (x:V) (v:Value) (Q:Bool->Hp->Prop),Inv X pins σ H s->RelV x v->r x H Q ->
  wpAny (model X.prog X.w) X.A (truthy v) (TP X pins σ Q) X.xe s
noncomputable def tOp(r:R2)(ta tb:TE):TE:=λσ H Q=>ta σ H λx H1=>tb σ H1 λy H2=>r x y H2 Q
noncomputable def tUn(r:V->Hp->VK->Prop)(ta:TE):TE:=λσ H Q=>ta σ H λx H1=>r x H1 Q
noncomputable def rI(C:Int->Int->Prop)(g:Int->Int->V):R2:=λx y H Q=>∃i j,x=.int i/\y=.int j/\C i j/\Q (g i j) H
noncomputable def rI0(g:Int->Int->V):R2:=λx y H Q=>∃i j,x=.int i/\y=.int j/\Q (g i j) H
noncomputable def rU(g:Int->V):V->Hp->VK->Prop:=λx H Q=>∃i,x=.int i/\Q (g i) H
section
variable{X:Cx}{a b c:Expr}{ta tb tc:TE}{pos:Pos}
theorem binT(ha:PE X a ta)(hb:PE X b tb){pins:List (Addr×Obj)}{s:Shared}{σ:St}{H:Hp}{R:V->V->Hp->Prop}(I:Inv X pins σ H s)(h:ta σ H λx H1=>tb σ H1 λy H2=>R x y H2){Q:Value->Shared->Prop}{f:Value->Value->Sem Value}(hf:∀v u s2 x y H2,Inv X pins σ H2 s2->RelV x v->RelV y u->R x y H2->wpAny (model X.prog X.w) X.A (f v u) Q X.xe s2):
  wpAny (model X.prog X.w) X.A (eval a X.env) (λv s₁=>wpAny (model X.prog X.w) X.A (eval b X.env) (λu s₂=>wpAny (model X.prog X.w) X.A (f v u) Q X.xe s₂) X.xe s₁) X.xe s:=by
 refine thn (ha pins s σ H _ I h) λv s1 ⟨x,H1,I1,r1,q1⟩=>?_
 refine thn (hb pins s1 σ H1 _ I1 q1) λu s2 ⟨y,H2,I2,r2,q2⟩=>?_
 exact hf v u s2 x y H2 I2 r1 r2 q2
theorem pe_op{op:Yag}{r:R2}(ho:OpR X (WW op) r)(ha:PE X a ta)(hb:PE X b tb):PE X (.BinOp a op b pos) (tOp r ta tb):=by
 intro pins s σ H Q I h
 exact wpAny_BinOp (binT ha hb I h λv u s2 x y H2 I2 rx ry q=>ho pins s2 σ H2 x y v u Q I2 rx ry q)
theorem pe_un{op:UnaryOp}{r:V->Hp->VK->Prop}(ho:UnR X (unaryOp op) r)(ha:PE X a ta):PE X (.UnaryOp op a pos) (tUn r ta):=by
 intro pins s σ H Q I h
 exact UnaryOp_ (thn (ha pins s σ H _ I h) λv s1 ⟨x,H1,I1,r1,q1⟩=>ho pins s1 σ H1 x v Q I1 r1 q1)
theorem opI{f:Value->Value->Sem Value}{C:Int->Int->Prop}{g:Int->Int->Int}(rule:∀(i j:Int) (t u:Tok) (s:Shared) (Q:Value->Shared->Prop) (E:Value->Shared->Prop),C i j->Q (.int (g i j) s.toks) { s with toks:=s.toks+1 }->wpAny (model X.prog X.w) X.A (f (.int i t) (.int j u)) Q E s):
  OpR X f (rI C λi j=>.int (g i j)):=by
 intro pins s σ H x y v u Q I rx ry h
 obtain⟨i,j,rfl,rfl,hc,q⟩:=h
 obtain⟨t,rfl⟩:=rx
 obtain⟨t',rfl⟩:=ry
 exact rule i j t t' s _ _ hc ⟨.int (g i j),H,I.tok _,⟨_,rfl⟩,q⟩
theorem opI0{f:Value->Value->Sem Value}{g:Int->Int->Int}(rule:∀(i j:Int) (t u:Tok) (s:Shared) (Q:Value->Shared->Prop) (E:Value->Shared->Prop),Q (.int (g i j) s.toks) { s with toks:=s.toks+1 }->wpAny (model X.prog X.w) X.A (f (.int i t) (.int j u)) Q E s):
  OpR X f (rI0 λi j=>.int (g i j)):=by
 intro pins s σ H x y v u Q I rx ry h
 obtain⟨i,j,rfl,rfl,q⟩:=h
 obtain⟨t,rfl⟩:=rx
 obtain⟨t',rfl⟩:=ry
 exact rule i j t t' s _ _ ⟨.int (g i j),H,I.tok _,⟨_,rfl⟩,q⟩
theorem opB0{f:Value->Value->Sem Value}{g:Int->Int->Bool}(rule:∀(i j:Int) (t u:Tok) (s:Shared) (Q:Value->Shared->Prop) (E:Value->Shared->Prop),Q (.bool (g i j)) s->wpAny (model X.prog X.w) X.A (f (.int i t) (.int j u)) Q E s):
  OpR X f (rI0 λi j=>.bl (g i j)):=by
 intro pins s σ H x y v u Q I rx ry h
 obtain⟨i,j,rfl,rfl,q⟩:=h
 obtain⟨t,rfl⟩:=rx
 obtain⟨t',rfl⟩:=ry
 exact rule i j t t' s _ _ ⟨.bl (g i j),H,I,rfl,q⟩
noncomputable def CDiv(i j:Int):Prop:=0<j/\j<1073741824
noncomputable def CPow(i j:Int):Prop:=0<=j/\j<=1000000/\i.natAbs<2^64
noncomputable def CMul(i j:Int):Prop:=(-(2^64)<i/\i<2^64)∨(-(2^64)<j/\j<2^64)
theorem CMul.ok{i j:Int}(h:CMul i j):IntMulOk i j:=by
 rcases h with⟨h1,h2⟩|⟨h1,h2⟩
 ·exact .of_left (intBits_le_64 h1 h2)
 ·exact .of_right (intBits_le_64 h1 h2)
theorem op_add:OpR X (WW .Add) (rI0 λi j=>.int (i+j)):=opI0 λ_ _ _ _ _ _ _ q=>add_int q
theorem op_sub:OpR X (WW .Sub) (rI0 λi j=>.int (i-j)):=opI0 λ_ _ _ _ _ _ _ q=>sub_int q
theorem ZlJ:OpR X (WW .FloorDiv) (rI CDiv λi j=>.int (i / j)):=opI λi j _ _ _ _ _ hc q=>by
 have h1:(0:Int)<j:=hc.1
 have h2:j<1073741824:=hc.2
 exact floordiv_int (by omega) (by rw[Int.fdiv_eq_ediv_of_nonneg i (by omega)];exact q) (.inl (PyProof.noPylong_small (by omega)))
theorem op_mod:OpR X (WW .Mod) (rI (λ_ j=>0<j) λi j=>.int (i%j)):=opI λi j _ _ _ _ _ hc q=>by
 have h1:(0:Int)<j:=hc
 exact mod_int' (by omega) (by rw[Int.fmod_eq_emod_of_nonneg i (by omega)];exact q)
theorem op_pow:OpR X (WW .Pow) (rI CPow λi j=>.int (i^j.toNat)):=opI λ_ _ _ _ _ _ _ hc q=>pow_int_small hc.1 hc.2.1 hc.2.2 q
theorem unI{f:Value->Sem Value}{g:Int->Int}(rule:∀(i:Int) (t:Tok) (s:Shared) (Q:Value->Shared->Prop) (E:Value->Shared->Prop),Q (.int (g i) s.toks) { s with toks:=s.toks+1 }->wpAny (model X.prog X.w) X.A (f (.int i t)) Q E s):
  UnR X f (rU λi=>.int (g i)):=by
 intro pins s σ H x v Q I rx h
 obtain⟨i,rfl,q⟩:=h
 obtain⟨t,rfl⟩:=rx
 exact rule i t s _ _ ⟨.int (g i),H,I.tok _,⟨_,rfl⟩,q⟩
theorem un_neg:UnR X (unaryOp .USub) (rU λi=>.int (-i)):=unI λ_ _ _ _ _ q=>neg_int q
end
noncomputable def scal:V->V->Bool
 |.non,.non=>true|.non,.int _=>true|.int _,.non=>true|.non,.bl _=>true|.bl _,.non=>true|.non,.str _=>true|.str _,.non=>true
 |.int _,.int _=>true|.bl _,.bl _=>true|.str _,.str _=>true|.byt _,.byt _=>true
 |.int _,.str _=>true|.str _,.int _=>true|.bl _,.str _=>true|.str _,.bl _=>true
 |_,_=>false
noncomputable def rEq:R2:=λx y H Q=>scal x y=true/\Q (.bl (decide (x=y))) H
noncomputable def rNe:R2:=λx y H Q=>scal x y=true/\Q (.bl (!decide (x=y))) H
theorem ZeQ{i j:Int}:decide (V.int i=V.int j)=(i==j):=by
 rw[Vj]
 simp
theorem ZiJ{i j:Bool}:decide (V.bl i=V.bl j)=(i==j):=by
 rw[Vj]
 simp
theorem ZiH{i j:Str}:decide (V.str i=V.str j)=(i==j):=by
 rw[Vj]
 simp
theorem ZiI{i j:Array UInt8}:decide (V.byt i=V.byt j)=(i.toList==j.toList):=by
 rw[Vj]
 cases i
 cases j
 simp
section
variable{X:Cx}{a b c:Expr}{ta tb tc:TE}{pos:Pos}
theorem Zu{pins:List (Addr×Obj)}{σ:St}{H:Hp}{s:Shared}{Q:VK}{k k':Bool}(I:Inv X pins σ H s)(q:Q (.bl k) H)(e:k=k'):EP X pins σ Q (.bool k') s:=by
 subst e
 exact⟨.bl k,H,I,rfl,q⟩
theorem op_eq:OpR X (Y7 .Eq) rEq:=by
 intro pins s σ H x y v u Q I rx ry h
 obtain⟨hs,q⟩:=h
 cases x with
 |non =>
  cases rx
  cases y with
  |non=>cases ry;exact PySem.EqNone.eq_none_none (Zu I q (by simp))
  |bl j=>cases ry;exact PySem.EqNone.eq_none_bool (Zu I q (by simp))
  |int j=>obtain⟨t',rfl⟩:=ry;exact PySem.EqNone.eq_none_int (Zu I q (by simp))
  |str j=>obtain⟨t',rfl⟩:=ry;exact PySem.EqNone.eq_none_str (Zu I q (by simp))
  |_=>exact absurd (show false=true from hs) Yt
 |bl i =>
  cases rx
  cases y with
  |non=>cases ry;exact PySem.EqNone.eq_bool_none (Zu I q (by simp))
  |bl j=>cases ry;exact eq_bool (Zu I q ZiJ)
  |str j=>obtain⟨t',rfl⟩:=ry;exact PySem.EqMixed.eq_bool_str (Zu I q (by simp))
  |_=>exact absurd (show false=true from hs) Yt
 |int i =>
  obtain⟨t,rfl⟩:=rx
  cases y with
  |non=>cases ry;exact PySem.EqNone.eq_int_none (Zu I q (by simp))
  |int j=>obtain⟨t',rfl⟩:=ry;exact eq_int (Zu I q ZeQ)
  |str j=>obtain⟨t',rfl⟩:=ry;exact PySem.EqMixed.eq_int_str (Zu I q (by simp))
  |_=>exact absurd (show false=true from hs) Yt
 |str i =>
  obtain⟨t,rfl⟩:=rx
  cases y with
  |non=>cases ry;exact PySem.EqNone.eq_str_none (Zu I q (by simp))
  |bl j=>cases ry;exact PySem.EqMixed.eq_str_bool (Zu I q (by simp))
  |int j=>obtain⟨t',rfl⟩:=ry;exact PySem.EqMixed.eq_str_int (Zu I q (by simp))
  |str j=>obtain⟨t',rfl⟩:=ry;exact eq_str (Zu I q ZiH)
  |_=>exact absurd (show false=true from hs) Yt
 |byt i =>
  obtain⟨t,rfl⟩:=rx
  cases y with
  |byt j=>obtain⟨t',rfl⟩:=ry;exact PySem.W.eq_bytes (Zu I q ZiI)
  |_=>exact absurd (show false=true from hs) Yt
 |_=>cases y<;>exact absurd (show false=true from hs) Yt
theorem op_ne:OpR X (Y7 .NotEq) rNe:=by
 intro pins s σ H x y v u Q I rx ry h
 obtain⟨hs,q⟩:=h
 cases x with
 |non =>
  cases rx
  cases y with
  |non=>cases ry;exact PySem.EqNone.ne_none_none (Zu I q (by simp))
  |bl j=>cases ry;exact PySem.EqNone.ne_none_bool (Zu I q (by simp))
  |int j=>obtain⟨t',rfl⟩:=ry;exact PySem.EqNone.ne_none_int (Zu I q (by simp))
  |str j=>obtain⟨t',rfl⟩:=ry;exact PySem.EqNone.ne_none_str (Zu I q (by simp))
  |_=>exact absurd (show false=true from hs) Yt
 |bl i =>
  cases rx
  cases y with
  |non=>cases ry;exact PySem.EqNone.ne_bool_none (Zu I q (by simp))
  |bl j=>cases ry;exact ne_bool (Zu I q (congrArg not ZiJ))
  |str j=>obtain⟨t',rfl⟩:=ry;exact PySem.EqMixed.ne_bool_str (Zu I q (by simp))
  |_=>exact absurd (show false=true from hs) Yt
 |int i =>
  obtain⟨t,rfl⟩:=rx
  cases y with
  |non=>cases ry;exact PySem.EqNone.ne_int_none (Zu I q (by simp))
  |int j=>obtain⟨t',rfl⟩:=ry;exact ne_int (Zu I q (congrArg not ZeQ))
  |str j=>obtain⟨t',rfl⟩:=ry;exact PySem.EqMixed.ne_int_str (Zu I q (by simp))
  |_=>exact absurd (show false=true from hs) Yt
 |str i =>
  obtain⟨t,rfl⟩:=rx
  cases y with
  |non=>cases ry;exact PySem.EqNone.ne_str_none (Zu I q (by simp))
  |bl j=>cases ry;exact PySem.EqMixed.ne_str_bool (Zu I q (by simp))
  |int j=>obtain⟨t',rfl⟩:=ry;exact PySem.EqMixed.ne_str_int (Zu I q (by simp))
  |str j=>obtain⟨t',rfl⟩:=ry;exact ne_str (Zu I q (congrArg not ZiH))
  |_=>exact absurd (show false=true from hs) Yt
 |byt i =>
  obtain⟨t,rfl⟩:=rx
  cases y with
  |byt j=>obtain⟨t',rfl⟩:=ry;exact PySem.W.ne_bytes (Zu I q (congrArg not ZiI))
  |_=>exact absurd (show false=true from hs) Yt
 |_=>cases y<;>exact absurd (show false=true from hs) Yt
theorem op_lt:OpR X (Y7 .Lt) (rI0 λi j=>.bl (decide (i<j))):=opB0 λ_ _ _ _ _ _ _ q=>lt_int q
theorem op_le:OpR X (Y7 .LtE) (rI0 λi j=>.bl (decide (i<=j))):=opB0 λ_ _ _ _ _ _ _ q=>le_int q
theorem op_gt:OpR X (Y7 .Gt) (rI0 λi j=>.bl (decide (j<i))):=opB0 λ_ _ _ _ _ _ _ q=>gt_int q
theorem op_ge:OpR X (Y7 .GtE) (rI0 λi j=>.bl (decide (j<=i))):=opB0 λ_ _ _ _ _ _ _ q=>ge_int q
theorem ZhQ:OpR X (Y7 .Lt) (λx y H Q=>∃i j,x=.str i/\y=.str j/\Q (.bl (decide (i.cps.toList<j.cps.toList))) H):=by
 intro pins s σ H x y v u Q I rx ry h
 obtain⟨i,j,rfl,rfl,q⟩:=h
 obtain⟨t,rfl⟩:=rx
 obtain⟨t',rfl⟩:=ry
 exact lt_str (Zu I q rfl)
theorem ZhR:OpR X (Y7 .In) (λx y H Q=>∃i j,x=.str i/\y=.str j/\Q (.bl (!(Us j i 0 j.length 1).isEmpty)) H):=by
 intro pins s σ H x y v u Q I rx ry h
 obtain⟨i,j,rfl,rfl,q⟩:=h
 obtain⟨t,rfl⟩:=rx
 obtain⟨t',rfl⟩:=ry
 exact in_str (Zu I q rfl)
theorem op_isN:OpR X (Y7 .Is) (λx y H Q=>y=.non/\Q (.bl (decide (x=.non))) H):=by
 intro pins s σ H x y v u Q I rx ry h
 obtain⟨rfl,q⟩:=h
 cases ry
 refine is_none_gen (Zu I q ?_)
 cases x<;>first
  |(cases rx;rfl)
  |(obtain⟨t,rfl⟩:=rx;rfl)
theorem ZlG:OpR X (Y7 .IsNot) (λx y H Q=>y=.non/\Q (.bl (!decide (x=.non))) H):=by
 intro pins s σ H x y v u Q I rx ry h
 obtain⟨rfl,q⟩:=h
 cases ry
 refine isnot_none_gen (Zu I q ?_)
 cases x<;>first
  |(cases rx;rfl)
  |(obtain⟨t,rfl⟩:=rx;rfl)
theorem ZdU:OpR X (Y7 .NotIn) (λx y H Q=>∃i j,x=.str i/\y=.str j/\Q (.bl (!(!(Us j i 0 j.length 1).isEmpty))) H):=by
 intro pins s σ H x y v u Q I rx ry h
 obtain⟨i,j,rfl,rfl,q⟩:=h
 obtain⟨t,rfl⟩:=rx
 obtain⟨t',rfl⟩:=ry
 exact notIn_str (Zu I q rfl)
theorem ZhM{op:CmpOp}{r:R2}(ho:OpR X (Y7 op) r)(ha:PE X a ta)(hb:PE X b tb)(hm:YaE op b=false):PE X (.Compare a [op] [b] pos) (tOp r ta tb):=by
 intro pins s σ H Q I h
 exact wpAny_Compare1 (binT ha hb I h λv u s2 x y H2 I2 rx ry q=>ho pins s2 σ H2 x y v u Q I2 rx ry q) hm
noncomputable def tTest(t:TE):TT:=λσ H Q=>t σ H λx H'=>∃k,x=.bl k/\Q k H'
theorem Zk9{op:CmpOp}{r:R2}(ho:OpR X (Y7 op) r)(ha:PE X a ta)(hb:PE X b tb)(hm:YaE op b=false):PT X (.Compare a [op] [b] pos) (tTest (tOp r ta tb)):=by
 intro pins s σ H Q I h
 refine wpAny_isTrue_Compare1 (thn (ha pins s σ H _ I h) λv s1 ⟨x,H1,I1,r1,q1⟩=>thn (hb pins s1 σ H1 _ I1 q1) λu s2 ⟨y,H2,I2,r2,q2⟩ =>
  thn (ho pins s2 σ H2 x y v u _ I2 r1 r2 q2) λc s3 ⟨z,H3,I3,r3,k,e,q3⟩=>?_) hm
 subst e
 cases r3
 exact Ug ⟨H3,I3,q3⟩
noncomputable def Zkr(r r':R2)(ta tb tc:TE):TE:=λσ H Q=>ta σ H λx H1=>tb σ H1 λy H2=>r x y H2 λz H3=>∃k,z=.bl k /\
 (if k=true then tc σ H3 λw' H4=>r' y w' H4 Q else Q (.bl false) H3)
theorem ZjJ{op op':CmpOp}{r r':R2}(ho:OpR X (Y7 op) r)(ho':OpR X (Y7 op') r')(ha:PE X a ta)(hb:PE X b tb)(hc:PE X c tc)(hm:lastMarks [op,op'] [b,c]=false:=by with_unfolding_all rfl):PE X (.Compare a [op,op'] [b,c] pos) (Zkr r r' ta tb tc):=by
 intro pins s σ H Q I h
 refine Compare_chain (thn (ha pins s σ H _ I h) λv s1 ⟨x,H1,I1,r1,q1⟩=>chain_link (thn (hb pins s1 σ H1 _ I1 q1) λu s2 ⟨y,H2,I2,r2,q2⟩ =>
  thn (ho pins s2 σ H2 x y v u _ I2 r1 r2 q2) λd s3 ⟨z,H3,I3,r3,k,e,q3⟩=>?_)) hm
 subst e
 cases r3
 refine Ug ?_
 cases k with
 |false=>exact ite_ff ⟨.bl false,H3,I3,rfl,q3⟩
 |true=>exact ite_tt (chain_last (thn (hc pins s3 σ H3 _ I3 q3) λw' s4 ⟨z',H4,I4,r4,q4⟩=>ho' pins s4 σ H4 y z' u w' Q I4 r2 r4 q4))
noncomputable def TruV(K:Frag)(x:V)(H:Hp)(k:Bool):Prop:=
 match x with
 |.non=>k=false
 |.bl b=>k=b
 |.int i=>k=(i != 0)
 |.str y=>y.length<=YC/\k=((y.length:Int) != 0)
 |.byt y=>y.size<=YC/\k=((y.size:Int) != 0)
 |.ref p=>(∃xs,SqL K H p xs/\k=!xs.isEmpty)∨(∃xs,SqT K H p xs/\k=!xs.isEmpty)∨∃kvs,H p=some (.dK kvs)/\k=!kvs.isEmpty
 |_=>False
theorem ZgB{κ:Type}{kvs:List (κ×V)}{vs:List (κ×Value)}(r:KV kvs vs):(!vs.isEmpty)=!kvs.isEmpty:=by
 cases r<;>rfl
theorem Zcm{xs:List V}{its:List Value}(r:Vals xs its):(!its.toArray.isEmpty)=!xs.isEmpty:=by
 cases r<;>simp
theorem Zck:(YC:Nat)<2^63:=by rw[Uh];decide
theorem tru_ok:TruR X (λx H Q=>∃k,TruV X.K x H k/\Q k H):=by
 intro pins s σ H x v Q I rx h
 obtain⟨k,e,q⟩:=h
 have hl:=Zck
 have hs:YC=16777216:=Uh
 cases x with
 |non =>
  cases rx
  have e':k=false:=e
  subst e'
  exact truthy_none ⟨H,I,q⟩
 |bl b =>
  cases rx
  have e':k=b:=e
  subst e'
  exact Ug ⟨H,I,q⟩
 |int i =>
  obtain⟨t,rfl⟩:=rx
  have e':k=(i != 0):=e
  subst e'
  exact PySem.P.truthy_int ⟨H,I,q⟩
 |str y =>
  obtain⟨t,rfl⟩:=rx
  obtain⟨hy,e'⟩:y.length<=YC/\k=((y.length:Int) != 0):=e
  subst e'
  exact PySem.P.truthy_str (by omega) ⟨H,I.tok _,q⟩
 |byt y =>
  obtain⟨t,rfl⟩:=rx
  obtain⟨hy,e'⟩:y.size<=YC/\k=((y.size:Int) != 0):=e
  subst e'
  exact PySem.W.truthy_bytes (by omega) ⟨H,I.tok _,q⟩
 |ref p =>
  cases rx
  have e':(∃xs,SqL X.K H p xs/\k=!xs.isEmpty)∨(∃xs,SqT X.K H p xs/\k=!xs.isEmpty)∨∃kvs,H p=some (.dK kvs)/\k=!kvs.isEmpty:=e
  rcases e' with⟨xs,hx,e'⟩|⟨xs,hx,e'⟩|⟨kvs,hx,e'⟩
  ·subst e'
   obtain⟨its,r,pl,hz⟩:=I.list hx
   have hlen:=r.length
   exact wpAny_truthy_list pl.isList (by simp only[Yk];omega) ⟨H,I.tok _,by rw[Zcm r];exact q⟩
  ·subst e'
   obtain⟨its,r,pl,hz⟩:=I.tuple hx
   have hlen:=r.length
   exact truthy_tuple pl (by simp only[Yk];omega) ⟨H,I.tok _,by rw[Zcm r];exact q⟩
  ·subst e'
   obtain⟨hz,hS,vs,r,m⟩:kvs.length<=YC/\(p==V0)=false/\∃vs,KV kvs vs/\s.heap.DictOf (ZeF X.prog X.w) p vs:=I.hok p _ hx
   have hlen:kvs.length=vs.length:=Paired.length r
   exact wpAny_truthy_dict hS m (by omega) ⟨H,I.tok _,by rw[ZgB r];exact q⟩
 |_=>exact(show False from e).elim
theorem Zjn(ha:PE X a ta)(he:∀whole,isTrue a X.env whole=(do let v <-whole;Gb a.pos;Vh [v] (truthy v))):
  PT X a (λσ H Q=>ta σ H λx H'=>∃k,TruV X.K x H' k/\Q k H'):=by
 intro pins s σ H Q I h
 exact isTrue_plain (thn (ha pins s σ H _ I h) λv s1 ⟨x,H1,I1,r1,q1⟩=>tru_ok pins s1 σ H1 x v Q I1 r1 q1) (he _)
theorem Zgq:OpR X (WW .Add) (λx y H Q=>∃i j,x=.str i/\y=.str j/\i.length+j.length<=YC/\Q (.str (i++j)) H):=by
 intro pins s σ H x y v u Q I rx ry h
 obtain⟨i,j,rfl,rfl,hz,q⟩:=h
 obtain⟨t,rfl⟩:=rx
 obtain⟨t',rfl⟩:=ry
 exact add_str (λt' tk=>⟨.str (i++j),H,I.tok _,⟨_,rfl⟩,q⟩) hz
theorem vals1{x:V}{us:List Value}(r:Vals [x] us):∃u,us=[u]/\RelV x u:=by
 cases r with
 |cons r1 r2=>cases r2;exact⟨_,rfl,r1⟩
theorem vals2{x y:V}{us:List Value}(r:Vals [x,y] us):∃u w',us=[u,w']/\RelV x u/\RelV y w':=by
 cases r with
 |cons r1 r2 =>
  cases r2 with
  |cons r3 r4=>cases r4;exact⟨_,_,rfl,r1,r3⟩
theorem Zek:J1 X (.type "int") (λxs H Q=>(∃i,xs=[.int i]/\Q (.int i) H)∨∃k,xs=[.bl k]/\Q (.int (if k then 1 else 0)) H):=by
 intro pins s σ H xs us Q I r h
 rcases h with⟨i,rfl,q⟩|⟨k,rfl,q⟩
 ·obtain⟨u,rfl,t,rfl⟩:=vals1 r
  exact call_int_int ⟨.int i,H,I,⟨_,rfl⟩,q⟩
 ·obtain⟨u,rfl,r1⟩:=vals1 r
  cases r1
  exact call_int_bool ⟨.int (if k then 1 else 0),H,I.tok _,⟨_,rfl⟩,q⟩
noncomputable def LenV(K:Frag)(x:V)(H:Hp)(n:Nat):Prop:=
 match x with
 |.str y=>y.length<=YC/\n=y.length
 |.byt y=>y.size<=YC/\n=y.size
 |.ref p=>(∃xs,SqL K H p xs/\n=xs.length)∨∃xs,SqT K H p xs/\n=xs.length
 |_=>False
theorem Zbh:J1 X (.builtin "len") (λxs H Q=>∃x n,xs=[x]/\LenV X.K x H n/\Q (.int n) H):=by
 intro pins s σ H xs us Q I r h
 obtain⟨x,n,rfl,e,q⟩:=h
 obtain⟨u,rfl,rx⟩:=vals1 r
 have hl:=Zck
 have hs:YC=16777216:=Uh
 cases x with
 |str y =>
  obtain⟨t,rfl⟩:=rx
  obtain⟨hy,e'⟩:y.length<=YC/\n=y.length:=e
  subst e'
  exact len_str (by omega) ⟨.int _,H,I.tok _,⟨_,rfl⟩,q⟩
 |byt y =>
  obtain⟨t,rfl⟩:=rx
  obtain⟨hy,e'⟩:y.size<=YC/\n=y.size:=e
  subst e'
  exact PySem.W.len_bytes (by omega) ⟨.int _,H,I.tok _,⟨_,rfl⟩,q⟩
 |ref p =>
  cases rx
  have e':(∃xs,SqL X.K H p xs/\n=xs.length)∨∃xs,SqT X.K H p xs/\n=xs.length:=e
  rcases e' with⟨xs,hx,e'⟩|⟨xs,hx,e'⟩
  ·subst e'
   obtain⟨its,r',pl,hz⟩:=I.list hx
   have hlen:=r'.length
   exact Calls.call_len_list pl.isList (by simp only[Yk];omega) ⟨.int xs.length,H,I.tok _,⟨_,by simp only[Yk];rw[hlen]⟩,q⟩
  ·subst e'
   obtain⟨its,r',pl,hz⟩:=I.tuple hx
   have hlen:=r'.length
   exact len_tuple pl (by simp only[Yk];omega) ⟨.int xs.length,H,I.tok _,⟨_,by simp only[Yk];rw[hlen]⟩,q⟩
 |_=>exact(show False from e).elim
end
structure ObjM (h:Heap) (x dx C:Addr) (mA:Str->Option Value):Prop where
 obj:h.get? x=some (Ybb C dx)
 ns:h.Ns1 dx mA
 ne:dx≠x
theorem Zib{h:Heap}{dx:Addr}{mA:Str->Option Value}(n:h.Ns1 dx mA):∃od,h.get? dx=some od/\∀name,lookIn name od=some (mA name):=by
 obtain⟨o,es,ep,ho,hd,hk,_,hm⟩:=n
 refine⟨o,ho,λname=>?_⟩
 have e:=hm name
 unfold nsFind findBy at e
 rw[<-Array.find?_toList]at e
 unfold lookIn
 rw[hd]
 dsimp only
 split
 ·rename_i y q
  rw[q]at e
  exact congrArg some e
 ·rename_i q
  rw[q]at e
  have a:es.toList.any (·.refKey)=false:=by
   rw[List.any_eq_false]
   intro y hy
   obtain⟨z,t,hkey⟩:=hk y (Array.mem_toList_iff.mp hy)
   simp[DictEntry.refKey,hkey]
  have a':¬es.toList.any (·.refKey)=true:=by rw[a];exact Yt
  rw[if_neg a']
  exact congrArg some e
theorem ObjM.look{h:Heap}{x dx C:Addr}{mA:Str->Option Value}(I:ObjM h x dx C mA):∃od,PySem.W.InstAt h x (Ybb C dx) C (some od)/\∀name,lookIn name od=some (mA name):=
 let⟨od,ho,hl⟩:=Zib I.ns
 ⟨od,⟨I.obj,rfl,rfl,ho⟩,hl⟩
section
variable{prog:Yx}{w:World}{A:Around}{E:Value->Shared->Prop}{s:Shared}{K:Frag}{x dx C f:Addr}{mA:Str->Option Value}{name:Str}{v:Value}
theorem Zl1{expr:Bool}{Q:Value->Shared->Prop}(X:K.In s.heap)(I:ObjM s.heap x dx C mA)(hg:YbD K C name=true)(hh:YaX K C=true)(ha:findIn K (.ref C) name=some none)(hv:mA name=some v)(hv':PySem.W.handedIn v=true)(h:Q v { s with toks:=s.toks+1 }):
  wpAny (model prog w) A (getAttr (.ref x) name expr) Q E s:=by
 obtain⟨od,J,hl⟩:=I.look
 exact PySem.W.get_value X J (YbF hg).1 (PySem.W.findObj_own hh ha rfl (by rw[hl,hv])) hv' h
theorem Zj3{pl:Sem Bool}{Q:Value×List Value->Shared->Prop}(X:K.In s.heap)(I:ObjM s.heap x dx C mA)(hg:YbD K C name=true)(hf:findIn K (.ref C) name=some (some (.ref f)))(ht:isFn K (.ref f)=true)(hv:mA name=none)(h:Q (.ref f,[.ref x]) s):
  wpAny (model prog w) A (YbG (.ref x) name pl) Q E s:=by
 obtain⟨od,J,hl⟩:=I.look
 exact PySem.W.method_fn X J (YbF hg).1 (YbF hg).2 hf (beq_iff_eq.mp ht) (by show(lookIn name od).map (·.isSome)=some false;rw[hl,hv];rfl) h
theorem Zk0{ns:List Str}{Q:Unit->Shared->Prop}(X:K.In s.heap)(I:ObjM s.heap x dx C mA)(hs:findIn K (.ref C) "__setattr__" = some (some (.builtin "object.__setattr__")))(hp:Yb7 K C=true)(ht:takerIn K C name=some none)(hh:YaX K C=true)(hw:Ybu mA ns)(hsz:ns.length<=YC)(h:∀h',ObjM h' x dx C (λy=>if y=name then some v else mA y)->Gs dx s.heap h'->Q () { s with heap:=h',toks:=s.toks+2 }):
  wpAny (model prog w) A (setAttr (.ref x) name v) Q E s:=by
 obtain⟨od,J,hl⟩:=I.look
 refine PySem.W.set_plain X J hs (PySem.W.osa_open (s:={ s with toks:=s.toks+1 }) (r:=none) X J hp ht λb=>?_)
 obtain⟨cd,hc,hd'⟩:=PySem.W.any_some hh
 have hx:s.heap.get? x=some ⟨.ref C,some dx,.plain,#[]⟩:=I.obj
 refine Yb (Yd (Yb (Yb (wpAny_loadPart hx (Yb (PySem.W.Looks.here (s:={ s with toks:=s.toks+1 }) (PySem.W.looks_clsIn X hc) ?_))))))
 rw[hd']
 refine Yd (a:=some dx) (Yb (Yd (Yb ?_)))
 refine wpAny_nsSet1 (s:={ s with toks:=s.toks+1 }) I.ns λh' hn2 hs2=>?_
 obtain⟨oD,esD,epD,hoD,hdD,hcD⟩:=hn2.count (PySem.Within.cons name v hw)
 refine Yb (wpAny_lookBehind hoD (by rw[hdD];exact pastItsLine_dict (Wm hcD (by rw[Wh];omega))) ?_)
 exact Yd (h _ ⟨(hs2.2 _ (WR I.ne)).trans I.obj,hn2,I.ne⟩ hs2)
theorem ZjU{R:Result->Shared->Prop}{vs:List Value}{kw:List (Str×Value)}(X:K.In s.heap)(hm:makesIn K C=true)(hi:findIn K (.ref C) "__init__" = some (some (.ref f)))(hf:PySem.W.typeIn K (.ref f)=some (.type "function"))(h:Gv (model prog w) (A.under (.builtin "type.__call__" ⟨.ref C::vs,kw⟩)) (.call (.ref f) ⟨.ref (s.heap.objs.size+1)::vs,kw⟩) (PySem.W.InitBack (s.heap.objs.size+1) R)
   { s with heap:=(s.heap.push VB).push (Ybb C s.heap.objs.size) }):
  Gv (model prog w) A (.call (.ref C) ⟨vs,kw⟩) R s:=by
 obtain⟨hh,g,d,t,os⟩:=s
 exact PySem.W.make_core (PySem.W.makes_of X hm) (PySem.W.looks_findIn X hi) (λself=>PySem.W.bind_fn X self hf) (.inl rfl) h
end
noncomputable def putF(f:Str)(v:V):List (Str×V)->List (Str×V)
 |[]=>[(f,v)]
 |(g,x)::r=>if g=f then(g,v)::r else(g,x)::putF f v r
theorem Zby(f g:Str)(v:V):∀fs:List (Str×V),(putF f v fs).lookup g=if g=f then some v else fs.lookup g
 |[]=>by
  show Gw g [(f,v)]=_
  by_cases h:g=f
  ·have hb:(g==f)=true:=beq_iff_eq.mpr h
   simp only[Gw,hb,if_pos h]
  ·have hb:(g==f)=false:=beq_eq_false_iff_ne.mpr h
   simp only[Gw,hb,if_neg h]
 |(k,x)::r=>by
  have ih:=Zby f g v r
  rw[show putF f v ((k,x)::r)=(if k=f then(k,v)::r else(k,x)::putF f v r)from rfl]
  by_cases hk:k=f
  ·rw[if_pos hk]
   by_cases h:g=k
   ·have hb:(g==k)=true:=beq_iff_eq.mpr h
    simp only[Gw,hb,if_pos (h.trans hk)]
   ·have hb:(g==k)=false:=beq_eq_false_iff_ne.mpr h
    simp only[Gw,hb,if_neg (λe:g=f=>h (e.trans hk.symm))]
  ·rw[if_neg hk]
   by_cases h:g=k
   ·have hb:(g==k)=true:=beq_iff_eq.mpr h
    simp only[Gw,hb,if_neg (λe:g=f=>hk (h.symm.trans e))]
   ·have hb:(g==k)=false:=beq_eq_false_iff_ne.mpr h
    simp only[Gw,hb]
    exact ih
theorem ZbC(f:Str)(v:V):∀fs:List (Str×V),f∈(putF f v fs).map (·.1)/\∀g,g∈fs.map (·.1)->g∈(putF f v fs).map (·.1)
 |[]=>⟨by simp[putF],λg h=>by simp at h⟩
 |(k,x)::r=>by
  obtain⟨i1,i2⟩:=ZbC f v r
  rw[show putF f v ((k,x)::r)=(if k=f then(k,v)::r else(k,x)::putF f v r)from rfl]
  by_cases hk:k=f
  ·rw[if_pos hk]
   subst hk
   exact⟨by simp,λg h=>by simpa using h⟩
  ·rw[if_neg hk]
   refine⟨?_,λg h=>?_⟩
   ·rw[Wa]
    exact Yw _ i1
   ·rw[Wa]at h ⊢
    rcases Ys.mp h with e|e
    ·exact Ys.mpr (.inl e)
    ·exact Yw _ (i2 g e)
theorem ZbA(f:Str)(v:V):∀fs:List (Str×V),(putF f v fs).length<=fs.length+1
 |[]=>by simp[putF]
 |(k,x)::r=>by
  have ih:=ZbA f v r
  rw[show putF f v ((k,x)::r)=(if k=f then(k,v)::r else(k,x)::putF f v r)from rfl]
  by_cases hk:k=f
  ·rw[if_pos hk,Wh,Wh];omega
  ·rw[if_neg hk,Wh,Wh];omega
theorem RelO.some_of{v:V}{o:Option Value}(r:RelO (some v) o):∃u,o=some u/\RelV v u:=by
 cases o with
 |none=>exact(show False from r).elim
 |some u=>exact⟨u,rfl,r⟩
theorem RelO.none_of{o:Option Value}(r:RelO none o):o=none:=by
 cases o with
 |none=>rfl
 |some u=>exact(show False from r).elim
theorem Zir{v:V}{u:Value}(r:RelV v u):PySem.W.handedIn u=true:=by
 cases v with
 |non=>cases(show u=W2 from r);rfl
 |bl b=>cases(show u=W3 b from r);rfl
 |int i=>obtain⟨t,e⟩:=(show ∃t,u=YaV i t from r);cases e;rfl
 |str x=>obtain⟨t,e⟩:=(show ∃t,u=GQ x t from r);cases e;rfl
 |byt b=>obtain⟨t,e⟩:=(show ∃t,u=Value.bytes b t from r);cases e;rfl
 |flt b=>obtain⟨t,e⟩:=(show ∃t,u=YbE b t from r);cases e;rfl
 |ref a=>cases(show u=Y5 a from r);rfl
 |ty n=>cases(show u=G7 n from r);rfl
section
variable{P:Yx}{w:World}{H H':Hp}{h h':Heap}{a C dx:Addr}{fs fs':List (Str×V)}
theorem Zc2(hok:HOk P w H h)(e:H a=some (.ins C dx fs)):∃mA,ObjM h a dx C mA/\(∀f,RelO (fs.lookup f) (mA f))/\Ybu mA (fs.map (·.1))/\fs.length<=1000/\H dx=some (.own a):=by
 obtain⟨d,z,ne,ob,mA,n,r,q⟩:=(show QJ P w H h a (.ins C dx fs)from hok a _ e)
 exact⟨mA,⟨ob,n,ne⟩,r,q,z,d⟩
end
structure Cls (K:Frag) (C:Addr):Prop where
 pg:YbD K C Yb8=true
 hd:YaX K C=true
 po:Yb7 K C=true
 sa:findIn K (.ref C) "__setattr__" = some (some (.builtin "object.__setattr__"))
theorem Cls.get{K:Frag}{C:Addr}(c:Cls K C)(f:Str):YbD K C f=true:=c.pg
noncomputable def QG(K:Frag)(C:Addr)(f:Str):Prop:=findIn K (.ref C) f=some none
theorem QG.taker{K:Frag}{C:Addr}{f:Str}(n:QG K C f):takerIn K C f=some none:=by
 unfold takerIn
 rw[show findIn K (.ref C) f=some none from n]
 rfl
structure Con (K:Frag) (C:Addr) (f:Str) (v:V) (u:Value):Prop where
 at_:findIn K (.ref C) f=some (some u)
 rel:RelV v u
 get:Ybe K u "__get__" = some none
 cp:PySem.W.copiedNames.contains f=false
structure Meth (K:Frag) (C:Addr) (m:Str) (f:Addr):Prop where
 at_:findIn K (.ref C) m=some (some (.ref f))
 fn:isFn K (.ref f)=true
 kp:keepIn K (.ref f)=true
section
variable{X:Cx}{pins:List (Addr×Obj)}{σ:St}{H:Hp}{s:Shared}{a C dx:Addr}{fs:List (Str×V)}{f:Str}{v:V}{A:Around}{E:Value->Shared->Prop}
theorem ZgI{b:Bool}{Q:Value->Shared->Prop}(I:Inv X pins σ H s)(e:H a=some (.ins C dx fs))(c:Cls X.K C)(n:QG X.K C f)(l:fs.lookup f=some v)(h:∀u s',Inv X pins σ H s'->RelV v u->Q u s'):wpAny (model X.prog X.w) A (getAttr (.ref a) f b) Q E s:=by
 obtain⟨mA,O,r,_,_,_⟩:=Zc2 I.hok e
 obtain⟨u,hu,ru⟩:=RelO.some_of (v:=v) (o:=mA f) (by rw[<-l];exact r f)
 exact Zl1 I.kIn O (c.get f) c.hd n hu (Zir ru) (h u _ (I.tok _) ru)
theorem ZgH{m:Str}{g:Addr}{pl:Sem Bool}{Q:Value×List Value->Shared->Prop}(I:Inv X pins σ H s)(e:H a=some (.ins C dx fs))(c:Cls X.K C)(k:Meth X.K C m g)(l:fs.lookup m=none)(h:Q (.ref g,[.ref a]) s):wpAny (model X.prog X.w) A (YbG (.ref a) m pl) Q E s:=by
 obtain⟨mA,O,r,_,_,_⟩:=Zc2 I.hok e
 have hn:mA m=none:=RelO.none_of (by rw[<-l];exact r m)
 exact Zj3 I.kIn O (c.get m) k.at_ k.fn hn h
theorem ZfY{y:V}{u:Value}{Q:Unit->Shared->Prop}(I:Inv X pins σ H s)(e:H a=some (.ins C dx fs))(c:Cls X.K C)(n:QG X.K C f)(hl:fs.length<1000)(ry:RelV y u)(h:∀s',Inv X pins σ (upd H a (.ins C dx (putF f y fs))) s'->Q () s'):wpAny (model X.prog X.w) A (setAttr (.ref a) f u) Q E s:=by
 obtain⟨mA,O,r,wi,_,ho⟩:=Zc2 I.hok e
 have hz:(fs.map (·.1)).length<=YC:=by rw[Yi,Uh];omega
 refine Zk0 I.kIn O c.sa c.po n.taker c.hd wi hz λh' O' sb=>h _ ?_
 have hd:∃o,h'.get? dx=some o:=let⟨o,_,_,e',_⟩:=O'.ns;⟨o,e'⟩
 refine I.write (x:=a) (e:=dx) (by rw[e];exact Ur) (.inr ho) (λb q hb z=>(sb.2 b hb).trans z) hd ?_
 refine⟨by rw[Zm O.ne];exact ho,?_,O.ne,O'.obj,_,O'.ns,λg=>?_,λg hg=>?_⟩
 ·have:=ZbA f y fs;omega
 ·show RelO ((putF f y fs).lookup g) (if g=f then some u else mA g)
  rw[Zby]
  by_cases q:g=f
  ·rw[if_pos q,if_pos q];exact ry
  ·rw[if_neg q,if_neg q];exact r g
 ·by_cases q:g=f
  ·rw[q];exact(ZbC f y fs).1
  ·refine(ZbC f y fs).2 g (wi g λz=>hg ?_)
   show(if g=f then some u else mA g)=none
   rw[if_neg q];exact z
theorem Inv.made(I:Inv X pins σ H s):Inv X pins σ (upd (upd H s.heap.objs.size (.own (s.heap.objs.size+1))) (s.heap.objs.size+1) (.ins C s.heap.objs.size []))
  { s with heap:=(s.heap.push VB).push (Ybb C s.heap.objs.size) }:=by
 have e1:(s.heap.push VB).get? s.heap.objs.size=some VB:=Yl s.heap rfl
 have e2:((s.heap.push VB).push (Ybb C s.heap.objs.size)).get? (s.heap.objs.size+1)=some (Ybb C s.heap.objs.size):=by
  have:=Yl (s.heap.push VB) (o:=Ybb C s.heap.objs.size) rfl
  rwa [Y4]at this
 have e3:(s.heap.push VB).Ns s.heap.objs.size (λ_=>none):=⟨VB,#[],_,e1,rfl,(λe he=>absurd he (by simp)),λ_=>rfl⟩
 have I1:=I.laid (a:=s.heap.objs.size) (o:=.own (s.heap.objs.size+1)) (h':=s.heap.push VB) (t':=s.toks) (λb u q=>Yc _ q) (Yj _) ⟨_,e1⟩
 refine I1.laid (a:=s.heap.objs.size+1) (o:=.ins C s.heap.objs.size []) (t':=s.toks) (λb u q=>Yc _ q) (Ybv (Y4 _ _)) ?_
 have ne:s.heap.objs.size≠s.heap.objs.size+1:=Yv (WX _)
 refine⟨by rw[Zm ne,ZL],Wd _,ne,e2,λ_=>none,(Heap.Ns1.of_empty e3).at λo q=>Yc _ q,λ_=>Ur,λy hy=>absurd rfl hy⟩
theorem Zmo{prog:Yx}{w:World}{env:Env}{e:Expr}{f:Str}{pos:Pos}{s:Shared}{Q:Value->Shared->Prop}(hb:Vk e f env (eval e env)=eval e env)(h:wpAny (model prog w) A (eval e env) (λo s₁=>wpAny (model prog w) A (getAttr o f true) Q E s₁) E s):wpAny (model prog w) A (eval (.Attribute e f pos) env) Q E s:=
 Attribute_any_ h (by rw[arm_eval_Attribute,hb])
end
noncomputable def tFld(K:Frag)(ta:TE)(f:Str):TE:=λσ H Q=>ta σ H λx H1=>∃a C dx fs v,x=.ref a/\H1 a=some (.ins C dx fs)/\Cls K C/\QG K C f/\fs.lookup f=some v/\Q v H1
noncomputable def sFld(K:Frag)(ta tv:TE)(f:Str):TS:=λD σ H=>tv σ H λy H1=>ta σ H1 λx H2=>∃a C dx fs,x=.ref a/\H2 a=some (.ins C dx fs)/\Cls K C/\QG K C f/\fs.length<1000 /\
 D.nx σ (upd H2 a (.ins C dx (putF f y fs)))
section
variable{X:Cx}{o e value:Expr}{f:Str}{pos pos' tpos:Pos}{ta tv:TE}
theorem pe_fld(he:PE X e ta)(hb:Vk e f X.env (eval e X.env)=eval e X.env):PE X (.Attribute e f pos) (tFld X.K ta f):=by
 intro pins s σ H Q I h
 refine Zmo hb (thn (he pins s σ H _ I h) λu s1 ⟨x,H1,I1,rx,a,C,dx,fs,v,ex,ea,c,n,l,q⟩=>?_)
 subst ex
 obtain rfl:u=Y5 a:=rx
 exact ZgI I1 ea c n l λu' s2 I2 ru=>⟨v,H1,I2,ru,q⟩
theorem ps_fld(ha:PE X o ta)(hv:PE X value tv)(hs:V2 value (some (.Attribute o f pos')) pos.line X.env=pure false):PS X (.Assign [.Attribute o f pos'] value pos) (sFld X.K ta tv f):=by
 intro pins s σ H D I h
 refine plainObj_wpAny_Assign_Attribute (thn (hv pins s σ H _ I h) λu s1 ⟨y,H1,I1,ry,q⟩=>thn (ha pins s1 σ H1 _ I1 q) λov s2 ⟨x,H2,I2,rx,a,C,dx,fs,ex,ea,c,n,l,q2⟩=>?_) hs
 subst ex
 obtain rfl:ov=Y5 a:=rx
 exact ZfY I2 ea c n l ry λs3 I3=>⟨σ,_,I3,q2⟩
end
section
variable{X:Cx}{pins:List (Addr×Obj)}{σ:St}{H:Hp}{s:Shared}{A:Around}{E:Value->Shared->Prop}{Q:Value->Shared->Prop}{c:Value}{b:Bool}
inductive TyOf (K:Frag) (H:Hp):V->Value->Prop where
 |non:TyOf K H .non (.type "NoneType")
 |bl (x:Bool):TyOf K H (.bl x) (.type "bool")
 |int (i:Int):TyOf K H (.int i) (.type "int")
 |str (x:Str):TyOf K H (.str x) (.type "str")
 |flt (x:UInt64):TyOf K H (.flt x) (.type "float")
 |lst {a:Addr}{xs:List V}(e:H a=some (.lst xs)):TyOf K H (.ref a) (.type "list")
 |frz {a:Addr}{o:Obj}{xs:List V}(e:H a=some (.frz o (.lst xs))):TyOf K H (.ref a) (.type "list")
 |tup {a:Addr}{xs:List V}(e:H a=some (.tup xs)):TyOf K H (.ref a) (.type "tuple")
 |dK {a:Addr}{kvs:List (Key×V)}(e:H a=some (.dK kvs)):TyOf K H (.ref a) (.type "dict")
 |dT {a:Addr}{kvs:List (List Key×V)}(e:H a=some (.dT kvs)):TyOf K H (.ref a) (.type "dict")
 |ins {a C dx:Addr}{fs:List (Str×V)}(e:H a=some (.ins C dx fs)) (cl:Cls K C) (ha:findIn K (.ref C) "__class__" = some (some (.builtin "object.__class__")))
  (hn:Ybe K (.builtin "object.__class__") "__get__" = some (some (.builtin "getset_descriptor.__get__"))) (htk:PySem.W.takesIn K (.builtin "object.__class__")=some true)
  (hm:mroIn K C (.type "object")=some true):TyOf K H (.ref a) (.ref C)
theorem JT{x:V}{u t:Value}(I:Inv X pins σ H s)(rx:RelV x u)(ty:TyOf X.K H x t)(e:kitOne X.K t c=some b)(h:∀tk,Q (.bool b) { s with toks:=tk }):
  wpAny (model X.prog X.w) A (call (.builtin "isinstance") [u,c]) Q E s:=by
 cases ty with
 |non=>cases(show u=W2 from rx);exact Vl PySem.W.kitx_none I.kIn Ur e (λz=>nomatch z) h
 |bl y=>cases(show u=W3 y from rx);exact Vl PySem.W.kitx_bool I.kIn Ur e (λz=>nomatch z) h
 |int i=>obtain⟨t,q⟩:=(show ∃t,u=YaV i t from rx);cases q;exact Vl PySem.W.kitx_int I.kIn Ur e (λz=>nomatch z) h
 |str y=>obtain⟨t,q⟩:=(show ∃t,u=GQ y t from rx);cases q;exact Vl PySem.W.kitx_str I.kIn Ur e (λz=>nomatch z) h
 |flt y=>obtain⟨t,q⟩:=(show ∃t,u=YbE y t from rx);cases q;exact Vl PySem.W.kitx_float I.kIn Ur e (λz=>nomatch z) h
 |@lst a xs ea =>
  cases(show u=Y5 a from rx)
  obtain⟨_,_,n,_,h1⟩:=(show QJ X.prog X.w H s.heap a (.lst xs)from I.hok a _ ea)
  exact Vl Yb9 I.kIn ⟨_,h1,rfl⟩ e (λz=>nomatch z) h
 |@frz a ob xs ea =>
  cases(show u=Y5 a from rx)
  obtain⟨_,_,_,n,_,h1⟩:=(show QJ X.prog X.w H s.heap a (.frz ob (.lst xs))from I.hok a _ ea)
  exact Vl Yb9 I.kIn ⟨_,h1,rfl⟩ e (λz=>nomatch z) h
 |@tup a xs ea =>
  cases(show u=Y5 a from rx)
  obtain⟨_,_,_,p⟩:=(show QJ X.prog X.w H s.heap a (.tup xs)from I.hok a _ ea)
  obtain⟨o,h1,h2,_⟩:=p
  exact Vl PySem.W.kitx_tuple I.kIn ⟨o,h1,h2⟩ e (λz=>nomatch z) h
 |@dK a kvs ea =>
  cases(show u=Y5 a from rx)
  obtain⟨_,_,vs,_,p⟩:=(show QJ X.prog X.w H s.heap a (.dK kvs)from I.hok a _ ea)
  obtain⟨o,es,ep,h1,h2,_⟩:=p
  exact Vl PySem.W.kitx_dict I.kIn ⟨o,h1,h2.1⟩ e (λz=>nomatch z) h
 |@dT a kvs ea =>
  cases(show u=Y5 a from rx)
  obtain⟨_,_,xs,_,o,es,ep,h1,h2,_⟩:=(show QJ X.prog X.w H s.heap a (.dT kvs)from I.hok a _ ea)
  exact Vl PySem.W.kitx_dict I.kIn ⟨o,h1,h2.1⟩ e (λz=>nomatch z) h
 |@ins a C dx fs ea cl ha hn htk hm =>
  cases(show u=Y5 a from rx)
  obtain⟨mA,O,_⟩:=Zc2 I.hok ea
  obtain⟨od,J,_⟩:=O.look
  exact Vl (PySem.W.kitx_own (cl.get _) cl.hd ha hn htk hm) I.kIn J e (λz=>nomatch z) h
end
structure Room (k:Nat) (A:Around):Prop where
 hd:A.handled=none
 dp:A.depth+3*k+5<recursionLimit
 un:A.units+16*k+200<cLine
theorem Room.deeper{k:Nat}{A:Around}(r:Room (k+1) A)(env:Env):Room k (A.deeper env):=
 ⟨r.hd,by have:=r.dp;show A.depth+1+3*k+5<_;omega,by have:=r.un;show A.units+3+16*k+200<_;omega⟩
theorem Zgw{A:Around}{C:Addr}{us:List Value}{kw:List (Str×Value)}:(A.under (.builtin "type.__call__" ⟨.ref C::us,kw⟩)).depth=A.depth+1:=by
 first|rfl|simp[Ybw,Code.weight,Code.isCreation,Code.isGuard,Code.isCaller,Code.frames,Ybx,guardIds]
theorem Zgv{A:Around}{C:Addr}{us:List Value}{kw:List (Str×Value)}:(A.under (.builtin "type.__call__" ⟨.ref C::us,kw⟩)).units=A.units+1:=by
 first|rfl|simp[Ybw,Code.cUnits,Code.frames,Ybx]
theorem Room.depth{k:Nat}{A:Around}(r:Room k A):A.depth<recursionLimit:=by have:=r.dp;omega
theorem Room.units{k:Nat}{A:Around}(r:Room k A):A.units+64<cLine:=by have:=r.un;omega
noncomputable def tNil:TA:=λ_ H Q=>Q [] H
noncomputable def tCons(ta:TE)(tr:TA):TA:=λσ H Q=>ta σ H λx H1=>tr σ H1 λxs H2=>Q (x::xs) H2
section
variable{X:Cx}{e:Expr}{es:List Expr}{te:TE}{t:TA}{pos:Pos}
theorem Zch:PA X [] tNil:=λ_ _ _ _ H Q I h=>Calls.spliced_nil ⟨[],H,I,.nil,h⟩
theorem Jv(ha:PE X e te)(hr:PA X es t)(hs:Wq (e::es) X.env=(false,eval e X.env)::Wq es X.env:=by rfl):PA X (e::es) (tCons te t):=by
 intro pos pins s σ H Q I h
 rw[hs]
 show wpAny _ _ (Ycf ((false,eval e X.env)::backTo pos (Wq es X.env))) _ _ s
 refine Yah (thn (ha pins s σ H _ I h) λu s1 ⟨x,H1,I1,r1,q1⟩=>?_)
 exact thn (hr pos pins s1 σ H1 _ I1 q1) λus s2 ⟨xs,H2,I2,r2,q2⟩=>⟨x::xs,H2,I2,.cons r1 r2,q2⟩
noncomputable def tTup(t:TA):TE:=λσ H Q=>t σ H λxs H1=>xs.length<=YC/\∀p,H1 p=none->Q (.ref p) (upd H1 p (.tup xs))
noncomputable def tLst(t:TA):TE:=λσ H Q=>t σ H λxs H1=>xs.length<=YC/\∀p,H1 p=none->Q (.ref p) (upd H1 p (.lst xs))
theorem ZkA{x1}(h:PA X es t):PE X (.Tuple es x1 pos) (tTup t):=by
 intro pins s σ H Q I hq
 refine wpAny_Tuple_spliced (thn (h pos pins s σ H _ I hq) λus s1 ⟨xs,H1,I1,r,z,q⟩=>⟨by rw[<-r.length];exact z,?_⟩)
 have hf:H1 s1.heap.objs.size=none:=I1.hok.fresh (Yj _)
 refine⟨.ref s1.heap.objs.size,upd H1 s1.heap.objs.size (.tup xs),I1.laid (t':=s1.toks) (λb u e=>Yc _ e) (Yj _) ?_,rfl,q _ hf⟩
 exact⟨z,us,r,⟨_,Yl _ rfl,rfl,⟨_,rfl⟩,rfl⟩⟩
theorem pe_lst(h:PA X es t):PE X (.List es pos) (tLst t):=by
 intro pins s σ H Q I hq
 refine wpAny_List_spliced (thn (h pos pins s σ H _ I hq) λus s1 ⟨xs,H1,I1,r,z,q⟩=>⟨by rw[<-r.length];exact z,?_⟩)
 have hf:H1 s1.heap.objs.size=none:=I1.hok.fresh (Yj _)
 refine⟨.ref s1.heap.objs.size,upd H1 s1.heap.objs.size (.lst xs),I1.laid (t':=s1.toks) (λb u e=>Yc _ e) (Yj _) ?_,rfl,q _ hf⟩
 exact⟨z,us,0,r,Yl _ rfl⟩
end
noncomputable abbrev Sp:=List V->Hp->VK->XK->Prop
noncomputable abbrev CXT:=List Env->Hp->Shared->XK->Value->Shared->Prop
structure Env0 (P:Yx) (w:World) (K:Frag) (mg:Str->Option Value) (base:Heap) (A:Around) (outer:List Env) (s:Shared) (H:Hp):Prop where
 frames:A.frames=some outer
 mod:Mod K mg base
 bs:∀b o,base.get? b=some o->s.heap.get? b=some o/\H b=none
 bsz:base.objs.size<=s.heap.objs.size
 funs:s.heap.FunFrames base outer
 frf:∀b∈frs outer,H b=none
 hok:HOk P w H s.heap
 bare:YaD s.gens
noncomputable def CE(outer:List Env)(P:Yx)(w:World)(H:Hp)(s:Shared)(Q:VK)(u:Value)(s':Shared):Prop:=
 ∃v H',s'.os=s.os/\YaD s'.gens/\Un (frs outer) [] H H' s.heap s'.heap/\HOk P w H' s'.heap/\RelV v u/\Q v H'
noncomputable def CR(CX:CXT)(outer:List Env)(P:Yx)(w:World)(H:Hp)(s:Shared)(Q:VK)(E:XK)(r:Result)(s':Shared):Prop:=
 match r with
 |.ok (.ret u)=>CE outer P w H s Q u s'
 |.ok _=>False
 |.error e=>CX outer H s E e s'
structure FnOk (P:Yx) (w:World) (K:Frag) (mg:Str->Option Value) (base:Heap) (CX:CXT) (k:Nat) (f:Addr) (fd:W5) (ps:List Str) (sp:Sp):Prop where
 len:∀vs H Q E,sp vs H Q E->vs.length=ps.length
 run:∀(A:Around) (outer:List Env) (s:Shared) (H:Hp) (args:Args) (us:List Value) (vs:List V) (Q:VK) (E:XK),Room k A->Env0 P w K mg base A outer s H->Ybo s fd args (ps.zip us)->Vals vs us->sp vs H Q E ->
  Gv (model P w) A (.call (.ref f) args) (CR CX outer P w H s Q E) s
theorem Env0.make{P:Yx}{w:World}{K:Frag}{mg:Str->Option Value}{base:Heap}{A:Around}{outer:List Env}{s:Shared}{H:Hp}(e:Env0 P w K mg base A outer s H)(C:Addr)(us:List Value)(kw:List (Str×Value)):
 Env0 P w K mg base (A.under (.builtin "type.__call__" ⟨.ref C::us,kw⟩)) outer s H:=⟨by first|exact e.frames|(simpa[Ybw,Code.envs,Ybx,pushEnvs]using e.frames),e.mod,e.bs,e.bsz,e.funs,e.frf,e.hok,e.bare⟩
section
variable{X:Cx}{pins:List (Addr×Obj)}{σ:St}{H:Hp}{s s':Shared}
theorem Inv.env0(I:Inv X pins σ H s):Env0 X.prog X.w X.K X.mg X.base X.A X.stack s H:=
 ⟨I.ok.frames,I.ok.mod,I.bs,Wm I.ok.bsz I.sz,I.stack,I.stkFree,I.hok,I.bare⟩
theorem Inv.after{Q:VK}{u:Value}(I:Inv X pins σ H s)(h:CE X.stack X.prog X.w H s Q u s'):EP X pins σ Q u s':=by
 obtain⟨v,H',os,bare,un,hok,r,q⟩:=h
 obtain⟨hh,g,d,t,os'⟩:=s'
 obtain rfl:os'=s.os:=os
 exact⟨v,H',I.call (h':=hh) (g':=g) (d':=d) (t':=t) (ch:=[]) un hok bare (λb z=>absurd z (by simp)),r,q⟩
end
noncomputable def tCall(sp:Sp)(dvs:List V)(E:XK)(t:TA):TE:=λσ H Q=>t σ H λvs H1=>sp (vs++dvs) H1 Q E
noncomputable def tMeth(C:Addr)(m:Str)(sp:Sp)(dvs:List V)(E:XK)(ta:TE)(t:TA):TE:=λσ H Q=>ta σ H λx H1=>∃a dx fs,x=.ref a/\H1 a=some (.ins C dx fs)/\fs.lookup m=none /\
 t σ H1 λvs H2=>sp (x::(vs++dvs)) H2 Q E
noncomputable def tMake(C:Addr)(sp:Sp)(dvs:List V)(E:XK)(t:TA):TE:=λσ H Q=>t σ H λvs H1=>∀x dx,H1 x=none->H1 dx=none->dx≠x ->
 sp (.ref x::(vs++dvs)) (upd (upd H1 dx (.own x)) x (.ins C dx [])) (λv H2=>v=.non/\Q (.ref x) H2) E
noncomputable def Binds(K:Frag)(fd:W5)(ps:List Str)(ds:List Value):Prop:=
 ∀(s:Shared) (us:List Value),K.In s.heap->(us++ds).length=ps.length->Ybo s fd ⟨us,[]⟩ (ps.zip (us++ds))
theorem Binds.all{K:Frag}{fd:W5}{ps:List Str}(h:∀us:List Value,us.length=ps.length->Uk fd ⟨us,[]⟩=pure (ps.zip us)):Binds K fd ps []:=λs us _ hl=>by
 rw[Ws]at hl ⊢
 exact .of_eq (h us hl)
noncomputable def Zcw(CX:CXT)(X:Cx)(E:XK):Prop:=∀(pins:List (Addr×Obj)) (σ:St) (H:Hp) (s:Shared) (e:Value) (s':Shared),Inv X pins σ H s->CX X.stack H s E e s'->X.xe e s'
section
variable{X:Cx}{CX:CXT}{k:Nat}{f C:Addr}{fd:W5}{ps:List Str}{sp:Sp}{dvs:List V}{ds:List Value}{E:XK}{x m:Str}{p pos apos:Pos}{e o:Expr}{es:List Expr}{ta:TE}{t:TA}
theorem Zkt{pins:List (Addr×Obj)}{σ:St}{H:Hp}{s:Shared}{Q:VK}{us:List Value}{vs:List V}(F:FnOk X.prog X.w X.K X.mg X.base CX k f fd ps sp)(hr:Room k X.A)(hb:Binds X.K fd ps ds)(hd:Vals dvs ds)(hx:Zcw CX X E)(I:Inv X pins σ H s)(r:Vals vs us)(h:sp (vs++dvs) H Q E):wpAny (model X.prog X.w) X.A (call (.ref f) us) (EP X pins σ Q) X.xe s:=by
 have r2:Vals (vs++dvs) (us++ds):=r.append hd
 have hl:(us++ds).length=ps.length:=by rw[<-r2.length];exact F.len _ _ _ _ h
 refine Yar (U6 (F.run X.A X.stack s H ⟨us,[]⟩ (us++ds) (vs++dvs) Q E hr I.env0 (hb s us I.kIn hl) r2 h) λr s' hq=>?_)
 cases r with
 |error e=>exact hx pins σ H s e s' I hq
 |ok fl =>
  cases fl with
  |ret u=>exact I.after hq
  |next=>exact U0 hq
  |brk=>exact U0 hq
  |cont=>exact U0 hq
theorem ZlC(F:FnOk X.prog X.w X.K X.mg X.base CX k f fd ps sp)(hr:Room k X.A)(hg:Gl X x)(hm:X.mg x=some (.ref f))(hk:keepIn X.K (.ref f)=true)(hb:Binds X.K fd ps ds)(hd:Vals dvs ds)(hx:Zcw CX X E)(ha:PA X (e::es) t)(hdb:(x==("__debug__" : Str))=false:=by decide)(he:Wq (e::es) X.env=(false,eval e X.env)::Wq es X.env:=by rfl)(hpl:(backTo pos (Wq es X.env)).any (·.1)=false:=by rfl):
  PE X (.Call (.Name x p) (e::es) [] pos) (tCall sp dvs E t):=by
 intro pins s σ H Q I h
 refine WQ (ZbB I hg hm ?_ hdb)
 refine YbR (h₀:=X.base) I.ok.mod.kin hk (thn (ha pos pins s σ H _ I h) λus s1 ⟨vs,H1,I1,r,q⟩=>⟨I1.kIn,?_⟩) he hpl
 exact Zkt F hr hb hd hx I1 r q
theorem ZjF{pl:Sem Bool}(he:PE X o ta)(c:Cls X.K C)(hm:Meth X.K C m f)(F:FnOk X.prog X.w X.K X.mg X.base CX k f fd ps sp)(hr:Room k X.A)(hb:Binds X.K fd ps ds)(hd:Vals dvs ds)(hx:Zcw CX X E)(ht:eval (.Call (.Attribute o m apos) [] [] pos) X.env=(do
   let ov <-eval o X.env
   Gb apos.atName
   let(f,first) <-Vh [ov] (YbG ov m pl)
   callWith pos f first (backTo pos (Wq [] X.env)) (Yb0 pos (Ybc [] X.env))):=by rfl):
  PE X (.Call (.Attribute o m apos) [] [] pos) (tMeth C m sp dvs E ta tNil):=by
 intro pins s σ H Q I h
 refine PySem.W.methodCall_KW (pl:=pl) (thn (he pins s σ H _ I h) λu s1 ⟨x,H1,I1,rx,a,dx,fs,ex,ea,l,q⟩=>?_) ht
 subst ex
 obtain rfl:u=Y5 a:=rx
 refine ZgH I1 ea c hm l ?_
 exact PySem.W.callWith_K0 (first:=[.ref a]) I1.kIn hm.kp (Zkt (us:=[.ref a]) (vs:=[.ref a]) F hr hb hd hx I1 (.cons rfl .nil) q)
structure Mk (K:Frag) (C f:Addr):Prop where
 makes:makesIn K C=true
 init:findIn K (.ref C) "__init__" = some (some (.ref f))
 fn:isFn K (.ref f)=true
 kp:keepIn K (.ref C)=true
theorem Zjk{pins:List (Addr×Obj)}{σ:St}{H:Hp}{s:Shared}{Q:VK}{us:List Value}{vs:List V}(M:Mk X.K C f)(F:FnOk X.prog X.w X.K X.mg X.base CX k f fd ps sp)(hr:∀us,Room k (X.A.under (.builtin "type.__call__" ⟨.ref C::us,[]⟩)))(hb:Binds X.K fd ps ds)(hd:Vals dvs ds)(hx:Zcw CX X E)(I:Inv X pins σ H s)(r:Vals vs us)(h:∀x dx,H x=none->H dx=none->dx≠x->sp (.ref x::(vs++dvs)) (upd (upd H dx (.own x)) x (.ins C dx [])) (λv H2=>v=.non/\Q (.ref x) H2) E):
  wpAny (model X.prog X.w) X.A (call (.ref C) us) (EP X pins σ Q) X.xe s:=by
 have hq:=h (s.heap.objs.size+1) s.heap.objs.size (I.hok.fresh (UJ _)) (I.hok.fresh (Yj _)) (Yv (WX _))
 have I2:=Inv.made (C:=C) I
 have r2:Vals (V.ref (s.heap.objs.size+1)::(vs++dvs)) (Y5 (s.heap.objs.size+1)::(us++ds)):=.cons rfl (r.append hd)
 have hl:(Y5 (s.heap.objs.size+1)::us++ds).length=ps.length:=by
  have e:=r2.length
  rw[F.len _ _ _ _ hq]at e
  exact e.symm
 refine Yar (ZjU (f:=f) I.kIn M.makes M.init (beq_iff_eq.mp M.fn) (U6 (F.run _ X.stack _ _ ⟨Y5 (s.heap.objs.size+1)::us,[]⟩ (Y5 (s.heap.objs.size+1)::(us++ds)) _ _ E (hr us)
  (I2.env0.make C us []) (hb _ (Y5 (s.heap.objs.size+1)::us) I2.kIn hl) r2 hq) λr s' hq'=>?_))
 cases r with
 |error e=>exact hx pins σ _ _ e s' I2 hq'
 |ok fl =>
  cases fl with
  |ret u =>
   obtain⟨v,H',I3,rv,ev,q3⟩:=I2.after hq'
   subst ev
   exact⟨rv,⟨V.ref (s.heap.objs.size+1),H',I3,rfl,q3⟩⟩
  |next=>exact U0 hq'
  |brk=>exact U0 hq'
  |cont=>exact U0 hq'
theorem Zlr(M:Mk X.K C f)(F:FnOk X.prog X.w X.K X.mg X.base CX k f fd ps sp)(hr:∀us,Room k (X.A.under (.builtin "type.__call__" ⟨.ref C::us,[]⟩)))(hg:Gl X x)(hm:X.mg x=some (.ref C))(hb:Binds X.K fd ps ds)(hd:Vals dvs ds)(hx:Zcw CX X E)(ha:PA X (e::es) t)(hdb:(x==("__debug__" : Str))=false:=by decide)(he:Wq (e::es) X.env=(false,eval e X.env)::Wq es X.env:=by rfl)(hpl:(backTo pos (Wq es X.env)).any (·.1)=false:=by rfl):
  PE X (.Call (.Name x p) (e::es) [] pos) (tMake C sp dvs E t):=by
 intro pins s σ H Q I h
 refine WQ (ZbB I hg hm ?_ hdb)
 refine YbR (h₀:=X.base) I.ok.mod.kin M.kp (thn (ha pos pins s σ H _ I h) λus s1 ⟨vs,H1,I1,r,q⟩=>⟨I1.kIn,?_⟩) he hpl
 exact Zjk M F hr hb hd hx I1 r q
end
section
variable{X:Cx}{CX:CXT}{k:Nat}{f C:Addr}{fd:W5}{ps ks:List Str}{sp:Sp}{E:XK}{x m:Str}{p pos apos kpos:Pos}{e o:Expr}{es:List Expr}{kws:List Yb1}{te ta:TE}{t tk:TA}{nm:Option Str}
structure KBinds (K:Frag) (fd:W5) (ps ks:List Str) (g:List Value->List Value->List Value) (gV:List V->List V->List V):Prop where
 to:∀(s:Shared) (us ws:List Value),K.In s.heap->(g us ws).length=ps.length->Ybo s fd ⟨us,ks.zip ws⟩ (ps.zip (g us ws))
 rel:∀{vs:List V}{us:List Value}{zs:List V}{ws:List Value},Vals vs us->Vals zs ws->Vals (gV vs zs) (g us ws)
variable{g:List Value->List Value->List Value}{gV:List V->List V->List V}
end
structure FnScope (N P:List Str) (sc:Scope):Prop where
 kind:sc.kind=.function
 co:sc.isCoroutine=false
 gen:sc.isGenerator=false
 nd:N.Nodup
 pre:N.take P.length=P
 par:∀x∈P,sc.names.lookup x=some .local∨sc.names.lookup x=some .cell
 nofree:∀y∈sc.names,y.2≠.free
theorem Zem{kindOf:Str->Option GC}{x:Str}:∀{binds:List (Str×Value)}{m:Str->Option Value},(∀v,(x,v)∉binds)->bindL kindOf binds m x=m x
 |[],_,_=>rfl
 |(n,v)::r,m,h=>by
  unfold bindL
  rw[Zem λw hw=>h w (Yw _ hw)]
  split
  ·have:x≠n:=by rintro rfl;exact h v YD
   simp[this]
  ·rfl
theorem Zeo{kindOf:Str->Option GC}{x:Str}:∀{binds:List (Str×Value)}{m:Str->Option Value},(∀v,(x,v)∉binds)->bindC kindOf binds m x=m x
 |[],_,_=>rfl
 |(n,v)::r,m,h=>by
  unfold bindC
  rw[Zeo λw hw=>h w (Yw _ hw)]
  split
  ·rfl
  ·have:x≠n:=by rintro rfl;exact h v YD
   simp[this]
theorem Zen{kindOf:Str->Option GC}{x:Str}{v:Value}:∀{P:List Str}{vs:List Value}{i:Nat}{m:Str->Option Value},P.Nodup->P[i]?=some x->vs[i]?=some v->kindOf x=some .local ->
  bindL kindOf (P.zip vs) m x=some v
 |[],_,_,_,_,h,_,_=>by simp at h
 |_::_,[],_,_,_,_,h,_=>by simp at h
 |p::P,w::vs,0,m,nd,h1,h2,hk=>by
  simp at h1 h2;subst h1;subst h2
  show bindL kindOf ((p,w)::P.zip vs) m p=_
  unfold bindL
  rw[Zem λv hv=>(Vm.mp nd).1 (YaY hv).1,if_pos hk]
  simp
 |p::P,w::vs,i+1,m,nd,h1,h2,hk=>by
  show bindL kindOf ((p,w)::P.zip vs) m x=_
  unfold bindL
  exact Zen (i:=i) (Vm.mp nd).2 (by simpa using h1) (by simpa using h2) hk
theorem Zep{kindOf:Str->Option GC}{x:Str}{v:Value}:∀{P:List Str}{vs:List Value}{i:Nat}{m:Str->Option Value},P.Nodup->P[i]?=some x->vs[i]?=some v->kindOf x≠some .local ->
  bindC kindOf (P.zip vs) m x=some v
 |[],_,_,_,_,h,_,_=>by simp at h
 |_::_,[],_,_,_,_,h,_=>by simp at h
 |p::P,w::vs,0,m,nd,h1,h2,hk=>by
  simp at h1 h2;subst h1;subst h2
  show bindC kindOf ((p,w)::P.zip vs) m p=_
  unfold bindC
  rw[Zeo λv hv=>(Vm.mp nd).1 (YaY hv).1,if_neg hk]
  simp
 |p::P,w::vs,i+1,m,nd,h1,h2,hk=>by
  show bindC kindOf ((p,w)::P.zip vs) m x=_
  unfold bindC
  exact Zep (i:=i) (Vm.mp nd).2 (by simpa using h1) (by simpa using h2) hk
noncomputable def start(N:List Str)(vs:List V):St:=vs.map some++Yn (N.length-vs.length) none
noncomputable def cxOf(CX:CXT)(P:Yx)(w:World)(K:Frag)(mg:Str->Option Value)(base:Heap)(N:List Str)(qual:Str)(scope:Scope)(f:Addr)(cd:Value)(A:Around)(outer:List Env)(s:Shared)(H:Hp)(E:XK):Cx where
 prog:=P
 w:=w
 K:=K
 mg:=mg
 base:=base
 A:=A.deeper (envOfC qual scope s.heap.objs.size f cd)
 N:=N
 s₀:=s
 H₀:=H
 env:=envOfC qual scope s.heap.objs.size f cd
 outer:=outer
 stack:=envOfC qual scope s.heap.objs.size f cd::outer
 ex:=[]
 calm:=true
 fn:=λ_=>true
 pn:=[]
 xe:=λe s'=>wpAny (model P w) (A.deeper (envOfC qual scope s.heap.objs.size f cd)) (leaving (envOfC qual scope s.heap.objs.size f cd) e) (λ_ s''=>CX outer H s E e s'') (λe' s''=>CX outer H s E e' s'') s'
theorem ZfK{sc:Scope}{n:Nat}{x:Str}(h:sc.names.lookup x=some .cell):∃c,(Vn n sc.names []).lookup x=some c:=by
 have q:=Ya8 sc.names n [] (.inl h)
 exact G9.mp q
theorem Zik{CX:CXT}{P:Yx}{w:World}{K:Frag}{mg:Str->Option Value}{base:Heap}{N ps:List Str}{qual:Str}{scope:Scope}{f:Addr}{cd:Value}{A:Around}{outer:List Env}{s s1:Shared}{H:Hp}{E:XK}{us:List Value}{vs:List V}(S:FnScope N ps scope)(hd:A.handled=none)(e0:Env0 P w K mg base A outer s H)(hl:vs.length=ps.length)(r:Vals vs us)(x:InCallC s s.heap.objs.size (bindL (envOfC qual scope s.heap.objs.size f cd).kindOf (ps.zip us) λ_=>none) (Vn (s.heap.objs.size+1) scope.names []) (bindC (envOfC qual scope s.heap.objs.size f cd).kindOf (ps.zip us) λ_=>none) s1):
  Inv (cxOf CX P w K mg base N qual scope f cd A outer s H E) [] (start N vs) H s1:=by
 have hpl:ps.length<=N.length:=by have:=congrArg YaF S.pre;rw[Wi]at this;omega
 obtain⟨h1,tk,rfl,hk⟩:=x.done
 have noA:∀b:Addr,b∉(cxOf CX P w K mg base N qual scope f cd A outer s H E).ex:=λb z=>absurd (show b∈([]:List Addr)from z) (by simp)
 refine⟨⟨e0.mod,S.kind,rfl,rfl,Yj _,λy z c h1 h2=>?_,λy hy=>?_,λy c _ h=>?_,λ_=>hd,Around.frames_deeper e0.frames,.inr ⟨rfl,rfl⟩,λb z=>absurd z (noA b),e0.bs,e0.bsz,λb _ _=>noA b,λb z=>absurd z (noA b),e0.funs,e0.frf⟩,
  rfl,e0.bare,Un.kept hk,⟨_,x.toInCall.ns,λi y v h1 h2 h3=>?_⟩,λy c h=>⟨_,x.cell y c h⟩,e0.hok.fresh (Yj _),λy c h=>?_,λp hp=>absurd (show p∈([]:List (Addr×Obj))from hp) (by simp),e0.hok.kept hk,?_⟩
 ·exact name_of_addr x.apart (UL h1) (UL h2)
 ·have hy:scope.names.lookup y=some .cell∨scope.names.lookup y=some .free:=hy
  rcases hy with hy|hy
  ·exact ZfK hy
  ·exact absurd rfl (S.nofree _ (UL hy))
 ·exact G8 (x.above y c (UL h))
 ·have hi:i<vs.length:=by
   unfold start at h2
   by_cases hi:i<vs.length
   ·exact hi
   ·rw[Yu (by simpa using hi)]at h2
    rw[Wr]at h2
    split at h2<;>cases h2
  have ha:vs[i]?=some v:=by
   unfold start at h2
   rw[Yy (by simpa using hi),YJ]at h2
   cases e:vs[i]? with
   |none=>rw[e]at h2;cases h2
   |some a=>rw[e]at h2;cases h2;rfl
  obtain⟨u,hu,rv⟩:=r.get ha
  have hp:ps[i]?=some y:=by
   rw[<-S.pre,List.getElem?_take_of_lt (by omega)];exact h1
  have ndP:ps.Nodup:=by rw[<-S.pre];exact S.nd.sublist (List.take_sublist _ _)
  refine⟨u,rv,?_⟩
  rcases S.par y (WP hp)with k|k
  ·exact .inl ⟨k,Zen ndP hp hu k⟩
  ·obtain⟨c,e⟩:=ZfK (n:=s.heap.objs.size+1) k
   refine .inr ⟨.inl k,c,e,?_⟩
   have q:=x.cell y c e
   rw[Zep ndP hp hu (by show scope.names.lookup y≠_;rw[k];decide)]at q
   exact q
 ·exact e0.hok.fresh (G8 (x.above y c (UL h)))
 ·unfold start
  show _=N.length
  rw[Yh,Yi,Wn]
  omega
theorem fn_of{CX:CXT}{P:Yx}{w:World}{K:Frag}{mg:Str->Option Value}{base:Heap}{k:Nat}{f:Addr}{name qual:Str}{params:YaZ}{body:List Stmt}{scope:Scope}{dV kV doc pm cdv ct oc:Value}{an od:Option Addr}{osl:Array (Option Value)}{N ps:List Str}{sp:Sp}(lk:K.lookup f=some ⟨oc,od,.func (fnOf name qual params body scope dV kV doc pm an cdv ct),osl⟩)(hcd:codeIn K cdv qual=true)(S:FnScope N ps scope)(len:∀vs H Q E,sp vs H Q E->vs.length=ps.length)(hbody:∀(A:Around) (outer:List Env) (s:Shared) (H:Hp) (vs:List V) (Q:VK) (E:XK),Room (k+1) A->HOk P w H s.heap->sp vs H Q E ->
   ∃t,PSs (cxOf CX P w K mg base N qual scope f cdv A outer s H E) body t/\t { nx:=λ_ H'=>Q .non H',rt:=Q } (start N vs) H):
  FnOk P w K mg base CX (k+1) f (fnOf name qual params body scope dV kV doc pm an cdv ct) ps sp:=by
 refine⟨len,λA outer s H args us vs Q E hr e0 hb r hsp=>?_⟩
 have hl:=len _ _ _ _ hsp
 have KX:K.In s.heap:=e0.mod.kin.keeps λb o e=>(e0.bs b o e).1
 have lim:s.heap.NoLimit:=e0.mod.nolimit.keeps λb o e=>(e0.bs b o e).1
 have hkind:∀y∈ps.zip us,scope.names.lookup y.1=some .local∨(scope.names.lookup y.1=some .cell/\((Vn (s.heap.objs.size+1) scope.names []).lookup y.1).isSome=true):=λ⟨n,v⟩ hy=>by
  rcases S.par n (YaY hy).1 with q|q
  ·exact .inl q
  ·exact .inr ⟨q,Ya8 _ _ _ (.inl q)⟩
 refine codeAny_call_function hr.depth (KX _ _ lk) rfl S.co S.gen rfl (PySem.W.codeRec_of KX hcd) (hb _ _ _ _ ?_)
 refine wpAny_newFunctionEnv_cells S.kind hkind λenv he s1 x=>?_
 subst he
 refine⟨lim.keeps x.toInCall.keep,codeAny_func ?_⟩
 obtain⟨t,ht,hq⟩:=hbody A outer s H vs Q E hr e0.hok hsp
 have I:Inv (cxOf CX P w K mg base N qual scope f cdv A outer s H E) [] (start N vs) H s1:=Zik S hr.hd e0 hl r x
 refine Uq (ht [] s1 (start N vs) H _ I hq) (λfl s' hs=>?_) λe s' hs=>hs
 have fin:∀{σ':St}{H':Hp}{v:V}{u:Value},Inv (cxOf CX P w K mg base N qual scope f cdv A outer s H E) [] σ' H' s'->RelV v u->Q v H'->CE outer P w H s Q u s':=
  λ{σ' H' v u} J rv q=>⟨v,H',J.os,J.bare,J.base,J.hok,rv,q⟩
 cases fl with
 |ret u =>
  obtain⟨v,σ',H',J,rv,q⟩:=hs
  exact fin J rv q
 |next =>
  obtain⟨σ',H',J,q⟩:=hs
  exact fin (v:=V.non) (u:=W2) J rfl q
 |brk =>
  obtain⟨_,_,_,q⟩:=hs
  exact U0 q
 |cont =>
  obtain⟨_,_,_,q⟩:=hs
  exact U0 q
section
variable{X:Cx}{x:Str}{p pos:Pos}{e:Expr}{es:List Expr}{t:TA}{id T:String}{r:List V->Hp->VK->Prop}
noncomputable def tCB(r:List V->Hp->VK->Prop)(t:TA):TE:=λσ H Q=>t σ H λvs H1=>r vs H1 Q
theorem Zbd(hc:J1 X (.builtin id) r)(hg:Gl X x)(hm:X.mg x=none)(hv:Ub x=some (.builtin id))(ha:PA X (e::es) t)(hn:x≠"__name__":=by decide)(hdb:(x==("__debug__" : Str))=false:=by decide)(he:Wq (e::es) X.env=(false,eval e X.env)::Wq es X.env:=by rfl)(hpl:(backTo pos (Wq es X.env)).any (·.1)=false:=by rfl):PE X (.Call (.Name x p) (e::es) [] pos) (tCB r t):=by
 intro pins s σ H Q I h
 refine WQ (J9 I hg hm hv ?_ hn hdb)
 exact Gj (thn (ha pos pins s σ H _ I h) λus s1 ⟨vs,H1,I1,r1,q1⟩=>hc pins s1 σ H1 vs us Q I1 r1 q1) he hpl
theorem ZhN(hc:J1 X (.type T) r)(hg:Gl X x)(hm:X.mg x=none)(hv:Ub x=some (.type T))(ha:PA X (e::es) t)(hn:x≠"__name__":=by decide)(hdb:(x==("__debug__" : Str))=false:=by decide)(he:Wq (e::es) X.env=(false,eval e X.env)::Wq es X.env:=by rfl)(hpl:(backTo pos (Wq es X.env)).any (·.1)=false:=by rfl):PE X (.Call (.Name x p) (e::es) [] pos) (tCB r t):=by
 intro pins s σ H Q I h
 refine WQ (J9 I hg hm hv ?_ hn hdb)
 exact W8 (thn (ha pos pins s σ H _ I h) λus s1 ⟨vs,H1,I1,r1,q1⟩=>hc pins s1 σ H1 vs us Q I1 r1 q1) he hpl
end
end L2
namespace HT
open PySem PyProof.Rows
section
variable{prog:Yx}{w:World}{A:Around}{E:Value->Shared->Prop}{s:Shared}
theorem cat_tup{t b:Addr}{vs ws:List Value}{Q:Value->Shared->Prop}(ht:IsTup s.heap t vs.toArray)(hb:IsTup s.heap b ws.toArray)(hv:vs≠[])(h1:ws=[]->Q (.ref t) s)(h2:ws≠[]->Q (.ref s.heap.objs.size) { s with heap:=s.heap.push { cls:=.type "tuple",data:=.seq (vs++ws).toArray } })(hsz:vs.length+ws.length<=YC):wpAny (model prog w) A (WW .Add (.ref t) (.ref b)) Q E s:=by
 obtain⟨⟨cls,dd,data,sl⟩,ho,hc,n,hd⟩:=id ht
 obtain⟨⟨cls2,dd2,data2,sl2⟩,ho2,hc2,n2,hd2⟩:=id hb
 simp only at hc hd hc2 hd2
 subst hc hd hc2 hd2
 have e:vs.toArray++ws.toArray=(vs++ws).toArray:=by simp
 by_cases hw:ws=[]
 ·exact Yby ⟨_,ho,rfl⟩ ⟨_,ho2,rfl⟩ YaO Ybf Vw Vo (Va _ _)
   (tuple_addW1 t b vs.toArray ws.toArray n n2 dd dd2 sl sl2 (by simpa using hv) (by simp[hw])) ⟨ho,ho2,h1 hw⟩
 ·refine Yby ⟨_,ho,rfl⟩ ⟨_,ho2,rfl⟩ YaO Ybf Vw Vo (Va _ _)
   (tuple_addW2 t b vs.toArray ws.toArray n n2 dd dd2 sl sl2 (by simpa using hv) (by simpa using hw) (by rw[Yk,Yk];exact hsz)) ⟨ho,ho2,?_⟩
  rw[e]
  exact h2 hw
noncomputable def sIx(n d:Nat):Option Int->Nat
 |none=>d
 |some v=>if v<0 then(v+(n:Int)).toNat else min v.toNat n
theorem sIx_le(n d:Nat)(hd:d<=n)(o:Option Int):sIx n d o<=n:=by
 cases o with
 |none=>exact hd
 |some v =>
  show(if v<0 then(v+(n:Int)).toNat else min v.toNat n)<=n
  by_cases hv:v<0
  ·rw[if_pos hv];omega
  ·rw[if_neg hv];exact Nat.min_le_right _ _
theorem ZiO(v:Int)(n d:Nat):(if v<0 then max (v+(n:Int)) 0 else min v (n:Int))=((sIx n d (some v):Nat):Int):=by
 show(if v<0 then max (v+(n:Int)) 0 else min v (n:Int))=(((if v<0 then(v+(n:Int)).toNat else min v.toNat n):Nat):Int)
 by_cases hv:v<0
 ·simp only[if_pos hv];omega
 ·simp only[if_neg hv];omega
theorem ZgW(lo hi:Option Int)(n:Nat):WT lo hi 1 (n:Int)=(((sIx n 0 lo:Nat):Int),((sIx n n hi:Nat):Int)):=by
 have h1:¬((1:Int)<0):=by omega
 unfold WT
 simp only[h1,if_false]
 refine Prod.ext ?_ ?_
 ·cases lo with
  |none=>rfl
  |some v=>exact ZiO v n 0
 ·cases hi with
  |none=>rfl
  |some v=>exact ZiO v n n
theorem Zge(i j:Nat):We (i:Int) (j:Int) 1=j-i:=by
 unfold We
 have h1:(1:Int)>0:=by omega
 simp only[h1,if_true,Int.ediv_one]
 split<;>omega
theorem Zcc{v:Value}{o:Option Int}{Q:Option Int->Shared->Prop}(p:IsPart v o)(h:Q o s):wpAny (model prog w) A (Builtin.Slice.slicePartIndex v) Q E s:=by
 cases p with
 |none=>exact Yap h
 |int i t=>exact slicePart_int h
theorem sliceApplied_gen{sl:Addr}{vl vu:Value}{lo hi:Option Int}{n:Nat}{Q:Int×Int×Nat->Shared->Prop}(hs:s.heap.IsSliceOf sl vl vu .none)(pl:IsPart vl lo)(pu:IsPart vu hi)(h:Q (((sIx n 0 lo:Nat):Int),1,sIx n n hi-sIx n 0 lo) s):wpAny (model prog w) A (UW (.ref sl) (pure (n:Int))) Q E s:=by
 obtain⟨os,hos,hcs,hds⟩:=id hs
 unfold UW Builtin.Slice.sliceFields
 refine Yb (Yb (Ge hos hds (x:=vl) rfl (Yb (Ge hos hds (x:=vu) rfl (Yb (Ge hos hds (x:=.none) rfl (Yd ?_)))))))
 refine Yb (Yap ?_)
 show wpAny _ _ (if((1:Int)==0)=true then _ else _) _ _ s
 rw[if_neg (by decide)]
 refine Yb (Zcc pl (Yb (Zcc pu (Yb (Yd ?_)))))
 show wpAny _ _ (match WT lo hi 1 (n:Int)with|(lo,hi)=>pure (lo,(1:Int),We lo hi 1)) _ _ s
 rw[ZgW lo hi n]
 show wpAny _ _ (pure (((sIx n 0 lo:Nat):Int),(1:Int),We ((sIx n 0 lo:Nat):Int) ((sIx n n hi:Nat):Int) 1)) _ _ s
 rw[Zge]
 exact Yd h
theorem ZjA(xs:Array Value)(i k:Nat):((YM k).filterMap λ(m:Nat)=>xs[((i:Int)+(m:Int)*1).toNat]?).toArray=((xs.toList.drop i).take k).toArray:=by
 have e:(λ(m:Nat)=>xs[((i:Int)+(m:Int)*1).toNat]?)=λm=>xs[i+m]?:=by
  funext m
  have:((i:Int)+(m:Int)*1).toNat=i+m:=by omega
  rw[this]
 rw[e]
 have:=pick_run xs i k
 rw[Yai]at this
 have e2:((λx=>xs[x]?) ∘ λx=>i+x)=λm=>xs[i+m]?:=rfl
 rw[e2]at this
 rw[this]
theorem getItem_tuple_cut{t sl:Addr}{items:Array Value}{vl vu:Value}{lo hi:Option Int}{Q:Value->Shared->Prop}(ht:IsTup s.heap t items)(hs:s.heap.IsSliceOf sl vl vu .none)(pl:IsPart vl lo)(pu:IsPart vu hi)(hw:¬(sIx items.size 0 lo=0/\sIx items.size items.size hi=items.size))(h:Q (.ref s.heap.objs.size) { s with heap:=s.heap.push { cls:=.type "tuple",data:=.seq ((items.toList.drop (sIx items.size 0 lo)).take (sIx items.size items.size hi-sIx items.size 0 lo)).toArray } })(hsz:items.size<=YC):wpAny (model prog w) A (VH (.ref t) (.ref sl)) Q E s:=by
 have htake:sizeOk (.seq ((items.toList.drop (sIx items.size 0 lo)).take (sIx items.size items.size hi-sIx items.size 0 lo)).toArray):=by
  show((items.toList.drop (sIx items.size 0 lo)).take (sIx items.size items.size hi-sIx items.size 0 lo)).toArray.size<=YC
  rw[Yk,Wi,VJ,YL]
  omega
 have hj:sIx items.size items.size hi<=items.size:=sIx_le _ _ (Yj _) hi
 obtain⟨os,hos,hcs,hds⟩:=id hs
 have hTs:s.TypeIs (.ref sl) "slice":=⟨os,hos,hcs⟩
 unfold VH
 try with_reducible refine Wg ?_
 first|refine Yb (Yd ?_)|skip
 refine Yb (Yas ht.typeIs (by decide) ?_)
 refine Yb (WL (name:=U7 "__getitem__") ht.typeIs Wj
  (WY Wj ht.typeIs V3 ?_ (Yaj _ _)))
 show wpAny _ _ (GK (.ref t) >>= _) _ _ s
 refine Yb (Ybg ht ?_)
 refine Yb (VD hTs ?_)
 rw[if_pos (by decide)]
 refine Yb (sliceApplied_gen hs pl pu ?_)
 have hno:¬((((sIx items.size 0 lo:Nat):Int)==0&&(1:Int)==1&&(sIx items.size items.size hi-sIx items.size 0 lo)==items.size)=true):=by
  intro q
  rw[Yg,Yg]at q
  have q1:((sIx items.size 0 lo:Nat):Int)=0:=eq_of_beq q.1.1
  have q2:sIx items.size items.size hi-sIx items.size 0 lo=items.size:=eq_of_beq q.2
  exact hw ⟨by omega,by omega⟩
 show wpAny _ _ (if(((sIx items.size 0 lo:Nat):Int)==0&&(1:Int)==1&&(sIx items.size items.size hi-sIx items.size 0 lo)==items.size)=true then _ else _) _ _ s
 rw[if_neg hno,ZjA]
 first
  |exact Yb (m:=Wk _) (YZ (Yd ⟨_,rfl,Yd h⟩) htake)
  |exact Yb (m:=Wk _) (YZ (Yb (Yd (Yd ⟨_,rfl,Yd h⟩))) htake)
  |exact Yb (Yb (m:=Wk _) (YZ (Yd (Yd ⟨_,rfl,Yd h⟩)) htake))
  |exact Yb (Yb (m:=Wk _) (YZ (Yd ⟨_,rfl,Yd h⟩) htake))
end
end HT
namespace L2
open PySem PySem.Spec PyProof.Rows
noncomputable abbrev TO:=St->Hp->(Option Int->Hp->Prop)->Prop
noncomputable def PO(X:Cx)(e:Option Expr)(t:TO):Prop:=
 ∀(pins:List (Addr×Obj)) (s:Shared) (σ:St) (H:Hp) (Q:Option Int->Hp->Prop),Inv X pins σ H s->t σ H Q ->
  wpAny (model X.prog X.w) X.A (evalPart e X.env) (λu s'=>∃o H',Inv X pins σ H' s'/\IsPart u o/\Q o H') X.xe s
noncomputable def ZkX:TO:=λ_ H Q=>Q none H
noncomputable def tPart(t:TE):TO:=λσ H Q=>t σ H λx H1=>∃i,x=.int i/\Q (some i) H1
section
variable{X:Cx}{e:Expr}{te:TE}{lo hi:Option Expr}{tl th:TO}{pos p2:Pos}
theorem Zle:PO X none ZkX:=by
 intro pins s σ H Q I h
 rw[Ybh]
 exact Yd ⟨none,H,I,.none,h⟩
theorem Zld(h:PE X e te):PO X (some e) (tPart te):=by
 intro pins s σ H Q I hw
 rw[evalPart_some]
 refine thn (h pins s σ H _ I hw) λu s1 ⟨x,H1,I1,r1,q1⟩=>?_
 obtain⟨i,rfl,q⟩:=q1
 obtain⟨t,rfl⟩:=r1
 exact⟨some i,H1,I1,.int i t,q⟩
noncomputable def SlR(X:Cx)(r:V->Option Int->Option Int->Hp->VK->Prop):Prop:=
 ∀(pins:List (Addr×Obj)) (s:Shared) (σ:St) (H:Hp) (x:V) (v vl vu:Value) (lo hi:Option Int) (sl:Addr) (Q:VK),Inv X pins σ H s->RelV x v->s.heap.IsSliceOf sl vl vu .none->IsPart vl lo->IsPart vu hi->r x lo hi H Q ->
  ∃T id,Ybp (.type T) "__getitem__" = pure (some (.builtin id))/\s.TypeIs v T/\wpAny (model X.prog X.w) X.A (VH v (.ref sl)) (EP X pins σ Q) X.xe s
noncomputable def tSl(r:V->Option Int->Option Int->Hp->VK->Prop)(te:TE)(tl th:TO):TE:=λσ H Q=>te σ H λx H1=>tl σ H1 λl H2=>th σ H2 λu H3=>r x l u H3 Q
theorem ZjE{r:V->Option Int->Option Int->Hp->VK->Prop}(hr:SlR X r)(he:PE X e te)(hl:PO X lo tl)(hu:PO X hi th):PE X (.Subscript e (.Slice lo hi none p2) pos) (tSl r te tl th):=by
 intro pins s σ H Q I h
 refine YbS (thn (he pins s σ H _ I h) λv s1 ⟨x,H1,I1,r1,q1⟩=>?_)
 refine wpAny_Slice (thn (hl pins s1 σ H1 _ I1 q1) λvl s2 ⟨l,H2,I2,pl,q2⟩=>thn (hu pins s2 σ H2 _ I2 q2) λvu s3 ⟨u,H3,I3,pu,q3⟩=>?_)
 rw[Ybh]
 refine Yd ?_
 have I4:Inv X pins σ H3 { s3 with heap:=s3.heap.push { cls:=.type "slice",data:=.fields #[vl,vu,.none] } }:=I3.kept (t':=s3.toks) λb ob q=>Yc _ q
 obtain⟨T,id,hT,ht,hg⟩:=hr pins { s3 with heap:=s3.heap.push { cls:=.type "slice",data:=.fields #[vl,vu,.none] } } σ H3 x v vl vu l u s3.heap.objs.size Q I4 r1 (Heap.IsSliceOf.new ..) pl pu q3
 show wpAny (model X.prog X.w) X.A (Ybi e (.Slice lo hi none p2) v (.ref s3.heap.objs.size)) (EP X pins σ Q) X.xe { s3 with heap:=s3.heap.push { cls:=.type "slice",data:=.fields #[vl,vu,.none] } }
 exact tail_any (ops:=[.ref s3.heap.objs.size,v]) ht hT hg (by with_unfolding_all rfl)
noncomputable def cutV(xs:List V)(lo hi:Option Int):List V:=(xs.drop (HT.sIx xs.length 0 lo)).take (HT.sIx xs.length xs.length hi-HT.sIx xs.length 0 lo)
theorem ZbK(xs:List V)(lo hi:Option Int):(cutV xs lo hi).length<=xs.length:=by
 unfold cutV
 rw[Wi,VJ]
 omega
noncomputable def rSlT(K:Frag):V->Option Int->Option Int->Hp->VK->Prop:=λx lo hi H Q=>∃a xs,x=.ref a/\SqT K H a xs /\
 ¬(HT.sIx xs.length 0 lo=0/\HT.sIx xs.length xs.length hi=xs.length)/\∀p,H p=none->Q (.ref p) (upd H p (.tup (cutV xs lo hi)))
theorem sl_tup:SlR X (rSlT X.K):=by
 intro pins s σ H x v vl vu lo hi sl Q I rx hs pl pu h
 obtain⟨a,xs,rfl,hx,hw,q⟩:=h
 cases rx
 obtain⟨its,r,ht,hz⟩:=I.tuple hx
 have hlen:its.toArray.size=xs.length:=by rw[Yk];exact r.length.symm
 refine⟨"tuple",_,PyProof.Rows.slot_tuple_getitem.lookup,ht.typeIs,?_⟩
 refine HT.getItem_tuple_cut ht hs pl pu (by rw[hlen];exact hw) ?_ (by rw[hlen];exact hz)
 rw[hlen]
 refine⟨.ref s.heap.objs.size,_,I.laid (t':=s.toks) (o:=.tup (cutV xs lo hi)) (λb ob q=>Yc _ q) (Yj _) ?_,rfl,q _ (I.hok.fresh (Yj _))⟩
 exact⟨Wm (ZbK xs lo hi) hz,_,(r.drop (HT.sIx xs.length 0 lo)).take (HT.sIx xs.length xs.length hi-HT.sIx xs.length 0 lo),TupP.new _ _⟩
noncomputable def rCatT(K:Frag):R2:=λx y H Q=>∃a b xs ys,x=.ref a/\y=.ref b/\SqT K H a xs/\SqT K H b ys/\xs≠[]/\xs.length+ys.length<=YC /\
 (ys=[]->Q (.ref a) H)/\(ys≠[]->∀p,H p=none->Q (.ref p) (upd H p (.tup (xs++ys))))
theorem Vals.nil_iff{xs:List V}{us:List Value}(r:Vals xs us):us=[]↔xs=[]:=by
 cases r with
 |nil=>simp
 |cons _ _=>simp
theorem ZlK:OpR X (WW .Add) (rCatT X.K):=by
 intro pins s σ H x y v u Q I rx ry h
 obtain⟨a,b,xs,ys,rfl,rfl,ha,hb,hx,hz,q1,q2⟩:=h
 cases rx
 cases ry
 obtain⟨its,r1,p1,_⟩:=I.tuple ha
 obtain⟨its2,r2,p2,_⟩:=I.tuple hb
 refine HT.cat_tup p1 p2 (λz=>hx (r1.nil_iff.mp z)) (λz=>⟨.ref a,H,I,rfl,q1 (r2.nil_iff.mp z)⟩) (λz=>?_) (by rw[<-r1.length,<-r2.length];exact hz)
 refine⟨.ref s.heap.objs.size,_,I.laid (t':=s.toks) (o:=.tup (xs++ys)) (λb ob q=>Yc _ q) (Yj _) ?_,rfl,q2 (λw=>z (r2.nil_iff.mpr w)) _ (I.hok.fresh (Yj _))⟩
 exact⟨by rw[Yh];exact hz,_,r1.append r2,TupP.new _ _⟩
end
noncomputable def ixN(n:Nat)(i:Int):Option Nat:=if 0<=i then(if i<n then some i.toNat else none)else if -(n:Int)<=i then some (i+n).toNat else none
noncomputable def atI{α:Type}(xs:List α)(i:Int):Option α:=(ixN xs.length i).bind λj=>xs[j]?
theorem ZeK{n:Nat}{i:Int}{j:Nat}(h:ixN n i=some j):Yca i n=some j/\j<n/\-(n:Int)<=i/\i<n:=by
 unfold ixN at h
 by_cases h0:0<=i
 ·rw[if_pos h0]at h
  by_cases h1:i<n
  ·rw[if_pos h1]at h
   have e:i.toNat=j:=YQ h
   exact⟨by rw[YbH h0 h1,e],by omega,by omega,h1⟩
  ·rw[if_neg h1]at h;cases h
 ·rw[if_neg h0]at h
  by_cases h1:-(n:Int)<=i
  ·rw[if_pos h1]at h
   have e:(i+n).toNat=j:=YQ h
   exact⟨by rw[Ybz (by omega) h1,e],by omega,h1,by omega⟩
  ·rw[if_neg h1]at h;cases h
theorem Ze6{α:Type}{xs:List α}{i:Int}{v:α}(h:atI xs i=some v):∃j,Yca i xs.length=some j/\xs[j]?=some v/\j<xs.length/\-(xs.length:Int)<=i/\i<xs.length:=by
 unfold atI at h
 cases e:ixN xs.length i with
 |none=>rw[e]at h;cases h
 |some j =>
  rw[e]at h
  obtain⟨h1,h2,h3,h4⟩:=ZeK e
  exact⟨j,h1,h,h2,h3,h4⟩
noncomputable def Zi4(b:Expr):Prop:=∀o i,YbI b false o i=operate [o,i] (VH o i)
noncomputable def IxR(X:Cx)(r:R2):Prop:=
 ∀(value slice:Expr) (pins:List (Addr×Obj)) (s:Shared) (σ:St) (H:Hp) (x y:V) (v u:Value) (Q:VK),Inv X pins σ H s->RelV x v->RelV y u->r x y H Q ->
  YbI slice false v u=operate [v,u] (VH v u)->wpAny (model X.prog X.w) X.A (Ybi value slice v u) (EP X pins σ Q) X.xe s
noncomputable def MtR(X:Cx)(id:String)(r:V->List V->Hp->VK->Prop):Prop:=
 ∀(pins:List (Addr×Obj)) (s:Shared) (σ:St) (H:Hp) (x:V) (xs:List V) (v:Value) (us:List Value) (Q:VK),Inv X pins σ H s->RelV x v->Vals xs us->r x xs H Q ->
  wpAny (model X.prog X.w) X.A (call (.builtin id) (v::us)) (EP X pins σ Q) X.xe s
section
variable{X:Cx}{a b:Expr}{ta tb:TE}{pos:Pos}
theorem pe_ix{r:R2}(hr:IxR X r)(ha:PE X a ta)(hb:PE X b tb)(hs:Zi4 b):PE X (.Subscript a b pos) (tOp r ta tb):=by
 intro pins s σ H Q I h
 exact YbS (binT ha hb I h λv u s2 x y H2 I2 rx ry q=>hr a b pins s2 σ H2 x y v u Q I2 rx ry q (hs _ _))
noncomputable def rIxL(K:Frag):R2:=λx y H Q=>∃p xs i v,x=.ref p/\y=.int i/\SqL K H p xs/\atI xs i=some v/\Q v H
noncomputable def rIxT(K:Frag):R2:=λx y H Q=>∃p xs i v,x=.ref p/\y=.int i/\SqT K H p xs/\atI xs i=some v/\Q v H
noncomputable def rIxS:R2:=λx y H Q=>∃z i c,x=.str z/\y=.int i/\z.length<=YC/\atI z.cps.toList i=some c/\Q (.str ⟨#[c]⟩) H
theorem Zih:IxR X (rIxL X.K):=by
 intro value slice pins s σ H x y v u Q I rx ry h hs
 obtain⟨p,xs,i,z,rfl,rfl,hq,he,q⟩:=h
 cases rx
 obtain⟨t,rfl⟩:=ry
 obtain⟨its,r,pl,hz⟩:=I.list hq
 obtain⟨j,h1,h2,h3,h4,h5⟩:=Ze6 he
 obtain⟨w,ew,rw'⟩:=r.get h2
 have hl:=r.length
 have hn:=Zck
 have fin:EP X pins σ Q w s:=⟨z,H,I,rw',q⟩
 by_cases h0:0<=i
 ·have hj:i.toNat=j:=by
   rw[YbH h0 h5]at h1
   exact YQ h1
  exact item_listR pl.isList h0 (by omega) (by rw[hj];simpa using ew) fin hs
 ·have hj:(i+(its.toArray.size:Int)).toNat=j:=by
   rw[Ybz (by omega) h4]at h1
   rw[Yk,<-hl]
   exact YQ h1
  exact subscriptTail_builtinR (x:=w) pl.isList.typeIs slot_list_getitem.lookup
   (wpAny_getItem_list_neg (Q:=λr s'=>r=w/\EP X pins σ Q r s') pl.isList (by omega) (by rw[Yk]<;>omega) (by omega) (by rw[hj];simpa using ew) ⟨rfl,fin⟩) hs
theorem ix_tup:IxR X (rIxT X.K):=by
 intro value slice pins s σ H x y v u Q I rx ry h hs
 obtain⟨p,xs,i,z,rfl,rfl,hq,he,q⟩:=h
 cases rx
 obtain⟨t,rfl⟩:=ry
 obtain⟨its,r,pl,hz⟩:=I.tuple hq
 obtain⟨j,h1,h2,h3,h4,h5⟩:=Ze6 he
 obtain⟨w,ew,rw'⟩:=r.get h2
 have hl:=r.length
 have hn:=Zck
 have fin:EP X pins σ Q w s:=⟨z,H,I,rw',q⟩
 exact subscriptTail_builtinR (x:=w) pl.typeIs slot_tuple_getitem.lookup
  (getItem_tuple (j:=j) (Q:=λr s'=>r=w/\EP X pins σ Q r s') pl (by omega) (by omega) (by rw[Yk,<-hl];exact h1) (by simpa using ew) ⟨rfl,fin⟩) hs
theorem ix_str:IxR X rIxS:=by
 intro value slice pins s σ H x y v u Q I rx ry h hs
 obtain⟨z,i,c,rfl,rfl,hz,he,q⟩:=h
 obtain⟨t,rfl⟩:=rx
 obtain⟨t',rfl⟩:=ry
 obtain⟨j,h1,h2,h3,h4,h5⟩:=Ze6 he
 have hl:z.cps.toList.length=z.length:=by simp[Str.length]
 rw[hl]at h1 h4 h5
 have hn:=Zck
 exact tail_any (YbT s z t) slot_str_getitem.lookup (getItem_str (c:=c) (by
  have e1:decide (i < -(2^63:Int))=false:=decide_eq_false (by omega)
  have e2:decide (i ≥ 2^63)=false:=decide_eq_false (by omega)
  rw[e1,e2,Bool.or_false]) (by rw[h1];simpa using h2) ⟨.str ⟨#[c]⟩,H,I.tok _,⟨_,rfl⟩,q⟩) hs
theorem Zgu(its:List Value)(n j:Nat)(u:Value):Ui (·.setIfInBounds j u) { cls:=.type "list",data:=.seq its.toArray n }={ cls:=.type "list",data:=.seq (its.set j u).toArray n }:=by
 simp[Ui]
theorem Inv.lst{pins:List (Addr×Obj)}{σ:St}{H:Hp}{s:Shared}{p:Addr}{xs:List V}(I:Inv X pins σ H s)(h:H p=some (.lst xs)):
  ∃(its:List Value) (n:Nat),Vals xs its/\s.heap.get? p=some { cls:=.type "list",data:=.seq its.toArray n }/\xs.length<=YC:=by
 obtain⟨z,its,n,r,e⟩:=I.hok p _ h
 exact⟨its,n,r,e,z⟩
theorem Inv.lstUpd{pins:List (Addr×Obj)}{σ:St}{H:Hp}{s:Shared}{p:Addr}{xs ys:List V}{its its':List Value}{n n':Nat}{f:Obj->Obj}(I:Inv X pins σ H s)(h:H p=some (.lst xs))(ho:s.heap.get? p=some { cls:=.type "list",data:=.seq its.toArray n })(hf:f { cls:=.type "list",data:=.seq its.toArray n }={ cls:=.type "list",data:=.seq its'.toArray n' })(r:Vals ys its')(hz:ys.length<=YC)(t:Nat):
  Inv X pins σ (upd H p (.lst ys)) { s with heap:=s.heap.update p f,toks:=t }:=by
 have e:(s.heap.update p f).get? p=some { cls:=.type "list",data:=.seq its'.toArray n' }:=by
  rw[Wo f ho (by rw[hf]<;>rfl),hf]
 refine I.write (x:=p) (e:=p) (by rw[h];trivial) (.inl rfl) (λb u hb q=>(Y6 _ _ (WR hb)).trans q) ⟨_,e⟩ ?_
 exact⟨hz,its',n',r,e⟩
noncomputable def rSetL:V->V->V->Hp->(Hp->Prop)->Prop:=λo i v H Q=>∃p xs k j,o=.ref p/\i=.int k/\H p=some (.lst xs)/\ixN xs.length k=some j/\Q (upd H p (.lst (xs.set j v)))
theorem set_list:PSet X rSetL:=by
 intro pins s σ H o i v ov iv u Q I ro ri rv h
 obtain⟨p,xs,k,j,rfl,rfl,hp,hj,q⟩:=h
 cases ro
 obtain⟨t,rfl⟩:=ri
 obtain⟨its,n,r,ho,hz⟩:=I.lst hp
 obtain⟨h1,h2,h3,h4⟩:=ZeK hj
 have hl:=r.length
 have hn:=Zck
 have I':Inv X pins σ (upd H p (.lst (xs.set j v))) { s with heap:=s.heap.update p (Ui (·.setIfInBounds j u)) }:=
  I.lstUpd hp ho (Zgu its n j u) (r.set rv j) (by rw[Wt];exact hz) s.toks
 by_cases h0:0<=k
 ·have hk:k.toNat=j:=by
   rw[YbH h0 h4]at h1
   exact YQ h1
  exact PySem.W.ki_setAt ho h0 (by omega) (by rw[Yk,<-hl];exact h4) (by rw[hk];exact⟨_,I',q⟩)
 ·have hk:(k+(its.toArray.size:Int)).toNat=j:=by
   rw[Ybz (by omega) h3]at h1
   rw[Yk,<-hl]
   exact YQ h1
  exact PySem.W.ki_setBack ho (by omega) (by rw[Yk,<-hl];exact h3) (by omega) (by rw[hk];exact⟨_,I',q⟩)
theorem ZdD(lo hi:Option Int)(n:Nat):(Gx lo hi none n).1=((HT.sIx n 0 lo:Nat):Int)/\(Gx lo hi none n).2.1=((HT.sIx n n hi:Nat):Int)/\(Gx lo hi none n).2.2=1:=by
 refine⟨?_,?_,rfl⟩
 ·cases lo with
  |none=>simp[Gx,HT.sIx]
  |some i =>
   simp only[Gx,HT.sIx,Option.getD_none,show(1:Int)>0 by decide,if_true]
   by_cases h:i<0
   ·simp only[h,if_true]<;>omega
   ·simp only[h,if_false]<;>omega
 ·cases hi with
  |none=>simp[Gx,HT.sIx]
  |some i =>
   simp only[Gx,HT.sIx,Option.getD_none,show(1:Int)>0 by decide,if_true]
   by_cases h:i<0
   ·simp only[h,if_true]<;>omega
   ·simp only[h,if_false]<;>omega
theorem ZcA(its:List Value)(lo hi:Option Int):YbJ its.toArray lo hi none=((its.drop (HT.sIx its.length 0 lo)).take (HT.sIx its.length its.length hi-HT.sIx its.length 0 lo)).toArray:=by
 obtain⟨h1,h2,h3⟩:=ZdD lo hi its.toArray.size
 unfold YbJ
 rw[h1,h2,h3]
 simp only[sliceRange_one,pick_run,Yk]<;>rfl
noncomputable def rSlL(K:Frag):V->Option Int->Option Int->Hp->VK->Prop:=λx lo hi H Q=>∃a xs,x=.ref a/\SqL K H a xs/\∀p,H p=none->Q (.ref p) (upd H p (.lst (cutV xs lo hi)))
theorem Zhl:SlR X (rSlL X.K):=by
 intro pins s σ H x v vl vu lo hi sl Q I rx hs pl pu h
 obtain⟨a,xs,rfl,hx,q⟩:=h
 cases rx
 obtain⟨its,r,ht,hz⟩:=I.list hx
 have hlen:=r.length
 refine⟨"list",_,slot_list_getitem.lookup,ht.isList.typeIs,?_⟩
 refine wpAny_getItem_list_slice ht.isList hs pl pu .none (by simp) ?_ (by rw[Yk]<;>omega)
 rw[ZcA,<-hlen]
 refine⟨.ref s.heap.objs.size,_,I.laid (t':=s.toks) (o:=.lst (cutV xs lo hi)) (λb ob q=>Yc _ q) (Yj _) ?_,rfl,q _ (I.hok.fresh (Yj _))⟩
 exact⟨Wm (ZbK xs lo hi) hz,_,0,(r.drop (HT.sIx xs.length 0 lo)).take (HT.sIx xs.length xs.length hi-HT.sIx xs.length 0 lo),Yl _ rfl⟩
noncomputable def Za7:V->Bool
 |.non=>true
 |.bl _=>true
 |.int _=>true
 |.str _=>true
 |_=>false
noncomputable def eqV:V->V->Bool
 |.non,.non=>true
 |.bl a,.bl b=>a==b
 |.bl a,.int b=>(if a then 1 else 0)==b
 |.int a,.bl b=>a==(if b then 1 else 0)
 |.int a,.int b=>a==b
 |.str a,.str b=>a==b
 |_,_=>false
theorem eqAt_V{A:Around}{s:Shared}{y x:V}{u v:Value}(ry:RelV y u)(rx:RelV x v)(fy:Za7 y=true)(fx:Za7 x=true):Ybq A s u v (eqV y x):=by
 cases y with
 |non =>
  cases ry
  cases x with
  |non=>cases rx;exact SeqAt.EqAt.same _
  |bl b=>cases rx;exact SeqAt.EqAt.none_bool b
  |int b=>obtain⟨t,rfl⟩:=rx;exact SeqAt.EqAt.none_int b t
  |str b=>obtain⟨t,rfl⟩:=rx;exact SeqAt.EqAt.none_str b t
  |_=>exact absurd (show false=true from fx) Yt
 |bl a =>
  cases ry
  cases x with
  |non=>cases rx;exact SeqAt.EqAt.bool_none a
  |bl b=>cases rx;exact SeqAt.EqAt.bool_bool a b
  |int b=>obtain⟨t,rfl⟩:=rx;exact SeqAt.EqAt.bool_int a b t
  |str b=>obtain⟨t,rfl⟩:=rx;exact SeqAt.EqAt.bool_str a b t
  |_=>exact absurd (show false=true from fx) Yt
 |int a =>
  obtain⟨t',rfl⟩:=ry
  cases x with
  |non=>cases rx;exact SeqAt.EqAt.int_none a t'
  |bl b=>cases rx;exact SeqAt.EqAt.int_bool a t' b
  |int b=>obtain⟨t,rfl⟩:=rx;exact SeqAt.EqAt.int_int a t' b t
  |str b=>obtain⟨t,rfl⟩:=rx;exact SeqAt.EqAt.int_str a t' b t
  |_=>exact absurd (show false=true from fx) Yt
 |str a =>
  obtain⟨t',rfl⟩:=ry
  cases x with
  |non=>cases rx;exact SeqAt.EqAt.str_none a t'
  |bl b=>cases rx;exact SeqAt.EqAt.str_bool a t' b
  |int b=>obtain⟨t,rfl⟩:=rx;exact SeqAt.EqAt.str_int a t' b t
  |str b=>obtain⟨t,rfl⟩:=rx;exact SeqAt.EqAt.str_str a t' b t
  |_=>exact absurd (show false=true from fx) Yt
 |_=>exact absurd (show false=true from fy) Yt
noncomputable def eqU(x:V)(u:Value):Bool:=match u with
 |.none=>eqV .non x
 |.bool b=>eqV (.bl b) x
 |.int i _=>eqV (.int i) x
 |.str z _=>eqV (.str z) x
 |_=>false
theorem ZkK{x y:V}{u:Value}(r:RelV y u)(f:Za7 y=true):eqU x u=eqV y x:=by
 cases y with
 |non=>cases r;rfl
 |bl b=>cases r;rfl
 |int i=>obtain⟨t,rfl⟩:=r;rfl
 |str z=>obtain⟨t,rfl⟩:=r;rfl
 |_=>exact absurd (show false=true from f) Yt
theorem Zb0{x:V}:∀{xs:List V}{us:List Value},Vals xs us->xs.all Za7=true->us.any (eqU x)=xs.any λy=>eqV y x
 |_,_,.nil,_=>rfl
 |y::xs,u::us,.cons r t,f=>by
  rw[U8,Yg]at f
  rw[VP,VP,ZkK r f.1,Zb0 t f.2]
theorem XC{A:Around}{s:Shared}{x:V}{v:Value}(rx:RelV x v)(fx:Za7 x=true):∀{xs:List V}{us:List Value},Vals xs us->xs.all Za7=true->∀u∈us,Ybq A s u v (eqU x u)
 |_,_,.nil,_=>λu hu=>by cases hu
 |y::xs,u::us,.cons r t,f=>λu' hu=>by
  rw[U8,Yg]at f
  rcases Ys.mp hu with rfl|hu
  ·rw[ZkK r f.1];exact eqAt_V r rx f.1 fx
  ·exact XC rx fx t f.2 u' hu
noncomputable def inV(x:V)(xs:List V):Bool:=xs.any λy=>eqV y x
noncomputable def rIn(K:Frag)(neg:Bool):R2:=λx y H Q=>∃p xs,y=.ref p/\(SqL K H p xs∨SqT K H p xs)/\Za7 x=true/\xs.all Za7=true/\Q (.bl (if neg then !inV x xs else inV x xs)) H
theorem ZdV:OpR X (Y7 .In) (rIn X.K false):=by
 intro pins s σ H x y v u Q I rx ry h
 obtain⟨p,xs,rfl,hq,fx,fs,q⟩:=h
 cases ry
 rcases hq with hq|hq
 ·obtain⟨its,r,pl,hz⟩:=I.list hq
  refine SeqAt.in_listAt (eqU x) pl.isList (λw hw=>XC rx fx r fs w (by simpa using hw)) ⟨.bl _,H,I,rfl,?_⟩
  rw[show its.toArray.any (eqU x)=its.any (eqU x) by simp,Zb0 r fs]
  exact q
 ·obtain⟨its,r,pl,hz⟩:=I.tuple hq
  refine SeqAt.in_tupleAt (eqU x) pl (λw hw=>XC rx fx r fs w (by simpa using hw)) ⟨.bl _,H,I,rfl,?_⟩
  rw[show its.toArray.any (eqU x)=its.any (eqU x) by simp,Zb0 r fs]
  exact q
theorem ZaV:OpR X (Y7 .NotIn) (rIn X.K true):=by
 intro pins s σ H x y v u Q I rx ry h
 obtain⟨p,xs,rfl,hq,fx,fs,q⟩:=h
 cases ry
 rcases hq with hq|hq
 ·obtain⟨its,r,pl,hz⟩:=I.list hq
  refine SeqAt.notIn_listAt (eqU x) pl.isList (λw hw=>XC rx fx r fs w (by simpa using hw)) ⟨.bl _,H,I,rfl,?_⟩
  rw[show its.toArray.any (eqU x)=its.any (eqU x) by simp,Zb0 r fs]
  exact q
 ·obtain⟨its,r,pl,hz⟩:=I.tuple hq
  refine SeqAt.notIn_tupleAt (eqU x) pl (λw hw=>XC rx fx r fs w (by simpa using hw)) ⟨.bl _,H,I,rfl,?_⟩
  rw[show its.toArray.any (eqU x)=its.any (eqU x) by simp,Zb0 r fs]
  exact q
theorem Za0:J1 X (.type "list") (λxs H Q=>∃p ys,xs=[.ref p]/\(SqL X.K H p ys∨SqT X.K H p ys)/\∀l,H l=none->Q (.ref l) (upd H l (.lst ys))):=by
 intro pins s σ H xs us Q I r h
 obtain⟨p,ys,rfl,hq,q⟩:=h
 obtain⟨u,rfl,rx⟩:=vals1 r
 cases rx
 have fin:∀(its:List Value),Vals ys its->ys.length<=YC->∀(h':Heap) (c':Nat),(∀b o',s.heap.get? b=some o'->h'.get? b=some o') ->
   h'.get? s.heap.objs.size=some { cls:=.type "list",dict:=none,data:=.seq its.toArray c',slots:=#[] }->EP X pins σ Q (.ref s.heap.objs.size) { s with heap:=h' }:=λits r' hz h' c' kp e =>
  ⟨.ref s.heap.objs.size,_,I.laid (t':=s.toks) kp (Yj _) (show QJ X.prog X.w _ h' _ (.lst ys)from⟨hz,its,c',r',e⟩),rfl,q _ (I.hok.fresh (Yj _))⟩
 rcases hq with hq|hq
 ·obtain⟨its,r',pl,hz⟩:=I.list hq
  have hlen:=r'.length
  obtain⟨o,ho,hc,n,hd⟩:=pl.isList
  exact call_list_seq p (.inl rfl) ho hc hd (λh' c' kp e=>fin its r' hz h' c' kp e) (by simp only[Yk]<;>omega)
 ·obtain⟨its,r',pl,hz⟩:=I.tuple hq
  have hlen:=r'.length
  obtain⟨o,ho,hc,n,hd⟩:=pl
  exact call_list_seq p (.inr rfl) ho hc hd (λh' c' kp e=>fin its r' hz h' c' kp e) (by simp only[Yk]<;>omega)
theorem Zab:J1 X (.type "tuple") (λxs H Q=>∃p ys,xs=[.ref p]/\((SqL X.K H p ys/\∀l,H l=none->Q (.ref l) (upd H l (.tup ys)))∨(SqT X.K H p ys/\Q (.ref p) H))):=by
 intro pins s σ H xs us Q I r h
 obtain⟨p,ys,rfl,h⟩:=h
 obtain⟨u,rfl,rx⟩:=vals1 r
 cases rx
 rcases h with⟨hq,q⟩|⟨hq,q⟩
 ·obtain⟨its,r',pl,hz⟩:=I.list hq
  have hlen:=r'.length
  refine call_tuple_list pl.isList (λh' kp=>?_) (by simp only[Yk]<;>omega)
  have I1:Inv X pins σ H { s with heap:=h' }:=I.kept (t':=s.toks) kp
  have I2:Inv X pins σ (upd H h'.objs.size (.tup ys)) { s with heap:=h'.push { cls:=.type "tuple",data:=.seq its.toArray } }:=
   I1.laid (t':=s.toks) (λb o e=>Yc _ e) (Yj _) (show QJ X.prog X.w _ _ _ (.tup ys)from⟨hz,its,r',TupP.new _ _⟩)
  exact⟨.ref h'.objs.size,_,I2,rfl,q _ (I1.hok.fresh (Yj _))⟩
 ·obtain⟨its,r',pl,hz⟩:=I.tuple hq
  exact call_tuple_same pl ⟨.ref p,H,I,rfl,q⟩
noncomputable def tyV(K:Frag)(T:String)(x:V)(H:Hp):Prop:=match x with
 |.str _=>T = "str"
 |.int _=>T = "int"
 |.ref p=>(T = "list"/\∃xs,SqL K H p xs)∨(T = "tuple"/\∃o,K.lookup p=some o/\o.cls=.type "tuple"/\o.dict=none) ∨
  (T = "dict"/\((∃kvs,H p=some (.dK kvs))∨∃kvs,H p=some (.dT kvs)))∨(T = "set"/\∃S n,H p=some (.set S n))
 |_=>False
theorem tyV_is{pins:List (Addr×Obj)}{σ:St}{H:Hp}{s:Shared}{T:String}{x:V}{v:Value}(I:Inv X pins σ H s)(r:RelV x v)(ty:tyV X.K T x H):
  s.TypeIs v T/\∀a,v=.ref a->∃ob,s.heap.get? a=some ob/\ob.dict=none:=by
 cases x with
 |str z =>
  obtain⟨t,rfl⟩:=r
  cases(show T = "str" from ty)
  exact⟨YbT s z t,λ_ e=>nomatch e⟩
 |int i =>
  obtain⟨t,rfl⟩:=r
  cases(show T = "int" from ty)
  exact⟨Ya5 s i t,λ_ e=>nomatch e⟩
 |ref p =>
  cases r
  rcases ty with⟨rfl,xs,hq⟩|⟨rfl,o,hk,hc,hd⟩|⟨rfl,hk⟩|⟨rfl,S,n,hk⟩
  ·obtain⟨its,_,pl,_⟩:=I.list hq
   refine⟨pl.isList.typeIs,λa e=>?_⟩
   cases e
   obtain⟨o,n,e,c,hd,_⟩:=pl
   exact⟨o,e,hd⟩
  ·refine⟨⟨o,I.kIn p o hk,hc⟩,λa e=>?_⟩
   cases e
   exact⟨o,I.kIn _ o hk,hd⟩
  ·have z:∃o,s.heap.get? p=some o/\o.ExactDict:=by
    rcases hk with⟨kvs,hk⟩|⟨kvs,hk⟩
    ·obtain⟨_,_,_,_,o,_,_,e,ex,_⟩:=I.hok p _ hk
     exact⟨o,e,ex⟩
    ·obtain⟨_,_,_,_,o,_,_,e,ex,_⟩:=I.hok p _ hk
     exact⟨o,e,ex⟩
   obtain⟨o,e,ex⟩:=z
   refine⟨⟨o,e,ex.1⟩,λa e2=>?_⟩
   cases e2
   exact⟨o,e,ex.2.1⟩
  ·obtain⟨o,_,_,_,e,ex,_⟩:=I.hok p _ hk
   refine⟨⟨o,e,ex.1⟩,λa e2=>?_⟩
   cases e2
   exact⟨o,e,ex.2.1⟩
 |_=>exact U0 ty
noncomputable def tBM(K:Frag)(T:String)(r:V->List V->Hp->VK->Prop)(to:TE)(t:TA):TE:=λσ H Q=>to σ H λx H1=>tyV K T x H1/\t σ H1 λxs H2=>r x xs H2 Q
variable{o e:Expr}{es:List Expr}{to:TE}{t:TA}{name:Str}{apos cpos:Pos}{T id:String}{r:V->List V->Hp->VK->Prop}
theorem pe_bm(pa:PlainAttrs T)(slot:Slot T name id)(hty:typeOf (.builtin id)=pure (.type "method_descriptor"))(hm:MtR X id r)(ho:PE X o to)(ha:PA X (e::es) t)(hbase:Vk o name X.env (eval o X.env)=eval o X.env:=by rfl)(hfew:((backTo cpos (Wq (e::es) X.env)).all (λx=>!x.1)&&(Yb0 cpos (Ybc [] X.env)).all (λx=>x.1.isSome)
   && decide ((e::es).length+([]:List Yb1).length+(if([]:List Yb1).isEmpty then 0 else 1)<30))=true:=by rfl)(hline:(apos.endLine==cpos.line)=true:=by rfl)(hs:Wq (e::es) X.env=(false,eval e X.env)::Wq es X.env:=by rfl)(hplain:(backTo cpos (Wq es X.env)).any (·.1)=false:=by rfl):
  PE X (.Call (.Attribute o name apos) (e::es) [] cpos) (tBM X.K T r to t):=by
 intro pins s σ H Q I h
 refine wpAny_Call_method_late hbase hfew hline rfl (thn (ho pins s σ H _ I h) λv s1 ⟨x,H1,I1,r1,ty,q1⟩=>?_)
 obtain⟨h1,h2⟩:=tyV_is I1 r1 ty
 refine⟨T,id,pa,slot,hty,h1,h2,?_⟩
 have hA:=ha cpos pins s1 σ H1 _ I1 q1
 rw[hs]at hA ⊢
 refine Calls.callWith_builtin (by show(false || (backTo cpos (Wq es X.env)).any (·.1))=false;rw[hplain]<;>rfl) (Calls.evalArgs_plain ?_)
 exact thn hA λus s2 ⟨vs,H2,I2,r2,q2⟩=>hm pins s2 σ H2 x vs v us Q I2 r1 r2 q2
end
noncomputable def MtM(X:Cx)(id:String)(r:V->List V->Hp->VK->Prop):Prop:=
 ∀(pins:List (Addr×Obj)) (s:Shared) (σ:St) (H:Hp) (x:V) (xs:List V) (v:Value) (us:List Value) (Q:VK),Inv X pins σ H s->RelV x v->Vals xs us->r x xs H Q ->
  wpAny (model X.prog X.w) X.A (call (.builtin id) (v::us)) (EP X pins σ Q) X.xe s
theorem Vals.one:∀{x:V}{us:List Value},Vals [x] us->∃u,us=[u]/\RelV x u
 |_,_,.cons r .nil=>⟨_,rfl,r⟩
theorem Vals.eraseIdx:∀{xs:List V}{us:List Value}(i:Nat),Vals xs us->Vals (xs.eraseIdx i) (us.eraseIdx i)
 |_,_,_,.nil=>.nil
 |_,_,0,.cons _ t=>t
 |_,_,i+1,.cons r t=>.cons r (Vals.eraseIdx i t)
theorem Vals.rep{xs:List V}{us:List Value}(h:Vals xs us):∀k:Nat,Vals (Yn k xs).flatten (Yn k us).flatten
 |0=>.nil
 |k+1=>by
  rw[WD,WD,Ux,Ux]
  exact Vals.append h (Vals.rep h k)
theorem Zd2{α:Type}:∀(l:List α) (i:Nat),(l.eraseIdx i).length<=l.length
 |[],_=>Yj _
 |_::_,0=>UJ _
 |_::r,i+1=>Nat.succ_le_succ (Zd2 r i)
theorem foldl_rep(its:List Value):∀(k:Nat) (acc:List Value),
  Yat (λx1 x2=>x1++x2) acc.toArray (Yn k its.toArray)=(acc++(Yn k its).flatten).toArray
 |0,acc=>by simp
 |k+1,acc=>by
  have e:acc.toArray++its.toArray=(acc++its).toArray:=by simp
  have e2:(acc++its)++(Yn k its).flatten=acc++(Yn (k+1) its).flatten:=by
   rw[WD,Ux,YW]
  rw[<-e2,<-foldl_rep its k (acc++its),<-e,WD,V4]
section
variable{X:Cx}{pins:List (Addr×Obj)}{σ:St}{H:Hp}{s:Shared}{l b:Addr}{xs ys zs:List V}
theorem Inv.lset{its its':List Value}{n:Nat}{f:Array Value->Array Value}{t':Nat}(I:Inv X pins σ H s)(hH:H l=some (.lst xs))(e:s.heap.get? l=some { cls:=.type "list",data:=.seq its.toArray n })(hf:f its.toArray=its'.toArray)(hv:Vals ys its')(hz:ys.length<=YC):
  Inv X pins σ (upd H l (.lst ys)) { s with heap:=s.heap.update l (Ui f),toks:=t' }:=by
 have q:=PySem.IsL.update e f
 rw[hf]at q
 refine I.write (x:=l) (e:=l) (by rw[hH];exact trivial) (.inl rfl) (λb' u hb hu=>(Y6 s.heap (Ui f) (WR hb)).trans hu) ⟨_,q⟩ ?_
 exact⟨hz,its',_,hv,q⟩
theorem Inv.lnew{its:List Value}{t':Nat}(I:Inv X pins σ H s)(hv:Vals ys its)(hz:ys.length<=YC):
  Inv X pins σ (upd H s.heap.objs.size (.lst ys)) { s with heap:=s.heap.push { cls:=.type "list",data:=.seq its.toArray },toks:=t' }:=
 I.laid (λ_ _ q=>Yc _ q) (Yj _) ⟨hz,its,0,hv,Yl _ rfl⟩
theorem Inv.fresh(I:Inv X pins σ H s):H s.heap.objs.size=none:=I.hok.fresh (Yj _)
theorem Inv.lstM(I:Inv X pins σ H s)(hH:H l=some (.lst xs)):xs.length<=YC/\∃(its:List Value) (n:Nat),Vals xs its/\xs.length=its.length/\s.heap.get? l=some { cls:=.type "list",data:=.seq its.toArray n }:=by
 obtain⟨z,its,n,r,e⟩:=I.hok l _ hH
 exact⟨z,its,n,r,r.length,e⟩
theorem ZjO{n:Nat}(h:n<=YC):Vb n=false:=by
 unfold Vb
 exact decide_eq_false (by omega)
end
section
variable{X:Cx}
noncomputable def Zk6:V->List V->Hp->VK->Prop:=λx vs H Q=>∃l xs y,x=.ref l/\vs=[y]/\H l=some (.lst xs)/\xs.length<YC/\Q .non (upd H l (.lst (xs++[y])))
theorem Zh7:MtM X "list.append" Zk6:=by
 intro pins s σ H x vs v us Q I rx rv h
 obtain⟨l,xs,y,rfl,rfl,hH,hz,q⟩:=h
 cases rx
 obtain⟨u,rfl,ru⟩:=rv.one
 obtain⟨z,its,n,r,hl,e⟩:=I.lstM hH
 refine Vc F.slot_list_append ⟨_,e,rfl⟩ F.entry_list_append (F.args_list_append_2 _ _) (PySem.list_append l its.toArray n u (by rw[Yk];omega)) ⟨e,?_⟩
 refine⟨.non,_,I.lset (its':=its++[u]) hH e (by simp) (r.append (.cons ru .nil)) ?_,rfl,q⟩
 rw[Yh,WF]
 omega
noncomputable def rPopAt:V->List V->Hp->VK->Prop:=λx vs H Q=>∃l xs i k y,x=.ref l/\vs=[.int i]/\H l=some (.lst xs)/\-(2^63)<=i/\i<2^63/\Yca i xs.length=some k/\xs[k]?=some y/\Q y (upd H l (.lst (xs.eraseIdx k)))
theorem ZjT:MtM X "list.pop" rPopAt:=by
 intro pins s σ H x vs v us Q I rx rv h
 obtain⟨l,xs,i,k,y,rfl,rfl,hH,h1,h2,hk,hy,q⟩:=h
 cases rx
 obtain⟨u,rfl,ru⟩:=rv.one
 obtain⟨t,rfl⟩:=ru
 obtain⟨z,its,n,r,hl,e⟩:=I.lstM hH
 obtain⟨w,hw,rw'⟩:=r.get hy
 refine Vc F.slot_list_pop ⟨_,e,rfl⟩ F.entry_list_pop (F.args_list_pop_2 _ _)
  (MeetsSeq.list_pop_at l its.toArray n i t k w (fitsIndex_both h1 h2) (by rw[Yk,<-hl];exact hk) (by rw[<-U9];exact hw) (by rw[Yk];omega)) ⟨e,?_⟩
 refine⟨y,_,I.lset (its':=its.eraseIdx k) hH e ?_ (r.eraseIdx k) ?_,rw',q⟩
 ·show its.toArray.eraseIdxIfInBounds k=(its.eraseIdx k).toArray
  rw[List.eraseIdxIfInBounds_toArray]
 ·have:=Zd2 xs k
  omega
noncomputable def rCat:R2:=λx y H Q=>∃l b xs zs,x=.ref l/\y=.ref b/\H l=some (.lst xs)/\H b=some (.lst zs)/\xs.length+zs.length<=YC/\∀p,H p=none->Q (.ref p) (upd H p (.lst (xs++zs)))
theorem op_cat:OpR X (WW .Add) rCat:=by
 intro pins s σ H x y v u Q I rx ry h
 obtain⟨l,b,xs,zs,rfl,rfl,hH,hB,hz,q⟩:=h
 cases rx
 cases ry
 obtain⟨z,its,n,r,hl,e⟩:=I.lstM hH
 obtain⟨z2,its2,n2,r2,hl2,e2⟩:=I.lstM hB
 refine PySem.P.add_list e e2 ?_ (by rw[Yk,Yk];omega)
 have ea:its.toArray++its2.toArray=(its++its2).toArray:=by simp
 rw[ea]
 exact⟨.ref _,_,I.lnew (t':=s.toks) (r.append r2) (by rw[Yh];omega),rfl,q _ I.fresh⟩
noncomputable def rRep:R2:=λx y H Q=>∃l k xs,x=.ref l/\y=.int k/\H l=some (.lst xs)/\-(2^63)<=k/\k<2^63/\xs.length*k.toNat<=YC /\
 ∀p,H p=none->Q (.ref p) (upd H p (.lst (Yn k.toNat xs).flatten))
theorem len_rep{α:Type}(xs:List α)(k:Nat):(Yn k xs).flatten.length=k*xs.length:=by
 induction k with
 |zero=>simp
 |succ k ih=>rw[WD,Ux,Yh,ih,Nat.succ_mul,Nat.add_comm]
theorem op_rep:OpR X (WW .Mult) rRep:=by
 intro pins s σ H x y v u Q I rx ry h
 obtain⟨l,k,xs,rfl,rfl,hH,h1,h2,hz,q⟩:=h
 cases rx
 obtain⟨t,rfl⟩:=ry
 obtain⟨z,its,n,r,hl,e⟩:=I.lstM hH
 have hlen:its.toArray.size*k.toNat<=YC:=by rw[Yk,<-hl];exact hz
 have hcap:¬its.toArray.size*k.toNat>(2^63-1) / 8:=by
  have:(YC:Nat)<=(2^63-1) / 8:=by decide
  omega
 have hfit:¬(!Builtin.List.listFitsIndex k)=true:=by
  rw[fitsIndex_both h1 h2]
  exact Yt
 have hlong:¬Vb (its.toArray.size*k.toNat)=true:=by
  rw[ZjO hlen]
  exact Yt
 have hnew:Yat (λx1 x2=>x1++x2) #[] (Yn (if its.toArray.isEmpty=true then 0 else k.toNat) its.toArray)=(Yn k.toNat its).flatten.toArray:=by
  have f0:∀m:Nat,Yat (λx1 x2=>x1++x2) #[] (Yn m its.toArray)=(Yn m its).flatten.toArray:=λm=>by
   have:=foldl_rep its m []
   rw[Gy]at this
   exact this
  rw[f0]
  cases its with
  |nil=>simp
  |cons a r'=>rw[if_neg (by simp)]
 refine wpAny_binaryOp_repeat_ref (T:="list") (U:="int") (by decide) ⟨_,e,rfl⟩ (λs'=>Ya5 s' k t) noFill_list_mul F.fills_int_mul V5 repeat_list F.slot_int_index.lookup
  (Vc V5 (Ya5 s k t) F.entry_int_rmul (F.args_int_rmul_2 _ _) (int___rmul___int_list k t l its.toArray n)
   ⟨e,rfl,⟨_,e,rfl⟩,Vc F.slot_list_mul ⟨_,e,rfl⟩ F.entry_list_mul (F.args_list_mul_2 _ _) (AutoListH.list___mul___list_int_3 l its.toArray n k t hfit hcap hlong) ⟨e,?_⟩⟩)
 rw[hnew]
 exact⟨.ref _,_,I.lnew (t':=s.toks) (r.rep k.toNat) (by rw[len_rep,YbA];exact hz),rfl,q _ I.fresh⟩
end
section
variable{prog:Yx}{w:World}{A:Around}{E:Value->Shared->Prop}{s:Shared}
set_option maxRecDepth 100000 in
end
end L2
namespace Att
open PySem PySem.W PySem.Calls PyProof.Rows
theorem ZbF{P:Params}{h:Heap}:∀(ns:List Int) (vs:List Value),WellAll P h vs (ns.map WData.int)->Ybr vs ns:=by
 intro ns
 induction ns with
 |nil =>
  intro vs w
  rw[List.map_nil]at w
  cases w
  exact .nil
 |cons n ns ih =>
  intro vs w
  rw[Wa]at w
  cases w with
  |cons a b =>
   cases a
   exact .cons _ _ (ih _ b)
theorem Zho{l:YbK}{n:Nat}(hn:l.most=some n){P:Params}{h:Heap}{args:List WData}{vals:List Value}(hpre:l.row.toRowW.claim.pre args=true)(hwl:WellAll P h vals args):
  ∃a vs ns,vals=[Y5 a]/\args=[WData.list (ns.map WData.int)]/\h.get? a=some { cls:=.type "list",data:=.seq vs.toArray }/\Ybr vs ns/\ns.length<=n:=by
 have hsh:WShape.hasAll [] args [.list .int]=true:=(pre_splitW hpre).1
 have hc:l.pre.holds [] { args:=args }=true:=(pre_splitW hpre).2
 obtain⟨d,r,rfl,h1,h2⟩:=hasAllW_cons hsh
 obtain rfl:=hasAllW_nil h2
 obtain⟨xs,rfl,h3⟩:=hasW_list h1
 obtain⟨ns,rfl⟩:=items_int h3
 have hlen:ns.length<=n:=by
  unfold OpenLaw.pre at hc
  have h4:(WTm.not (.lt (.lit (.int (n:Int))) (.len (.arg 0)))).holds [] { args:=[.list (ns.map .int)] }=true:=by
   have h4:=(holds_andW hc).1
   rw[hn]at h4
   exact h4
  have h5:=condW_of h4 (w_not (w_lt w_lit (w_len_list (w_arg rfl))))
  rw[Yi]at h5
  refine Nat.le_of_not_lt λq=>?_
  have q':(n:Int)<((ns.length:Nat):Int):=by omega
  first
   |(rw[decide_eq_true q']at h5;exact absurd h5 (by decide))
   |(simp at h5;omega)
 cases hwl with
 |cons w1 w2 =>
  cases w2
  cases w1 with
  |list ho hall=>exact⟨_,_,ns,rfl,rfl,ho,ZbF ns _ hall,hlen⟩
theorem ZhC(l:YbK)(args:List WData):l.row.toRowW.claim.post args (.bool true) args=true:=
 postW_of (r:=l.row.toRowW) (X:=(true==true))
  (show WShape.has [] (.bool true) .bool=true by first|rfl|decide|simp[WShape.has,WShape.arms,WShape.armsAll])
  (show(WTm.eq .res (.lit (.bool true))).value [] { args:=args,res:=some (.bool true),after:=args }=some (.bool (true==true))from w_eq_bool (w_res rfl) w_lit) rfl
theorem attach_call{l:YbK}{n:Nat}{q:Yx}{loose:List Str}{XP:(Str->Option Value)->Heap->Prop}{YP:World->Heap->Prop}{d:DefRec}(hn:l.most=some n)(hdf:d.params.defaults=[])(call:∀(w:World) (s₀ s₁:Shared) (mg mb:Str->Option Value) (fa:Addr) (o:Obj) (pm cd doc:Value) (a:Addr) (vs:List Value) (ns:List Int),
   Ground q loose [] XP w s₀ mg mb s₁.heap->YP w s₁.heap ->
   s₁.heap.get? fa=some o->o.data=.func (docDef d.name d.params d.body d.scope pm cd doc)->s₁.heap.CodeRec cd d.name->mg d.name=some (.ref fa) ->
   s₁.heap.get? a=some { cls:=.type "list",data:=.seq vs.toArray }->Ybr vs ns->ns.length<=n->s₁.gens=#[] ->
   Gv (model l.prog w) Ybs (.call (.ref fa) ⟨[.ref a],[]⟩) (λr s'=>r=.ok (.ret (.bool true))/\OldK s₁.heap s'.heap/\s'.os=s₁.os/\YaD s'.gens) s₁):
  WalkO q loose XP YP l.row.toRowW d [] (λf vs=>GD f vs):=by
 intro w s₀ s₁ mg mb G Y fa o pm cd doc dV kV ho hd hcd hD hmg hg args vals as hpre hlay hrd hwl hlo
 obtain rfl:dV=.none:=Dflts.none hD hdf
 obtain rfl:kV=.none:=Dflts.noKw hD
 obtain⟨a,vs,ns,rfl,rfl,hobj,hints,hlen⟩:=Zho hn hpre hwl
 refine enter_call (U6 (call w s₀ s₁ mg mb fa o pm cd doc a vs ns G Y ho (fd_plain hd) hcd hmg hobj hints hlen hg) λr s' hq=>?_)
 obtain⟨rfl,h2,h3,h4⟩:=hq
 exact⟨.inl ⟨.bool true,.bool true,[],rfl,λ_=>rfl,.bool true,ZhC l _,λ_=>⟨List.Pairwise.nil,λ_ hm=>(nomatch hm)⟩⟩,h2,h3,h4⟩
end Att
namespace L2
open PySem PySem.Spec PyProof.Rows
theorem Zdv:∀{vs:List Value}{ns:List Int},Ybr vs ns->Vals (ns.map V.int) vs
 |_,_,.nil=>.nil
 |_,_,.cons n t h=>.cons ⟨t,rfl⟩ (Zdv h)
noncomputable def Qk(s:Stmt):YaZ:=match s with
 |.FunctionDef _ a _ _ _ _ _ _ _ _=>a
 |_=>{ posonlyargs:=[],args:=[],vararg:=none,kwonlyargs:=[],kw_defaults:=[],kwarg:=none,defaults:=[] }
noncomputable def Zv(s:Stmt):List Stmt:=match s with
 |.FunctionDef _ _ b _ _ _ _ _ _ _=>b
 |_=>[]
noncomputable def Za(s:Stmt):Scope:=match s with
 |.FunctionDef _ _ _ _ _ _ sc _ _ _=>sc
 |_=>{ kind:=.function,names:=[],isGenerator:=false,isCoroutine:=false }
noncomputable abbrev CX0:CXT:=λ_ _ _ _ _ _=>False
structure Fun (K:Frag) (x qual:Str) (st:Stmt) (f:Addr) (fd:W5):Prop where
 ex:∃(oc:Value) (od:Option Addr) (kV doc pm:Value) (an:Option Addr) (cdv ct:Value) (osl:Array (Option Value)),
  fd=fnOf x qual (Qk st) (Zv st) (Za st) .none kV doc pm an cdv ct/\K.lookup f=some ⟨oc,od,.func fd,osl⟩/\codeIn K cdv qual=true
 kp:keepIn K (.ref f)=true
section
variable{P:Yx}{w:World}{K:Frag}{mg:Str->Option Value}{base:Heap}
theorem Fun.binds{x qual:Str}{st:Stmt}{f:Addr}{fd:W5}{ps:List Str}(F:Fun K x qual st f fd)(h:∀(kV doc pm:Value) (an:Option Addr) (cdv ct:Value) (us:List Value),us.length=ps.length->Uk (fnOf x qual (Qk st) (Zv st) (Za st) .none kV doc pm an cdv ct) ⟨us,[]⟩=pure (ps.zip us)):Binds K fd ps []:=by
 obtain⟨oc,od,kV,doc,pm,an,cdv,ct,osl,rfl,lk,hcd⟩:=F.ex
 exact .all (h kV doc pm an cdv ct)
theorem X3{x qual:Str}{st:Stmt}{f:Addr}{oc:Value}{od an:Option Addr}{osl:Array (Option Value)}{kV doc pm cdv ct:Value}(l:K.lookup f=some ⟨oc,od,.func (fnOf x qual (Qk st) (Zv st) (Za st) .none kV doc pm an cdv ct),osl⟩)(c:codeIn K cdv qual=true)(k:keepIn K (.ref f)=true):Fun K x qual st f (fnOf x qual (Qk st) (Zv st) (Za st) .none kV doc pm an cdv ct):=⟨⟨oc,od,kV,doc,pm,an,cdv,ct,osl,rfl,l,c⟩,k⟩
end
theorem iteF{A B:Prop}(h:B):if false=true then A else B:=by
 rw[if_neg Yt]
 exact h
theorem iteT{A B:Prop}(h:A):if true=true then A else B:=by
 rw[if_pos rfl]
 exact h
noncomputable def Same(H H':Hp):Prop:=∀b o,H b=some o->H' b=some o
end L2
end
namespace L2
open PySem PySem.Spec PyProof.Rows
section
variable{κ:Type}[DecidableEq κ]
noncomputable def valV(kvs:List (κ×V))(k:κ):Option V:=(kvs.find? λkv=>decide (kv.1=k)).map (·.2)
noncomputable def putK(kvs:List (κ×V))(k:κ)(v:V):List (κ×V):=
 if(kvs.any λkv=>decide (kv.1=k))=true then kvs.map (λkv=>if kv.1=k then(kv.1,v)else kv)else kvs++[(k,v)]
noncomputable def dropK(kvs:List (κ×V))(k:κ):List (κ×V):=kvs.filter λkv=>decide (kv.1≠k)
end
noncomputable abbrev KT(H:Hp):List (List Key×V)->List (List Key×Addr×Value)->Prop:=Paired λp q=>p.1=q.1/\H q.2.1=some (.tup (p.1.map kV))/\RelV p.2 q.2.2
noncomputable def DGet(H:Hp)(a:Addr)(y:V)(r:Option V):Prop:=
 (∃kvs k,Rd H a (.dK kvs)/\y=kV k/\r=valV kvs k)∨∃kvs k b,Rd H a (.dT kvs)/\y=.ref b/\H b=some (.tup (k.map kV))/\r=valV kvs k
noncomputable def DPut(H:Hp)(a:Addr)(y v:V)(H':Hp):Prop:=
 (∃kvs k,H a=some (.dK kvs)/\y=kV k/\kvs.length<YC/\H'=upd H a (.dK (putK kvs k v))) ∨
 ∃kvs k b,H a=some (.dT kvs)/\y=.ref b/\H b=some (.tup (k.map kV))/\kvs.length<YC/\H'=upd H a (.dT (putK kvs k v))
section
variable{X:Cx}{pins:List (Addr×Obj)}{σ:St}{H:Hp}{s:Shared}{a:Addr}{y v:V}{u r:Value}{o:Option V}{A:Around}{E:Value->Shared->Prop}
theorem Inv.big(I:Inv X pins σ H s):V0<s.heap.objs.size:=by
 have h:Yr<s.heap.objs.size:=(I.mod.glob.keeps I.bk).lt
 exact Vd (by decide) h
end
theorem Zj8{P:Yx}{w:World}{H:Hp}(h:Heap)(hb:V0<h.objs.size):QJ P w H (h.push { cls:=.type "dict",data:=.dict #[] }) h.objs.size (.dK []):=
 ⟨Wd _,beq_eq_false_iff_ne.mpr (WR (Yv hb)),[],.nil,Heap.DictOf.new h⟩
noncomputable def tDNewK:TE:=λ_ H Q=>∀p,H p=none->Q (.ref p) (upd H p (.dK []))
section
variable{X:Cx}{pos:Pos}
theorem ZjI:PE X (.Dict [] [] pos) tDNewK:=λpins s σ H Q I h =>
 wpAny_Dict_empty ⟨.ref s.heap.objs.size,_,I.laid (a:=s.heap.objs.size) (o:=.dK []) (t':=s.toks) (λ_ _ q=>Yc _ q) (Yj _) (Zj8 s.heap I.big),rfl,h _ (I.hok.fresh (Yj _))⟩
end
end L2
namespace Mi
open PySem PySem.Spec PyProof.Rows L2
theorem ZcU(t:Ut)(n:Nat):(t.orStandIn n).led=t.led:=by unfold SetTable.orStandIn;split<;>rfl
theorem Zbv(t:Ut)(n:Nat)(h:t.plain=false):(t.orStandIn n).plain=false:=by unfold SetTable.orStandIn;split<;>first|exact h|rfl
theorem Zgx(t:Ut)(es:Array (Int×Value))(h:Int)(x:Value):(layNew t es h x).2.1.led=t.led:=by
 unfold layNew
 split
 ·exact ZcU _ _
 ·rfl
theorem Zd3(t:Ut)(es:Array (Int×Value))(h:Int)(x:Value)(hp:t.plain=false):(layNew t es h x).2.1.plain=false:=by
 unfold layNew
 split
 ·exact Zbv _ _ hp
 ·rfl
theorem Zcd{t t':Ut}{hs:Array Int}{n:Nat}{o:Array Nat}(h:t.relaid hs n=some (t',o)):t'.led=t.led/\t'.plain=t.plain:=by
 unfold SetTable.relaid SetTable.laid at h
 simp only[Option.bind_eq_bind]at h
 obtain⟨w,_,h2⟩:=Option.bind_eq_some_iff.mp h
 cases h2
 exact⟨rfl,rfl⟩
theorem ZdM(t:Ut)(es:Array (Int×Value))(n:Nat):(YaG t es n).2.1.led=t.led:=by
 unfold YaG
 split
 ·rename_i t' o h
  dsimp only
  split
  ·exact(Zcd h).1
  ·rfl
 ·rfl
theorem Zb3(t:Ut)(es:Array (Int×Value))(n:Nat)(hp:t.plain=false):(YaG t es n).2.1.plain=false:=by
 unfold YaG
 split
 ·rename_i t' o h
  dsimp only
  split
  ·exact(Zcd h).2.trans hp
  ·rfl
 ·rfl
structure SetE (prog:Yx) (w:World) (led:Bool) (o:Obj) (D:List Str) (es:Array (Int×Value)) (ep:Nat) (t:Ut):Prop where
 ex:o.ExactSet
 data:o.data=.set es ep t
 el:ElemsOf (Wx prog w) es.toList
 txs:(es.toList.map λe=>strOf e.2).Perm D
 nd:D.Nodup
 room:es.size<Vp
 fits:t.fits es.size=true
 led:t.led=led
 plain:es.size≠0->t.plain=false
noncomputable def SetS(prog:Yx)(w:World)(led:Bool)(h:Heap)(a:Addr)(D:List Str):Prop:=∃o es ep t,h.get? a=some o/\SetE prog w led o D es ep t
theorem ZbE{x:Str}{v:Value}(h:Gk x v=true):strOf v=x:=by
 obtain⟨t,rfl⟩:=V1 h
 rfl
section
variable{prog:Yx}{w:World}{A:Around}{E:Value->Shared->Prop}{s:Shared}{led:Bool}
theorem Zjf{v:Value}(h:∃k,(Wx prog w).is k v=true):Gk (strOf v) v=true:=by
 obtain⟨k,hk⟩:=h
 have hk:Gk k v=true:=hk
 rw[ZbE hk]
 exact hk
theorem ZfA{es:List (Int×Value)}(he:ElemsOf (Wx prog w) es)(k:Str):(∃e∈es,(Wx prog w).is k e.2=true)↔k∈es.map λe=>strOf e.2:=by
 constructor
 ·rintro ⟨e,he,hk⟩
  exact Uc.mpr ⟨e,he,ZbE hk⟩
 ·intro h
  obtain⟨e,hm,rfl⟩:=Uc.mp h
  obtain⟨⟨k,hk,_⟩,_⟩:=he e hm
  exact⟨e,hm,Zjf ⟨k,hk⟩⟩
theorem add_str{a:Addr}{D:List Str}{x:Str}{tk:Tok}{Q:Bool->Shared->Prop}(hS:SetS prog w led s.heap a D)(hroom:D.length+1<Vp)(h:∀h' b,Gs a s.heap h'->SetS prog w led h' a (if x∈D then D else D++[x])->Q b { s with heap:=h' }):
  wpAny (model prog w) A (YbB a (.str x tk) (hashStr w x)) Q E s:=by
 obtain⟨o,es,ep,t,ho,hE⟩:=hS
 have hex:=hE.ex
 have hd:=hE.data
 have hel:=hE.el
 have hf:=hE.fits
 have hkey:(Wx prog w).is x (.str x tk)=true:=by show Gk x (.str x tk)=true;simp[Gk]
 have hsc:(GQ x tk).scannable=true:=rfl
 have hlen:es.size=D.length:=by rw[<-hE.txs.length_eq,Yi,YL]
 show wpAny (model prog w) A (YbB a (.str x tk) ((Wx prog w).hash x)) Q E s
 unfold YbB setAddHashedIn
 refine Wg (Yb (W4 ho hd hf ?_))
 dsimp only
 rw[byScan_of hsc hE.room hel]
 simp only[↓reduceIte]
 unfold setAddByScan
 refine Yb ?_
 refine Yb (Ve ?_)
 refine Yb (wpAny_setScan_of hkey ho hd hf hel ?_)
 cases hr:List.findIdx? (λe=>(Wx prog w).is x e.2) es.toList with
 |some j =>
  dsimp only
  obtain⟨hj,hpj,_⟩:=List.findIdx?_eq_some_iff_getElem.mp hr
  have hm:x∈D:=hE.txs.mem_iff.mp ((ZfA hel x).mp ⟨_,YaP hj,hpj⟩)
  refine Yd (Yd ?_)
  have:=h s.heap false (Heap.SameBut.refl a s.heap) (by rw[if_pos hm];exact⟨o,es,ep,t,ho,hE⟩)
  exact this
 |none =>
  dsimp only
  have hm:x∉D:=λhx=>by
   obtain⟨e,he,hp⟩:=(ZfA hel x).mpr (hE.txs.mem_iff.mpr hx)
   have:=List.findIdx?_eq_none_iff.mp hr e he
   rw[hp]at this
   exact Bool.noConfusion this
  have hgw:∀(b:Bool) (s₁:Shared) (Q':Unit->Shared->Prop),Q' () s₁->wpAny (model prog w) A (match b with|true=>rule "set.scan.the-table-gave-way" | false=>pure ()) Q' E s₁:=
   λb s₁ Q' hq=>by cases b<;>first|exact Yd hq|exact Ve hq
  have hperm:=layNew_perm t es ((Wx prog w).hash x) (.str x tk)
  have hfits:=layNew_fits t es ((Wx prog w).hash x) (.str x tk)
  have hled:=Zgx t es ((Wx prog w).hash x) (.str x tk)
  have hplain:=Zd3 t es ((Wx prog w).hash x) (.str x tk)
  generalize hL:layNew t es ((Wx prog w).hash x) (.str x tk)=L at hperm hfits hled hplain ⊢
  obtain⟨es1,t1,wasDummy,gave⟩:=L
  dsimp only at hperm hfits hled hplain ⊢
  rw[Array.toList_push]at hperm
  have hel1:ElemsOf (Wx prog w) es1.toList:=(hel.push hkey hsc).perm hperm
  have hsz1:es1.size=es.size+1:=by rw[<-YL,hperm.length_eq,Yh,YL];rfl
  have hb1:es1.size<Vp:=by omega
  have hst1:(es1.toList.map λe=>strOf e.2).Perm (D++[x]):=by
   refine(hperm.map _).trans ?_
   rw[V6]
   exact hE.txs.append_right _
  have hnd:(D++[x]).Nodup:=by
   rw[Yau]
   refine⟨hE.nd,by simp,λy hy z hz=>?_⟩
   rw[Wl.mp hz]
   exact λe=>hm (e▸hy)
  -- the end,at a table that is plain no more
  have fin:∀t2:Ut,t2.led=led->t2.plain=false->t2.fits es1.size=true->wpAny (model prog w) A (do
    storeSet a es1 t2
    if(!wasDummy&&t2.tooFull)=true then do
      (match(YaG t2 es1 (Gf es1.size)).2.2 with|true=>rule "set.scan.the-table-gave-way" | false=>pure ())
      storeSet a (YaG t2 es1 (Gf es1.size)).1 (YaG t2 es1 (Gf es1.size)).2.1
      pure (some true)
     else pure (some true)) (λr s'=>match r with
      |some b=>Q b s'
      |none=>False) E s:=λt2 hl2 hp2 hf2=>by
   have hg1:(s.heap.update a (Yav es1 t2)).get? a=some { o with data:=.set es1 (ep+1) t2 }:=by
    have:=Wo (Yav es1 t2) ho (by rw[putSet_of es1 t2 hd];rfl)
    rw[putSet_of es1 t2 hd]at this
    exact this
   have hsb1:=WK s.heap a (Yav es1 t2)
   refine Yb (wpAny_storeSet_of ho hd ?_ (Yaw hb1))
   split
   ·have hp:=relayAll_perm t2 es1 (Gf es1.size)
    have hfr:=relayAll_fits t2 es1 (Gf es1.size)
    have hrl:=ZdM t2 es1 (Gf es1.size)
    have hrp:=Zb3 t2 es1 (Gf es1.size) hp2
    generalize YaG t2 es1 (Gf es1.size)=Rl at hp hfr hrl hrp ⊢
    obtain⟨es2,t3,gave2⟩:=Rl
    dsimp only at hp hfr hrl hrp ⊢
    have hsz:es2.size=es1.size:=by rw[<-YL,hp.length_eq,YL]
    refine Yb (hgw _ _ _ ?_)
    refine Yb (wpAny_storeSet_of hg1 rfl ?_ (Yaw (by omega)))
    have hg2:((s.heap.update a (Yav es1 t2)).update a (Yav es2 t3)).get? a=some { o with data:=.set es2 (ep+1+1) t3 }:=
     Wo (Yav es2 t3) hg1 rfl
    refine Yd (h _ true (hsb1.trans (WK _ a _)) ?_)
    rw[if_neg hm]
    exact⟨_,es2,_,t3,hg2,⟨hex,rfl,hel1.perm hp,(hp.map _).trans hst1,hnd,by omega,hfr,hrl.trans hl2,λ_=>hrp⟩⟩
   ·refine Yd (h _ true hsb1 ?_)
    rw[if_neg hm]
    exact⟨_,es1,_,t2,hg1,⟨hex,rfl,hel1,hst1,hnd,hb1,hf2,hl2,λ_=>hp2⟩⟩
  refine Yb (hgw _ _ _ ?_)
  have done:∀{r:Option Bool}{s':Shared},(match r with
    |some b=>Q b s'
    |none=>False)->wpAny (model prog w) A (match r with
     |some added=>pure added
     |none=>setAddHashedIn a (.str x tk) ((Wx prog w).hash x) 99999) Q E s':=λ{r s'} hr=>by
   cases r with
   |none=>exact hr.elim
   |some b=>exact Yd hr
  split
  ·refine Yb ?_
   rw[hashByValue_scannable 8 hsc]
   refine Yd ?_
   exact Uq (fin { t1 with plain:=false } (hled.trans hE.led) rfl (SetTable.fits_plain_off hfits)) (λr s' hr=>done hr) λ_ _ e=>e
  ·rename_i hpl
   refine Yb (Yd ?_)
   simp only[↓reduceIte]
   exact Uq (fin t1 (hled.trans hE.led) (by simpa using hpl) hfits) (λr s' hr=>done hr) λ_ _ e=>e
noncomputable def dd(val:Nat->Str):Nat->List Str
 |0=>[]
 |i+1=>if val i∈dd val i then dd val i else dd val i++[val i]
theorem ZfH(val:Nat->Str):∀i,(dd val i).length<=i
 |0=>Yj _
 |i+1=>by
  have:=ZfH val i
  unfold dd
  split
  ·omega
  ·rw[Yh,WF];omega
noncomputable abbrev Qi(w:World):Bool:=!w.params.followText "set-order"
theorem SetS.at'{h h':Heap}{a:Addr}{D:List Str}(hS:SetS prog w led h a D)(k:∀o,h.get? a=some o->h'.get? a=some o):SetS prog w led h' a D:=by
 obtain⟨o,es,ep,t,ho,hE⟩:=hS
 exact⟨o,es,ep,t,k o ho,hE⟩
theorem Zfk{I:Addr}{fp wr:List Addr}{G:Array YbZ->Array YbZ->Prop}{n:Nat}{P:Nat->Value->Prop}{St:Nat->Shared->Prop}{R:Result->Shared->Prop}(W:WalksS prog w A.in1 I fp wr G n P St)(S:Addr)(hSf:S∉fp)(val:Nat->Str)(hval:∀i v,P i v->∃t,v=.str (val i) t)(hb:n+1<Vp):∀(k i:Nat) (s:Shared),n-i=k->i<=n->St i s->SetS prog w led s.heap S (dd val i) ->
   (∀s',Moved (S::wr) G s s'->SetS prog w led s'.heap S (dd val n)->R (.ok (.ret .none)) s')->Gv (model prog w) A (.builtin "set.update.loop" ⟨[.ref S,.ref I],[]⟩) R s:=by
 have hSw:S∉wr:=λh=>hSf (W.sub _ h)
 have hsub:∀b∈wr,b∈S::wr:=λb hb=>Yw _ hb
 intro k
 induction k with
 |zero =>
  intro i s hk hi hst hS hR
  have hin:i=n:=by omega
  subst hin
  refine Gh PyProof.Rows.F.entry_set_update_loop ?_
  rw[Gg Uu _]
  show wpAny _ A.in1 (pyNext (.ref I) >>= _) _ _ s
  refine Yb (W.done s _ _ hst λs' hm=>?_)
  show wpAny _ A.in1 (ret W2) _ _ s'
  exact Yd (hR s' (hm.mono hsub) (hS.at' λo ho=>hm.heap S _ hSw ho))
 |succ k ih =>
  intro i s hk hi hst hS hR
  have hlt:i<n:=by omega
  refine Gh PyProof.Rows.F.entry_set_update_loop ?_
  rw[Gg Uu _]
  show wpAny _ A.in1 (pyNext (.ref I) >>= _) _ _ s
  refine Yb (W.item i s _ _ hlt hst λv s' hP hst' hm=>?_)
  obtain⟨t,rfl⟩:=hval i v hP
  have hS':SetS prog w led s'.heap S (dd val i):=hS.at' λo ho=>hm.heap S _ hSw ho
  show wpAny _ A.in1 (Vh [GQ (val i) t] (setAdd S (.str (val i) t)) >>= _) _ _ s'
  refine Yb (Wg ?_)
  unfold setAdd
  refine Wg ?_
  refine Yb ((Wx prog w).pyHash (k:=val i) (by show Gk (val i) (.str (val i) t)=true;simp[Gk]) ?_)
  have hroom:(dd val i).length+1<Vp:=by have:=ZfH val i;omega
  refine add_str (s:={ s' with toks:=s'.toks+1 }) hS' hroom λh' b hsb hS2=>?_
  refine Yd ⟨YaH Uu _,ih (i+1) _ (by omega) hlt (W.frame _ s' _ _ hst' (UJ _) λb hb o e=>?_) hS2 λs'' hm'' hS''=>?_⟩
  ·rw[hsb.2 b (λh:b=S=>hSf (by rw[<-h];exact hb))];exact e
  ·refine hR s'' (Moved.trans W.gtrans ((hm.mono hsub).then_heap (UJ _) λb o hb e=>?_) hm'') hS''
   rw[hsb.2 b (λh:b=S=>hb (by rw[h];exact YD))];exact e
theorem Zfj(a:Value){Q₁:Value->Shared->Prop}(h:Q₁ (.ref s.heap.objs.size) { s with heap:=s.heap.push { cls:=.type "set",dict:=none,data:=.set #[] 0 (.fresh 0 0 (Qi w)) } }):
  Gv (model prog w) A (.call (.builtin "set.__new__") ⟨[.type "set",a],[]⟩) (wants Q₁ E) s:=by
 refine Vq ?_
 show wpAny _ A.in1 (do checkBuiltinCall "set.__new__" ⟨[.type "set",a],[]⟩;again (.builtin "set.__new__" ⟨[.type "set",a],[]⟩)) _ _ s
 refine Yb (YbL (PySem.F.newCall_set_1 a) (Yd ⟨YaH PySem.F.plain_set_new _,Gh PySem.F.entry_set_new ?_⟩))
 rw[Gg PySem.F.plain_set_new _]
 unfold Builtin.«set.__new__» Builtin.Frozenset.newClass
 have hsub:=sub_set_self
 obtain⟨hp,g,d,tk,os⟩:=s
 dsimp only
 wp_walk
 refine U3 (Yd ?_)
 dsimp only
 simp only[newObj]
 refine Yb (YbM (Yd ?_))
 exact Yd h
theorem ZbI{h:Heap}{a:Addr}{led:Bool}(ha:h.get? a=some { cls:=.type "set",dict:=none,data:=.set #[] 0 (.fresh 0 0 led) }):SetS prog w led h a []:=
 ⟨_,#[],0,_,ha,⟨⟨rfl,rfl,rfl⟩,rfl,λe he=>by simp at he,List.Perm.nil,List.nodup_nil,by unfold Vp;decide,rfl,rfl,λh=>absurd rfl h⟩⟩
set_option maxHeartbeats 3200000 in
theorem Zdl{l:Addr}{items:Array Value}{val:Nat->Str}{Q:Value->Shared->Prop}(hh:A.handled=none)(hl:s.heap.IsList l items)(hv:∀(i:Nat) v,items[i]?=some v->∃t,v=.str (val i) t)(hb:items.size+1<Vp)(h:∀(h':Heap) (tk:Nat),SetS prog w (Qi w) h' s.heap.objs.size (dd val items.size)->(∀b o,s.heap.get? b=some o->h'.get? b=some o)->Q (.ref s.heap.objs.size) { s with heap:=h',toks:=tk }):
  wpAny (model prog w) A (GD (.type "set") [.ref l]) Q E s:=by
 obtain⟨c,tl,hmro⟩:=PySem.F.called_set.mro
 have hmade:=PySem.F.called_set.made
 have hsub:=PySem.F.called_set.sub
 refine Yar (Vq ?_)
 show wpAny _ _ (callAny (.type "set") _) _ _ _
 refine Yd ⟨Code.quiet_builtin _ (by decide +kernel),Gh PySem.F.entry_type_call ?_⟩
 rw[Around.under_plain (weight_type_call_type "set" [.ref l] []) rfl]
 have h1:=PySem.F.called_set.notType
 have h2:=PySem.F.called_set.canCreate
 have hct:=PySem.F.typeCall_set_1 (.ref l)
 repeat (any_goals (first|assumption|wp_step))
 refine U6 (Zfj (.ref l) (E:=E) (Q₁:=λobj s₁=>obj=.ref s.heap.objs.size/\s₁={ s with heap:=s.heap.push { cls:=.type "set",dict:=none,data:=.set #[] 0 (.fresh 0 0 (Qi w)) } }) ⟨rfl,rfl⟩) λr s₁ hr=>?_
 cases r with
 |error e=>exact hr
 |ok fl =>
  cases fl with
  |ret obj =>
   obtain⟨rfl,rfl⟩:=hr
   have hS:(s.heap.push { cls:=.type "set",dict:=none,data:=.set #[] 0 (.fresh 0 0 (Qi w)) }).get? s.heap.objs.size=some { cls:=.type "set",dict:=none,data:=.set #[] 0 (.fresh 0 0 (Qi w)) }:=Yl _ rfl
   have hT:YaI { s with heap:=s.heap.push { cls:=.type "set",dict:=none,data:=.set #[] 0 (.fresh 0 0 (Qi w)) } } (.ref s.heap.objs.size) "set":=⟨_,hS,rfl⟩
   have hli:=PySem.F.called_set.init.lookup
   have hbi:=PySem.F.called_set.init.bind (.ref s.heap.objs.size)
   repeat (any_goals (first|assumption|wp_step))
   refine U6 (VM (R:=wants (λr s₂=>r=.none/\∃h' tk,s₂={ s with heap:=h',toks:=tk }/\SetS prog w (Qi w) h' s.heap.objs.size (dd val items.size)/\(∀b o,s.heap.get? b=some o->h'.get? b=some o)) E) PySem.F.called_set.init.plain PySem.F.entry_set_init (check_set_init_1 hT ?_)) λr₂ s₂ hr₂=>?_
   ·obtain⟨ol,hol,hcl,nl,hdl⟩:=hl
    obtain⟨ocls,odict,odata,oslots⟩:=ol
    simp only at hcl hdl
    subst hcl;subst hdl
    have hol':(s.heap.push { cls:=.type "set",dict:=none,data:=.set #[] 0 (.fresh 0 0 (Qi w)) }).get? l=some { cls:=.type "list",dict:=odict,data:=.seq items nl,slots:=oslots }:=Yc _ hol
    have hsls:=PySem.F.sub_list_set
    have hslf:=PySem.F.sub_list_frozenset
    have hne:(G7 "list" == G7 "dict")=false:=by decide
    have hl1:(s.heap.push { cls:=.type "set",dict:=none,data:=.set #[] 0 (.fresh 0 0 (Qi w)) }).IsList l items:=⟨_,hol',rfl,nl,rfl⟩
    unfold Builtin.«set.__init__» noKeywords Builtin.Frozenset.updateFrom
    generalize hPI:pyIter=PI
    wp_walk
    subst hPI
    refine Yax hl1 ?_
    refine Yb (Ya9 ?_)
    have hlS:l<s.heap.objs.size:=Yp hol
    have hh3:A.in1.in1.in1.handled=none:=by simp[hh]
    have hneI:l≠(s.heap.push { cls:=.type "set",dict:=none,data:=.set #[] 0 (.fresh 0 0 (Qi w)) }).objs.size:=by
     rw[Y4];exact Yv (Y0 hlS)
    have hSf:s.heap.objs.size∉[(s.heap.push { cls:=.type "set",dict:=none,data:=.set #[] 0 (.fresh 0 0 (Qi w)) }).objs.size,l]:=by
     rw[Y4];simp only[Ys,Wl,YF,or_false,not_or]
     exact⟨Yv (WX _),Gu hlS⟩
    refine Zfk (led:=Qi w) ((Walks.list hh3 _ l hneI items).toS) s.heap.objs.size hSf val hv hb (items.size-0) 0 _ (by omega) (Wd _)
     ⟨⟨_,Yl _ rfl,rfl,rfl⟩,(hl1.push _)⟩ ?hS0 ?hR
    case hS0 =>
     exact ZbI (led:=Qi w) (Yc _ hS)
    case hR =>
     intro s' hm hS'
     obtain⟨h',g',d',tk',os'⟩:=s'
     have eg:g'=s.gens:=hm.gens
     have ed:d'=s.drawn:=hm.drawn
     have eo:os'=s.os:=hm.os
     subst eg;subst ed;subst eo
     show wpAny _ _ _ _ _ _
     refine Yd ?_
     show wpAny _ _ (ret W2) _ _ _
     refine Yd ⟨rfl,h',tk',rfl,hS',λb o e=>?_⟩
     have hb:=Yp e
     have hb1:b≠s.heap.objs.size:=Yv hb
     have hb2:b≠(s.heap.push { cls:=.type "set",dict:=none,data:=.set #[] 0 (.fresh 0 0 (Qi w)) }).objs.size:=by
      rw[Y4];exact Yv (Y0 hb)
     exact hm.heap b o (by simp only[Ys,Wl,YF,or_false,not_or];exact⟨hb1,hb2⟩) (Yc _ (Yc _ e))
   ·cases r₂ with
    |error e=>exact hr₂
    |ok fl₂ =>
     cases fl₂ with
     |ret r =>
      obtain⟨rfl,h',tk,rfl,hS',hk'⟩:=hr₂
      repeat (any_goals (first|assumption|wp_step))
      exact h _ _ hS' hk'
     |_=>exact hr₂.elim
  |_=>exact hr.elim
end
end Mi
namespace PySem.F
theorem JG:Manifest.owners.lookup (String.ofList ['r','o','t','a','r','e','t','i','_','t','e','s'].reverse)=some Manifest.sig_set_iterator:=by kernel_rfl
theorem slot_set_iterator_next:Slot "set_iterator" "__next__" "set_iterator.__next__" :=
 .of (owner:="set_iterator") (n:="__next__") (by rw[typeLookup_type,builtinLookup_eq_fast];kernel_rfl) (by decide +kernel) (by decide +kernel) (by decide +kernel)
  (by first|exact .inl (by decide +kernel)|exact .inr (by decide +kernel)) (by rw[Yba];kernel_rfl)
theorem entry_set_iterator_next:entryFor table "set_iterator.__next__" = some Builtin.«set_iterator.__next__»:=entryFor_of_tree (by kernel_rfl)
theorem args_set_iterator_next_1(a:Value):argsOk "set_iterator.__next__" ⟨[a],[]⟩:=by
 unfold argsOk;rw[signature?_of (id:="set_iterator.__next__") (n:=['_','_','t','x','e','n','_','_']) (o:=['r','o','t','a','r','e','t','i','_','t','e','s']) (by kernel_rfl) JG];kernel_rfl
theorem entry_set_iter_here:entryFor table "set.__iter__" = some Builtin.«frozenset.__iter__»:=entryFor_alias (id':="frozenset.__iter__") (by kernel_rfl) rfl (by decide +kernel) (by kernel_rfl)
end PySem.F
namespace Mi
open PySem PySem.Spec PyProof.Rows L2
section
variable{M:Model}{A:Around}{E:Value->Shared->Prop}{s:Shared}
theorem ZfR{src:Source}{n:Nat}{Q:Nat->Shared->Prop}(hn:n≠0)(h:∀i d,i<n->Q i { s with drawn:=d }):wpAny M A (choose src n) Q E s:=
 λΓ p hΓ=>⟨hn,h _ _ (Nat.mod_lt _ (Nat.pos_of_ne_zero hn))⟩
theorem Zav{α:Type}:∀(l:List α) (i:Nat) (h:i<l.length),(l[i]::l.eraseIdx i).Perm l
 |_::_,0,_=>.refl _
 |x::l,i+1,h=>by
  have h':i<l.length:=by simpa using h
  show(l[i]::x::l.eraseIdx i).Perm (x::l)
  exact(List.Perm.swap ..).trans ((Zav l i h').cons x)
theorem Zbu{α:Type}:∀(n:Nat) (xs:List α) {s:Shared}{Q:List α->Shared->Prop},xs.length=n->(∀ys d,ys.Perm xs->Q ys { s with drawn:=d })->wpAny M A (Ycb n xs) Q E s
 |0,xs,s,Q,hl,h=>by
  have e:xs=[]:=List.eq_nil_of_length_eq_zero hl
  subst e
  unfold Ycb
  exact Yd (h [] s.drawn .nil)
 |n+1,[],s,Q,hl,h=>by simp at hl
 |n+1,x::xs,s,Q,hl,h=>by
  unfold Ycb
  refine Yb (ZfR (by simp) λi d hi=>?_)
  have e:(x::xs)[i]?=some (x::xs)[i]:=YH hi
  rw[e]
  dsimp only
  refine Yb (Zbu n ((x::xs).eraseIdx i) (by rw[GP hi,hl];rfl) λys d' hp=>?_)
  exact Yd (h _ d' ((hp.cons _).trans (Zav _ _ hi)))
theorem ZdT{α:Type}(next:Nat->Nat):∀(fuel k:Nat) (left:List α) (out:Array α),left.length=fuel->(YbC next fuel k left out).toList.Perm (out.toList++left)
 |0,k,left,out,h=>by
  have e:left=[]:=List.eq_nil_of_length_eq_zero h
  subst e
  unfold YbC
  rw[Ws]
 |fuel+1,k,left,out,h=>by
  unfold YbC
  have hi:next k%left.length<left.length:=Nat.mod_lt _ (by omega)
  rw[YH hi]
  dsimp only
  refine(ZdT next fuel (k+1) _ _ (by rw[GP hi];omega)).trans ?_
  rw[Array.toList_push,YW]
  exact(Zav left _ hi).append_left _
theorem picked{α:Type}(next:Nat->Nat)(xs:Array α):(VF next xs).toList.Perm xs.toList:=by
 unfold VF
 exact ZdT next xs.size 0 xs.toList #[] (by simp)
end
section
variable{prog:Yx}{w:World}{A:Around}{E:Value->Shared->Prop}{s:Shared}
noncomputable def QX(h:Heap)(it a:Addr)(first:Value)(i n ep:Nat):Prop:=∃o,h.get? it=some o/\o.cls=.type "set_iterator"/\o.data=.fields #[first,.int i 0,.ref a,.int n 0,.int ep 0]
theorem QX.typeIs{it a:Addr}{first:Value}{i n ep:Nat}(h:QX s.heap it a first i n ep):s.TypeIs (.ref it) "set_iterator":=let⟨o,ho,hc,_⟩:=h;⟨o,ho,hc⟩
theorem Zgs{it a tp:Addr}{i:Nat}{ep:Nat}{o:Obj}{es:Array (Int×Value)}{t:Ut}{pl:Array Value}{pp:Nat}{e:Int×Value}{Q:Option Value->Shared->Prop}(h:QX s.heap it a (.ref tp) i es.size ep)(ha:s.heap.get? a=some o)(hd:o.data=.set es ep t)(hf:t.fits es.size=true)(htp:s.heap.IsTuple tp pl)(hp:pl[i]?=some (.int pp 0))(he:es[pp]?=some e)(q:∀h',QX h' it a (.ref tp) (i+1) es.size ep->Gs it s.heap h'->Q (some e.2) { s with heap:=h' }):wpAny (model prog w) A (pyNext (.ref it)) Q E s:=by
 obtain⟨oi,hoi,hci,hdi⟩:=id h
 obtain⟨ot,hot,_,nt,hdt⟩:=htp
 unfold pyNext
 refine Yb (Vr (WL (name:=U7 "__next__") h.typeIs PySem.F.slot_set_iterator_next (WY PySem.F.slot_set_iterator_next h.typeIs PySem.F.entry_set_iterator_next ?_ (PySem.F.args_set_iterator_next_1 _))))
 unfold Builtin.«set_iterator.__next__» Ya6
 simp only[U4,Ul,Yz,↓reduceIte,bind_assoc,UT,bne_self_eq_false]
 refine Yb (Yd ?_)
 dsimp only
 refine Yb (GR hoi hdi ?_)
 dsimp only
 refine Yb (W0 ha hd hf ?_)
 simp only[bne_self_eq_false,Yz,↓reduceIte]
 refine Yb (wpAny_seqItems hot hdt ?_)
 dsimp only
 simp only[GJ,hp]
 refine Yb ?_
 unfold setNextDrawn
 refine Yb (W4 ha hd hf ?_)
 dsimp only
 simp only[bne_self_eq_false,Yz,↓reduceIte,he]
 refine Yd ?_
 refine Yb (W7 hoi hdi (by simp) (Yd ⟨_,rfl,Yd (q _ ⟨_,Wo _ hoi (Um (Wy hdi _)),(Yay ..).trans hci,?_⟩ (WK ..))⟩))
 rw[Wy hdi];simp[rawInt]
theorem QS{Q:Bool->Shared->Prop}{M:Model}(h:Q (M.w.params.followText "set-order") s):wpAny M A YbU Q E s:=by
 unfold YbU
 exact Yb (U3 (Yd h))
theorem Zca{it a:Addr}{f0 f0':Value}{i n ep:Nat}{v:Value}{Q:Value->Shared->Prop}(h:QX s.heap it a f0 i n ep)(q:∀h',QX h' it a f0' (i+1) n ep->Gs it s.heap h'->Q v { s with heap:=h' }):
  wpAny (model prog w) A (do setField (.ref it) 0 f0';setField (.ref it) 1 (rawInt ((i:Int)+1));ret v) (λfin s'=>∃r,fin=.done (.ret r)/\Q r s') E s:=by
 obtain⟨oi,hoi,hci,hdi⟩:=id h
 refine Yb (W7 hoi hdi (by simp) ?_)
 have h1:(s.heap.update it (Gm λx=>x.setIfInBounds 0 f0')).get? it=some (Gm (λx=>x.setIfInBounds 0 f0') oi):=Wo _ hoi (Um (Wy hdi _))
 have hd1:(Gm (λx=>x.setIfInBounds 0 f0') oi).data=.fields #[f0',.int i 0,.ref a,.int n 0,.int ep 0]:=by rw[Wy hdi];simp
 refine Yb (W7 h1 hd1 (by simp) (Yd ⟨_,rfl,q _ ⟨_,Wo _ h1 (Um (Wy hd1 _)),(Yay ..).trans ((Yay ..).trans hci),?_⟩ ((WK ..).trans (WK ..))⟩))
 rw[Wy hd1];simp[rawInt]
theorem Zh5{it a:Addr}{i sl:Nat}{ep:Nat}{o:Obj}{es:Array (Int×Value)}{t:Ut}{e:Int×Value}{Q:Option Value->Shared->Prop}(hb:w.params.followText "set-order" = true)(h:QX s.heap it a (.int sl 0) i es.size ep)(ha:s.heap.get? a=some o)(hd:o.data=.set es ep t)(hf:t.fits es.size=true)(he:(VF (w.params.setOrder a ep) es)[i]?=some e)(q:∀h',QX h' it a (.int sl 0) (i+1) es.size ep->Gs it s.heap h'->Q (some e.2) { s with heap:=h' }):wpAny (model prog w) A (pyNext (.ref it)) Q E s:=by
 obtain⟨oi,hoi,hci,hdi⟩:=id h
 unfold pyNext
 refine Yb (Vr (WL (name:=U7 "__next__") h.typeIs PySem.F.slot_set_iterator_next (WY PySem.F.slot_set_iterator_next h.typeIs PySem.F.entry_set_iterator_next ?_ (PySem.F.args_set_iterator_next_1 _))))
 unfold Builtin.«set_iterator.__next__» Ya6
 simp only[U4,Ul,Yz,↓reduceIte,bind_assoc,UT,bne_self_eq_false]
 refine Yb (Yd ?_)
 dsimp only
 refine Yb (GR hoi hdi ?_)
 dsimp only
 refine Yb (W0 ha hd hf ?_)
 simp only[bne_self_eq_false,Yz,↓reduceIte]
 refine Yb ?_
 unfold Ycg
 refine Yb (W4 ha hd hf ?_)
 dsimp only
 refine Yb (QS ?_)
 show wpAny _ _ (if w.params.followText "set-order" = true then _ else _) _ _ _
 rw[if_pos hb]
 simp only[GJ,bne_self_eq_false,Yz,↓reduceIte]
 refine Yb ?_
 unfold setWalk
 refine Yb (W4 ha hd hf ?_)
 dsimp only
 refine Yb (QS ?_)
 show wpAny _ _ (if w.params.followText "set-order" = true then _ else _) _ _ _
 rw[if_pos hb]
 refine Yb (U3 (Yd ?_))
 refine Yd ?_
 show wpAny _ _ (match((VF (w.params.setOrder a ep) es)[i]?).map λe=>(e.2,sl)with
  |some (x,next)=>_
  |none=>_) _ _ _
 rw[he]
 exact Zca h λh' h1 h2=>Yd (q h' h1 h2)
theorem below0(j:Nat):Uv #[j] 0=0:=by simp[Uv,SetTable.below.go]
theorem below1(j:Nat):Uv #[j] (j+1)=1:=by simp[Uv,SetTable.below.go]
theorem Zal{α:Type}{Q:α->Shared->Prop}(hA:A.handled=none)(q:∀g e,(∀c o,s.heap.get? c=some o->g.get? c=some o)->(∃o,g.get? e=some o/\o.cls=.type "StopIteration")->E (.ref e) { s with heap:=g }):wpAny (model prog w) A (newExc (.type "StopIteration") [] >>= λe=>(raiseNew e:Sem α)) Q E s:=by
 refine Yb ?_
 simp only[newExc,newTuple]
 refine Yb (YZ ?_ (by size_fits))
 refine Yb (m:=firstArgMember _ _) (YbL (a:=W2) (by first|rfl|(simp only[firstArgMember];rfl)) (YZ ?_ (by size_fits)))
 simp only[raiseNew]
 refine Yb (wpAny_handled ?_)
 rw[hA]
 exact Yb (Yd (wpAny_throw (q _ _ (λc o e=>Yc _ (Yc _ e)) ⟨_,Yl _ rfl,rfl⟩)))
theorem ZjQ{it a:Addr}{ep:Nat}{o:Obj}{e:Int×Value}{t:Ut}{j:Nat}{Q:Option Value->Shared->Prop}(hb:w.params.followText "set-order" = false)(hled:t.led=true)(hpl:t.place=#[j])(h:QX s.heap it a (.int 0 0) 0 1 ep)(ha:s.heap.get? a=some o)(hd:o.data=.set #[e] ep t)(hf:t.fits 1=true)(q:∀h',QX h' it a (.int (j+1:Nat) 0) 1 1 ep->Gs it s.heap h'->Q (some e.2) { s with heap:=h' }):wpAny (model prog w) A (pyNext (.ref it)) Q E s:=by
 obtain⟨oi,hoi,hci,hdi⟩:=id h
 unfold pyNext
 refine Yb (Vr (WL (name:=U7 "__next__") h.typeIs PySem.F.slot_set_iterator_next (WY PySem.F.slot_set_iterator_next h.typeIs PySem.F.entry_set_iterator_next ?_ (PySem.F.args_set_iterator_next_1 _))))
 unfold Builtin.«set_iterator.__next__» Ya6
 simp only[U4,Ul,Yz,↓reduceIte,bind_assoc,UT,bne_self_eq_false]
 refine Yb (Yd ?_)
 dsimp only
 refine Yb (GR hoi hdi ?_)
 dsimp only
 refine Yb (W0 ha hd hf ?_)
 rw[if_neg (by simp)]
 refine Yb ?_
 unfold Ycg
 refine Yb (W4 ha hd hf ?_)
 dsimp only
 refine Yb (QS ?_)
 show wpAny _ _ (if w.params.followText "set-order" = true then _ else _) _ _ _
 rw[if_neg (by rw[hb];decide)]
 split
 ·rename_i hdr
  have hdr:(!t.plain&&decide (1>1))=true:=hdr
  simp at hdr
 ·refine Yb ?_
  show wpAny _ _ (if(!t.led&&!(#[e]:Array (Int×Value)).isEmpty)=true then _ else _) _ _ _
  rw[if_neg (by rw[hled];simp)]
  refine Yd ?_
  rw[hpl]
  show wpAny _ _ (pure (match(#[e]:Array (Int×Value))[Uv #[j] 0]?,(#[j]:Array Nat)[Uv #[j] 0]? with
   |some (_,x),some j=>some (x,j+1)
   |_,_=>none)) _ _ _
  rw[below0]
  refine Yd ?_
  exact Zca h λh' h1 h2=>Yd (q h' h1 h2)
theorem ZiD{it a:Addr}{f0:Value}{i n ep:Nat}{Q:Option Value->Shared->Prop}(hA:A.handled=none)(h:QX s.heap it a f0 i n ep)(b:∀{Q':Fin->Shared->Prop}{E':Value->Shared->Prop},(∀g e,V7 it s.heap g->(∃o,g.get? e=some o/\o.cls=.type "StopIteration")->E' (.ref e) { s with heap:=g })->wpAny (model prog w) A.in1 (Builtin.«set_iterator.__next__» ⟨[.ref it],[]⟩) Q' E' s)(q:∀g,V7 it s.heap g->Q none { s with heap:=g }):wpAny (model prog w) A (pyNext (.ref it)) Q E s:=by
 unfold pyNext
 refine Yb (Vr (WL (name:=U7 "__next__") h.typeIs PySem.F.slot_set_iterator_next (WY PySem.F.slot_set_iterator_next h.typeIs PySem.F.entry_set_iterator_next (b λg e k he=>?_) (PySem.F.args_set_iterator_next_1 _))))
 obtain⟨o,ho,hc⟩:=he
 exact Yb (wpAny_isInstance (T:="StopIteration") (b:=true) ⟨o,ho,hc⟩ isSubtype_stop (Yd (q g k)))
theorem ZiE{it a tp:Addr}{i:Nat}{ep:Nat}{o:Obj}{es:Array (Int×Value)}{t:Ut}{pl:Array Value}{Q:Option Value->Shared->Prop}(hA:A.handled=none)(h:QX s.heap it a (.ref tp) i es.size ep)(ha:s.heap.get? a=some o)(hd:o.data=.set es ep t)(hf:t.fits es.size=true)(htp:s.heap.IsTuple tp pl)(hp:pl[i]?=none)(q:∀g,V7 it s.heap g->Q none { s with heap:=g }):wpAny (model prog w) A (pyNext (.ref it)) Q E s:=by
 refine ZiD hA h (λ{Q' E'} r=>?_) q
 obtain⟨oi,hoi,hci,hdi⟩:=id h
 obtain⟨ot,hot,_,nt,hdt⟩:=htp
 unfold Builtin.«set_iterator.__next__» Ya6
 simp only[U4,Ul,Yz,↓reduceIte,bind_assoc,UT,bne_self_eq_false]
 refine Yb (Yd ?_)
 dsimp only
 refine Yb (GR hoi hdi ?_)
 dsimp only
 refine Yb (W0 ha hd hf ?_)
 simp only[bne_self_eq_false,Yz,↓reduceIte]
 refine Yb (wpAny_seqItems hot hdt ?_)
 dsimp only
 simp only[GJ,hp]
 refine Yb (W7 hoi hdi (by simp) ?_)
 have h1:(s.heap.update it (Gm λx=>x.setIfInBounds 0 (rawInt 0))).get? it=some (Gm (λx=>x.setIfInBounds 0 (rawInt 0)) oi):=Wo _ hoi (Um (Wy hdi _))
 have hd1:(Gm (λx=>x.setIfInBounds 0 (rawInt 0)) oi).data=.fields #[rawInt 0,.int i 0,.ref a,.int es.size 0,.int ep 0]:=by rw[Wy hdi];simp
 refine Yb (W7 h1 hd1 (by simp) (Zal (by simp[hA]) λg e k he=>r g e (λc o n x=>?_) he))
 exact k c o (((WK ..).trans (WK ..)).extBut c o n x)
theorem Zj7{it a:Addr}{i sl:Nat}{ep:Nat}{o:Obj}{es:Array (Int×Value)}{t:Ut}{Q:Option Value->Shared->Prop}(hA:A.handled=none)(hb:w.params.followText "set-order" = true)(h:QX s.heap it a (.int sl 0) i es.size ep)(ha:s.heap.get? a=some o)(hd:o.data=.set es ep t)(hf:t.fits es.size=true)(he:(VF (w.params.setOrder a ep) es)[i]?=none)(q:∀g,V7 it s.heap g->Q none { s with heap:=g }):wpAny (model prog w) A (pyNext (.ref it)) Q E s:=by
 refine ZiD hA h (λ{Q' E'} r=>?_) q
 obtain⟨oi,hoi,hci,hdi⟩:=id h
 unfold Builtin.«set_iterator.__next__» Ya6
 simp only[U4,Ul,Yz,↓reduceIte,bind_assoc,UT,bne_self_eq_false]
 refine Yb (Yd ?_)
 dsimp only
 refine Yb (GR hoi hdi ?_)
 dsimp only
 refine Yb (W0 ha hd hf ?_)
 simp only[bne_self_eq_false,Yz,↓reduceIte]
 refine Yb ?_
 unfold Ycg
 refine Yb (W4 ha hd hf ?_)
 dsimp only
 refine Yb (QS ?_)
 show wpAny _ _ (if w.params.followText "set-order" = true then _ else _) _ _ _
 rw[if_pos hb]
 simp only[GJ,bne_self_eq_false,Yz,↓reduceIte]
 refine Yb ?_
 unfold setWalk
 refine Yb (W4 ha hd hf ?_)
 dsimp only
 refine Yb (QS ?_)
 show wpAny _ _ (if w.params.followText "set-order" = true then _ else _) _ _ _
 rw[if_pos hb]
 refine Yb (U3 (Yd ?_))
 refine Yd ?_
 show wpAny _ _ (match((VF (w.params.setOrder a ep) es)[i]?).map λe=>(e.2,sl)with
  |some (x,next)=>_
  |none=>_) _ _ _
 rw[he]
 refine Yb (W7 hoi hdi (by simp) (Zal (by simp[hA]) λg e k he=>r g e (λc o n x=>?_) he))
 exact k c o ((WK ..).extBut c o n x)
theorem Zma{it a:Addr}{i sl:Nat}{ep:Nat}{o:Obj}{es:Array (Int×Value)}{t:Ut}{Q:Option Value->Shared->Prop}(hA:A.handled=none)(hb:w.params.followText "set-order" = false)(hled:t.led=true)(h:QX s.heap it a (.int sl 0) i es.size ep)(ha:s.heap.get? a=some o)(hd:o.data=.set es ep t)(hf:t.fits es.size=true)(hs:es.size<=1)(he:es[Uv t.place sl]?=none)(q:∀g,V7 it s.heap g->Q none { s with heap:=g }):wpAny (model prog w) A (pyNext (.ref it)) Q E s:=by
 refine ZiD hA h (λ{Q' E'} r=>?_) q
 obtain⟨oi,hoi,hci,hdi⟩:=id h
 unfold Builtin.«set_iterator.__next__» Ya6
 simp only[U4,Ul,Yz,↓reduceIte,bind_assoc,UT,bne_self_eq_false]
 refine Yb (Yd ?_)
 dsimp only
 refine Yb (GR hoi hdi ?_)
 dsimp only
 refine Yb (W0 ha hd hf ?_)
 simp only[bne_self_eq_false,Yz,↓reduceIte]
 refine Yb ?_
 unfold Ycg
 refine Yb (W4 ha hd hf ?_)
 dsimp only
 refine Yb (QS ?_)
 show wpAny _ _ (if w.params.followText "set-order" = true then _ else _) _ _ _
 rw[if_neg (by rw[hb];decide)]
 split
 ·rename_i hdr
  have hdr:(!t.plain&&decide (es.size>1))=true:=hdr
  simp at hdr
  omega
 ·refine Yb ?_
  show wpAny _ _ (if(!t.led&&!es.isEmpty)=true then _ else _) _ _ _
  rw[if_neg (by rw[hled];simp)]
  refine Yd ?_
  show wpAny _ _ (pure (match es[Uv t.place sl]?,t.place[Uv t.place sl]? with
   |some (_,x),some j=>some (x,j+1)
   |_,_=>none)) _ _ _
  rw[he]
  refine Yd ?_
  refine Yb (W7 hoi hdi (by simp) (Zal (by simp[hA]) λg e k he=>r g e (λc o n x=>?_) he))
  exact k c o ((WK ..).extBut c o n x)
end
end Mi
namespace PySem.F
theorem slot_set_iterator_iter:Slot "set_iterator" "__iter__" "set_iterator.__iter__" :=
 .of (owner:="set_iterator") (n:="__iter__") (by rw[typeLookup_type,builtinLookup_eq_fast];kernel_rfl) (by decide +kernel) (by decide +kernel) (by decide +kernel)
  (by first|exact .inl (by decide +kernel)|exact .inr (by decide +kernel)) (by rw[Yba];kernel_rfl)
theorem entry_set_iterator_iter:entryFor table "set_iterator.__iter__" = some Builtin.«dict_keyiterator.__iter__»:=entryFor_alias (id':="dict_keyiterator.__iter__") (by kernel_rfl) rfl (by decide +kernel) (by kernel_rfl)
theorem args_set_iterator_iter_1(a:Value):argsOk "set_iterator.__iter__" ⟨[a],[]⟩:=by
 unfold argsOk;rw[signature?_of (id:="set_iterator.__iter__") (n:=['_','_','r','e','t','i','_','_']) (o:=['r','o','t','a','r','e','t','i','_','t','e','s']) (by kernel_rfl) JG];kernel_rfl
end PySem.F
namespace Mi
open PySem PySem.Spec PyProof.Rows L2
section
variable{prog:Yx}{w:World}{A:Around}{E:Value->Shared->Prop}{s:Shared}
theorem QX.at'{h h':Heap}{it a:Addr}{f0:Value}{i n ep:Nat}(x:QX h it a f0 i n ep)(k:∀o,h.get? it=some o->h'.get? it=some o):QX h' it a f0 i n ep:=let⟨o,ho,r⟩:=x;⟨o,k o ho,r⟩
inductive SetIt (w:World) (h:Heap) (it a tp:Addr) (vs:List Value) (i:Nat):Prop where
 |drawn {o:Obj}{es:Array (Int×Value)}{ep:Nat}{t:Ut}{pl:Array Value}:QX h it a (.ref tp) i es.size ep->h.get? a=some o->o.data=.set es ep t->t.fits es.size=true->h.IsTuple tp pl ->
  (∀(k:Nat) v,vs[k]?=some v->∃(pp:Nat) (e:Int×Value),pl[k]?=some (.int pp 0)/\es[pp]?=some e/\e.2=v)->pl.size=vs.length->SetIt w h it a tp vs i
 |text {o:Obj}{es:Array (Int×Value)}{ep:Nat}{t:Ut}:w.params.followText "set-order" = true->QX h it a (.int (0:Nat) 0) i es.size ep->h.get? a=some o->o.data=.set es ep t->t.fits es.size=true ->
  vs=(VF (w.params.setOrder a ep) es).toList.map (·.2)->SetIt w h it a tp vs i
 |few {o:Obj}{es:Array (Int×Value)}{ep:Nat}{t:Ut}{sl:Nat}:w.params.followText "set-order" = false->t.led=true->QX h it a (.int sl 0) i es.size ep->h.get? a=some o->o.data=.set es ep t->t.fits es.size=true->es.size<=1 ->
  vs=es.toList.map (·.2)->(i=0/\sl=0∨i=1/\es.size=1/\∃j,t.place=#[j]/\sl=j+1)->SetIt w h it a tp vs i
theorem SetIt.at'{h h':Heap}{it a tp:Addr}{vs:List Value}{i:Nat}(x:SetIt w h it a tp vs i)(k:∀b∈[it,a,tp],∀o,h.get? b=some o->h'.get? b=some o):SetIt w h' it a tp vs i:=by
 cases x with
 |drawn h1 h2 h3 h4 h5 h6 h7=>exact .drawn (h1.at' (k it (by simp))) (k a (by simp) _ h2) h3 h4 (let⟨o,ho,r⟩:=h5;⟨o,k tp (by simp) o ho,r⟩) h6 h7
 |text h0 h1 h2 h3 h4 h5=>exact .text h0 (h1.at' (k it (by simp))) (k a (by simp) _ h2) h3 h4 h5
 |few h0 hl h1 h2 h3 h4 h5 h6 h7=>exact .few h0 hl (h1.at' (k it (by simp))) (k a (by simp) _ h2) h3 h4 h5 h6 h7
theorem ZhE{t:Ut}(h:t.fits 1=true):∃j,t.place=#[j]:=by
 unfold SetTable.fits at h
 simp only[Yg,beq_iff_eq]at h
 have h1:=h.1
 rcases hp:t.place with⟨l⟩
 rw[hp]at h1
 match l,h1 with
 |[j],_=>exact⟨j,rfl⟩
theorem Zhm(hA:A.handled=none){it a tp:Addr}{vs:List Value}:Walks prog w A it [it,a,tp] [it] vs.length (λi v=>vs[i]?=some v) (λi h=>SetIt w h it a tp vs i/\a≠it/\tp≠it) where
 sub:=λb hb=>by simp at hb;simp[hb]
 frame:=λ_ _ _ st hk=>⟨st.1.at' hk,st.2⟩
 item:=λi s Q E hi st hQ=>by
  obtain⟨st,na,nt⟩:=st
  have hv:vs[i]?=some vs[i]:=YH hi
  cases st with
  |drawn h1 h2 h3 h4 h5 h6 h7 =>
   obtain⟨pp,e,q1,q2,q3⟩:=h6 i _ hv
   refine Zgs h1 h2 h3 h4 h5 q1 q2 λh' r hs=>?_
   rw[q3]
   obtain⟨ot,hot,rt⟩:=h5
   exact hQ _ h' s.toks hv ⟨.drawn r (hs.extBut _ _ na h2) h3 h4 ⟨ot,hs.extBut _ _ nt hot,rt⟩ h6 h7,na,nt⟩ λb o hb e=>hs.extBut b o (λh=>hb (by simp[h])) e
  |@text o es ep t h0 h1 h2 h3 h4 h5 =>
   have he:∃e,(VF (w.params.setOrder a ep) es)[i]?=some e/\e.2=vs[i]:=by
    have hv':=hv
    generalize hx:vs[i]=x at hv' ⊢
    rw[h5,YJ,U9]at hv'
    cases q:(VF (w.params.setOrder a ep) es)[i]? with
    |none=>rw[q]at hv';cases hv'
    |some e=>rw[q]at hv';exact⟨e,rfl,YQ hv'⟩
   obtain⟨e,he,hev⟩:=he
   refine Zh5 h0 h1 h2 h3 h4 he λh' r hs=>?_
   rw[hev]
   exact hQ _ h' s.toks hv ⟨.text h0 r (hs.extBut _ _ na h2) h3 h4 h5,na,nt⟩ λb o hb e=>hs.extBut b o (λh=>hb (by simp[h])) e
  |@few o es ep t sl h0 hl h1 h2 h3 h4 h5 h6 h7 =>
   have hsz:vs.length=es.size:=by rw[h6,Yi,YL]
   have e1:es.size=1:=by omega
   rcases h7 with⟨rfl,rfl⟩|⟨rfl,_⟩
   ·obtain⟨e,rfl⟩:∃e,es=#[e]:=by
     rcases es with⟨l⟩
     match l,e1 with
     |[e],_=>exact⟨e,rfl⟩
    obtain⟨j,hj⟩:=ZhE h4
    refine ZjQ h0 hl hj h1 h2 h3 h4 λh' r hs=>?_
    have hve:e.2=vs[0]:=by simp[h6]
    rw[hve]
    exact hQ _ h' s.toks hv ⟨.few h0 hl r (hs.extBut _ _ na h2) h3 h4 h5 h6 (.inr ⟨rfl,rfl,j,hj,rfl⟩),na,nt⟩ λb o hb e=>hs.extBut b o (λh=>hb (by simp[h])) e
   ·omega
 done:=λs Q E st hQ=>by
  obtain⟨st,na,nt⟩:=st
  have fin:∀g,V7 it s.heap g->Q none { s with heap:=g }:=λg k=>hQ g s.toks λb o hb e=>k b o (λh=>hb (by simp[h])) e
  cases st with
  |drawn h1 h2 h3 h4 h5 h6 h7=>exact ZiE hA h1 h2 h3 h4 h5 (by rw[<-h7];simp) fin
  |@text o es ep t h0 h1 h2 h3 h4 h5=>exact Zj7 hA h0 h1 h2 h3 h4 (by rw[h5];simp) fin
  |@few o es ep t sl h0 hl h1 h2 h3 h4 h5 h6 h7 =>
   have hsz:vs.length=es.size:=by rw[h6,Yi,YL]
   refine Zma hA h0 hl h1 h2 h3 h4 h5 ?_ fin
   rcases h7 with⟨h8,rfl⟩|⟨h8,h9,j,hj,rfl⟩
   ·have:es.size=0:=by omega
    simp[this]
   ·rw[hj,below1]
    simp[h9]
 self:=λi s Q E st h=>by
  have hT:s.TypeIs (.ref it) "set_iterator":=by
   cases st.1 with
   |drawn h1=>exact h1.typeIs
   |text _ h1=>exact h1.typeIs
   |few _ _ h1=>exact h1.typeIs
  refine wpAny_pyIter_slot hT PySem.F.slot_set_iterator_iter (WY PySem.F.slot_set_iterator_iter hT PySem.F.entry_set_iterator_iter ?_ (PySem.F.args_set_iterator_iter_1 _))
  show wpAny _ _ (ret (.ref it)) _ _ s
  exact Yd ⟨_,rfl,"set_iterator",_,hT,PySem.F.slot_set_iterator_next.lookup,h⟩
noncomputable def Zdr(vs:List Value)(D:List Str):Prop:=(∀v∈vs,∃x t,v=.str x t)/\(vs.map strOf).Perm D
theorem Zcy{led:Bool}{o:Obj}{D:List Str}{es:Array (Int×Value)}{ep:Nat}{t:Ut}(hE:SetE prog w led o D es ep t){l:List (Int×Value)}(hp:l.Perm es.toList):Zdr (l.map (·.2)) D:=by
 constructor
 ·intro v hv
  obtain⟨e,he,rfl⟩:=Uc.mp hv
  obtain⟨⟨k,hk,_⟩,_⟩:=hE.el e (hp.mem_iff.mp he)
  obtain⟨u,hu⟩:=V1 hk
  exact⟨k,u,hu⟩
 ·rw[Ya0]
  exact(hp.map (strOf ∘ λe:Int×Value=>e.2)).trans hE.txs
theorem range_list:∀l:List (Int×Value),(YM l.length).filterMap (λp=>l[p]?)=l
 |[]=>rfl
 |x::l=>by
  rw[Wh,List.range_succ_eq_map,Ue,Yai]
  show x::(YM l.length).filterMap (λp=>l[p]?)=_
  rw[range_list l]
theorem Zf7(es:Array (Int×Value)):((YM es.size).filterMap λp=>es[p]?)=es.toList:=by
 have:=range_list es.toList
 rw[YL]at this
 simpa only[U9]using this
theorem ZeO{es:Array (Int×Value)}:∀{ys:List Nat},(∀p∈ys,p<es.size)->(ys.filterMap λp=>es[p]?)=ys.map λp=>es[p]?.getD (0,.none)
 |[],_=>rfl
 |p::ys,h=>by
  have hlt:=h p YD
  rw[Ue,Wa,ZeO λq hq=>h q (Yw _ hq)]
  simp[hlt]
theorem ZjY{a:Addr}{D:List Str}{Q:Value->Shared->Prop}(hS:SetS prog w (Qi w) s.heap a D)(h:∀(h':Heap) d it tp vs,SetIt w h' it a tp vs 0->a≠it->tp≠it->Zdr vs D->s.heap.objs.size<=it->(tp=a∨s.heap.objs.size<=tp)->tp<h'.objs.size->it<h'.objs.size->(∀b o,s.heap.get? b=some o->h'.get? b=some o)->Q (.ref it) { s with heap:=h',drawn:=d }):
  wpAny (model prog w) A (pyIter (.ref a)) Q E s:=by
 obtain⟨o,es,ep,t,ha,hE⟩:=hS
 have hT:s.TypeIs (.ref a) "set":=⟨o,ha,hE.ex.1⟩
 have hal:=Yp ha
 refine wpAny_pyIter_slot hT PySem.F.slot_set_iter (WY PySem.F.slot_set_iter hT PySem.F.entry_set_iter_here ?_ (PySem.F.args_set_iter_1 _))
 unfold Builtin.«frozenset.__iter__» Builtin.Frozenset.slot0 Ya6
 simp only[U4,Ul,Yz,↓reduceIte,bind_assoc,UT,bne_self_eq_false]
 unfold Builtin.Frozenset.addrOf Builtin.Frozenset.sizeOf
 refine Yb (Yd ?_)
 first
  |refine Yb (Yb (W0 ha hE.data hE.fits (Yd ?_)))
  |(refine Yb (Yd ?_);refine Yb (Yb (W0 ha hE.data hE.fits (Yd ?_))))
 refine Yb ?_
 unfold setDrawn
 refine Yb (W4 ha hE.data hE.fits ?_)
 dsimp only
 refine Yb (QS ?_)
 refine Yd ?_
 -- what is made at the end
 have made:∀(h1:Heap) (d:_) (first:Value),(∀b o,s.heap.get? b=some o->h1.get? b=some o)->s.heap.objs.size<=h1.objs.size->(∀h':Heap,(∀b o,h1.get? b=some o->h'.get? b=some o)->h'.objs.size=h1.objs.size+1->QX h' h1.objs.size a first 0 es.size ep->∃tp vs,SetIt w h' h1.objs.size a tp vs 0/\tp≠h1.objs.size/\Zdr vs D/\(tp=a∨s.heap.objs.size<=tp)/\tp<h'.objs.size) ->
   wpAny (model prog w) A.in1 (do
    let e <-setEpoch a
    let r <-newFields "set_iterator" [first,rawInt 0,.ref a,rawInt es.size,rawInt e]
    ret r) (λfin s'=>∃v,fin=.done (.ret v)/\∃T' r,s'.TypeIs v T'/\Ybp (.type T') "__next__" = pure (some r)/\Q v s') E { s with heap:=h1,drawn:=d }:=λh1 d first k1 z1 mk=>by
  refine Yb (wpAny_setEpoch_of (s:={ s with heap:=h1,drawn:=d }) (k1 _ _ ha) hE.data hE.fits ?_)
  refine Yb (YZ (Yd ⟨_,rfl,"set_iterator",_,⟨_,Yl _ rfl,rfl⟩,PySem.F.slot_set_iterator_next.lookup,?_⟩))
  have hz:(h1.push { cls:=.type "set_iterator",data:=.fields [first,rawInt 0,.ref a,rawInt es.size,rawInt ep].toArray }).objs.size=h1.objs.size+1:=Y4 ..
  obtain⟨tp,vs,q1,q2,q3,q4,q5⟩:=mk (h1.push { cls:=.type "set_iterator",data:=.fields [first,rawInt 0,.ref a,rawInt es.size,rawInt ep].toArray }) (λb o e=>Yc _ e) hz ⟨_,Yl _ rfl,rfl,rfl⟩
  exact h _ d h1.objs.size tp vs q1 (Yv (Yq hal z1)) q2 q3 z1 q4 q5 (by rw[hz];exact WX _) λb o e=>Yc _ (k1 b o e)
 cases hb:w.params.followText "set-order" with
 |true =>
  rw[if_neg (by show ¬((!(w.params.followText "set-order")&&_)=true);rw[hb];simp)]
  refine Yb (Yd ?_)
  refine made s.heap s.drawn (rawInt 0) (λ_ _ e=>e) (Yj _) λh' k hz r=>?_
  exact⟨a,_,.text hb r (k _ _ ha) hE.data hE.fits rfl,Yv hal,Zcy hE (picked _ _),.inl rfl,by rw[hz];exact Y0 hal⟩
 |false =>
  by_cases h2:es.size<=1
  ·rw[if_neg (by
    show ¬((!(w.params.followText "set-order")&&(!t.plain&&decide (es.size>1)))=true)
    simp
    intros
    omega)]
   refine Yb (Yd ?_)
   refine made s.heap s.drawn (rawInt 0) (λ_ _ e=>e) (Yj _) λh' k hz r=>?_
   exact⟨a,_,.few hb (by rw[hE.led];simp[hb]) (show QX h' _ a (.int (0:Nat) 0) 0 es.size ep from r) (k _ _ ha) hE.data hE.fits h2 rfl (.inl ⟨rfl,rfl⟩),Yv hal,Zcy hE (.refl _),.inl rfl,by rw[hz];exact Y0 hal⟩
  ·have hpl:=hE.plain (by omega)
   rw[if_pos (by
    show(!(w.params.followText "set-order")&&(!t.plain&&decide (es.size>1)))=true
    rw[hb,hpl]
    simp
    omega)]
   refine Yb (Zbu es.size (YM es.size) WM λys d hp=>?_)
   refine Yb (wpAny_newTuple ?_ (by rw[Yi,hp.length_eq,WM];exact Yaw hE.room))
   have hz1:(s.heap.push { cls:=.type "tuple",data:=.seq (ys.map λ(i:Nat)=>rawInt i).toArray }).objs.size=s.heap.objs.size+1:=Y4 ..
   refine made (s.heap.push { cls:=.type "tuple",data:=.seq (ys.map λ(i:Nat)=>rawInt i).toArray }) d (.ref s.heap.objs.size) (λb o e=>Yc _ e) (by omega) λh' k hz r=>?_
   have hys:∀p∈ys,p<es.size:=λp hm=>W6.mp (hp.mem_iff.mp hm)
   have hvs:(ys.filterMap λp=>es[p]?).Perm es.toList:=by
    rw[<-Zf7 es]
    exact hp.filterMap _
   refine⟨s.heap.objs.size,(ys.filterMap λp=>es[p]?).map (·.2),.drawn r (k _ _ (Yc _ ha)) hE.data hE.fits ⟨_,k _ _ (Yl _ rfl),rfl,_,rfl⟩ ?_ ?_,by rw[hz1];exact Yv (WX _),Zcy hE hvs,.inr (Yj _),by rw[hz,hz1];exact Y0 (WX _)⟩
   ·have e:=ZeO hys
    intro j v hv
    rw[e,Ya0,YJ]at hv
    cases q:ys[j]? with
    |none=>rw[q]at hv;cases hv
    |some p =>
     rw[q]at hv
     have hlt:=hys p (WP q)
     refine⟨p,es[p],?_,by simp[hlt],?_⟩
     ·simp[q,rawInt]
     ·have:=YQ hv
      simpa[hlt]using this
   ·rw[ZeO hys]
    simp only[Yk,Yi]
theorem ZeT{a:Addr}{D:List Str}{Q:List Value->Shared->Prop}(hA:A.handled=none)(hS:SetS prog w (Qi w) s.heap a D)(hz:D.length<=1000)(q:∀h' tk d vs,Zdr vs D->(∀b o,s.heap.get? b=some o->h'.get? b=some o)->s.toks<=tk->s.heap.objs.size<h'.objs.size->Q vs { s with heap:=h',toks:=tk,drawn:=d }):wpAny (model prog w) A (collect (.ref a)) Q E s:=by
 obtain⟨o,es,ep,t,ha,hE⟩:=id hS
 have hal:=Yp ha
 have hsz:D.length<=YC:=by rw[Uh];omega
 unfold collect
 refine Yb (Ya9 (Gh PySem.F.entry_proto_collect ?_))
 rw[Gg PySem.F.plain_proto_collect _]
 show wpAny _ A.in1 (newList [] >>= λl=>again (.builtin "list.__iadd__" ⟨[l,.ref a],[]⟩)) _ _ s
 refine Yb (YZ ?_)
 refine Yd ⟨YaH PySem.F.plain_list_iadd _,Gh PySem.F.entry_list_iadd ?_⟩
 rw[Gg PySem.F.plain_list_iadd _]
 have hS₁:SetS prog w (Qi w) (s.heap.push { cls:=.type "list",data:=.seq ([]:List Value).toArray }) a D:=hS.at' λo e=>Yc _ e
 have hL₁:(s.heap.push { cls:=.type "list",data:=.seq ([]:List Value).toArray }).get? s.heap.objs.size=some { cls:=.type "list",data:=.seq ([]:List Value).toArray }:=Yl _ rfl
 have ha₁:(s.heap.push { cls:=.type "list",data:=.seq ([]:List Value).toArray }).get? a=some o:=Yc _ ha
 have hne:s.heap.objs.size≠a:=Gu hal
 have h1:Builtin.List.listSameRef (.ref s.heap.objs.size) (.ref a)=false:=by simp[Builtin.List.listSameRef,hne]
 show wpAny _ A.in1 (Builtin.List.listExtendWith (.ref s.heap.objs.size) (.ref a) (.ref s.heap.objs.size)) _ _ _
 unfold Builtin.List.listExtendWith
 have hT:YaI { s with heap:=s.heap.push { cls:=.type "list",data:=.seq ([]:List Value).toArray } } (.ref a) "set":=⟨o,ha₁,hE.ex.1⟩
 refine Yb (VD hT ?_)
 rw[if_neg (by rw[h1];decide)]
 refine Yb (ZjY hS₁ λh' d it tp vs st na nt tx l1 l2 l3 l4 k=>?_)
 have hT':YaI { s with heap:=h',drawn:=d } (.ref a) "set":=⟨o,k _ _ ha₁,hE.ex.1⟩
 refine Yb (Wg ?_)
 unfold Builtin.List.listLengthHint
 refine Yb (wpAny_specialOf hT' PySem.F.slot_set_len.lookup ?_)
 generalize hid:("set.__len__" : String)=id0
 wp_delta
 rw[show splitId id0=some ("set","__len__")from by subst hid;decide +kernel]
 subst hid
 refine Yb (wpAny_isInstance (b:=true) hT' (by rw[Yba];kernel_rfl) ?_)
 refine Yb (m:=typeOf (.ref a)) (VD hT' ?_)
 refine Yd ?_
 rw[if_pos (by rfl)]
 refine Yb (Ve ?_)
 have hL':h'.get? s.heap.objs.size=some (seqObj "list" #[] 0):=k _ _ hL₁
 refine Yb ?_
 unfold Builtin.List.listTouch
 refine Yb (VR (s:={ s with heap:=h',drawn:=d }) hL' rfl ?_ (by simp) (by simp[Uh]))
 have hL2:=V8 hL' (λxs=>xs.push W2)
 refine VR (s:={ s with heap:=h'.update s.heap.objs.size (Ui λxs=>xs.push W2),drawn:=d }) hL2 rfl ?_ (by simp[Uh]) (by simp[Uh])
 have hL3:=V8 hL2 (λxs=>xs.pop)
 have hse:((#[]:Array Value).push W2).pop=#[]:=by simp
 rw[hse]at hL3
 have hSf:s.heap.objs.size∉[it,a,tp]:=by
  have z:(s.heap.push { cls:=.type "list",data:=.seq ([]:List Value).toArray }).objs.size=s.heap.objs.size+1:=Y4 ..
  have l1':s.heap.objs.size+1<=it:=z▸l1
  simp only[Ys,YF,or_false,not_or]
  refine⟨Yv l1',hne,?_⟩
  rcases l2 with rfl|l2
  ·exact hne
  ·have l2':s.heap.objs.size+1<=tp:=z▸l2
   exact Yv l2'
 have hot:∀b∈[it,a,tp],∀o,h'.get? b=some o->((h'.update s.heap.objs.size (Ui λxs=>xs.push W2)).update s.heap.objs.size (Ui λxs=>xs.pop)).get? b=some o:=λb hb o e=>by
  have nb:s.heap.objs.size≠b:=λz=>hSf (by rw[z];exact hb)
  rw[Y6 _ _ nb,Y6 _ _ nb]
  exact e
 have hvl:vs.length=D.length:=by rw[<-tx.2.length_eq,Yi]
 refine Yd ⟨YaH PySem.F.plain_extend_loop _,codeAny_extend_loopS ((Zhm (prog:=prog) (w:=w) (it:=it) (a:=a) (tp:=tp) (vs:=vs) (by simp[hA])).toS) (by omega) _ hSf _ vs.length 0 _ _ _ rfl (Wd _) ⟨st.at' hot,na,nt⟩ hL3 (ItemsOf.nil _) λs' acc' c' hm hS' hacc=>?_⟩
 show wpAny _ A (load s.heap.objs.size >>= _) _ _ s'
 refine Yb (wpAny_load hS' ?_)
 have hacc':acc'.toList=vs:=by
  obtain⟨h1,h2⟩:=hacc
  refine Yaz λj=>?_
  rw[U9]
  cases qj:acc'[j]? with
  |some v=>rw[h2 j v qj]
  |none =>
   rw[Uo]
   have:=Array.getElem?_eq_none_iff.mp qj
   omega
 obtain⟨hh,g',d',tk',os'⟩:=s'
 have eg:g'=s.gens:=hm.gens
 have ed:d'=d:=hm.drawn
 have eo:os'=s.os:=hm.os
 subst eg;subst ed;subst eo
 refine Yd ?_
 show Q acc'.toList _
 rw[hacc']
 refine q hh tk' d' vs tx (λb o e=>?_) hm.toks (Yp hS')
 have nb:s.heap.objs.size≠b:=Gu (Yp e)
 have nit:b≠it:=λz=>by
  have z1:(s.heap.push { cls:=.type "list",data:=.seq ([]:List Value).toArray }).objs.size=s.heap.objs.size+1:=Y4 ..
  have l1':s.heap.objs.size+1<=it:=z1▸l1
  have:=Yp e
  rw[z]at this
  exact absurd (Yq this (Nat.le_of_succ_le l1')) (Y9 _)
 refine hm.heap b o (by simp only[Ys,YF,or_false,not_or];exact⟨λz=>nb z.symm,nit⟩) ?_
 show((h'.update s.heap.objs.size (Ui λxs=>xs.push W2)).update s.heap.objs.size (Ui λxs=>xs.pop)).get? b=some o
 rw[Y6 _ _ nb,Y6 _ _ nb]
 exact k b o (Yc _ e)
theorem ZfW{a:Addr}{D:List Str}{Q:Value->Shared->Prop}(hA:A.handled=none)(hS:SetS prog w (Qi w) s.heap a D)(hz:D.length<64)(q:∀h' tk d l out ss' e,Yb2 out ss'->ss'.Perm D->sortedS ss'=true->h'.get? l=some (seqObj "list" out.toArray e)->s.heap.objs.size<=l->(∀b o,s.heap.get? b=some o->h'.get? b=some o)->s.toks<=tk->Q (.ref l) { s with heap:=h',toks:=tk,drawn:=d }):
  wpAny (model prog w) A (GD (.builtin "sorted") [.ref a]) Q E s:=by
 refine Calls.call_function_entry kind_sorted plain_sorted entry_sorted (args_sorted1 _) ?_
 unfold Builtin.«sorted»
 refine Yb (m:=checkCount "sorted" 1 1 _) (Yd ?_)
 refine Yb (ZeT (by simp[hA]) hS (by omega) λh' tk d vs tx k ht hlt=>?_)
 have hvl:vs.length=D.length:=by rw[<-tx.2.length_eq,Yi]
 refine Yb (Ybj ?_ (by rw[Uh];omega))
 have hoL:(h'.push (seqObj "list" vs.toArray 0)).get? h'.objs.size=some (seqObj "list" vs.toArray 0):=Yl _ rfl
 have hStr:Yb2 vs (vs.map strOf):=strsAre_map vs tx.1
 refine Yb (Wg (WY slot_list_sort ⟨_,hoL,rfl⟩ entry_list_sort (list_sort_treeK strKind_oneLt hoL hStr.keysOf (λv₁ v₂ rest e=>keyKind_strs (by rw[<-e];exact hStr)) (by omega) λst' a1 a2=>⟨_,rfl,?_⟩) (args_list_sort _)))
 obtain⟨ss',b1,b2,b3⟩:=sorted_out_str hStr a1 a2
 obtain⟨e,he⟩:=sortedHeap_at (out:=(arrOf st').map (·.2)) hoL
 refine Yd ⟨_,rfl,q _ tk d h'.objs.size ((arrOf st').map (·.2)).toList ss' e b1 (b2.trans tx.2) b3 he (G8 hlt) (λb o x=>?_) ht⟩
 rw[sortedHeap_old (Yv (Yp (k b o x))) (by rw[size_push'];exact Y0 (Yp (k b o x)))]
 exact Yc _ (k b o x)
end
end Mi
namespace Mi
open PySem
inductive T where
 |non|bl (b:Bool)|int (i:Int)|str (cs:List Nat)
 |tup (ts:List T)|lst (ts:List T)
 |dct (ks:List L2.Key) (ts:List T)
 |scr (ns:List Int)
 deriving Inhabited
inductive W where
 |t (x:T)|c (i:Nat)|f (a:Nat)|x (cls:Nat) (nms:List Str) (ts:List T)|o (C:Nat) (nms:List Str) (ts:List T)|u
 deriving Inhabited
noncomputable abbrev Mem:=List (Option (Bool×List T))
structure Exc where
 cls:Nat
 nms:List Str
 flds:List T
inductive Res (a:Type) where
 |ok (x:a) (m:Mem)|exc (x:Exc) (m:Mem)|stuck
noncomputable def Res.bind{a b:Type}(r:Res a)(f:a->Mem->Res b):Res b:=match r with
 |.ok x m=>f x m
 |.exc x m=>.exc x m
 |.stuck=>.stuck
noncomputable abbrev Env:=List (Option W)
inductive B where
 |len|int|str|tuple|list|all|any|sum|min2|max2|sortset|sorted|dict|range1|range2|enum|zip2
 |bool|dget|din|dnot|zip4|lenset|minl|isbis|maxl|sortt|sortn|dictc|mind
 deriving DecidableEq
inductive Mt where
 |join|upper|append|pop|popat|insert|clear|count|get|index|split|partition|extend|reverse
 deriving DecidableEq
inductive Ty where
 |int|bool|str|tuple|list|dict
 deriving DecidableEq
inductive Tg where
 |nm (i:Nat)|tp (is:List Nat)
 deriving DecidableEq
mutual
inductive E where
 |var (i:Nat)|gl (k:Nat)|con (x:T)
 |bin (op:Yag) (a b:E)|neg (a:E)|not (a:E)
 |and (a b:E)|or (a b:E)|one (a:E)
 |cmp (op:CmpOp) (a b:E)|chn (op op':CmpOp) (a b c:E)
 |ite (c a b:E)
 |tup (es:Es)|lst (es:Es)|cel (es:Es)|celb (b:B) (es:Es)|celL (a:E)|celA (a b:E)|dsp (ks vs:Es)
 |ix (a b:E)|slc (a lo hi:E)|rev (a:E)|hole
 |call (f:Nat) (es:Es)|blt (b:B) (es:Es)|mth (b:Mt) (o:E) (es:Es)
 |isi (a:E) (ty:Ty)
 |comp (own:Nat) (keep:List Nat) (it:E) (tg:Tg) (cs:Es) (inner:E)
 |more (it:E) (tg:Tg) (cs:Es) (inner:E)
 |emit (a:E)|emit2 (a b:E)
 |tr (a:E)
 |fnv (j:Nat)|callV (i:Nat) (tab:List (Nat×Nat)) (es:Es)
 |xat (a:E) (cs:List Nat) (nm:Str)|xis (a:E) (yes no:List Nat)
 |ptd (a b:E)
 |sortk (keep:List Nat) (a b:E)
 |fld (a:E) (C:Nat) (f:Str)|mcal (f C:Nat) (nm:Str) (o:E) (es:Es)|make (f C:Nat) (nms:List Str) (es:Es)|emp (k:Nat) (a:E)
 |fst (es:Es)|gdg (k:Nat) (e:E)|gdn (k:Nat) (neg:Bool) (e:E)|dsn (ks:List (List Nat)) (vs:Es)
inductive Es where
 |nil|cons (e:E) (es:Es)
end
noncomputable def Qp:E->Bool
 |.hole=>true
 |_=>false
inductive S where
 |done
 |asg (i:Nat) (e:E) (k:S)
 |asgT (is:List Nat) (e:E) (k:S)
 |asgC (i:Nat) (e:E) (k:S)
 |asgL (is:List Nat) (e:E) (k:S)
 |set (o i v:E) (k:S)
 |aug (i:Nat) (op:Yag) (e:E) (k:S)
 |ife (c:E) (a b k:S)
 |forr (tg:Tg) (it:E) (body k:S)
 |whil (c:E) (body k:S)
 |ret (e:E) (k:S)|retN (k:S)
 |expr (e:E) (k:S)|pass (k:S)|brk (k:S)|cont (k:S)
 |rse (c:Nat) (nms:List Str) (es:Es) (k:S)|stk
 |tri (b:S) (yes:List Nat) (nm:Option Nat) (h k:S)
noncomputable def lim:Nat:=1000000
noncomputable def nlt:List Nat->List Nat->Bool
 |[],[]=>false
 |[],_::_=>true
 |_::_,[]=>false
 |a::x,b::y=>if a<b then true else if b<a then false else nlt x y
noncomputable def b2i(b:Bool):Int:=if b then 1 else 0
mutual
noncomputable def eqT:T->T->Bool
 |.non,.non=>true
 |.bl a,.bl b=>a==b
 |.bl a,.int b=>b2i a==b
 |.int a,.bl b=>a==b2i b
 |.int a,.int b=>a==b
 |.str a,.str b=>a==b
 |.tup a,.tup b=>eqTs a b
 |.lst a,.lst b=>eqTs a b
 |_,_=>false
noncomputable def eqTs:List T->List T->Bool
 |[],[]=>true
 |a::x,b::y=>eqT a b&&eqTs x y
 |_,_=>false
end
mutual
noncomputable def Zw:Nat->T->Bool
 |_,.non=>true
 |_,.bl _=>true
 |_,.int _=>true
 |_,.str cs=>PyData.strOk ⟨cs.toArray⟩
 |n+1,.tup ts=>Z8 n ts
 |n+1,.lst ts=>Z8 n ts
 |_,_=>false
noncomputable def Z8:Nat->List T->Bool
 |_,[]=>true
 |n,t::ts=>Zw n t&&Z8 n ts
end
noncomputable def flat:T->Bool
 |.non|.bl _|.int _|.str _=>true
 |_=>false
mutual
noncomputable def eqok:Nat->T->Bool
 |_,.non=>true
 |_,.bl _=>true
 |_,.int _=>true
 |_,.str _=>true
 |n+1,.tup ts=>Zl9 n ts
 |n+1,.lst ts=>Zl9 n ts
 |_,_=>false
noncomputable def Zl9:Nat->List T->Bool
 |_,[]=>true
 |n,t::ts=>eqok n t&&Zl9 n ts
end
noncomputable def Zfe:T->Bool
 |.non=>false
 |.bl b=>b
 |.int i=>i != 0
 |.str cs=>!cs.isEmpty
 |.tup ts=>!ts.isEmpty
 |.lst ts=>!ts.isEmpty
 |.dct ks _=>!ks.isEmpty
 |.scr ns=>!ns.isEmpty
noncomputable def ixOf(n:Nat)(i:Int):Option Nat:=if 0<=i then(if i<n then some i.toNat else none)else if -(n:Int)<=i then some (i+n).toNat else none
noncomputable def atT{a:Type}(xs:List a)(i:Int):Option a:=(ixOf xs.length i).bind λj=>xs[j]?
noncomputable def ZiL(n d:Nat):Option Int->Nat
 |none=>d
 |some i=>if i<0 then(i+n).toNat else min i.toNat n
noncomputable def cut{a:Type}(xs:List a)(lo hi:Option Int):List a:=
 (xs.drop (ZiL xs.length 0 lo)).take (ZiL xs.length xs.length hi-ZiL xs.length 0 lo)
noncomputable def repT{a:Type}(xs:List a)(k:Nat):List a:=(Yn k xs).flatten
noncomputable def bigN:Nat:=(2^250)^8
noncomputable def small(i:Int):Bool:=decide (i.natAbs<2^64)
noncomputable def ZaA(i j:Int):Bool:=small i || small j || (decide (i.natAbs<bigN)&&decide (j.natAbs<bigN))
noncomputable def addT:T->T->Option T
 |.int i,.int j=>some (.int (i+j))
 |.str a,.str b=>if a.length+b.length<=lim then some (.str (a++b))else none
 |.tup a,.tup b=>if a.length+b.length<=lim then some (.tup (a++b))else none
 |.lst a,.lst b=>if a.length+b.length<=lim then some (.lst (a++b))else none
 |_,_=>none
noncomputable def mulT(x y:T):Option T:=match y with
 |.int k=>match x with
  |.int i=>if ZaA i k then some (.int (i*k))else none
  |.tup a=>if(-(lim:Int)<=k/\k<=lim)/\a.length*k.toNat<=lim then some (.tup (repT a k.toNat))else none
  |.lst a=>if(-(lim:Int)<=k/\k<=lim)/\a.length*k.toNat<=lim then some (.lst (repT a k.toNat))else none
  |.str a=>if(0<=k/\k<=64)/\a.length<=1000 then some (.str (repT a k.toNat))else none
  |_=>none
 |_=>none
noncomputable def intT(f:Int->Int->Option T)(x y:T):Option T:=match x with
 |.int i=>match y with
  |.int j=>f i j
  |_=>none
 |_=>none
noncomputable def binT(op:Yag)(x y:T):Option T:=
 match op with
 |.Add=>addT x y
 |.Sub=>intT (λi j=>some (.int (i-j))) x y
 |.Mult=>mulT x y
 |.FloorDiv=>intT (λi j=>if 0<j/\j<1073741824 then some (.int (i / j))else none) x y
 |.Mod=>intT (λi j=>if 0<j then some (.int (i%j))else none) x y
 |.Pow=>intT (λi j=>if 0<=j/\j<=1000/\i.natAbs<2^64 then some (.int (i^j.toNat))else none) x y
 |_=>none
noncomputable def augT(op:Yag)(x y:T):Option T:=
 match op,x,y with
 |.Add,.int i,.int j=>some (.int (i+j))
 |.Sub,.int i,.int j=>some (.int (i-j))
 |_,_,_=>none
noncomputable def ZfZ(x y:T):Bool:=match x,y with
 |.bl _,.int _=>false
 |.int _,.bl _=>false
 |x,y=>flat x&&flat y
noncomputable def hasT(x:T)(y:T):Option Bool:=
 match y with
 |.tup ts=>if flat x&&ts.all flat then some (ts.any λt=>eqT t x)else none
 |.lst ts=>if flat x&&ts.all flat then some (ts.any λt=>eqT t x)else if Zw 59 x&&Z8 59 ts then some (ts.any λt=>eqT t x)else none
 |_=>none
noncomputable def ZgE(f:Int->Int->Bool)(x y:T):Option Bool:=match x with
 |.int i=>match y with
  |.int j=>some (f i j)
  |_=>none
 |_=>none
noncomputable def ltT(x y:T):Option Bool:=match x with
 |.int i=>match y with
  |.int j=>some (decide (i<j))
  |_=>none
 |.str a=>match y with
  |.str b=>some (nlt a b)
  |_=>none
 |_=>none
noncomputable def inT(x y:T):Option Bool:=match x with
 |.str [a]=>match y with
  |.str b=>some (decide (a∈b))
  |y=>hasT (.str [a]) y
 |.str (a::a'::r)=>match y with
  |.str b=>some (!(Us ⟨b.toArray⟩ ⟨(a::a'::r).toArray⟩ 0 b.length 1).isEmpty)
  |y=>hasT (.str (a::a'::r)) y
 |x=>hasT x y
noncomputable def sameT(x y:T):Option Bool:=match y with
 |.non=>some (match x with|.non=>true|_=>false)
 |.bl b=>some (match x with|.bl a=>a==b|_=>false)
 |_=>none
noncomputable def cmpT(op:CmpOp)(x y:T):Option Bool:=
 match op with
 |.Lt=>ltT x y
 |.LtE=>ZgE (λi j=>decide (i<=j)) x y
 |.Gt=>ZgE (λi j=>decide (j<i)) x y
 |.GtE=>ZgE (λi j=>decide (j<=i)) x y
 |.Eq=>if ZfZ x y || (Zw 60 x&&Zw 60 y)then some (eqT x y)else none
 |.NotEq=>if ZfZ x y || (Zw 60 x&&Zw 60 y)then some (!eqT x y)else none
 |.In=>inT x y
 |.NotIn=>(inT x y).map (!·)
 |.Is=>sameT x y
 |.IsNot=>(sameT x y).map (!·)
noncomputable def isT(x:T)(ty:Ty):Bool:=
 match x,ty with
 |.int _,.int=>true
 |.bl _,.int=>true
 |.bl _,.bool=>true
 |.str _,.str=>true
 |.tup _,.tuple=>true
 |.lst _,.list=>true
 |.scr _,.list=>true
 |.dct _ _,.dict=>true
 |_,_=>false
noncomputable def ixT(x i:T):Option T:=
 match x,i with
 |.tup ts,.int k=>atT ts k
 |.lst ts,.int k=>atT ts k
 |.scr ns,.int k=>(atT ns k).map .int
 |.str cs,.int k=>if cs.length<=lim then(atT cs k).map λc=>.str [c]else none
 |_,_=>none
noncomputable def slT(x:T)(lo hi:Option Int):Option T:=
 match x with
 |.tup ts=>some (.tup (cut ts lo hi))
 |.lst ts=>some (.lst (cut ts lo hi))
 |.scr ns=>some (.lst ((cut ns lo hi).map .int))
 |.str cs=>if cs.length<=lim then some (.str (cut cs lo hi))else none
 |_=>none
noncomputable def insT(x:List Nat):List (List Nat)->List (List Nat)
 |[]=>[x]
 |y::r=>if nlt x y then x::y::r else if nlt y x then y::insT x r else y::r
noncomputable def ZD(xs:List (List Nat)):List (List Nat):=xs.foldr insT []
noncomputable def insN(x:List Nat):List (List Nat)->List (List Nat)
 |[]=>[x]
 |y::r=>if nlt y x then y::insN x r else x::y::r
noncomputable def ZdB(xs:List (List Nat)):List (List Nat):=xs.foldr insN []
noncomputable def strs?: List T->Option (List (List Nat))
 |[]=>some []
 |.str c::r=>(strs? r).map (c::·)
 |_=>none
noncomputable def ZkZ(d:Int)(w:List Nat):Int:=d+(if w==[40]then 1 else 0)-(if w==[41]then 1 else 0)
noncomputable def pgo(x:List Nat):List (List Nat)->Int->List (List Nat)->List (List (List Nat))->List (List (List Nat))
 |[],_,cur,acc=>acc++[cur]
 |w::r,d,cur,acc=>if w==x&&decide (ZkZ d w=0)then pgo x r (ZkZ d w) [] (acc++[cur])else pgo x r (ZkZ d w) (cur++[w]) acc
noncomputable def parted(x:List Nat)(ws:List (List Nat)):List (List (List Nat)):=pgo x ws 0 [] []
noncomputable def ptT(x y:T):Option T:=match x,y with
 |.lst ts,.str c=>(strs? ts).bind λws=>if ws.length<1000 then some (.lst ((parted c ws).map λp=>.lst (p.map .str)))else none
 |_,_=>none
noncomputable def ints?: List T->Option (List Int)
 |[]=>some []
 |.int c::r=>(ints? r).map (c::·)
 |_=>none
noncomputable def bools?: List T->Option (List Bool)
 |[]=>some []
 |.bl c::r=>(bools? r).map (c::·)
 |_=>none
noncomputable def tupI?: T->Option (List Int)
 |.tup ts=>ints? ts
 |_=>none
noncomputable def tups?: List T->Option (List (List Int))
 |[]=>some []
 |t::r=>(tupI? t).bind λk=>(tups? r).map (k::·)
noncomputable def lexI:List Int->List Int->Bool
 |[],[]=>false
 |[],_::_=>true
 |_::_,[]=>false
 |x::xs,y::ys=>if x=y then lexI xs ys else decide (x<y)
noncomputable def insI(x:List Int):List (List Int)->List (List Int)
 |[]=>[x]
 |y::r=>if lexI y x then y::insI x r else x::y::r
noncomputable def sortI(xs:List (List Int)):List (List Int):=xs.foldr insI []
noncomputable def tupT(k:List Int):T:=.tup (k.map .int)
noncomputable def sorttT(ts:List T):Option T:=(tups? ts).bind λks=>if ks.Nodup/\ks.length<64/\(ks.all λk=>!k.isEmpty)=true then some (.lst ((sortI ks).map tupT))else none
noncomputable def sortnT(ts:List T):Option T:=(ints? ts).bind λns=>if ns.Nodup/\ns.length<64 then some (.lst ((sortI (ns.map λn=>[n])).map λk=>.int (k.headD 0)))else none
noncomputable def insK(x:List Int×T):List (List Int×T)->List (List Int×T)
 |[]=>[x]
 |y::r=>if lexI y.1 x.1 then y::insK x r else x::y::r
noncomputable def sortK(xs:List (List Int×T)):List (List Int×T):=xs.foldr insK []
noncomputable def sortkT(ks:List (List Int))(ts:List T):Option T:=if ks.Nodup/\ks.length<64 then some (.lst ((sortK (ks.zip ts)).map (·.2)))else none
noncomputable def joinN(sep:List Nat):List (List Nat)->List Nat
 |[]=>[]
 |[x]=>x
 |x::r=>x++sep++joinN sep r
noncomputable def upN(c:Nat):Nat:=if 97<=c/\c<=122 then c-32 else c
noncomputable def asciiN(c:Nat):Bool:=decide (c<128)
noncomputable def decI(i:Int):List Nat:=(U7 (toString i)).cps.toList
noncomputable def rangeT(lo:Int)(n:Nat):List T:=(YM n).map λk:Nat=>.int (lo+(k:Int))
noncomputable def Zhh(c:Nat):List Nat->List (List Nat)
 |[]=>[[]]
 |a::r=>if a=c then[]::Zhh c r else match Zhh c r with
  |x::xs=>(a::x)::xs
  |[]=>[[a]]
noncomputable def fmtT:T->Option (List Nat)
 |.str cs=>some cs
 |.int i=>if i.natAbs<2^250 then some (decI i)else none
 |_=>none
noncomputable def Zii:T->Option (List T)
 |.tup ts=>some ts
 |.lst ts=>some ts
 |.scr ns=>some (ns.map .int)
 |.str cs=>if cs.length<=lim then some (cs.map λc=>.str [c])else none
 |_=>none
noncomputable def view(w:W)(m:Mem):Option T:=match w with
 |.t x=>some x
 |.f _=>none
 |.x _ _ _=>none
 |.o _ _ _=>none
 |.u=>none
 |.c i=>match m[i]? with
  |some (some (_,ts))=>some (.lst ts)
  |_=>none
noncomputable def pur(o:Option T)(m:Mem):Res W:=match o with
 |some t=>.ok (.t t) m
 |none=>.stuck
noncomputable def frz(w:W)(m:Mem):Res T:=match w with
 |.t x=>.ok x m
 |.f _=>.stuck
 |.x _ _ _=>.stuck
 |.o _ _ _=>.stuck
 |.u=>.stuck
 |.c i=>match m[i]? with
  |some (some (false,ts))=>.ok (.lst ts) (m.set i none)
  |_=>.stuck
noncomputable def frzs:List W->Mem->Res (List T)
 |[],m=>.ok [] m
 |w::ws,m=>(frz w m).bind λt m=>(frzs ws m).bind λts m=>.ok (t::ts) m
noncomputable def views:List W->Mem->Option (List T)
 |[],_=>some []
 |w::ws,m=>(view w m).bind λt=>(views ws m).map (t::·)
noncomputable def Z4(w:W)(m:Mem):Res (List T):=match w with
 |.f _=>.stuck
 |.x _ _ _=>.stuck
 |.o _ _ _=>.stuck
 |.u=>.stuck
 |.t x=>match Zii x with
  |some ts=>.ok ts m
  |none=>.stuck
 |.c i=>match m[i]? with
  |some (some (_,ts))=>.ok ts (m.set i (some (true,ts)))
  |_=>.stuck
noncomputable def giveBack(w:W)(m0 m:Mem):Mem:=match w with
 |.t _=>m
 |.f _=>m
 |.x _ _ _=>m
 |.o _ _ _=>m
 |.u=>m
 |.c i=>match m0[i]? with
  |some c=>m.set i c
  |none=>m
noncomputable def JL(tg:Tg)(t:T)(env:Env):Option Env:=match tg with
 |.nm i=>some (env.set i (some (.t t)))
 |.tp is=>match t with
  |.tup ts=>if ts.length=is.length then some ((is.zip ts).foldl (λenv p=>env.set p.1 (some (.t p.2))) env)else none
  |_=>none
noncomputable def one1(f:T->Option T):List T->Option T
 |[x]=>f x
 |_=>none
noncomputable def two2(f:Int->Int->Option T):List T->Option T
 |[.int i,.int j]=>f i j
 |_=>none
noncomputable def bLen:T->Option T
 |.str cs=>if cs.length<=lim then some (.int cs.length)else none
 |.tup ts=>some (.int ts.length)
 |.lst ts=>some (.int ts.length)
 |.scr ns=>some (.int ns.length)
 |_=>none
noncomputable def figV(cs:List Nat):Int:=((cs.foldl (λn c=>n*10+(c-48)) 0:Nat):Int)
noncomputable def bInt:T->Option T
 |.int i=>some (.int i)
 |.bl b=>some (.int (b2i b))
 |.str cs=>if cs≠[]/\cs.length<=600/\cs.all (λc=>decide (48<=c)&&decide (c<=57))=true then some (.int (figV cs))else none
 |_=>none
noncomputable def bStr:T->Option T
 |.int i=>if i.natAbs<2^250 then some (.str (decI i))else none
 |_=>none
noncomputable def bTup:T->Option T
 |.tup ts=>some (.tup ts)
 |.lst ts=>some (.tup ts)
 |.str cs=>if cs.length<=lim then some (.tup (cs.map λc=>.str [c]))else none
 |_=>none
noncomputable def bLst:T->Option T
 |.tup ts=>some (.lst ts)
 |.lst ts=>some (.lst ts)
 |_=>none
noncomputable def Zb4(f:List T->Option T):T->Option T
 |.lst ts=>f ts
 |_=>none
noncomputable def bRng:T->Option T
 |.int i=>if i<2^62/\-(2^62)<=i then some (.lst (rangeT 0 i.toNat))else none
 |_=>none
noncomputable def zipL(xs ys:List T):List T:=List.zipWith (λx y=>.tup [x,y]) xs ys
noncomputable def zipT:List T->Option T
 |[.tup xs,.tup ys]=>if xs.length=ys.length/\xs.length<=lim then some (.lst (zipL xs ys))else none
 |_=>none
noncomputable def ZgZ(a b c d:List T):List T:=(a.zip (b.zip (c.zip d))).map λp=>.tup [p.1,p.2.1,p.2.2.1,p.2.2.2]
noncomputable def zip4T:List T->Option T
 |[.lst a,.lst b,.lst c,.lst d]=>if(a.length=b.length/\a.length=c.length/\a.length=d.length)/\a.length<=lim then some (.lst (ZgZ a b c d))else none
 |_=>none
noncomputable def ZeP(xs:List T):List T:=List.zipWith (λ(k:Nat) x=>T.tup [.int (k:Int),x]) (YM xs.length) xs
noncomputable def ZeJ(ts:List T):Option T:=(strs? ts).bind λxs=>if xs.length<64 then some (.int ((ZD xs).length:Int))else none
noncomputable def minI(n:Int)(ns:List Int):Int:=ns.foldl (λa b=>if b<a then b else a) n
noncomputable def minlT(ts:List T):Option T:=(ints? ts).bind λns=>match ns with
 |[]=>none
 |n::r=>if r.length<64 then some (.int (minI n r))else none
noncomputable def maxI(n:Int)(ns:List Int):Int:=ns.foldl (λa b=>if a<b then b else a) n
noncomputable def maxlT(ts:List T):Option T:=(ints? ts).bind λns=>match ns with
 |[]=>none
 |n::r=>if r.length<64 then some (.int (maxI n r))else none
noncomputable def bIsb:T->Option T
 |.bl _=>some (.bl true)
 |.int _=>some (.bl true)
 |.str _=>some (.bl true)
 |_=>none
noncomputable def keyT:T->Option L2.Key
 |.int i=>some (.inl i)
 |.str cs=>some (.inr ⟨cs.toArray⟩)
 |_=>none
noncomputable def pairs?: List T->Option (List (List Nat×T))
 |[]=>some []
 |.tup [.str k,v]::ts=>(pairs? ts).map ((k,v)::·)
 |_=>none
noncomputable def dctT(ps:List (List Nat×T)):T:=.dct (ps.map λp=>.inr ⟨p.1.toArray⟩) (ps.map (·.2))
noncomputable def bDict:T->Option T
 |.tup ts=>(pairs? ts).bind λps=>if ts.length<=lim/\(ps.map (·.1)).Nodup then some (dctT ps)else none
 |_=>none
noncomputable def ZeH(ks:List L2.Key)(ts:List T)(k:L2.Key):Option T:=((ks.zip ts).find? λp=>decide (p.1=k)).map (·.2)
noncomputable def dGetT:List T->Option T
 |[.dct ks vs,x]=>(keyT x).bind (ZeH ks vs)
 |_=>none
noncomputable def dInT(neg:Bool):List T->Option T
 |[x,.dct ks vs]=>(keyT x).map λk=>.bl (if neg then !(ZeH ks vs k).isSome else(ZeH ks vs k).isSome)
 |_=>none
noncomputable def gDct(o:Option T)(f:List L2.Key->List T->Option T):Option T:=match o with
 |some (.dct ks vs)=>f ks vs
 |_=>none
noncomputable def ZlO(f:List T->Option T):T->Option T
 |.lst ts=>f ts
 |.tup ts=>f ts
 |_=>none
noncomputable def Zko:List T->Option (List L2.Key×List T)
 |[]=>some ([],[])
 |k::v::r=>(keyT k).bind λkk=>(Zko r).map λp=>(kk::p.1,v::p.2)
 |_=>none
noncomputable def dictcT(ts:List T):Option T:=(Zko ts).bind λp=>if p.1.Nodup/\p.1.length<=1000 then some (.dct p.1 p.2)else none
noncomputable def bltT(b:B)(ts:List T):Option T:=
 match b with
 |.len=>one1 bLen ts
 |.int=>one1 bInt ts
 |.str=>one1 bStr ts
 |.tuple=>one1 bTup ts
 |.list=>one1 bLst ts
 |.all=>one1 (ZlO λts=>(bools? ts).map λbs=>.bl (bs.all id)) ts
 |.any=>one1 (ZlO λts=>(bools? ts).map λbs=>.bl (bs.any id)) ts
 |.sum=>one1 (Zb4 λts=>(ints? ts).map λns=>.int ns.sum) ts
 |.sortset=>one1 (Zb4 λts=>(strs? ts).bind λxs=>if xs.length<64 then some (.lst ((ZD xs).map .str))else none) ts
 |.sorted=>one1 (Zb4 λts=>(strs? ts).bind λxs=>if xs.length<64 then some (.lst ((ZdB xs).map .str))else none) ts
 |.min2=>two2 (λi j=>some (.int (if j<i then j else i))) ts
 |.max2=>two2 (λi j=>some (.int (if j>i then j else i))) ts
 |.range1=>one1 bRng ts
 |.zip2=>zipT ts
 |.dict=>one1 bDict ts
 |.zip4=>zip4T ts
 |.enum=>one1 (Zb4 λts=>if ts.length<=lim then some (.lst (ZeP ts))else none) ts
 |.lenset=>one1 (ZlO ZeJ) ts
 |.minl=>one1 (Zb4 minlT) ts
 |.sortt=>one1 (Zb4 sorttT) ts
 |.dictc=>one1 (Zb4 dictcT) ts
 |.sortn=>one1 (Zb4 sortnT) ts
 |.maxl=>one1 (Zb4 maxlT) ts
 |.isbis=>one1 bIsb ts
 |.dget=>dGetT ts
 |.din=>dInT false ts
 |.dnot=>dInT true ts
 |.range2=>two2 (λi j=>if(i<2^62/\-(2^62)<=i)/\j<2^62/\-(2^62)<=j then some (.lst (rangeT i (j-i).toNat))else none) ts
 |_=>none
noncomputable def ofBl(f:Bool->Option T):T->Option T
 |.bl b=>f b
 |_=>none
noncomputable def idxT(xs:List T)(b:Bool):Option T:=(bools? xs).bind λbs=>if bs.length<=lim then(bs.findIdx? (·==b)).map λk=>.int (k:Int)else none
noncomputable def cntT(xs:List T)(b:Bool):Option T:=(bools? xs).bind λbs=>if bs.length<=lim then some (.int ((bs.countP (·==b):Nat):Int))else none
noncomputable def cntS(xs:List T)(b:List Nat):Option T:=(strs? xs).bind λbs=>if bs.length<=lim then some (.int ((bs.countP (·==b):Nat):Int))else none
noncomputable def cntO(xs:List T):T->Option T
 |.bl b=>cntT xs b
 |.str b=>cntS xs b
 |_=>none
noncomputable def mthT(b:Mt)(o:T)(ts:List T):Option T:=
 match b with
 |.join=>match o with
  |.str sep=>one1 (Zb4 λxs=>(strs? xs).bind λys=>if(ys.map YaF).sum+ys.length*sep.length<=lim then some (.str (joinN sep ys))else none) ts
  |_=>none
 |.index=>match o with
  |.lst xs=>one1 (ofBl (idxT xs)) ts
  |_=>none
 |.count=>match o with
  |.lst xs=>one1 (cntO xs) ts
  |_=>none
 |.get=>match o with
  |.dct ks vs=>one1 (λx=>(keyT x).map λk=>(ZeH ks vs k).getD .non) ts
  |_=>none
 |.split=>match o with
  |.str cs=>match ts with
   |[.str [c]]=>if cs.length<=900000 then some (.lst ((Zhh c cs).map .str))else none
   |_=>none
  |_=>none
 |.upper=>match o with
  |.str cs=>match ts with
   |[]=>if cs.all asciiN&&decide (cs.length<=lim)then some (.str (cs.map upN))else none
   |_=>none
  |_=>none
 |_=>none
noncomputable def mutM(b:Mt)(xs:List T)(ts:List T):Option (T×List T):=
 match b,ts with
 |.append,[t]=>if xs.length<lim then some (.non,xs++[t])else none
 |.extend,[.lst ys]=>if xs.length+ys.length<=lim then some (.non,xs++ys)else none
 |.insert,[.int i,t]=>if 0<=i/\i<=xs.length/\xs.length<lim then some (.non,xs.take i.toNat++t::xs.drop i.toNat)else none
 |.clear,[]=>some (.non,[])
 |.popat,[.int i]=>match ixOf xs.length i with
  |some k=>(xs[k]?).map λt=>(t,xs.eraseIdx k)
  |none=>none
 |.pop,[]=>match xs.getLast? with
  |some t=>some (t,xs.dropLast)
  |none=>none
 |_,_=>none
noncomputable def doM(b:Mt)(o:W)(ws:List W)(m:Mem):Res W:=match b with
 |.append|.pop|.popat|.insert|.clear|.extend|.reverse=>match o with
  |.c i=>(frzs ws m).bind λts m=>match m[i]? with
   |some (some (false,xs))=>match mutM b xs ts with
    |some (t,ys)=>.ok (.t t) (m.set i (some (false,ys)))
    |none=>.stuck
   |_=>.stuck
  |.t _=>.stuck
  |.f _=>.stuck
  |.x _ _ _=>.stuck
  |.o _ _ _=>.stuck
  |.u=>.stuck
 |_=>pur ((view o m).bind λx=>(views ws m).bind λts=>mthT b x ts) m
noncomputable def addC(x y:W)(m:Mem):Res W:=match(view x m).bind λx=>(view y m).bind λy=>addT x y with
 |some (.lst ts)=>.ok (.c m.length) (m++[some (false,ts)])
 |_=>.stuck
noncomputable def setM(o i v:W)(m:Mem):Res Unit:=match o,i with
 |.c c,.t (.int k)=>(frz v m).bind λt m=>match m[c]? with
  |some (some (false,xs))=>match ixOf xs.length k with
   |some j=>.ok () (m.set c (some (false,xs.set j t)))
   |none=>.stuck
  |_=>.stuck
 |_,_=>.stuck
noncomputable def intP(w:W)(m:Mem):Res (Option Int):=match w with
 |.t (.int i)=>.ok (some i) m
 |_=>.stuck
noncomputable def dspT(ks vs:List W)(m:Mem):Res W:=match ks,vs with
 |[],[]=>.ok (.t (.dct [] [])) m
 |[.t k],[.t v]=>match keyT k with
  |some kk=>.ok (.t (.dct [kk] [v])) m
  |none=>.stuck
 |_,_=>.stuck
noncomputable def tyM(b:Mt)(w:W)(m:Mem):Bool:=match b with
 |.join|.upper|.split|.partition=>match view w m with
  |some (.str _)=>true
  |_=>false
 |.append|.pop|.popat|.insert|.clear|.extend|.reverse=>match w with
  |.c i=>match m[i]? with
   |some (some _)=>true
   |_=>false
  |_=>false
 |.count|.index=>match view w m with
  |some (.lst _)=>true
  |_=>false
 |.get=>match view w m with
  |some (.dct _ _)=>true
  |_=>false
noncomputable def Jd(f:Env->Mem->Res (List T))(tg:Tg):List T->Env->Mem->Res (List T)
 |[],_,m=>.ok [] m
 |t::ts,env,m=>match JL tg t env with
  |none=>.stuck
  |some env'=>(f env' m).bind λxs m=>(Jd f tg ts env m).bind λys m=>.ok (xs++ys) m
noncomputable def keyL(w:W):Option (List Int):=match w with
 |.t (.lst us)=>ints? us
 |_=>none
noncomputable def loopK(f:Env->Mem->Res W)(kept:Env):List T->Mem->Res (List (List Int))
 |[],m=>.ok [] m
 |t::ts,m=>(f (some (.t t)::kept) m).bind λw m=>match keyL w with
  |some k=>(loopK f kept ts m).bind λks m=>.ok (k::ks) m
  |none=>.stuck
noncomputable def Res.only{a:Type}(r:Res a):Res a:=match r with
 |.exc _ _=>.stuck
 |r=>r
inductive Flow where
 |next (env:Env)|ret (w:W)|brk (env:Env)|cont (env:Env)
noncomputable def JN(f:Env->Mem->Res Flow)(tg:Tg):List T->Env->Mem->Res Flow
 |[],env,m=>.ok (.next env) m
 |t::ts,env,m=>match JL tg t env with
  |none=>.stuck
  |some env=>(f env m).bind λfl m=>match fl with
   |.next env=>JN f tg ts env m
   |.cont env=>JN f tg ts env m
   |.brk env=>.ok (.next env) m
   |.ret w=>.ok (.ret w) m
noncomputable def Zg3(c:Env->Mem->Res Bool)(f:Env->Mem->Res Flow):Nat->Env->Mem->Res Flow
 |0,_,_=>.stuck
 |n+1,env,m=>(c env m).bind λb m=>if b then(f env m).bind λfl m=>match fl with
   |.next env=>Zg3 c f n env m
   |.cont env=>Zg3 c f n env m
   |.brk env=>.ok (.next env) m
   |.ret w=>.ok (.ret w) m
  else .ok (.next env) m
noncomputable def turns:Nat:=1000000
noncomputable def fitT:T->Bool
 |.str cs=>decide (cs.length<=lim)
 |_=>true
noncomputable def QZ(w:W)(m:Mem):Res Bool:=match view w m with
 |some t=>if fitT t then .ok (Zfe t) m else .stuck
 |none=>.stuck
noncomputable def Zel(w:W)(m:Mem):Res Bool:=match w with
 |.t (.bl b)=>.ok b m
 |_=>.stuck
noncomputable def Zdp(w:W)(m:Mem):Res (List T):=match w with
 |.t (.lst ts)=>.ok ts m
 |_=>.stuck
noncomputable def xatT(cs:List Nat)(nm:Str)(x:W):Option T:=match x with
 |.x c nms ts=>if c∈cs then(nms.zip ts).lookup nm else none
 |_=>none
noncomputable def xisT(yes no:List Nat)(x:W):Option T:=match x with
 |.x c _ _=>if c∈yes then some (.bl true)else if c∈no then some (.bl false)else none
 |_=>none
noncomputable def fldT(C:Nat)(f:Str)(x:W):Option T:=match x with
 |.o D nms ts=>if D=C then(nms.zip ts).lookup f else none
 |_=>none
noncomputable def isO(C:Nat)(nm:Str)(x:W):Bool:=match x with
 |.o D nms _=>decide (D=C)&&!decide (nm∈nms)
 |_=>false
noncomputable def isTr:W->Bool
 |.t _=>true
 |_=>false
noncomputable def mkO(C:Nat)(nms:List Str)(w:W)(m:Mem):Res W:=match w with
 |.t (.tup ts)=>if ts.length=nms.length then .ok (.o C nms ts) m else .stuck
 |_=>.stuck
noncomputable def empT(k:Nat)(t:T):Option T:=match t with
 |.lst []=>if k=0 then some (.lst [])else if k=1 then some (.dct [] [])else none
 |.dct [] []=>if k=2 then some (.bl true)else none
 |_=>none
noncomputable def hEnv(n:Nat)(nm:Option Nat)(x:Exc):Env:=match nm with
 |some i=>(Yn n none).set i (some (.x x.cls x.nms x.flds))
 |none=>Yn n none
noncomputable def unE(nm:Option Nat)(env:Env):Env:=match nm with
 |some i=>env.set i none
 |none=>env
noncomputable def fmtW(acc:List Nat)(w:W)(m:Mem):Res (List Nat):=match(view w m).bind fmtT with
 |some a=>if acc.length+a.length<=lim then .ok (acc++a) m else .stuck
 |none=>.stuck
noncomputable def treeW(w:W)(m:Mem):Res W:=match w with
 |.t x=>.ok (.t x) m
 |.c _=>.stuck
 |.f _=>.stuck
 |.x _ _ _=>.stuck
 |.o _ _ _=>.stuck
 |.u=>.stuck
noncomputable def ZlS(gv:List T)(a:Nat):List (Nat×Nat)->Option Nat
 |[]=>none
 |(j,k)::r=>match gv[j]? with
  |some (.int b)=>if b=(a:Int)then some k else ZlS gv a r
  |_=>ZlS gv a r
section
variable(call:Nat->List W->Mem->Res W) (gv:List T)
mutual
noncomputable def ev:E->Env->Mem->Res W
 |.var i,env,m=>match env[i]? with
  |some (some w)=>.ok w m
  |_=>.stuck
 |.gl k,_,m=>pur gv[k]? m
 |.con t,_,m=>.ok (.t t) m
 |.bin op a b,env,m=>(ev a env m).bind λx m=>(ev b env m).bind λy m=>pur ((view x m).bind λx=>(view y m).bind λy=>binT op x y) m
 |.neg a,env,m=>(ev a env m).bind λx m=>pur ((view x m).bind λx=>match x with
  |.int i=>some (.int (-i))
  |_=>none) m
 |.not a,env,m=>(ev a env m).bind λx m=>(Zel x m).bind λk m=>.ok (.t (.bl (!k))) m
 |.and a b,env,m=>(ev a env m).bind λx m=>(Zel x m).bind λk m=>if k then ev b env m else .ok (.t (.bl false)) m
 |.or a b,env,m=>(ev a env m).bind λx m=>(Zel x m).bind λk m=>if k then .ok (.t (.bl true)) m else ev b env m
 |.one a,env,m=>ev a env m
 |.cmp op a b,env,m=>(ev a env m).bind λx m=>(ev b env m).bind λy m=>pur (((view x m).bind λx=>(view y m).bind λy=>cmpT op x y).map .bl) m
 |.chn op op' a b c,env,m=>(ev a env m).bind λx m=>(ev b env m).bind λy m =>
   match(view x m).bind λx=>(view y m).bind λy=>cmpT op x y with
   |some true=>(ev c env m).bind λz m=>pur (((view y m).bind λy=>(view z m).bind λz=>cmpT op' y z).map .bl) m
   |some false=>.ok (.t (.bl false)) m
   |none=>.stuck
 |.ite c a b,env,m=>(ev c env m).bind λx m=>(QZ x m).bind λk m=>if k then ev a env m else ev b env m
 |.tup es,env,m=>(evs es env m).bind λws m=>(frzs ws m).bind λts m=>if ts.length<=lim then .ok (.t (.tup ts)) m else .stuck
 |.lst es,env,m=>(evs es env m).bind λws m=>(frzs ws m).bind λts m=>if ts.length<=lim then .ok (.t (.lst ts)) m else .stuck
 |.cel es,env,m=>(evs es env m).bind λws m=>(frzs ws m).bind λts m=>if ts.length<=lim then .ok (.c m.length) (m++[some (false,ts)])else .stuck
 |.celL a,env,m=>(ev a env m).bind λx m=>match view x m with
  |some (.lst ts)=>.ok (.c m.length) (m++[some (false,ts)])
  |some (.tup ts)=>.ok (.c m.length) (m++[some (false,ts)])
  |_=>.stuck
 |.celb b es,env,m=>(evs es env m).bind λws m=>match(views ws m).bind λts=>bltT b ts with
  |some (.lst ts)=>.ok (.c m.length) (m++[some (false,ts)])
  |_=>.stuck
 |.celA a b,env,m=>(ev a env m).bind λx m=>(ev b env m).bind λy m=>addC x y m
 |.dsp ks vs,env,m=>(evs ks env m).bind λkw m=>(evs vs env m).bind λvw m=>dspT kw vw m
 |.ix a b,env,m=>(ev a env m).bind λx m=>(ev b env m).bind λy m=>pur ((view x m).bind λx=>(view y m).bind λy=>ixT x y) m
 |.slc a lo hi,env,m=>(ev a env m).bind λx m=>(if Qp lo then Res.ok none m else(ev lo env m).bind intP).bind λl m =>
   (if Qp hi then Res.ok none m else(ev hi env m).bind intP).bind λh m=>pur ((view x m).bind λx=>slT x l h) m
 |.hole,_,m=>.ok (.t .non) m
 |.rev a,env,m=>(ev a env m).bind λx m=>pur ((view x m).bind λx=>match x with
  |.tup ts=>some (.tup ts.reverse)
  |.lst ts=>some (.lst ts.reverse)
  |_=>none) m
 |.call f es,env,m=>(evs es env m).bind λws m=>call f ws m
 |.blt b es,env,m=>(evs es env m).bind λws m=>pur ((views ws m).bind λts=>bltT b ts) m
 |.mth b o es,env,m=>(ev o env m).bind λx m=>if tyM b x m then(evs es env m).bind λws m=>doM b x ws m else .stuck
 |.isi a ty,env,m=>(ev a env m).bind λx m=>pur ((view x m).map λx=>.bl (isT x ty)) m
 |.comp own keep it tg cs inner,env,m=>(ev it env m).only.bind λx m0=>(Z4 x m0).bind λts m =>
   (Jd (λenv m=>(tests cs env m).bind λk m=>if k then(ev inner env m).bind Zdp else .ok [] m) tg ts (Yn own none++keep.map λi=>(env[i]?).join) m).only.bind λout m =>
    if out.length<=lim then .ok (.t (.lst out)) (giveBack x m0 m)else .stuck
 |.more it tg cs inner,env,m=>(ev it env m).bind λx m0=>(Z4 x m0).bind λts m =>
   (Jd (λenv m=>(tests cs env m).bind λk m=>if k then(ev inner env m).bind Zdp else .ok [] m) tg ts env m).bind λout m=>.ok (.t (.lst out)) (giveBack x m0 m)
 |.emit a,env,m=>(ev a env m).bind λx m=>(frz x m).bind λt m=>.ok (.t (.lst [t])) m
 |.emit2 a b,env,m=>(ev a env m).bind λx m=>(ev b env m).bind λy m=>match x with
  |.t t=>if(keyT t).isSome then(frz y m).bind λu m=>.ok (.t (.lst [t,u])) m else .stuck
  |_=>.stuck
 |.tr a,env,m=>(ev a env m).bind treeW
 |.fnv j,_,m=>match gv[j]? with
  |some (.int a)=>.ok (.f a.toNat) m
  |_=>.stuck
 |.callV i tab es,env,m=>match env[i]? with
  |some (some (.f a))=>match ZlS gv a tab with
   |some k=>(evs es env m).bind λws m=>call k ws m
   |none=>.stuck
  |_=>.stuck
 |.xat a cs nm,env,m=>(ev a env m).bind λx m=>pur (xatT cs nm x) m
 |.xis a yes no,env,m=>(ev a env m).bind λx m=>pur (xisT yes no x) m
 |.ptd a b,env,m=>(ev a env m).bind λx m=>(ev b env m).bind λy m=>pur ((view x m).bind λx=>(view y m).bind λy=>ptT x y) m
 |.sortk keep a b,env,m=>(ev a env m).bind λx m=>match view x m with
  |some (.lst ts)=>(loopK (λenv m=>ev b env m) (keep.map λi=>(env[i]?).join) ts m).only.bind λks m=>pur (sortkT ks ts) m
  |_=>.stuck
 |.fld a C f,env,m=>(ev a env m).bind λx m=>pur (fldT C f x) m
 |.mcal f C nm o es,env,m=>(ev o env m).bind λx m=>if isO C nm x then(evs es env m).bind λws m=>call f (x::ws) m else .stuck
 |.make f C nms es,env,m=>(evs es env m).bind λws m=>if ws.all isTr then(call f (.u::ws) m).bind (mkO C nms)else .stuck
 |.emp k a,env,m=>(ev a env m).bind λx m=>pur ((view x m).bind (empT k)) m
 |.fst es,env,m=>(evf es [] env m).bind λcs m=>.ok (.t (.str cs)) m
 |.gdg k e,env,m=>(ev e env m).bind λx m=>pur ((view x m).bind λx=>gDct gv[k]? λks vs=>(keyT x).bind (ZeH ks vs)) m
 |.gdn k neg e,env,m=>(ev e env m).bind λx m=>pur ((view x m).bind λx=>gDct gv[k]? λks vs=>(keyT x).map λk=>.bl (if neg then !(ZeH ks vs k).isSome else(ZeH ks vs k).isSome)) m
 |.dsn ks vs,env,m=>(evs vs env m).bind λws m=>(frzs ws m).bind λts m=>if ks.length=ts.length/\ks.length<=1000/\ks.Nodup then .ok (.t (.dct (ks.map λk=>.inr ⟨k.toArray⟩) ts)) m else .stuck
noncomputable def evs:Es->Env->Mem->Res (List W)
 |.nil,_,m=>.ok [] m
 |.cons e es,env,m=>(ev e env m).bind λw m=>(evs es env m).bind λws m=>.ok (w::ws) m
noncomputable def evf:Es->List Nat->Env->Mem->Res (List Nat)
 |.nil,acc,_,m=>.ok acc m
 |.cons e es,acc,env,m=>(ev e env m).bind λw m=>(fmtW acc w m).bind λacc m=>evf es acc env m
noncomputable def tests:Es->Env->Mem->Res Bool
 |.nil,_,m=>.ok true m
 |.cons e es,env,m=>(ev e env m).bind λx m=>(QZ x m).bind λk m=>if k then tests es env m else .ok false m
end
noncomputable def ex:S->Env->Mem->Res Flow
 |.done,env,m=>.ok (.next env) m
 |.asg i e k,env,m=>(ev call gv e env m).bind λw m=>ex k (env.set i (some w)) m
 |.asgT is e k,env,m=>(ev call gv e env m).bind λw m=>match w with
  |.t t=>match JL (.tp is) t env with
   |some env=>ex k env m
   |none=>.stuck
  |.c _=>.stuck
  |.f _=>.stuck
  |.x _ _ _=>.stuck
  |.o _ _ _=>.stuck
  |.u=>.stuck
 |.asgC i e k,env,m=>(ev call gv e env m).bind λw m=>match w with
  |.t (.lst ts)=>ex k (env.set i (some (.c m.length))) (m++[some (false,ts)])
  |_=>.stuck
 |.asgL is e k,env,m=>(ev call gv e env m).bind λw m=>match w with
  |.t (.lst ts)=>match JL (.tp is) (.tup ts) env with
   |some env=>ex k env m
   |none=>.stuck
  |_=>.stuck
 |.set o i v k,env,m=>(ev call gv v env m).bind λz m=>(ev call gv o env m).bind λx m=>(ev call gv i env m).bind λy m =>
   (setM x y z m).bind λ_ m=>ex k env m
 |.aug i op e k,env,m=>match env[i]? with
  |some (some x)=>(ev call gv e env m).bind λy m=>(pur ((view x m).bind λx=>(view y m).bind λy=>augT op x y) m).bind λz m=>ex k (env.set i (some z)) m
  |_=>.stuck
 |.ife c a b k,env,m=>(ev call gv c env m).bind λx m=>(QZ x m).bind λt m =>
   (if t then ex a env m else ex b env m).bind λfl m=>match fl with
    |.next env=>ex k env m
    |fl=>.ok fl m
 |.forr tg it body k,env,m=>(ev call gv it env m).bind λx m0=>(Z4 x m0).bind λts m =>
   (JN (λenv m=>ex body env m) tg ts env m).bind λfl m=>match fl with
    |.next env=>ex k env (giveBack x m0 m)
    |.ret w=>.ok (.ret w) (giveBack x m0 m)
    |_=>.stuck
 |.whil c body k,env,m=>(Zg3 (λenv m=>(ev call gv c env m).bind QZ) (λenv m=>ex body env m) turns env m).bind λfl m=>match fl with
    |.next env=>ex k env m
    |fl=>.ok fl m
 |.ret e _,env,m=>(ev call gv e env m).bind λw m=>.ok (.ret w) m
 |.retN _,_,m=>.ok (.ret (.t .non)) m
 |.expr e k,env,m=>(ev call gv e env m).bind λ_ m=>ex k env m
 |.pass k,env,m=>ex k env m
 |.brk _,env,m=>.ok (.brk env) m
 |.cont _,env,m=>.ok (.cont env) m
 |.stk,_,_=>.stuck
 |.rse c nms es _,env,m=>(evs call gv es env m).bind λws m=>(frzs ws m).bind λts m=>if nms=[]then(if ts.length<=1000 then .exc ⟨c,[],[]⟩ m else .stuck)else if ts.length=nms.length then .exc ⟨c,nms,ts⟩ m else .stuck
 |.tri b yes nm h k,env,m=>match ex b env m with
  |.ok fl m=>match fl with
   |.next env=>ex k env m
   |fl=>.ok fl m
  |.exc x m=>if x.cls∈yes then(ex h (hEnv env.length nm x) m).only.bind λfl m=>match fl with
    |.next env=>ex k (unE nm env) m
    |.ret w=>.ok (.ret w) m
    |_=>.stuck
   else .stuck
  |.stuck=>.stuck
end
structure Fn where
 ps:Nat
 n:Nat
 body:S
 cell:Bool:=false
noncomputable def fin(n:Nat)(cell:Bool)(fl:Flow)(m:Mem):Res W:=match fl with
 |.ret (.t t)=>.ok (.t t) (m.take n)
 |.ret (.c i)=>if i<n then .ok (.c i) (m.take n)else match m[i]? with
  |some (some (false,ts))=>if cell then .ok (.c n) (m.take n++[some (false,ts)])else .ok (.t (.lst ts)) (m.take n)
  |_=>.stuck
 |.next _=>.ok (.t .non) (m.take n)
 |_=>.stuck
noncomputable def ZV(fns:List Fn)(gv:List T):Nat->Nat->List W->Mem->Res W
 |0,_,_,_=>.stuck
 |n+1,f,ws,m=>match fns[f]? with
  |none=>.stuck
  |some d=>if ws.length=d.ps then(ex (ZV fns gv n) gv d.body (ws.map some++Yn (d.n-d.ps) none) m).bind λfl m'=>fin m.length d.cell fl m' else .stuck
end Mi
namespace Mi
open PySem L2
noncomputable def Zds:HO->Option HO->Prop
 |.tbl _,r=>∃qs,r=some (.tbl qs)
 |o,r=>r=some o
theorem Zds.of{o:HO}{r:Option HO}(h:r=some o):Zds o r:=by cases o<;>first|exact h|exact⟨_,h⟩
theorem Zds.trans{o:HO}{r r':Option HO}(h:Zds o r)(k:∀o',r=some o'->Zds o' r'):Zds o r':=by
 cases o with
 |tbl ps =>
  obtain⟨qs,h⟩:=h
  obtain⟨rs,h⟩:=k _ h
  exact⟨rs,h⟩
 |_=>exact k _ h
theorem Zds.some{o:HO}{r:Option HO}(h:Zds o r):∃o',r=some o':=by
 cases o with
 |tbl ps=>obtain⟨qs,h⟩:=h;exact⟨_,h⟩
 |_=>exact⟨_,h⟩
noncomputable def Jw:List Str:=["row_of","first_meeting"]
noncomputable def lamQ(q:Str):Str:=(q++".<locals>.")++"<lambda>"
noncomputable def Jz(o:Obj):Option (Str×Addr):=match o.data with
 |.fields vs=>match vs[1]?,vs[11]? with
  |some (GQ q _),some (Y5 P)=>if Jw.contains q then some (q,P)else none
  |_,_=>none
 |_=>none
noncomputable def Zi5(K:Frag)(q:Str)(P:Addr):Prop:=∃c o,K.lookup c=some o/\Jz o=some (q,P)/\K.lookup P=none
noncomputable def ZfP(q:Str)(H:Hp)(ps:Array Value):Prop:=Ycc ps.toList/\∀pos cv,Ya1 pos ps.toList=some cv->∃(c:Addr) (o:Obj) (vs:Array Value) (t:Tok) (u:HO),cv=.ref c/\H c=some (.frz o u)/\o.data=.fields vs/\vs[1]?=some (.str (lamQ q) t)
noncomputable def TabR(K:Frag)(H:Hp):Prop:=∀q P,Zi5 K q P->∃ps,H P=some (.tbl ps)/\ZfP q H ps
theorem ZfP.kept{q:Str}{H H':Hp}{ps:Array Value}(h:ZfP q H ps)(k2:∀a o u,H a=some (.frz o u)->H' a=some (.frz o u)):ZfP q H' ps:=by
 refine⟨h.1,λpos cv hc=>?_⟩
 obtain⟨c,o,vs,t,u,a1,a2,a3,a4⟩:=h.2 pos cv hc
 exact⟨c,o,vs,t,u,a1,k2 _ _ _ a2,a3,a4⟩
theorem TabR.kept{K:Frag}{H H':Hp}(h:TabR K H)(k1:∀a ps,H a=some (.tbl ps)->H' a=some (.tbl ps))(k2:∀a o u,H a=some (.frz o u)->H' a=some (.frz o u)):TabR K H':=λq P e=>by
 obtain⟨ps,h1,h2⟩:=h q P e
 exact⟨ps,k1 _ _ h1,h2.kept k2⟩
theorem TabR.upd{K:Frag}{H:Hp}{a:Addr}{o:HO}(h:TabR K H)(hn:∀u,H a=some u->∃xs,u=.lst xs):TabR K (upd H a o):=
 h.kept (λb ps e=>by rw[Zm];exact e;rintro rfl;obtain⟨xs,z⟩:=hn _ e;cases z) λb o u e=>by rw[Zm];exact e;rintro rfl;obtain⟨xs,z⟩:=hn _ e;cases z
section
variable(K:Frag)
noncomputable def Zn(cm:List Addr)(m:Mem)(a:Addr):Prop:=∀(i:Nat) p,m[i]?=some (some p)->cm[i]?≠some a
noncomputable def Zb2(H:Hp)(a:Addr)(ns:List Int):Prop:=(∃o,H a=some (.frz o (.lst (ns.map V.int)))) ∨
 ∃(o:Obj) (its:Array Value) (n:Nat),K.lookup a=some o/\o.cls=.type "list"/\o.dict=none/\o.data=.seq its n/\its.size<=YC/\Vals (ns.map V.int) its.toList
inductive RT (cm:List Addr) (m:Mem) (H:Hp):T->V->Prop where
 |non:RT cm m H .non .non
 |bl (b:Bool):RT cm m H (.bl b) (.bl b)
 |int (i:Int):RT cm m H (.int i) (.int i)
 |str (cs:List Nat):RT cm m H (.str cs) (.str ⟨cs.toArray⟩)
 |tup {a:Addr}{ts:List T}{vs:List V}:SqT K H a vs->ts.length=vs.length->(∀(i:Nat) t v,ts[i]?=some t->vs[i]?=some v->RT cm m H t v)->RT cm m H (.tup ts) (.ref a)
 |lst {a:Addr}{ts:List T}{vs:List V}:H a=some (.lst vs)->Zn cm m a->ts.length=vs.length->(∀(i:Nat) t v,ts[i]?=some t->vs[i]?=some v->RT cm m H t v)->RT cm m H (.lst ts) (.ref a)
 |dct {a:Addr}{ks:List Key}{ts:List T}{vs:List V}:H a=some (.dK (ks.zip vs))->Zn cm m a->ks.length=vs.length->ts.length=vs.length ->
  (∀(i:Nat) t v,ts[i]?=some t->vs[i]?=some v->RT cm m H t v)->RT cm m H (.dct ks ts) (.ref a)
 |scr {a:Addr}(ns:List Int):Zb2 K H a ns->RT cm m H (.scr ns) (.ref a)
noncomputable abbrev RTs(cm:List Addr)(m:Mem)(H:Hp)(ts:List T)(vs:List V):Prop:=Paired (RT K cm m H) ts vs
noncomputable def XF(cm:List Addr)(m:Mem)(H:Hp)(nms:List Str)(ts:List T)(dx:Option Addr):Prop:=match dx with
 |none=>nms=[]/\ts=[]
 |some d=>∃vs,H d=some (.xd (nms.zip vs))/\nms.length=vs.length/\RTs K cm m H ts vs
noncomputable def RW(cm:List Addr)(m:Mem)(H:Hp):W->V->Prop
 |.t x,v=>RT K cm m H x v
 |.c i,v=>∃a,cm[i]?=some a/\v=.ref a
 |.f a,v=>v=.ref a
 |.x c nms ts,v=>∃a o u,v=.ref a/\H a=some (.frz o u)/\o.cls=.ref c/\(∃fs,o.data=.fields fs)/\XF K cm m H nms ts o.dict
 |.o C nms ts,v=>∃a dx vs,v=.ref a/\H a=some (.ins C dx (nms.zip vs))/\nms.length=vs.length/\RTs K cm m H ts vs
 |.u,_=>True
noncomputable abbrev RWs(cm:List Addr)(m:Mem)(H:Hp)(ws:List W)(vs:List V):Prop:=Paired (RW K cm m H) ws vs
structure MemR (cm:List Addr) (m:Mem) (H:Hp):Prop where
 len:cm.length=m.length
 inj:∀(i j:Nat) a p q,m[i]?=some (some p)->m[j]?=some (some q)->cm[i]?=some a->cm[j]?=some a->i=j
 at':∀(i:Nat) p,m[i]?=some (some p)->∃a vs,cm[i]?=some a/\H a=some (.lst vs)/\K.lookup a=none/\RTs K cm m H p.2 vs
 tab:TabR K H
noncomputable def EnvR(cm:List Addr)(m:Mem)(H:Hp)(env:Env)(σ:L2.St):Prop:=∀(i:Nat) w,env[i]?=some (some w)->∃v,σ[i]?=some (some v)/\RW K cm m H w v
structure Ext (cm:List Addr) (m:Mem) (H:Hp) (cm':List Addr) (m':Mem) (H':Hp):Prop where
 pre:∀(i:Nat) a,cm[i]?=some a->cm'[i]?=some a
 len:m.length<=m'.length
 lent:∀(i:Nat) ts,m[i]?=some (some (true,ts))->m'[i]?=some (some (true,ts))
 keep:∀a o,H a=some o->Zn cm m a->Zds o (H' a)/\Zn cm' m' a
end
section
variable{K:Frag}{cm cm' cm'':List Addr}{m m' m'':Mem}{H H' H'':Hp}
theorem Zbs{α β:Type}{F:α->β->Prop}:∀{xs:List α}{ys:List β},xs.length=ys.length->(∀(i:Nat) x y,xs[i]?=some x->ys[i]?=some y->F x y)->Paired F xs ys
 |[],[],_,_=>.nil
 |x::xs,y::ys,hl,h=>.cons (h 0 x y rfl rfl) (Zbs (by simpa using hl) λi a b ha hb=>h (i+1) a b (by simpa using ha) (by simpa using hb))
 |[],_::_,hl,_=>by simp at hl
 |_::_,[],hl,_=>by simp at hl
theorem Jc{α β:Type}{F:α->β->Prop}:∀{xs:List α}{ys:List β},Paired F xs ys->∀(i:Nat) x y,xs[i]?=some x->ys[i]?=some y->F x y
 |_,_,.nil,i,x,y,h,_=>by simp at h
 |_,_,.cons r t,0,x,y,h1,h2=>by simp at h1 h2;subst h1;subst h2;exact r
 |_,_,.cons r t,i+1,x,y,h1,h2=>Jc t i x y (by simpa using h1) (by simpa using h2)
theorem Zx{α β:Type}{F:α->β->Prop}{xs:List α}{ys:List β}(h:Paired F xs ys){i:Nat}{x:α}(hx:xs[i]?=some x):∃y,ys[i]?=some y/\F x y:=by
 have hl:=h.length
 have hi:=(Ye.mp hx).1
 have hy:ys[i]?=some (ys[i]'(by omega)):=YH (by omega)
 exact⟨_,hy,Jc h i _ _ hx hy⟩
theorem ZF{α β:Type}{F:α->β->Prop}:∀{xs xs':List α}{ys ys':List β},Paired F xs ys->Paired F xs' ys'->Paired F (xs++xs') (ys++ys')
 |_,_,_,_,.nil,h=>h
 |_,_,_,_,.cons r t,h=>.cons r (ZF t h)
theorem Zbr{α β:Type}{F:α->β->Prop}:∀{xs:List α}{ys:List β}(n:Nat),Paired F xs ys->Paired F (xs.take n) (ys.take n)
 |_,_,0,_=>.nil
 |_,_,_+1,.nil=>.nil
 |_,_,n+1,.cons r t=>.cons r (Zbr n t)
theorem Zbt{α β:Type}{F:α->β->Prop}:∀{xs:List α}{ys:List β}(n:Nat),Paired F xs ys->Paired F (xs.drop n) (ys.drop n)
 |_,_,0,r=>r
 |_,_,_+1,.nil=>.nil
 |_,_,n+1,.cons _ t=>Zbt n t
theorem Zcf{α β:Type}{F:α->β->Prop}{x:α}{y:β}(r:F x y):∀{xs:List α}{ys:List β}(i:Nat),Paired F xs ys->Paired F (xs.set i x) (ys.set i y)
 |_,_,_,.nil=>.nil
 |_,_,0,.cons _ t=>.cons r t
 |_,_,i+1,.cons q t=>.cons q (Zcf r i t)
theorem Zf{α β:Type}{F G:α->β->Prop}(f:∀a b,F a b->G a b){xs:List α}{ys:List β}(h:Paired F xs ys):Paired G xs ys:=L2.Paired.mapP h f
theorem RT.mtup{a:Addr}{ts:List T}{vs:List V}(h:SqT K H a vs)(r:RTs K cm m H ts vs):RT K cm m H (.tup ts) (.ref a):=.tup h r.length λi t v h1 h2=>Jc r i t v h1 h2
theorem RT.mlst{a:Addr}{ts:List T}{vs:List V}(h:H a=some (.lst vs))(n:Zn cm m a)(r:RTs K cm m H ts vs):RT K cm m H (.lst ts) (.ref a):=.lst h n r.length λi t v h1 h2=>Jc r i t v h1 h2
theorem RT.itup{ts:List T}{v:V}(h:RT K cm m H (.tup ts) v):∃a vs,v=.ref a/\SqT K H a vs/\RTs K cm m H ts vs:=by
 cases h with
 |tup h1 h2 h3=>exact⟨_,_,rfl,h1,Zbs h2 h3⟩
theorem RT.ilst{ts:List T}{v:V}(h:RT K cm m H (.lst ts) v):∃a vs,v=.ref a/\H a=some (.lst vs)/\Zn cm m a/\RTs K cm m H ts vs:=by
 cases h with
 |lst h1 h2 h3 h4=>exact⟨_,_,rfl,h1,h2,Zbs h3 h4⟩
theorem Z7(M:MemR K cm m H){a:Addr}{o:HO}(h:H a=some o)(hn:∀vs,o≠.lst vs):Zn cm m a:=λi ts e z=>by
 obtain⟨b,vs,h1,h2,_,_⟩:=M.at' i ts e
 rw[h1]at z;cases z
 rw[h2]at h;cases h
 exact hn _ rfl
theorem Ext.sqT(x:Ext cm m H cm' m' H')(M:MemR K cm m H){a:Addr}{vs:List V}(h:SqT K H a vs):SqT K H' a vs:=by
 rcases h with(h|⟨o,h⟩)|h
 ·exact .inl (.inl (x.keep a _ h (Z7 M h (λ_ z=>by cases z))).1)
 ·exact .inl (.inr ⟨o,(x.keep a _ h (Z7 M h (λ_ z=>by cases z))).1⟩)
 ·exact .inr h
theorem Ext.scr(x:Ext cm m H cm' m' H')(M:MemR K cm m H){a:Addr}{ns:List Int}(h:Zb2 K H a ns):Zb2 K H' a ns:=by
 rcases h with⟨o,h⟩|h
 ·exact .inl ⟨o,(x.keep a _ h (Z7 M h (λ_ z=>by cases z))).1⟩
 ·exact .inr h
theorem Zb2.sq{a:Addr}{ns:List Int}(h:Zb2 K H a ns):SqL K H a (ns.map V.int):=by
 rcases h with⟨o,h⟩|h
 ·exact .inl (.inr ⟨o,h⟩)
 ·exact .inr h
theorem RT.ext(x:Ext cm m H cm' m' H')(M:MemR K cm m H)(M':MemR K cm' m' H'){t:T}{v:V}(h:RT K cm m H t v):RT K cm' m' H' t v:=by
 induction h with
 |non=>exact .non
 |bl b=>exact .bl b
 |int i=>exact .int i
 |str cs=>exact .str cs
 |tup h1 h2 _ ih=>exact .tup (x.sqT M h1) h2 ih
 |lst h1 h2 h3 _ ih=>exact .lst (x.keep _ _ h1 h2).1 (x.keep _ _ h1 h2).2 h3 ih
 |scr ns h=>exact .scr ns (x.scr M h)
 |dct h1 h2 h3 h4 _ ih=>exact .dct (x.keep _ _ h1 h2).1 (x.keep _ _ h1 h2).2 h3 h4 ih
theorem RTs.ext(x:Ext cm m H cm' m' H')(M:MemR K cm m H)(M':MemR K cm' m' H'){ts:List T}{vs:List V}(h:RTs K cm m H ts vs):RTs K cm' m' H' ts vs:=Zf (λ_ _ z=>z.ext x M M') h
theorem XF.ext(x:Ext cm m H cm' m' H')(M:MemR K cm m H)(M':MemR K cm' m' H'){nms:List Str}{ts:List T}{dx:Option Addr}(h:XF K cm m H nms ts dx):XF K cm' m' H' nms ts dx:=by
 cases dx with
 |none=>exact h
 |some d =>
  obtain⟨vs,h1,h2,h3⟩:=h
  exact⟨vs,(x.keep d _ h1 (Z7 M h1 (λ_ z=>by cases z))).1,h2,h3.ext x M M'⟩
theorem RW.ext(x:Ext cm m H cm' m' H')(M:MemR K cm m H)(M':MemR K cm' m' H'){w:W}{v:V}(h:RW K cm m H w v):RW K cm' m' H' w v:=by
 cases w with
 |t t=>exact RT.ext x M M' h
 |c i=>obtain⟨a,h1,h2⟩:=h;exact⟨a,x.pre i a h1,h2⟩
 |f a=>exact h
 |x c nms ts=>obtain⟨a,o,u,h1,h2,h3,h3',h4⟩:=h;exact⟨a,o,u,h1,(x.keep a _ h2 (Z7 M h2 (λ_ z=>by cases z))).1,h3,h3',h4.ext x M M'⟩
 |o C nms ts=>obtain⟨a,dx,vs,h1,h2,h3,h4⟩:=h;exact⟨a,dx,vs,h1,(x.keep a _ h2 (Z7 M h2 (λ_ z=>by cases z))).1,h3,h4.ext x M M'⟩
 |u=>exact Ur
theorem RWs.ext(x:Ext cm m H cm' m' H')(M:MemR K cm m H)(M':MemR K cm' m' H'){ws:List W}{vs:List V}(h:RWs K cm m H ws vs):RWs K cm' m' H' ws vs:=Zf (λ_ _ z=>RW.ext x M M' z) h
theorem EnvR.ext(x:Ext cm m H cm' m' H')(M:MemR K cm m H)(M':MemR K cm' m' H'){env:Env}{σ:L2.St}(h:EnvR K cm m H env σ):EnvR K cm' m' H' env σ:=λi w e=>by
 obtain⟨v,h1,h2⟩:=h i w e
 exact⟨v,h1,h2.ext x M M'⟩
theorem Ext.refl:Ext cm m H cm m H:=⟨λ_ _ h=>h,Yj _,λ_ _ h=>h,λ_ _ h n=>⟨.of h,n⟩⟩
theorem Ext.trans(x:Ext cm m H cm' m' H')(y:Ext cm' m' H' cm'' m'' H''):Ext cm m H cm'' m'' H'':=
 ⟨λi a h=>y.pre i a (x.pre i a h),Wm x.len y.len,λi ts h=>y.lent i ts (x.lent i ts h),λa o h n=>⟨(x.keep a o h n).1.trans λo' e=>(y.keep a o' e (x.keep a o h n).2).1,(x.keep a o h n).1.some.elim λo' e=>(y.keep a o' e (x.keep a o h n).2).2⟩⟩
noncomputable abbrev XR:=Exc->List Addr->Mem->Hp->Prop
noncomputable def xr0:XR:=λ_ _ _ _=>False
variable(K) in
noncomputable def OkR{α:Type}(r:Res α)(xr:XR)(cm:List Addr)(m:Mem)(H:Hp)(k:α->List Addr->Mem->Hp->Prop):Prop:=match r with
 |.ok a m'=>∀cm' H',Ext cm m H cm' m' H'->MemR K cm' m' H'->k a cm' m' H'
 |.exc x m'=>∀cm' H',Ext cm m H cm' m' H'->MemR K cm' m' H'->xr x cm' m' H'
 |.stuck=>False
variable{xr:XR}
theorem OkR.shift{α:Type}{r:Res α}{k:α->List Addr->Mem->Hp->Prop}(h:OkR K r xr cm m H k)(x:Ext cm m H cm' m' H'):OkR K r xr cm' m' H' k:=by
 cases r with
 |ok a m2=>exact λc h' e M=>h c h' (x.trans e) M
 |exc a m2=>exact λc h' e M=>h c h' (x.trans e) M
 |stuck=>exact h
theorem OkR.bind{α β:Type}{r:Res α}{f:α->Mem->Res β}{k:β->List Addr->Mem->Hp->Prop}(h:OkR K (r.bind f) xr cm m H k):
  OkR K r xr cm m H λa cm' m' H'=>OkR K (f a m') xr cm' m' H' k:=by
 cases r with
 |ok a m2=>exact λc h' e M=>OkR.shift (show OkR K (f a m2) xr cm m H k from h) e
 |exc a m2=>exact h
 |stuck=>exact h
theorem OkR.bind0{α β:Type}{r:Res α}{f:α->Mem->Res β}{k:β->List Addr->Mem->Hp->Prop}(h:OkR K (r.bind f) xr cm m H k):
  OkR K r xr cm m H λa _ m' _=>OkR K (f a m') xr cm m H k:=by
 cases r with
 |ok a m2=>exact λc h' e M=>h
 |exc a m2=>exact h
 |stuck=>exact h
theorem OkR.mono{α:Type}{r:Res α}{k k':α->List Addr->Mem->Hp->Prop}(h:OkR K r xr cm m H k)(f:∀a cm' m' H',Ext cm m H cm' m' H'->MemR K cm' m' H'->k a cm' m' H'->k' a cm' m' H'):OkR K r xr cm m H k':=by
 cases r with
 |ok a m2=>exact λc h' e M=>f a c m2 h' e M (h c h' e M)
 |exc a m2=>exact h
 |stuck=>exact h
theorem OkR.now{α:Type}{a:α}{k:α->List Addr->Mem->Hp->Prop}(h:OkR K (.ok a m) xr cm m H k)(M:MemR K cm m H):k a cm m H:=h cm H .refl M
theorem OkR.to{α:Type}{a:α}{m':Mem}{k:α->List Addr->Mem->Hp->Prop}(h:OkR K (.ok a m') xr cm m H k)(x:Ext cm m H cm' m' H')(M:MemR K cm' m' H'):k a cm' m' H':=h cm' H' x M
end
section
variable(K:Frag) (call:Nat->List W->Mem->Res W) (gv:List T) (xr:XR)
noncomputable def tE(e:E):TE:=λσ H Q=>∃env cm m,EnvR K cm m H env σ/\MemR K cm m H/\OkR K (ev call gv e env m) xr cm m H λw cm' m' H'=>∀v,RW K cm' m' H' w v->Q v H'
noncomputable def tA(es:Es):TA:=λσ H Q=>∃env cm m,EnvR K cm m H env σ/\MemR K cm m H/\OkR K (evs call gv es env m) xr cm m H λws cm' m' H'=>∀vs,RWs K cm' m' H' ws vs->Q vs H'
noncomputable def tT(e:E):TT:=λσ H Q=>∃env cm m,EnvR K cm m H env σ/\MemR K cm m H/\OkR K ((ev call gv e env m).bind QZ) xr cm m H λk _ _ H'=>Q k H'
noncomputable def r2(f:W->W->Mem->Res W):R2:=λx y H Q=>∃cm m a b,MemR K cm m H/\RW K cm m H a x/\RW K cm m H b y/\OkR K (f a b m) xr cm m H λw cm' m' H'=>∀v,RW K cm' m' H' w v->Q v H'
noncomputable def r1(f:W->Mem->Res W):V->Hp->VK->Prop:=λx H Q=>∃cm m a,MemR K cm m H/\RW K cm m H a x/\OkR K (f a m) xr cm m H λw cm' m' H'=>∀v,RW K cm' m' H' w v->Q v H'
noncomputable def rN(f:List W->Mem->Res W):List V->Hp->VK->Prop:=λxs H Q=>∃cm m ws,MemR K cm m H/\RWs K cm m H ws xs/\OkR K (f ws m) xr cm m H λw cm' m' H'=>∀v,RW K cm' m' H' w v->Q v H'
end
section
variable{K:Frag}{call:Nat->List W->Mem->Res W}{gv:List T}{xr:XR}{X:Cx}
theorem PE.mono{e:Expr}{t t':TE}(h:PE X e t)(f:∀σ H Q,t' σ H Q->t σ H Q):PE X e t':=λpins s σ H Q I q=>h pins s σ H Q I (f σ H Q q)
theorem PT.mono{e:Expr}{t t':TT}(h:PT X e t)(f:∀σ H Q,t' σ H Q->t σ H Q):PT X e t':=λpins s σ H Q I q=>h pins s σ H Q I (f σ H Q q)
theorem PA.mono{e:List Expr}{t t':TA}(h:PA X e t)(f:∀σ H Q,t' σ H Q->t σ H Q):PA X e t':=λpos pins s σ H Q I q=>h pos pins s σ H Q I (f σ H Q q)
theorem Zhb{a b e:E}{f:W->W->Mem->Res W}(h:∀env m,ev call gv e env m=(ev call gv a env m).bind λx m=>(ev call gv b env m).bind λy m=>f x y m)(σ:L2.St)(H:Hp)(Q:VK)(q:tE K call gv xr e σ H Q):
  tOp (r2 K xr f) (tE K call gv xr a) (tE K call gv xr b) σ H Q:=by
 obtain⟨env,cm,m,hE,hM,ho⟩:=q
 rw[h]at ho
 refine⟨env,cm,m,hE,hM,ho.bind.mono λw cm1 m1 H1 x1 M1 o1 v rv=>?_⟩
 refine⟨env,cm1,m1,hE.ext x1 hM M1,M1,o1.bind.mono λw2 cm2 m2 H2 x2 M2 o2 v2 rv2=>?_⟩
 exact⟨cm2,m2,w,w2,M2,rv.ext x2 M1 M2,rv2,o2⟩
theorem t1_of{a e:E}{f:W->Mem->Res W}(h:∀env m,ev call gv e env m=(ev call gv a env m).bind λx m=>f x m)(σ:L2.St)(H:Hp)(Q:VK)(q:tE K call gv xr e σ H Q):
  tUn (r1 K xr f) (tE K call gv xr a) σ H Q:=by
 obtain⟨env,cm,m,hE,hM,ho⟩:=q
 rw[h]at ho
 exact⟨env,cm,m,hE,hM,ho.bind.mono λw cm1 m1 H1 x1 M1 o1 v rv=>⟨cm1,m1,w,M1,rv,o1⟩⟩
end
end Mi
namespace Mi
open PySem PySem.Spec PyProof.Rows L2
section
variable{K:Frag}{cm:List Addr}{m:Mem}{H:Hp}{xr:XR}{X:Cx}
theorem Zd{w:W}{v:V}{t:T}(h:RW K cm m H w v)(e:view w m=some t)(n:∀ts,t≠.lst ts):RT K cm m H t v:=by
 cases w with
 |t x=>cases e;exact h
 |f a=>cases e
 |x _ _ _=>cases e
 |o _ _ _=>cases e
 |u=>cases e
 |c i =>
  unfold view at e
  dsimp only at e
  split at e
  ·cases e;exact absurd rfl (n _)
  ·cases e
theorem Zq{w:W}{v:V}{ts:List T}(M:MemR K cm m H)(h:RW K cm m H w v)(e:view w m=some (.lst ts)):∃a vs,v=.ref a/\H a=some (.lst vs)/\RTs K cm m H ts vs:=by
 cases w with
 |t x =>
  cases e
  obtain⟨a,vs,h1,h2,_,h3⟩:=RT.ilst h
  exact⟨a,vs,h1,h2,h3⟩
 |f a=>cases e
 |x _ _ _=>cases e
 |o _ _ _=>cases e
 |u=>cases e
 |c i =>
  unfold view at e
  dsimp only at e
  split at e
  ·rename_i fl us hu
   cases e
   obtain⟨a,h1,h2⟩:=h
   obtain⟨b,vs,h3,h4,_,h5⟩:=M.at' i _ hu
   rw[h1]at h3;cases h3
   exact⟨a,vs,h2,h4,h5⟩
  ·cases e
theorem RT.vint{i:Int}{v:V}(h:RT K cm m H (.int i) v):v=.int i:=by cases h;rfl
theorem RT.vbl{b:Bool}{v:V}(h:RT K cm m H (.bl b) v):v=.bl b:=by cases h;rfl
theorem RT.vnon{v:V}(h:RT K cm m H .non v):v=.non:=by cases h;rfl
theorem RT.vstr{cs:List Nat}{v:V}(h:RT K cm m H (.str cs) v):v=.str ⟨cs.toArray⟩:=by cases h;rfl
theorem RT.vscr{ns:List Int}{v:V}(h:RT K cm m H (.scr ns) v):∃a,v=.ref a/\Zb2 K H a ns:=by
 cases h with
 |scr _ h=>exact⟨_,rfl,h⟩
theorem Xe(M:MemR K cm m H){p:Addr}(hp:H p=none):Zn cm m p:=λi ts e z=>by
 obtain⟨a,vs,h1,h2,_⟩:=M.at' i ts e
 rw[h1]at z;cases z
 rw[hp]at h2;cases h2
theorem Ext.new{p:Addr}{o:HO}(hp:H p=none):Ext cm m H cm m (upd H p o):=
 ⟨λ_ _ h=>h,Yj _,λ_ _ h=>h,λa u h n=>⟨.of (by rw[Zm (Z9 h hp)];exact h),n⟩⟩
theorem RT.same{H':Hp}{cm':List Addr}{m':Mem}(h1:∀a o,H a=some o->H' a=some o)(h2:∀a,Zn cm m a->H a≠none->Zn cm' m' a){t:T}{v:V}(h:RT K cm m H t v):RT K cm' m' H' t v:=by
 induction h with
 |non=>exact .non
 |bl b=>exact .bl b
 |int i=>exact .int i
 |str cs=>exact .str cs
 |tup q1 q2 _ ih =>
  refine .tup ?_ q2 ih
  rcases q1 with(q|⟨o,q⟩)|q
  ·exact .inl (.inl (h1 _ _ q))
  ·exact .inl (.inr ⟨o,h1 _ _ q⟩)
  ·exact .inr q
 |lst q1 q2 q3 _ ih=>exact .lst (h1 _ _ q1) (h2 _ q2 (by rw[q1];simp)) q3 ih
 |dct q1 q2 q3 q4 _ ih=>exact .dct (h1 _ _ q1) (h2 _ q2 (by rw[q1];simp)) q3 q4 ih
 |scr ns q =>
  refine .scr ns ?_
  rcases q with⟨o,q⟩|q
  ·exact .inl ⟨o,h1 _ _ q⟩
  ·exact .inr q
theorem XF.same{H':Hp}{cm':List Addr}{m':Mem}(h1:∀a o,H a=some o->H' a=some o)(f:∀t v,RT K cm m H t v->RT K cm' m' H' t v){nms:List Str}{ts:List T}{dx:Option Addr}(h:XF K cm m H nms ts dx):XF K cm' m' H' nms ts dx:=by
 cases dx with
 |none=>exact h
 |some d =>
  obtain⟨vs,q1,q2,q3⟩:=h
  exact⟨vs,h1 _ _ q1,q2,Zf (λt v z=>f t v z) q3⟩
theorem RO.wsame{cm':List Addr}{m':Mem}(f:∀t v,RT K cm m H t v->RT K cm' m' H t v){c:Nat}{nms:List Str}{ts:List T}{v:V}(h:RW K cm m H (.o c nms ts) v):RW K cm' m' H (.o c nms ts) v:=by
 obtain⟨a,dx,vs,h1,h2,h3,h4⟩:=h
 exact⟨a,dx,vs,h1,h2,h3,Zf (λ_ _ z=>f _ _ z) h4⟩
theorem XF.wsame{cm':List Addr}{m':Mem}(f:∀t v,RT K cm m H t v->RT K cm' m' H t v){c:Nat}{nms:List Str}{ts:List T}{v:V}(h:RW K cm m H (.x c nms ts) v):RW K cm' m' H (.x c nms ts) v:=by
 obtain⟨a,o,u,q1,q2,q3,q3',q4⟩:=h
 exact⟨a,o,u,q1,q2,q3,q3',q4.same (λ_ _ z=>z) f⟩
theorem Z0{p:Addr}{o:HO}(hp:H p=none):∀a u,H a=some u->upd H p o a=some u:=λa u h=>by rw[Zm (Z9 h hp)];exact h
theorem MemR.new(M:MemR K cm m H){p:Addr}{o:HO}(hp:H p=none):MemR K cm m (upd H p o):=
 ⟨M.len,M.inj,λi ts e=>by
  obtain⟨a,vs,h1,h2,h3,h4⟩:=M.at' i ts e
  exact⟨a,vs,h1,Z0 hp _ _ h2,h3,Zf (λ_ _ z=>z.same (Z0 hp) λ_ n _=>n) h4⟩,M.tab.upd λu z=>by rw[hp]at z;cases z⟩
theorem RTs.new{ts:List T}{vs:List V}(r:RTs K cm m H ts vs){p:Addr}{o:HO}(hp:H p=none):RTs K cm m (upd H p o) ts vs:=Zf (λ_ _ z=>z.same (Z0 hp) λ_ n _=>n) r
theorem RT.newTup{ts:List T}{vs:List V}(r:RTs K cm m H ts vs){p:Addr}(hp:H p=none):RT K cm m (upd H p (.tup vs)) (.tup ts) (.ref p):=.mtup (.of ZL) (RTs.new r hp)
theorem RT.newLst(M:MemR K cm m H){ts:List T}{vs:List V}(r:RTs K cm m H ts vs){p:Addr}(hp:H p=none):RT K cm m (upd H p (.lst vs)) (.lst ts) (.ref p):=.mlst ZL (Xe M hp) (RTs.new r hp)
theorem Zbz{p:Addr}{c:Bool×List T}(hl:cm.length=m.length){a:Addr}(n:Zn cm m a)(ne:a≠p):Zn (cm++[p]) (m++[some c]) a:=λi us e z=>by
 by_cases hi:i<m.length
 ·rw[Yy hi]at e
  rw[Yy (by omega)]at z
  exact n i us e z
 ·by_cases hj:i=m.length
  ·subst hj
   rw[<-hl,Yu (Yj _)]at z
   simp at z
   exact ne z.symm
  ·rw[Uo (by simp;omega)]at e
   cases e
theorem ZfJ(M:MemR K cm m H){ts:List T}{vs:List V}(r:RTs K cm m H ts vs){p:Addr}(hp:H p=none)(hk:K.lookup p=none):
  Ext cm m H (cm++[p]) (m++[some (false,ts)]) (upd H p (.lst vs))/\MemR K (cm++[p]) (m++[some (false,ts)]) (upd H p (.lst vs))/\RW K (cm++[p]) (m++[some (false,ts)]) (upd H p (.lst vs)) (.c m.length) (.ref p):=by
 have sm:∀{t:T}{v:V},RT K cm m H t v->RT K (cm++[p]) (m++[some (false,ts)]) (upd H p (.lst vs)) t v:=λh =>
  h.same (Z0 hp) λa n hn=>Zbz M.len n λz=>by subst z;exact hn hp
 have cs:∀{i:Nat}{c:Bool×List T},(m++[some (false,ts)])[i]?=some (some c)->(m[i]?=some (some c)/\i<m.length)∨(i=m.length/\c=(false,ts)):=λ{i c} e=>by
  by_cases hi:i<m.length
  ·rw[Yy hi]at e
   exact .inl ⟨e,hi⟩
  ·by_cases hj:i=m.length
   ·subst hj
    simp at e
    exact .inr ⟨rfl,e.symm⟩
   ·rw[Uo (by simp;omega)]at e
    cases e
 have cl:∀{i:Nat},i<m.length->(cm++[p])[i]?=cm[i]?:=λ{i} h=>Yy (by rw[M.len];exact h)
 have cp:(cm++[p])[m.length]?=some p:=by rw[<-M.len];simp
 have np:∀{i:Nat}{c:Bool×List T}{a:Addr},m[i]?=some (some c)->cm[i]?=some a->a≠p:=λ{i c a} e1 e2 z=>by
  subst z
  obtain⟨b,ws,q1,q2,_⟩:=M.at' i c e1
  rw[e2]at q1;cases q1
  rw[hp]at q2;cases q2
 refine⟨⟨λi a h=>?_,by simp,λi us h=>?_,λa o h n=>⟨.of (Z0 hp _ _ h),Zbz M.len n (Z9 h hp)⟩⟩,⟨by simp[M.len],λi j a us us' e1 e2 f1 f2=>?_,λi us e=>?_,M.tab.upd λu z=>by rw[hp]at z;cases z⟩,⟨p,cp,rfl⟩⟩
 ·rw[Yy (Ye.mp h).1];exact h
 ·rw[Yy (Ye.mp h).1];exact h
 ·rcases cs e1 with⟨g1,l1⟩|⟨k1,_⟩
  ·rw[cl l1]at f1
   rcases cs e2 with⟨g2,l2⟩|⟨k2,_⟩
   ·rw[cl l2]at f2
    exact M.inj i j a _ _ g1 g2 f1 f2
   ·rw[k2,cp]at f2;cases f2
    exact absurd rfl (np g1 f1)
  ·rw[k1,cp]at f1;cases f1
   rcases cs e2 with⟨g2,l2⟩|⟨k2,_⟩
   ·rw[cl l2]at f2
    exact absurd rfl (np g2 f2)
   ·rw[k1,k2]
 ·rcases cs e with⟨g,l⟩|⟨k,z⟩
  ·obtain⟨a,ws,q1,q2,q3,q4⟩:=M.at' i us g
   exact⟨a,ws,by rw[cl l];exact q1,Z0 hp _ _ q2,q3,Zf (λ_ _ z=>sm z) q4⟩
  ·rw[k,z]
   exact⟨p,vs,cp,ZL,hk,Zf (λ_ _ z=>sm z) r⟩
theorem J6{i:Nat}{c c':Bool×List T}(e:m[i]?=some (some c)){j:Nat}{d:Bool×List T}(q:(m.set i (some c'))[j]?=some (some d)):∃d',m[j]?=some (some d'):=by
 by_cases hj:j=i
 ·subst hj;exact⟨c,e⟩
 ·rw[Yo (WR hj)]at q;exact⟨d,q⟩
theorem ZaM(M:MemR K cm m H){i:Nat}{ts ts':List T}{a:Addr}{vs':List V}(e:m[i]?=some (some (false,ts)))(hc:cm[i]?=some a)(r:RTs K cm m H ts' vs'):
  Ext cm m H cm (m.set i (some (false,ts'))) (upd H a (.lst vs'))/\MemR K cm (m.set i (some (false,ts'))) (upd H a (.lst vs')):=by
 have hi:i<m.length:=(Ye.mp e).1
 have nl:∀{b:Addr},Zn cm m b->Zn cm (m.set i (some (false,ts'))) b:=λ{b} n j us q=>by
  obtain⟨us',q'⟩:=J6 e q
  exact n j us' q'
 have ne:∀{b:Addr},Zn cm m b->b≠a:=λ{b} n z=>by subst z;exact n i _ e hc
 have x:Ext cm m H cm (m.set i (some (false,ts'))) (upd H a (.lst vs')):=⟨λ_ _ h=>h,by simp,λj us h=>by
  by_cases hj:j=i
  ·subst hj;rw[e]at h;cases h
  ·rw[Yo (WR hj)];exact h,λb o h n=>⟨.of (by rw[Zm (ne n)];exact h),nl n⟩⟩
 have sm:∀{t:T}{v:V},RT K cm m H t v->RT K cm (m.set i (some (false,ts'))) (upd H a (.lst vs')) t v:=λ{t v} h=>by
  induction h with
  |non=>exact .non
  |bl b=>exact .bl b
  |int i=>exact .int i
  |str cs=>exact .str cs
  |tup q1 q2 _ ih=>exact .tup (x.sqT M q1) q2 ih
  |lst q1 q2 q3 _ ih=>exact .lst (x.keep _ _ q1 q2).1 (x.keep _ _ q1 q2).2 q3 ih
  |dct q1 q2 q3 q4 _ ih=>exact .dct (x.keep _ _ q1 q2).1 (x.keep _ _ q1 q2).2 q3 q4 ih
  |scr ns q=>exact .scr ns (x.scr M q)
 refine⟨x,⟨by simp[M.len],λj k b us us' e1 e2 f1 f2=>?_,λj us q=>?_,by
  obtain⟨b0,vs0,w1,w2,_⟩:=M.at' i _ e
  rw[hc]at w1;cases w1
  exact M.tab.upd λu z=>by rw[w2]at z;cases z;exact⟨_,rfl⟩⟩⟩
 ·obtain⟨_,e1⟩:=J6 e e1
  obtain⟨_,e2⟩:=J6 e e2
  exact M.inj j k b _ _ e1 e2 f1 f2
 ·by_cases hj:j=i
  ·subst hj
   rw[YB hi]at q
   cases q
   obtain⟨b,ws,q1,_,q3,_⟩:=M.at' j _ e
   rw[hc]at q1;cases q1
   exact⟨a,vs',hc,ZL,q3,Zf (λ_ _ z=>sm z) r⟩
  ·rw[Yo (WR hj)]at q
   obtain⟨b,ws,q1,q2,q3,q4⟩:=M.at' j us q
   have hb:b≠a:=λz=>by
    subst z
    exact hj (M.inj j i b _ _ q e q1 hc)
   exact⟨b,ws,q1,by rw[Zm hb];exact q2,q3,Zf (λ_ _ z=>sm z) q4⟩
theorem ZiT(M:MemR K cm m H){i:Nat}{ts:List T}(e:m[i]?=some (some (false,ts))):
  ∃a vs,cm[i]?=some a/\H a=some (.lst vs)/\K.lookup a=none/\Ext cm m H cm (m.set i none) H/\MemR K cm (m.set i none) H/\RTs K cm (m.set i none) H ts vs/\RT K cm (m.set i none) H (.lst ts) (.ref a):=by
 obtain⟨a,vs,q1,q2,q3,q4⟩:=M.at' i _ e
 have hi:i<m.length:=(Ye.mp e).1
 have lv:∀{j:Nat}{us:Bool×List T},(m.set i none)[j]?=some (some us)->m[j]?=some (some us)/\j≠i:=λ{j us} q=>by
  by_cases hj:j=i
  ·subst hj;rw[YB hi]at q;cases q
  ·rw[Yo (WR hj)]at q;exact⟨q,hj⟩
 have nl:∀{b:Addr},Zn cm m b->Zn cm (m.set i none) b:=λ{b} n j us q=>n j us (lv q).1
 have sm:∀{t:T}{v:V},RT K cm m H t v->RT K cm (m.set i none) H t v:=λh=>h.same (λ_ _ z=>z) λ_ n _=>nl n
 have na:Zn cm (m.set i none) a:=λj us q z=>(lv q).2 (M.inj j i a _ _ (lv q).1 e z q1)
 have rs:RTs K cm (m.set i none) H ts vs:=Zf (λ_ _ z=>sm z) q4
 refine⟨a,vs,q1,q2,q3,⟨λ_ _ h=>h,by simp,λj us h=>?_,λb o h n=>⟨.of h,nl n⟩⟩,⟨by simp[M.len],λj k b us us' e1 e2=>M.inj j k b _ _ (lv e1).1 (lv e2).1,λj us q=>?_,M.tab⟩,rs,.mlst q2 na rs⟩
 ·by_cases hj:j=i
  ·subst hj;rw[e]at h;cases h
  ·rw[Yo (WR hj)];exact h
 ·obtain⟨b,ws,p1,p2,p3,p4⟩:=M.at' j us (lv q).1
  exact⟨b,ws,p1,p2,p3,Zf (λ_ _ z=>sm z) p4⟩
theorem ZbP(M:MemR K cm m H){i:Nat}{b b':Bool}{ts:List T}(e:m[i]?=some (some (b,ts))):
  (∀a,Zn cm m a↔Zn cm (m.set i (some (b',ts))) a)/\MemR K cm (m.set i (some (b',ts))) H/\(∀t v,RT K cm m H t v->RT K cm (m.set i (some (b',ts))) H t v):=by
 have hi:i<m.length:=(Ye.mp e).1
 have nl:∀a,Zn cm m a↔Zn cm (m.set i (some (b',ts))) a:=λa=>by
  constructor
  ·intro n j us q
   obtain⟨d,q'⟩:=J6 e q
   exact n j d q'
  ·intro n j us q
   by_cases hj:j=i
   ·subst hj
    exact n j _ (YB hi)
   ·exact n j us (by rw[Yo (WR hj)];exact q)
 have sm:∀t v,RT K cm m H t v->RT K cm (m.set i (some (b',ts))) H t v:=λt v h=>h.same (λ_ _ z=>z) λa n _=>(nl a).mp n
 refine⟨nl,⟨by simp[M.len],λj k a us us' e1 e2 f1 f2=>?_,λj us q=>?_,M.tab⟩,sm⟩
 ·obtain⟨_,e1⟩:=J6 e e1
  obtain⟨_,e2⟩:=J6 e e2
  exact M.inj j k a _ _ e1 e2 f1 f2
 ·by_cases hj:j=i
  ·subst hj
   rw[YB hi]at q
   cases q
   obtain⟨a,vs,q1,q2,q3,q4⟩:=M.at' j _ e
   exact⟨a,vs,q1,q2,q3,Zf (λ_ _ z=>sm _ _ z) q4⟩
  ·rw[Yo (WR hj)]at q
   obtain⟨a,vs,q1,q2,q3,q4⟩:=M.at' j us q
   exact⟨a,vs,q1,q2,q3,Zf (λ_ _ z=>sm _ _ z) q4⟩
theorem ZiS(M:MemR K cm m H){i:Nat}{b:Bool}{ts:List T}(e:m[i]?=some (some (b,ts))):Ext cm m H cm (m.set i (some (true,ts))) H/\MemR K cm (m.set i (some (true,ts))) H:=by
 have hi:i<m.length:=(Ye.mp e).1
 obtain⟨nl,M',_⟩:=ZbP (b':=true) M e
 refine⟨⟨λ_ _ h=>h,by simp,λj us h=>?_,λa o h n=>⟨.of h,(nl a).mp n⟩⟩,M'⟩
 by_cases hj:j=i
 ·subst hj
  rw[e]at h;cases h
  exact YB hi
 ·rw[Yo (WR hj)];exact h
theorem XX{cm':List Addr}{m1 m':Mem}{H':Hp}{w:W}{ts:List T}(M:MemR K cm m H)(e:Z4 w m=.ok ts m1)(x:Ext cm m1 H cm' m' H')(M':MemR K cm' m' H'):
  Ext cm m H cm' (giveBack w m m') H'/\MemR K cm' (giveBack w m m') H'/\∀t v,RT K cm' m' H' t v->RT K cm' (giveBack w m m') H' t v:=by
 cases w with
 |t t =>
  unfold Z4 at e
  dsimp only at e
  split at e<;>cases e
  exact⟨x,M',λ_ _ h=>h⟩
 |f a=>cases e
 |x _ _ _=>cases e
 |o _ _ _=>cases e
 |u=>cases e
 |c i =>
  unfold Z4 at e
  dsimp only at e
  split at e
  ·rename_i b us h
   cases e
   have hi:i<m.length:=(Ye.mp h).1
   have h':m'[i]?=some (some (true,ts)):=x.lent i ts (YB hi)
   have hi':i<m'.length:=(Ye.mp h').1
   obtain⟨nl,M2,sm⟩:=ZbP (b':=b) M' h'
   have eg:giveBack (.c i) m m'=m'.set i (some (b,ts)):=by unfold giveBack;dsimp only;rw[h]
   rw[eg]
   obtain⟨nl0,M1,_⟩:=ZbP (b':=true) M h
   refine⟨⟨λj a q=>x.pre j a q,by rw[Wt];have:=x.len;rw[Wt]at this;exact this,λj vs q=>?_,λa o q n=>?_⟩,M2,sm⟩
   ·by_cases hj:j=i
    ·subst hj
     rw[h]at q;cases q
     exact YB hi'
    ·rw[Yo (WR hj)]
     exact x.lent j vs (by rw[Yo (WR hj)];exact q)
   ·obtain⟨q1,q2⟩:=x.keep a o q ((nl0 a).mp n)
    exact⟨q1,(nl a).mp q2⟩
  ·cases e
theorem ZM:lim<=YC:=by rw[Uh];decide
theorem Ql{o:Option T}{k:W->List Addr->Mem->Hp->Prop}(h:OkR K (pur o m) xr cm m H k):∃t,o=some t/\OkR K (.ok (.t t) m) xr cm m H k:=by
 cases o with
 |none=>exact h.elim
 |some t=>exact⟨t,rfl,h⟩
theorem Zb9{α:Type}{o p:Option T}{f:T->T->Option α}{z:α}(h:(o.bind λx=>p.bind λy=>f x y)=some z):∃x y,o=some x/\p=some y/\f x y=some z:=by
 cases o with
 |none=>cases h
 |some x =>
  cases p with
  |none=>cases h
  |some y=>exact⟨x,y,rfl,rfl,h⟩
theorem strApp(a b:List Nat):(⟨a.toArray⟩:Str)++⟨b.toArray⟩=⟨(a++b).toArray⟩:=by
 show(⟨a.toArray++b.toArray⟩:Str)=_
 simp
theorem Xn(a:List Nat):(⟨a.toArray⟩:Str).length=a.length:=by simp[Str.length]
theorem ans{t:T}{Q:VK}(ho:OkR K (.ok (.t t) m) xr cm m H λw cm' m' H'=>∀v,RW K cm' m' H' w v->Q v H')(M:MemR K cm m H){v:V}(r:RT K cm m H t v):Q v H:=ho.now M v r
theorem Zb1{ts:List T}{Q:VK}(ho:OkR K (.ok (.t (.tup ts)) m) xr cm m H λw cm' m' H'=>∀v,RW K cm' m' H' w v->Q v H')(M:MemR K cm m H){vs:List V}(r:RTs K cm m H ts vs){p:Addr}(hp:H p=none):
 Q (.ref p) (upd H p (.tup vs)):=ho.to (.new hp) (M.new hp) _ (RT.newTup r hp)
theorem Zai{ts:List T}{Q:VK}(ho:OkR K (.ok (.t (.lst ts)) m) xr cm m H λw cm' m' H'=>∀v,RW K cm' m' H' w v->Q v H')(M:MemR K cm m H){vs:List V}(r:RTs K cm m H ts vs){p:Addr}(hp:H p=none):
 Q (.ref p) (upd H p (.lst vs)):=ho.to (.new hp) (M.new hp) _ (RT.newLst M r hp)
theorem ZlP{i j:Int}(h1:i.natAbs<bigN)(h2:j.natAbs<bigN):IntMulOk i j:=by
 have b:∀{k:Int},k.natAbs<bigN->Builtin.Int.intBits k<=2000:=λ{k} h=>intBits_le (by
  have e:bigN=2^(250*8):=by unfold bigN;rw[<-Nat.pow_mul]
  rw[e]at h
  exact h)
 exact mulOk_of_bits (b h1) (b h2) (by decide)
theorem ZdC{i:Int}(h:small i=true):-(2^64)<i/\i<2^64:=by
 have h':i.natAbs<2^64:=of_decide_eq_true h
 omega
theorem ZjS{i j:Int}(h:ZaA i j=true):IntMulOk i j:=by
 unfold ZaA at h
 simp only[W9,Yg,decide_eq_true_eq]at h
 rcases h with(h|h)|⟨h1,h2⟩
 ·exact CMul.ok (.inl (ZdC h))
 ·exact CMul.ok (.inr (ZdC h))
 ·exact ZlP h1 h2
theorem ZlI:OpR X (WW .Mult) (rI (λi j=>ZaA i j=true) λi j=>.int (i*j)):=opI λ_ _ _ _ _ _ _ hc q=>mul_int q (ZjS hc)
theorem Zmh{prog:Yx}{w:World}{A:Around}{E:Value->Shared->Prop}{s:Shared}{t b:Addr}{ws:List Value}{Q:Value->Shared->Prop}(ht:IsTup s.heap t ([]:List Value).toArray)(hb:IsTup s.heap b ws.toArray)(h:Q (.ref b) s):wpAny (model prog w) A (WW .Add (.ref t) (.ref b)) Q E s:=by
 obtain⟨⟨cls,dd,data,sl⟩,ho,hc,n,hd⟩:=id ht
 obtain⟨⟨cls2,dd2,data2,sl2⟩,ho2,hc2,n2,hd2⟩:=id hb
 simp only at hc hd hc2 hd2
 subst hc hd hc2 hd2
 exact Yby ⟨_,ho,rfl⟩ ⟨_,ho2,rfl⟩ YaO Ybf Vw Vo (Va _ _)
  (tuple_addW0 t b ([]:List Value).toArray ws.toArray n n2 dd dd2 sl sl2 (by simp)) ⟨ho,ho2,h⟩
theorem ZlH:OpR X (WW .Add) (λx y H Q=>∃a b ys,x=.ref a/\y=.ref b/\SqT X.K H a []/\SqT X.K H b ys/\Q (.ref b) H):=by
 intro pins s σ H x y v u Q I rx ry h
 obtain⟨a,b,ys,rfl,rfl,ha,hb,q⟩:=h
 cases rx
 cases ry
 obtain⟨its,r1,p1,_⟩:=I.tuple ha
 obtain⟨its2,r2,p2,_⟩:=I.tuple hb
 cases r1
 exact Zmh p1 p2 ⟨.ref b,H,I,rfl,q⟩
theorem XH{f:Int->Int->Option T}{x y t:T}(e:intT f x y=some t):∃i j,x=.int i/\y=.int j/\f i j=some t:=by
 cases x with
 |int i=>cases y with
  |int j=>exact⟨i,j,rfl,rfl,e⟩
  |_=>cases e
 |_=>cases e
theorem ZaC{f:Int->Int->Bool}{x y:T}{c:Bool}(e:ZgE f x y=some c):∃i j,x=.int i/\y=.int j/\f i j=c:=by
 cases x with
 |int i=>cases y with
  |int j=>exact⟨i,j,rfl,rfl,YQ e⟩
  |_=>cases e
 |_=>cases e
noncomputable def fBin(op:Yag)(x y:W)(m:Mem):Res W:=pur ((view x m).bind λx=>(view y m).bind λy=>binT op x y) m
theorem Zgp:OpR X (WW .Add) (r2 X.K xr (fBin .Add)):=by
 rintro pins s σ H x y v u Q I rx ry ⟨cm,m,a,b,M,ra,rb,ho⟩
 obtain⟨t,e,ho⟩:=Ql ho
 obtain⟨ta,tb,ea,eb,e⟩:=Zb9 e
 change addT ta tb=some t at e
 unfold addT at e
 have hz:=ZM
 split at e
 ·cases e
  cases(Zd ra ea (λ_ z=>by cases z)).vint
  cases(Zd rb eb (λ_ z=>by cases z)).vint
  exact op_add pins s σ H _ _ v u Q I rx ry ⟨_,_,rfl,rfl,ans ho M (.int _)⟩
 ·split at e<;>cases e
  cases(Zd ra ea (λ_ z=>by cases z)).vstr
  cases(Zd rb eb (λ_ z=>by cases z)).vstr
  exact Zgq pins s σ H _ _ v u Q I rx ry ⟨_,_,rfl,rfl,by rw[Xn,Xn];omega,by rw[strApp];exact ans ho M (.str _)⟩
 ·split at e<;>cases e
  obtain⟨p,vs,rfl,h1,r1⟩:=(Zd ra ea (λ_ z=>by cases z)).itup
  obtain⟨q,us,rfl,h2,r2⟩:=(Zd rb eb (λ_ z=>by cases z)).itup
  have l1:=r1.length
  have l2:=r2.length
  cases vs with
  |nil =>
   cases r1
   exact ZlH pins s σ H _ _ v u Q I rx ry ⟨p,q,us,rfl,rfl,h1,h2,ans ho M (.mtup h2 r2)⟩
  |cons v1 vs =>
   refine ZlK pins s σ H _ _ v u Q I rx ry ⟨p,q,_,us,rfl,rfl,h1,h2,by simp,by omega,λz=>?_,λz l hl=>Zb1 ho M (ZF r1 r2) hl⟩
   subst z
   cases r2
   rw[Ws]at ho
   exact ans ho M (.mtup h1 r1)
 ·split at e<;>cases e
  obtain⟨p,vs,rfl,h1,r1⟩:=Zq M ra ea
  obtain⟨q,us,rfl,h2,r2⟩:=Zq M rb eb
  have l1:=r1.length
  have l2:=r2.length
  exact op_cat pins s σ H _ _ v u Q I rx ry ⟨p,q,vs,us,rfl,rfl,h1,h2,by omega,λl hl=>Zai ho M (ZF r1 r2) hl⟩
 all_goals cases e
theorem Zgl:OpR X (WW .Sub) (r2 X.K xr (fBin .Sub)):=by
 rintro pins s σ H x y v u Q I rx ry ⟨cm,m,a,b,M,ra,rb,ho⟩
 obtain⟨t,e,ho⟩:=Ql ho
 obtain⟨ta,tb,ea,eb,e⟩:=Zb9 e
 obtain⟨i,j,rfl,rfl,e2⟩:=XH e
 cases(Zd ra ea (λ_ z=>by cases z)).vint
 cases(Zd rb eb (λ_ z=>by cases z)).vint
 cases e2
 exact op_sub pins s σ H _ _ v u Q I rx ry ⟨_,_,rfl,rfl,ans ho M (.int _)⟩
theorem ZeE:OpR X (WW .FloorDiv) (r2 X.K xr (fBin .FloorDiv)):=by
 rintro pins s σ H x y v u Q I rx ry ⟨cm,m,a,b,M,ra,rb,ho⟩
 obtain⟨t,e,ho⟩:=Ql ho
 obtain⟨ta,tb,ea,eb,e⟩:=Zb9 e
 obtain⟨i,j,rfl,rfl,e2⟩:=XH e
 cases(Zd ra ea (λ_ z=>by cases z)).vint
 cases(Zd rb eb (λ_ z=>by cases z)).vint
 split at e2<;>cases e2
 exact ZlJ pins s σ H _ _ v u Q I rx ry ⟨_,_,rfl,rfl,‹_/\_›,ans ho M (.int _)⟩
theorem Zgo:OpR X (WW .Mod) (r2 X.K xr (fBin .Mod)):=by
 rintro pins s σ H x y v u Q I rx ry ⟨cm,m,a,b,M,ra,rb,ho⟩
 obtain⟨t,e,ho⟩:=Ql ho
 obtain⟨ta,tb,ea,eb,e⟩:=Zb9 e
 obtain⟨i,j,rfl,rfl,e2⟩:=XH e
 cases(Zd ra ea (λ_ z=>by cases z)).vint
 cases(Zd rb eb (λ_ z=>by cases z)).vint
 split at e2<;>cases e2
 exact op_mod pins s σ H _ _ v u Q I rx ry ⟨_,_,rfl,rfl,‹_›,ans ho M (.int _)⟩
theorem Zgm:OpR X (WW .Pow) (r2 X.K xr (fBin .Pow)):=by
 rintro pins s σ H x y v u Q I rx ry ⟨cm,m,a,b,M,ra,rb,ho⟩
 obtain⟨t,e,ho⟩:=Ql ho
 obtain⟨ta,tb,ea,eb,e⟩:=Zb9 e
 obtain⟨i,j,rfl,rfl,e2⟩:=XH e
 cases(Zd ra ea (λ_ z=>by cases z)).vint
 cases(Zd rb eb (λ_ z=>by cases z)).vint
 have hc:0<=j/\j<=1000/\i.natAbs<2^64:=by
  by_cases hc:0<=j/\j<=1000/\i.natAbs<2^64
  ·exact hc
  ·rw[if_neg hc]at e2;cases e2
 rw[if_pos hc]at e2
 cases e2
 exact op_pow pins s σ H _ _ v u Q I rx ry ⟨_,_,rfl,rfl,⟨hc.1,by omega,hc.2.2⟩,ans ho M (.int _)⟩
theorem Zaw{α β:Type}{F:α->β->Prop}{xs:List α}{ys:List β}(h:Paired F xs ys):∀k:Nat,Paired F (repT xs k) (Yn k ys).flatten
 |0=>.nil
 |k+1=>by
  unfold repT
  rw[WD,WD,Ux,Ux]
  exact ZF h (Zaw h k)
noncomputable def fCmp(op:CmpOp)(x y:W)(m:Mem):Res W:=pur (((view x m).bind λx=>(view y m).bind λy=>cmpT op x y).map .bl) m
theorem Xb{op:CmpOp}{a b:W}{k:W->List Addr->Mem->Hp->Prop}(h:OkR K (fCmp op a b m) xr cm m H k):∃ta tb c,view a m=some ta/\view b m=some tb/\cmpT op ta tb=some c/\OkR K (.ok (.t (.bl c)) m) xr cm m H k:=by
 obtain⟨t,e,ho⟩:=Ql h
 cases q:((view a m).bind λx=>(view b m).bind λy=>cmpT op x y)with
 |none=>rw[q]at e;cases e
 |some c =>
  rw[q]at e;cases e
  obtain⟨ta,tb,ea,eb,e⟩:=Zb9 q
  exact⟨ta,tb,c,ea,eb,e,ho⟩
noncomputable def flV:T->V
 |.bl b=>.bl b
 |.int i=>.int i
 |.str cs=>.str ⟨cs.toArray⟩
 |_=>.non
theorem RT.fl{t:T}{v:V}(h:RT K cm m H t v)(f:flat t=true):v=flV t:=by
 cases h<;>first|rfl|cases f
theorem Jh{w:W}{v:V}{t:T}(h:RW K cm m H w v)(e:view w m=some t)(f:flat t=true):v=flV t:=
 (Zd h e (λts z=>by subst z;cases f)).fl f
theorem Zer{a b:List Nat}:(⟨a.toArray⟩:Str)=⟨b.toArray⟩↔a=b:=by
 constructor
 ·intro h
  injection h with h
  simpa using h
 ·intro h;rw[h]
theorem Zka{a b:List Nat}:decide (V.str ⟨a.toArray⟩=V.str ⟨b.toArray⟩)=(a==b):=by
 by_cases h:a=b
 ·subst h;simp
 ·rw[beq_eq_false_iff_ne.mpr h]
  exact decide_eq_false λz=>h (Zer.mp (V.str.inj z))
theorem Zhp{x y:T}(h:ZfZ x y=true):flat x=true/\flat y=true/\scal (flV x) (flV y)=true/\decide (flV x=flV y)=eqT x y:=by
 cases x<;>cases y<;>first
  |(cases h;done)
  |(refine⟨rfl,rfl,rfl,?_⟩;unfold eqT;first|exact ZeQ|exact ZiJ|exact Zka|exact decide_eq_true rfl|exact decide_eq_false (λz=>nomatch z))
theorem Zmf(x y:T):cmpT .Eq x y=if ZfZ x y || (Zw 60 x&&Zw 60 y)then some (eqT x y)else none:=by cases x<;>cases y<;>rfl
theorem Zme(x y:T):cmpT .NotEq x y=if ZfZ x y || (Zw 60 x&&Zw 60 y)then some (!eqT x y)else none:=by cases x<;>cases y<;>rfl
mutual
noncomputable def pyT:T->PyData
 |.bl b=>.bool b
 |.int i=>.int i
 |.str cs=>.str ⟨cs.toArray⟩
 |.tup ts=>.tuple (pyTs ts)
 |.lst ts=>.list (pyTs ts)
 |_=>.none
noncomputable def pyTs:List T->List PyData
 |[]=>[]
 |t::ts=>pyT t::pyTs ts
end
mutual
theorem Zbo:∀(n:Nat) (t:T),Zw n t=true->Gq (pyT t)=true/\Vf (pyT t)<=n
 |n,.non,h=>⟨by simp[pyT,Gq],by simp[pyT,Vf]⟩
 |n,.bl b,h=>⟨by rw[pyT];simp[Gq],by rw[pyT];simp[Vf]⟩
 |n,.int i,h=>⟨by rw[pyT];simp[Gq],by rw[pyT];simp[Vf]⟩
 |n,.str cs,h=>⟨by rw[pyT,Gq];rw[Zw]at h;exact h,by rw[pyT];simp[Vf]⟩
 |0,.tup ts,h=>by simp[Zw]at h
 |0,.lst ts,h=>by simp[Zw]at h
 |n+1,.tup ts,h=>by
  rw[Zw]at h
  have:=Zeu n ts h
  exact⟨by rw[pyT,Gq];exact this.1,by rw[pyT];simp only[Vf];omega⟩
 |n+1,.lst ts,h=>by
  rw[Zw]at h
  have:=Zeu n ts h
  exact⟨by rw[pyT,Gq];exact this.1,by rw[pyT];simp only[Vf];omega⟩
 |n,.dct _ _,h=>by cases n<;>simp[Zw]at h
 |n,.scr _,h=>by cases n<;>simp[Zw]at h
theorem Zeu:∀(n:Nat) (ts:List T),Z8 n ts=true->YaA (pyTs ts)=true/\Ya2 (pyTs ts)<=n
 |n,[],h=>⟨by rw[pyTs];simp[YaA],by rw[pyTs];simp[Ya2]⟩
 |n,t::ts,h=>by
  rw[Z8,Yg]at h
  have h1:=Zbo n t h.1
  have h2:=Zeu n ts h.2
  refine⟨by rw[pyTs,YaA,h1.1,h2.1];rfl,?_⟩
  rw[pyTs,Ya2]
  omega
end
theorem str_beq{a b:List Nat}:((⟨a.toArray⟩:Str)==⟨b.toArray⟩)=(a==b):=by
 by_cases h:a=b
 ·subst h;simp
 ·rw[beq_eq_false_iff_ne.mpr h,beq_eq_false_iff_ne.mpr λz=>h (Zer.mp z)]
mutual
theorem Zfq:∀(n k:Nat) (x y:T),Zw n x=true->Zw k y=true->Wv (pyT x) (pyT y)=eqT x y
 |n,k,.tup xs,.tup ys,h1,h2=>by
  cases n with
  |zero=>simp[Zw]at h1
  |succ n=>cases k with
   |zero=>simp[Zw]at h2
   |succ k =>
    rw[Zw]at h1 h2
    rw[pyT,pyT,Wv,eqT]
    exact Zev n k xs ys h1 h2
 |n,k,.lst xs,.lst ys,h1,h2=>by
  cases n with
  |zero=>simp[Zw]at h1
  |succ n=>cases k with
   |zero=>simp[Zw]at h2
   |succ k =>
    rw[Zw]at h1 h2
    rw[pyT,pyT,Wv,eqT]
    exact Zev n k xs ys h1 h2
 |n,k,.str xs,.str ys,_,_=>by rw[pyT,pyT,Wv,eqT];exact str_beq
 |n,k,.non,y,_,h2=>by cases y<;>first|(simp[pyT,Wv,eqT];done)|(cases k<;>simp[Zw]at h2)
 |n,k,.bl b,y,_,h2=>by cases y<;>first|(simp[pyT,Wv,eqT,b2i];done)|(cases k<;>simp[Zw]at h2)
 |n,k,.int b,y,_,h2=>by cases y<;>first|(simp[pyT,Wv,eqT,b2i];done)|(cases k<;>simp[Zw]at h2)
 |n,k,.str xs,.non,_,_=>by simp[pyT,Wv,eqT]
 |n,k,.str xs,.bl _,_,_=>by simp[pyT,Wv,eqT]
 |n,k,.str xs,.int _,_,_=>by simp[pyT,Wv,eqT]
 |n,k,.str xs,.tup _,_,_=>by simp[pyT,Wv,eqT]
 |n,k,.str xs,.lst _,_,_=>by simp[pyT,Wv,eqT]
 |n,k,.tup xs,.non,_,_=>by simp[pyT,Wv,eqT]
 |n,k,.tup xs,.bl _,_,_=>by simp[pyT,Wv,eqT]
 |n,k,.tup xs,.int _,_,_=>by simp[pyT,Wv,eqT]
 |n,k,.tup xs,.str _,_,_=>by simp[pyT,Wv,eqT]
 |n,k,.tup xs,.lst _,_,_=>by simp[pyT,Wv,eqT]
 |n,k,.lst xs,.non,_,_=>by simp[pyT,Wv,eqT]
 |n,k,.lst xs,.bl _,_,_=>by simp[pyT,Wv,eqT]
 |n,k,.lst xs,.int _,_,_=>by simp[pyT,Wv,eqT]
 |n,k,.lst xs,.str _,_,_=>by simp[pyT,Wv,eqT]
 |n,k,.lst xs,.tup _,_,_=>by simp[pyT,Wv,eqT]
 |n,k,x,.dct _ _,_,h2=>by cases k<;>simp[Zw]at h2
 |n,k,x,.scr _,_,h2=>by cases k<;>simp[Zw]at h2
 |n,k,.dct _ _,y,h1,_=>by cases n<;>simp[Zw]at h1
 |n,k,.scr _,y,h1,_=>by cases n<;>simp[Zw]at h1
theorem Zev:∀(n k:Nat) (xs ys:List T),Z8 n xs=true->Z8 k ys=true->VV (pyTs xs) (pyTs ys)=eqTs xs ys
 |n,k,[],[],_,_=>by rw[pyTs,VV,eqTs]
 |n,k,[],_::_,_,_=>by rw[pyTs,pyTs,VV,eqTs]<;>simp
 |n,k,_::_,[],_,_=>by rw[pyTs,pyTs,VV,eqTs]<;>simp
 |n,k,x::xs,y::ys,h1,h2=>by
  rw[Z8,Yg]at h1 h2
  rw[pyTs,pyTs,VV,eqTs,Zfq n k x y h1.1 h2.1,Zev n k xs ys h1.2 h2.2]
end
theorem Xx{pins:List (Addr×Obj)}{σ:L2.St}{s:Shared}(I:Inv X pins σ H s):∀{ts:List T}{vs:List V}{us:List Value},ts.length=vs.length->(∀(i:Nat) t v u,ts[i]?=some t->vs[i]?=some v->RelV v u->∃as,Reads s.heap u (pyT t) as)->Vals vs us->∃as,ReadsAll s.heap us (pyTs ts) as
 |[],[],_,_,_,.nil=>⟨_,by rw[pyTs];exact .nil⟩
 |t::ts,v::vs,_,hl,h,.cons r rs=>by
  obtain⟨as,h1⟩:=h 0 t v _ rfl rfl r
  obtain⟨bs,h2⟩:=Xx I (ts:=ts) (vs:=vs) (by simpa using hl) (λi t v u a b c=>h (i+1) t v u (by simpa using a) (by simpa using b) c) rs
  exact⟨_,by rw[pyTs];exact .cons h1 h2⟩
 |[],_::_,_,hl,_,_=>by simp at hl
 |_::_,[],_,hl,_,_=>by simp at hl
theorem RT.reads{pins:List (Addr×Obj)}{σ:L2.St}{s:Shared}{K:Frag}(hK:X.K=K)(I:Inv X pins σ H s){t:T}{v:V}(h:RT K cm m H t v):∀{n:Nat}{u:Value},Zw n t=true->RelV v u->∃as,Reads s.heap u (pyT t) as:=by
 subst hK
 induction h with
 |non=>intro n u _ r;cases r;exact⟨[],by simp only[pyT];exact .none⟩
 |bl b=>intro n u _ r;cases r;exact⟨_,by rw[pyT];exact .bool b⟩
 |int i=>intro n u _ r;obtain⟨t,rfl⟩:=r;exact⟨_,by rw[pyT];exact .int i t⟩
 |str cs=>intro n u _ r;obtain⟨t,rfl⟩:=r;exact⟨_,by rw[pyT];exact .str _ t⟩
 |@tup a ts vs h1 h2 h3 ih =>
  intro n u hd r
  cases n with
  |zero=>simp[Zw]at hd
  |succ n =>
   rw[Zw]at hd
   cases r
   obtain⟨its,rv,⟨o,ho,hc,k,hdt⟩,hz⟩:=I.tuple h1
   have hall:∀(i:Nat) t,ts[i]?=some t->Zw n t=true:=λi t e=>by
    have:∀{l:List T},Z8 n l=true->∀x∈l,Zw n x=true:=λ{l}=>by
     induction l with
     |nil=>intro _ x hx;cases hx
     |cons y l ih=>intro h x hx;rw[Z8,Yg]at h;rcases Ys.mp hx with rfl|hx;exact h.1;exact ih h.2 x hx
    exact this hd t (WP e)
   obtain⟨as,hr⟩:=Xx I h2 (λi t v u e1 e2 r=>ih i t v e1 e2 (hall i t e1) r) rv
   exact⟨_,by rw[pyT];exact .tuple ho hc hdt (by simpa using hr)⟩
 |@lst a ts vs h1 h2 h3 h4 ih =>
  intro n u hd r
  cases n with
  |zero=>simp[Zw]at hd
  |succ n =>
   rw[Zw]at hd
   cases r
   obtain⟨its,k,rv,ho,hz⟩:=I.lst h1
   have hall:∀(i:Nat) t,ts[i]?=some t->Zw n t=true:=λi t e=>by
    have:∀{l:List T},Z8 n l=true->∀x∈l,Zw n x=true:=λ{l}=>by
     induction l with
     |nil=>intro _ x hx;cases hx
     |cons y l ih=>intro h x hx;rw[Z8,Yg]at h;rcases Ys.mp hx with rfl|hx;exact h.1;exact ih h.2 x hx
    exact this hd t (WP e)
   obtain⟨as,hr⟩:=Xx I h3 (λi t v u e1 e2 r=>ih i t v e1 e2 (hall i t e1) r) rv
   exact⟨_,by rw[pyT];exact .list ho rfl rfl (by simpa using hr)⟩
 |dct _ _ _ _ _ _=>intro n u hd _;cases n<;>simp[Zw]at hd
 |scr _ _=>intro n u hd _;cases n<;>simp[Zw]at hd
theorem Jb{pins:List (Addr×Obj)}{σ:L2.St}{s:Shared}(I:Inv X pins σ H s)(M:MemR X.K cm m H){w:W}{t:T}{v:V}{u:Value}(r:RW X.K cm m H w v)(e:view w m=some t)(rv:RelV v u){n:Nat}(hd:Zw n t=true):∃as,Reads s.heap u (pyT t) as:=by
 cases t with
 |lst ts =>
  cases n with
  |zero=>simp[Zw]at hd
  |succ n =>
   rw[Zw]at hd
   obtain⟨a,vs,rfl,h1,rr⟩:=Zq M r e
   cases rv
   obtain⟨its,k,rv,ho,hz⟩:=I.lst h1
   obtain⟨as,hr⟩:=Xx I rr.length (λi t v u e1 e2 r=>RT.reads rfl I (Jc rr i t v e1 e2) (n:=n) (by
    have:∀{l:List T},Z8 n l=true->∀x∈l,Zw n x=true:=λ{l}=>by
     induction l with
     |nil=>intro _ x hx;cases hx
     |cons y l ih=>intro h x hx;rw[Z8,Yg]at h;rcases Ys.mp hx with rfl|hx;exact h.1;exact ih h.2 x hx
    exact this hd t (WP e1)) r) rv
   exact⟨_,by rw[pyT];exact .list ho rfl rfl (by simpa using hr)⟩
 |_=>exact RT.reads rfl I (Zd r e (λ_ z=>by cases z)) hd rv
theorem ZhZ(hu:X.A.units+64<cLine):OpR X (Y7 .Eq) (r2 X.K xr (fCmp .Eq)):=by
 rintro pins s σ H x y v u Q I rx ry ⟨cm,m,a,b,M,ra,rb,ho⟩
 obtain⟨ta,tb,c,ea,eb,e,ho⟩:=Xb ho
 rw[Zmf]at e
 split at e<;>cases e
 rename_i hs
 rw[W9]at hs
 rcases hs with hs|hs
 ·obtain⟨f1,f2,f3,f4⟩:=Zhp hs
  cases Jh ra ea f1
  cases Jh rb eb f2
  exact op_eq pins s σ H _ _ v u Q I rx ry ⟨f3,by rw[f4];exact ans ho M (.bl _)⟩
 ·rw[Yg]at hs
  obtain⟨as,ha⟩:=Jb I M ra ea rx hs.1
  obtain⟨bs,hb⟩:=Jb I M rb eb ry hs.2
  have d1:=Zbo 60 ta hs.1
  have d2:=Zbo 60 tb hs.2
  refine SeqAt.compareEq_reads ha hb d1.1 d2.1 (by omega) ⟨.bl (eqT ta tb),H,I,?_,ans ho M (.bl _)⟩
  rw[Zfq 60 60 ta tb hs.1 hs.2]
  rfl
theorem ZhS(hu:X.A.units+64<cLine):OpR X (Y7 .NotEq) (r2 X.K xr (fCmp .NotEq)):=by
 rintro pins s σ H x y v u Q I rx ry ⟨cm,m,a,b,M,ra,rb,ho⟩
 obtain⟨ta,tb,c,ea,eb,e,ho⟩:=Xb ho
 rw[Zme]at e
 split at e<;>cases e
 rename_i hs
 rw[W9]at hs
 rcases hs with hs|hs
 ·obtain⟨f1,f2,f3,f4⟩:=Zhp hs
  cases Jh ra ea f1
  cases Jh rb eb f2
  exact op_ne pins s σ H _ _ v u Q I rx ry ⟨f3,by rw[f4];exact ans ho M (.bl _)⟩
 ·rw[Yg]at hs
  obtain⟨as,ha⟩:=Jb I M ra ea rx hs.1
  obtain⟨bs,hb⟩:=Jb I M rb eb ry hs.2
  have d1:=Zbo 60 ta hs.1
  have d2:=Zbo 60 tb hs.2
  refine SeqAt.compareNe_reads ha hb d1.1 d2.1 (by omega) ⟨.bl (!eqT ta tb),H,I,?_,ans ho M (.bl _)⟩
  rw[Zfq 60 60 ta tb hs.1 hs.2]
  rfl
theorem Zd1:∀a b:List Nat,nlt a b=decide (a<b)
 |[],[]=>by simp[nlt]
 |[],_::_=>by simp[nlt]
 |_::_,[]=>by simp[nlt]
 |a::x,b::y=>by
  unfold nlt
  rw[Zd1 x y]
  by_cases h:a<b
  ·rw[if_pos h]
   exact(decide_eq_true (List.cons_lt_cons_iff.mpr (.inl h))).symm
  ·rw[if_neg h]
   by_cases h2:b<a
   ·rw[if_pos h2]
    refine(decide_eq_false λz=>?_).symm
    rcases List.cons_lt_cons_iff.mp z with z|⟨z,_⟩<;>omega
   ·rw[if_neg h2]
    have e:a=b:=by omega
    subst e
    simp
theorem ZhT:OpR X (Y7 .Lt) (r2 X.K xr (fCmp .Lt)):=by
 rintro pins s σ H x y v u Q I rx ry ⟨cm,m,a,b,M,ra,rb,ho⟩
 obtain⟨ta,tb,c,ea,eb,e,ho⟩:=Xb ho
 change ltT ta tb=some c at e
 cases ta with
 |int i=>cases tb with
  |int j =>
   cases e
   cases(Zd ra ea (λ_ z=>by cases z)).vint
   cases(Zd rb eb (λ_ z=>by cases z)).vint
   exact op_lt pins s σ H _ _ v u Q I rx ry ⟨_,_,rfl,rfl,ans ho M (.bl _)⟩
  |_=>cases e
 |str i=>cases tb with
  |str j =>
   cases e
   cases(Zd ra ea (λ_ z=>by cases z)).vstr
   cases(Zd rb eb (λ_ z=>by cases z)).vstr
   refine ZhQ pins s σ H _ _ v u Q I rx ry ⟨_,_,rfl,rfl,?_⟩
   have:=ans ho M (.bl _)
   rw[Zd1]at this
   exact this
  |_=>cases e
 |_=>cases e
theorem ZhU:OpR X (Y7 .LtE) (r2 X.K xr (fCmp .LtE)):=by
 rintro pins s σ H x y v u Q I rx ry ⟨cm,m,a,b,M,ra,rb,ho⟩
 obtain⟨ta,tb,c,ea,eb,e,ho⟩:=Xb ho
 obtain⟨i,j,rfl,rfl,rfl⟩:=ZaC e
 cases(Zd ra ea (λ_ z=>by cases z)).vint
 cases(Zd rb eb (λ_ z=>by cases z)).vint
 exact op_le pins s σ H _ _ v u Q I rx ry ⟨_,_,rfl,rfl,ans ho M (.bl _)⟩
theorem ZhX:OpR X (Y7 .Gt) (r2 X.K xr (fCmp .Gt)):=by
 rintro pins s σ H x y v u Q I rx ry ⟨cm,m,a,b,M,ra,rb,ho⟩
 obtain⟨ta,tb,c,ea,eb,e,ho⟩:=Xb ho
 obtain⟨i,j,rfl,rfl,rfl⟩:=ZaC e
 cases(Zd ra ea (λ_ z=>by cases z)).vint
 cases(Zd rb eb (λ_ z=>by cases z)).vint
 exact op_gt pins s σ H _ _ v u Q I rx ry ⟨_,_,rfl,rfl,ans ho M (.bl _)⟩
theorem ZhY:OpR X (Y7 .GtE) (r2 X.K xr (fCmp .GtE)):=by
 rintro pins s σ H x y v u Q I rx ry ⟨cm,m,a,b,M,ra,rb,ho⟩
 obtain⟨ta,tb,c,ea,eb,e,ho⟩:=Xb ho
 obtain⟨i,j,rfl,rfl,rfl⟩:=ZaC e
 cases(Zd ra ea (λ_ z=>by cases z)).vint
 cases(Zd rb eb (λ_ z=>by cases z)).vint
 exact op_ge pins s σ H _ _ v u Q I rx ry ⟨_,_,rfl,rfl,ans ho M (.bl _)⟩
theorem Zj6{a b:List Nat}:eqV (.str ⟨a.toArray⟩) (.str ⟨b.toArray⟩)=(a==b):=by
 show((⟨a.toArray⟩:Str)==⟨b.toArray⟩)=(a==b)
 by_cases h:a=b
 ·subst h;simp
 ·rw[beq_eq_false_iff_ne.mpr h,beq_eq_false_iff_ne.mpr λz=>h (Zer.mp z)]
theorem fl_eqV{x y:T}(f:flat x=true)(g:flat y=true):eqV (flV y) (flV x)=eqT y x:=by
 cases x<;>cases y<;>first
  |(cases f;done)
  |(cases g;done)
  |(unfold eqT;exact Zj6)
  |(unfold eqT;rfl)
theorem RTs.fl{ts:List T}{vs:List V}(h:RTs K cm m H ts vs)(f:ts.all flat=true):vs=ts.map flV/\vs.all Za7=true:=by
 induction h with
 |nil=>exact⟨rfl,rfl⟩
 |@cons t v _ _ r _ ih =>
  rw[U8,Yg]at f
  obtain⟨h1,h2⟩:=ih f.2
  have h3:=r.fl f.1
  subst h3
  refine⟨by rw[Wa,h1],?_⟩
  rw[U8,h2,Bool.and_true]
  cases t<;>first|rfl|(cases f.1)
theorem Zi2{x:T}(f:flat x=true):∀{ts:List T},ts.all flat=true->inV (flV x) (ts.map flV)=ts.any λt=>eqT t x
 |[],_=>rfl
 |t::ts,g=>by
  rw[U8,Yg]at g
  have ih:=Zi2 f g.2
  unfold inV at ih ⊢
  rw[Wa,VP,VP,ih,fl_eqV f g.1]
theorem Zbe{x:T}(f:flat x=true):Za7 (flV x)=true:=by cases x<;>first|rfl|cases f
theorem found1(b:List Nat)(a:Nat):(!(Us ⟨b.toArray⟩ ⟨#[a]⟩ 0 (⟨b.toArray⟩:Str).length 1).isEmpty)=decide (a∈b):=by
 have:=PySem.StrLaws.found_one (⟨b.toArray⟩:Str) a
 simpa using this
theorem Zaa{x y:T}{c:Bool}(e:cmpT .In x y=some c):(∃a b,x=.str a/\y=.str b/\c=!(Us ⟨b.toArray⟩ ⟨a.toArray⟩ 0 (⟨b.toArray⟩:Str).length 1).isEmpty)∨(flat x=true/\∃ts,(y=.tup ts∨y=.lst ts)/\ts.all flat=true/\c=ts.any λt=>eqT t x)∨∃ts,y=.lst ts/\Zw 59 x=true/\Z8 59 ts=true/\c=ts.any λt=>eqT t x:=by
 have hh:∀{x y:T}{c:Bool},hasT x y=some c->(flat x=true/\∃ts,(y=.tup ts∨y=.lst ts)/\ts.all flat=true/\c=ts.any λt=>eqT t x)∨∃ts,y=.lst ts/\Zw 59 x=true/\Z8 59 ts=true/\c=ts.any λt=>eqT t x:=by
  intro x y c e
  unfold hasT at e
  split at e
  ·split at e<;>cases e
   rename_i h
   rw[Yg]at h
   exact .inl ⟨h.1,_,.inl rfl,h.2,rfl⟩
  ·split at e
   ·cases e
    rename_i h
    rw[Yg]at h
    exact .inl ⟨h.1,_,.inr rfl,h.2,rfl⟩
   ·split at e<;>cases e
    rename_i h
    rw[Yg]at h
    exact .inr ⟨_,rfl,h.1,h.2,rfl⟩
  ·cases e
 cases x with
 |str cs =>
  cases cs with
  |nil=>cases y<;>exact .inr (hh e)
  |cons a r =>
   cases r with
   |nil =>
    cases y with
    |str b=>cases e;exact .inl ⟨[a],b,rfl,rfl,(found1 b a).symm⟩
    |_=>exact .inr (hh e)
   |cons a' r =>
    cases y with
    |str b=>cases e;exact .inl ⟨_,b,rfl,rfl,rfl⟩
    |_=>exact .inr (hh e)
 |_=>cases y<;>exact .inr (hh e)
theorem Zj9{ts:List T}{n:Nat}(h:Z8 n ts=true):∀x∈ts,Zw n x=true:=by
 induction ts with
 |nil=>intro x hx;cases hx
 |cons y l ih =>
  intro x hx
  rw[Z8,Yg]at h
  rcases Ys.mp hx with rfl|hx
  ·exact h.1
  ·exact ih h.2 x hx
theorem Zjb{vs:List V}{us:List Value}(r:Vals vs us):∀(i:Nat) (u:Value),us[i]?=some u->∃v,vs[i]?=some v/\RelV v u:=by
 induction r with
 |nil=>intro i u h;simp at h
 |cons r rs ih =>
  intro i u h
  cases i with
  |zero=>simp at h;subst h;exact⟨_,rfl,r⟩
  |succ i=>exact ih i u (by simpa using h)
theorem ZiG{pins:List (Addr×Obj)}{σ:L2.St}{s:Shared}{H:Hp}{w:W}{tx:T}{xv:V}{v:Value}{p:Addr}{ts:List T}{vs:List V}(hu:X.A.units+64<cLine)(I:Inv X pins σ H s)(M:MemR X.K cm m H)(ra:RW X.K cm m H w xv)(ea:view w m=some tx)(rx:RelV xv v)(dx:Zw 59 tx=true)(h1:H p=some (.lst vs))(r:RTs X.K cm m H ts vs)(dt:Z8 59 ts=true):
  ∃(its:Array Value) (e:Value->Bool),s.heap.IsList p its/\(∀y,y∈its->Ybq X.A.in1 s y v (e y))/\its.any e=ts.any λt=>eqT t tx:=by
 classical
 obtain⟨as,hx⟩:=Jb I M ra ea rx dx
 obtain⟨its,k,rv,ho,hz⟩:=I.lst h1
 have hlen:ts.length=its.length:=r.length.trans rv.length
 have at_:∀(i:Nat) (t:T) (y:Value),ts[i]?=some t->its[i]?=some y->Ybq X.A.in1 s y v (eqT t tx):=by
  intro i t y e1 e2
  obtain⟨u,e3,e4⟩:=Zjb rv i y e2
  have d:=Zj9 dt t (WP e1)
  obtain⟨bs,hb⟩:=RT.reads rfl I (Jc r i t u e1 e3) (n:=59) d e4
  have l1:=Zbo 59 t d
  have l2:=Zbo 59 tx dx
  have:=SeqAt.eqAt_reads (pyT t) (pyT tx) X.A.in1 s y v bs as hb hx l1.1 l2.1 (by
   have:X.A.in1.units<=X.A.units+1:=by simp[Around.in1]
   omega)
  rw[Zfq 59 59 t tx d dx]at this
  exact this
 refine⟨its.toArray,λy=>decide (∃(i:Nat) (t:T),ts[i]?=some t/\its[i]?=some y/\eqT t tx=true),⟨_,ho,rfl,k,rfl⟩,λy hy=>?_,?_⟩
 ·by_cases q:∃(i:Nat) (t:T),ts[i]?=some t/\its[i]?=some y/\eqT t tx=true
  ·dsimp only;rw[decide_eq_true q]
   obtain⟨i,t,e1,e2,e3⟩:=q
   have:=at_ i t y e1 e2
   rw[e3]at this
   exact this
  ·dsimp only;rw[decide_eq_false q]
   obtain⟨i,hi,e2⟩:=G5 (show y∈its by simpa using hy)
   have hi':i<ts.length:=by omega
   have e1:ts[i]?=some ts[i]:=YH hi'
   have e2:its[i]?=some y:=by rw[<-e2];exact YH hi
   have:=at_ i ts[i] y e1 e2
   cases q2:eqT ts[i] tx with
   |false=>rw[q2]at this;exact this
   |true=>exact absurd ⟨i,ts[i],e1,e2,q2⟩ q
 ·rw[Vj,List.any_toArray,G4,G4]
  constructor
  ·rintro ⟨y,hy,q⟩
   obtain⟨i,t,e1,_,e3⟩:=of_decide_eq_true q
   exact⟨t,WP e1,e3⟩
  ·rintro ⟨t,ht,e3⟩
   obtain⟨i,hi,e1⟩:=G5 ht
   have hi':i<its.length:=by omega
   exact⟨its[i],YaP hi',decide_eq_true ⟨i,t,by rw[<-e1];exact YH hi,YH hi',e3⟩⟩
theorem ZgM(x y:T):cmpT .NotIn x y=(cmpT .In x y).map (!·):=by
 cases x with
 |str cs =>
  cases cs with
  |nil=>cases y<;>rfl
  |cons a r=>cases r<;>cases y<;>rfl
 |_=>cases y<;>rfl
theorem ZhW(hu:X.A.units+64<cLine):OpR X (Y7 .In) (r2 X.K xr (fCmp .In)):=by
 rintro pins s σ H x y v u Q I rx ry ⟨cm,m,a,b,M,ra,rb,ho⟩
 obtain⟨ta,tb,c,ea,eb,e,ho⟩:=Xb ho
 rcases Zaa e with⟨p,q,rfl,rfl,rfl⟩|⟨f,ts,hy,g,rfl⟩|⟨ts,rfl,dx,dt,rfl⟩
 ·cases(Zd ra ea (λ_ z=>by cases z)).vstr
  cases(Zd rb eb (λ_ z=>by cases z)).vstr
  exact ZhR pins s σ H _ _ v u Q I rx ry ⟨_,_,rfl,rfl,ans ho M (.bl _)⟩
 ·cases Jh ra ea f
  have fin:∀{vs:List V},RTs X.K cm m H ts vs->vs=ts.map flV/\vs.all Za7=true/\Q (.bl (inV (flV ta) vs)) H:=λr=>by
   obtain⟨h1,h2⟩:=RTs.fl r g
   exact⟨h1,h2,by rw[h1,Zi2 f g];exact ans ho M (.bl _)⟩
  rcases hy with rfl|rfl
  ·obtain⟨p,vs,rfl,h1,r⟩:=(Zd rb eb (λ_ z=>by cases z)).itup
   obtain⟨_,f2,f3⟩:=fin r
   exact ZdV pins s σ H _ _ v u Q I rx ry ⟨p,vs,rfl,.inr h1,Zbe f,f2,f3⟩
  ·obtain⟨p,vs,rfl,h1,r⟩:=Zq M rb eb
   obtain⟨_,f2,f3⟩:=fin r
   exact ZdV pins s σ H _ _ v u Q I rx ry ⟨p,vs,rfl,.inl (.of h1),Zbe f,f2,f3⟩
 ·obtain⟨p,vs,rfl,h1,r⟩:=Zq M rb eb
  cases ry
  obtain⟨its,e,hl,he,ha⟩:=ZiG hu I M ra ea rx dx h1 r dt
  refine SeqAt.in_listAt e hl he ?_
  rw[ha]
  exact⟨.bl _,H,I,rfl,ans ho M (.bl _)⟩
theorem ZdW(hu:X.A.units+64<cLine):OpR X (Y7 .NotIn) (r2 X.K xr (fCmp .NotIn)):=by
 rintro pins s σ H x y v u Q I rx ry ⟨cm,m,a,b,M,ra,rb,ho⟩
 obtain⟨ta,tb,c',ea,eb,e,ho⟩:=Xb ho
 rw[ZgM]at e
 cases e2:cmpT .In ta tb with
 |none=>rw[e2]at e;cases e
 |some c =>
 rw[e2]at e;cases e
 rcases Zaa e2 with⟨p,q,rfl,rfl,rfl⟩|⟨f,ts,hy,g,rfl⟩|⟨ts,rfl,dx,dt,rfl⟩
 ·cases(Zd ra ea (λ_ z=>by cases z)).vstr
  cases(Zd rb eb (λ_ z=>by cases z)).vstr
  exact ZdU pins s σ H _ _ v u Q I rx ry ⟨_,_,rfl,rfl,ans ho M (.bl _)⟩
 ·cases Jh ra ea f
  have fin:∀{vs:List V},RTs X.K cm m H ts vs->vs=ts.map flV/\vs.all Za7=true/\Q (.bl (!inV (flV ta) vs)) H:=λr=>by
   obtain⟨h1,h2⟩:=RTs.fl r g
   exact⟨h1,h2,by rw[h1,Zi2 f g];exact ans ho M (.bl _)⟩
  rcases hy with rfl|rfl
  ·obtain⟨p,vs,rfl,h1,r⟩:=(Zd rb eb (λ_ z=>by cases z)).itup
   obtain⟨_,f2,f3⟩:=fin r
   exact ZaV pins s σ H _ _ v u Q I rx ry ⟨p,vs,rfl,.inr h1,Zbe f,f2,f3⟩
  ·obtain⟨p,vs,rfl,h1,r⟩:=Zq M rb eb
   obtain⟨_,f2,f3⟩:=fin r
   exact ZaV pins s σ H _ _ v u Q I rx ry ⟨p,vs,rfl,.inl (.of h1),Zbe f,f2,f3⟩
 ·obtain⟨p,vs,rfl,h1,r⟩:=Zq M rb eb
  cases ry
  obtain⟨its,e,hl,he,ha⟩:=ZiG hu I M ra ea rx dx h1 r dt
  refine SeqAt.notIn_listAt e hl he ?_
  rw[ha]
  exact⟨.bl _,H,I,rfl,ans ho M (.bl _)⟩
noncomputable def hdV:V->Option (Option Bool)
 |.non=>some none
 |.bl b=>some (some b)
 |_=>none
noncomputable def hdT:T->Option (Option Bool)
 |.non=>some none
 |.bl b=>some (some b)
 |_=>none
theorem RW.hd{w:W}{v:V}{t:T}(M:MemR K cm m H)(h:RW K cm m H w v)(e:view w m=some t):hdV v=hdT t:=by
 cases t with
 |lst ts=>obtain⟨a,vs,rfl,_⟩:=Zq M h e;rfl
 |_=>cases Zd h e (λ_ z=>by cases z)<;>rfl
theorem is_bl{prog:Yx}{w:World}{A:Around}{E:Value->Shared->Prop}{s:Shared}{x:V}{v:Value}{b:Bool}{Q:Value->Shared->Prop}(rx:RelV x v)(h:Q (.bool (hdV x==some (some b))) s):
  wpAny (model prog w) A (Y7 .Is v (.bool b)) Q E s:=by
 cases x with
 |bl c =>
  cases rx
  refine wpAny_is_plain rfl ?_
  have e:((W3 c)==(W3 b))=(hdV (.bl c)==some (some b)):=by cases c<;>cases b<;>rfl
  rw[e];exact h
 |non=>cases rx;exact Gr rfl (λz=>nomatch z) h
 |int i=>obtain⟨t,rfl⟩:=rx;exact Gr rfl (λz=>nomatch z) h
 |str i=>obtain⟨t,rfl⟩:=rx;exact Gr rfl (λz=>nomatch z) h
 |byt i=>obtain⟨t,rfl⟩:=rx;exact Gr rfl (λz=>nomatch z) h
 |flt i=>obtain⟨t,rfl⟩:=rx;exact Gr rfl (λz=>nomatch z) h
 |ref a=>cases rx;exact Gr rfl (λz=>nomatch z) h
 |ty n=>cases rx;exact Gr rfl (λz=>nomatch z) h
theorem ZjZ{prog:Yx}{w:World}{A:Around}{E:Value->Shared->Prop}{s:Shared}{x:V}{v:Value}{b:Bool}{Q:Value->Shared->Prop}(rx:RelV x v)(h:Q (.bool (!(hdV x==some (some b)))) s):
  wpAny (model prog w) A (Y7 .IsNot v (.bool b)) Q E s:=by
 cases x with
 |bl c =>
  cases rx
  refine wpAny_isNot_plain rfl ?_
  have e:((W3 c)==(W3 b))=(hdV (.bl c)==some (some b)):=by cases c<;>cases b<;>rfl
  rw[e];exact h
 |non=>cases rx;exact Uy rfl (λz=>nomatch z) h
 |int i=>obtain⟨t,rfl⟩:=rx;exact Uy rfl (λz=>nomatch z) h
 |str i=>obtain⟨t,rfl⟩:=rx;exact Uy rfl (λz=>nomatch z) h
 |byt i=>obtain⟨t,rfl⟩:=rx;exact Uy rfl (λz=>nomatch z) h
 |flt i=>obtain⟨t,rfl⟩:=rx;exact Uy rfl (λz=>nomatch z) h
 |ref a=>cases rx;exact Uy rfl (λz=>nomatch z) h
 |ty n=>cases rx;exact Uy rfl (λz=>nomatch z) h
theorem ZiN{x y:T}{c:Bool}(e:cmpT .Is x y=some c):(y=.non/\c=(hdT x==some none))∨∃b,y=.bl b/\c=(hdT x==some (some b)):=by
 cases y with
 |non=>cases x<;>(cases e;exact .inl ⟨rfl,rfl⟩)
 |bl b =>
  refine .inr ⟨b,rfl,?_⟩
  cases x with
  |bl a=>cases e;cases a<;>cases b<;>rfl
  |_=>cases e;rfl
 |_=>cases x<;>cases e
theorem ZgN(x y:T):cmpT .IsNot x y=(cmpT .Is x y).map (!·):=by
 cases y with
 |non=>cases x<;>rfl
 |bl b=>cases x<;>first|rfl|(rename_i a;cases a<;>cases b<;>rfl)
 |_=>cases x<;>rfl
theorem ZkG{x:V}:decide (x=.non)=(hdV x==some none):=by cases x<;>first|rfl|exact decide_eq_true rfl|exact decide_eq_false (λz=>nomatch z)
theorem ZhV:OpR X (Y7 .Is) (r2 X.K xr (fCmp .Is)):=by
 rintro pins s σ H x y v u Q I rx ry ⟨cm,m,a,b,M,ra,rb,ho⟩
 obtain⟨ta,tb,c,ea,eb,e,ho⟩:=Xb ho
 have hx:=RW.hd M ra ea
 rcases ZiN e with⟨rfl,rfl⟩|⟨k,rfl,rfl⟩
 ·cases(Zd rb eb (λ_ z=>by cases z)).vnon
  refine op_isN pins s σ H _ _ v u Q I rx ry ⟨rfl,?_⟩
  rw[ZkG,hx]
  exact ans ho M (.bl _)
 ·cases(Zd rb eb (λ_ z=>by cases z)).vbl
  cases ry
  refine is_bl rx ⟨.bl _,H,I,rfl,?_⟩
  rw[hx]
  exact ans ho M (.bl _)
theorem ZdX:OpR X (Y7 .IsNot) (r2 X.K xr (fCmp .IsNot)):=by
 rintro pins s σ H x y v u Q I rx ry ⟨cm,m,a,b,M,ra,rb,ho⟩
 obtain⟨ta,tb,c',ea,eb,e,ho⟩:=Xb ho
 have hx:=RW.hd M ra ea
 rw[ZgN]at e
 cases e2:cmpT .Is ta tb with
 |none=>rw[e2]at e;cases e
 |some c =>
 rw[e2]at e;cases e
 rcases ZiN e2 with⟨rfl,rfl⟩|⟨k,rfl,rfl⟩
 ·cases(Zd rb eb (λ_ z=>by cases z)).vnon
  refine ZlG pins s σ H _ _ v u Q I rx ry ⟨rfl,?_⟩
  rw[ZkG,hx]
  exact ans ho M (.bl _)
 ·cases(Zd rb eb (λ_ z=>by cases z)).vbl
  cases ry
  refine ZjZ rx ⟨.bl _,H,I,rfl,?_⟩
  rw[hx]
  exact ans ho M (.bl _)
theorem Zfy(hu:X.A.units+64<cLine):∀op:CmpOp,OpR X (Y7 op) (r2 X.K xr (fCmp op))
 |.Eq=>ZhZ hu
 |.NotEq=>ZhS hu
 |.Lt=>ZhT
 |.LtE=>ZhU
 |.Gt=>ZhX
 |.GtE=>ZhY
 |.Is=>ZhV
 |.IsNot=>ZdX
 |.In=>ZhW hu
 |.NotIn=>ZdW hu
noncomputable def fIx(x y:W)(m:Mem):Res W:=pur ((view x m).bind λx=>(view y m).bind λy=>ixT x y) m
theorem ZlW(n:Nat)(i:Int):ixOf n i=ixN n i:=rfl
theorem ZaQ{α β:Type}{F:α->β->Prop}{xs:List α}{ys:List β}(h:Paired F xs ys){i:Int}{x:α}(e:atT xs i=some x):∃y,atI ys i=some y/\F x y:=by
 unfold atT at e
 unfold atI
 rw[<-h.length]
 cases q:ixOf xs.length i with
 |none=>rw[q]at e;cases e
 |some j =>
  rw[q]at e
  rw[ZlW]at q
  obtain⟨y,e1,e2⟩:=Zx h e
  exact⟨y,by rw[q];exact e1,e2⟩
theorem Zao(ns:List Int):RTs K cm m H (ns.map .int) (ns.map V.int):=by
 induction ns with
 |nil=>exact .nil
 |cons n ns ih=>exact .cons (.int n) ih
theorem Zmq{α β:Type}(f:α->β)(xs:List α)(i:Int):atT (xs.map f) i=(atT xs i).map f:=by
 unfold atT
 rw[Yi]
 cases ixOf xs.length i with
 |none=>rfl
 |some j=>simp
theorem ix_ix:IxR X (r2 X.K xr fIx):=by
 rintro value slice pins s σ H x y v u Q I rx ry ⟨cm,m,a,b,M,ra,rb,ho⟩ hs
 obtain⟨t,e,ho⟩:=Ql ho
 obtain⟨ta,tb,ea,eb,e⟩:=Zb9 e
 unfold ixT at e
 have hz:=ZM
 split at e
 ·cases(Zd rb eb (λ_ z=>by cases z)).vint
  obtain⟨p,vs,rfl,h1,r⟩:=(Zd ra ea (λ_ z=>by cases z)).itup
  obtain⟨z,e1,e2⟩:=ZaQ r e
  exact ix_tup value slice pins s σ H _ _ v u Q I rx ry ⟨p,vs,_,z,rfl,rfl,h1,e1,ans ho M e2⟩ hs
 ·cases(Zd rb eb (λ_ z=>by cases z)).vint
  obtain⟨p,vs,rfl,h1,r⟩:=Zq M ra ea
  obtain⟨z,e1,e2⟩:=ZaQ r e
  exact Zih value slice pins s σ H _ _ v u Q I rx ry ⟨p,vs,_,z,rfl,rfl,.of h1,e1,ans ho M e2⟩ hs
 ·cases(Zd rb eb (λ_ z=>by cases z)).vint
  obtain⟨p,rfl,h1⟩:=(Zd ra ea (λ_ z=>by cases z)).vscr
  rw[<-Zmq]at e
  obtain⟨z,e1,e2⟩:=ZaQ (Zao (K:=X.K) (cm:=cm) (m:=m) (H:=H) _) e
  exact Zih value slice pins s σ H _ _ v u Q I rx ry ⟨p,_,_,z,rfl,rfl,h1.sq,e1,ans ho M e2⟩ hs
 ·split at e
  ·rename_i cs k hl
   cases(Zd rb eb (λ_ z=>by cases z)).vint
   cases(Zd ra ea (λ_ z=>by cases z)).vstr
   cases q:atT cs k with
   |none=>rw[q]at e;cases e
   |some c =>
    rw[q]at e;cases e
    exact ix_str value slice pins s σ H _ _ v u Q I rx ry ⟨_,k,c,rfl,rfl,by rw[Xn];omega,q,ans ho M (.str [c])⟩ hs
  ·cases e
 ·cases e
end
section
variable{P:Yx}{w:World}{A:Around}{E:Value->Shared->Prop}{s:Shared}
structure Side (z TI TO i j a b:Addr) (k:Nat) (h:Heap):Prop where
 zip:IsZip h z TI TO .none
 its:IsPair h TI (.ref i) (.ref j)
 out:∃p q,IsPair h TO p q
 one:h.IsTupleIter i a k
 two:h.IsTupleIter j b k
end
theorem Inv.turnedL{X:Cx}{pins:List (Addr×Obj)}{σ:L2.St}{H:Hp}{s:Shared}{g:Heap}{t':Nat}{ch:List Addr}(I:Inv X pins σ H s)(k:∀b o,b∉ch->s.heap.get? b=some o->g.get? b=some o)(hf:∀b∈ch,FpOk X pins H b):
  Inv X pins σ H { s with heap:=g,toks:=t' }:=by
 have nit:∀b u,H b=some u->b∉ch:=λb u e z=>by rw[(hf b z).1]at e;cases e
 obtain⟨m0,hm0,_⟩:=id I.loc
 refine I.step (g':=s.gens) (d':=s.drawn) (ch:=ch) (λb hb=>⟨(hf b hb).2.2.2.1,(hf b hb).2.1,(hf b hb).2.2.2.2.1,(hf b hb).2.2.2.2.2⟩) (λb o _ _ hc e _=>k b o hc e) (λb o _ _ hc e _=>⟨o.slots,k b o hc e⟩) (λ_ _ _ _ n=>n)
  (λb o hc e=>⟨o,k b o hc e⟩) (λ_ _ e=>e) (λ_ _ _ e=>e) (λb ps e=>⟨#[],by rw[e];simp⟩) (λm hm=>?_) (λb u e=>?_) I.bare
 ·obtain⟨o,es,ep,ho,r⟩:=hm
  exact⟨o,es,ep,k _ o (λz=>(hf _ z).2.1 rfl) ho,r⟩
 ·refine(I.hok b u e).stay (λc v hc q=>k c v ?_ q) (λ_ q=>q) λ_ _ q=>q
  rcases hc with z|z
  ·rw[z];exact nit b u e
  ·exact nit c _ z
noncomputable def Itz(K:Frag)(a b:Addr):It:=
 ⟨λi H=>∃xs ys x y,SqT K H a xs/\SqT K H b ys/\xs[i]?=some x/\ys[i]?=some y,
  λi H v H'=>∃x y c,(∀xs,SqT K H a xs->xs[i]?=some x)/\(∀ys,SqT K H b ys->ys[i]?=some y)/\H c=none/\v=.ref c/\H'=upd H c (.tup [x,y]),
  λi H=>∃xs,SqT K H a xs/\xs.length<=i⟩
noncomputable def It4(n:Nat)(l:Nat->Nat)(xs:Nat->Array Value)(p:Nat->Nat)(h:Heap):Prop:=∀j:Nat,j<4->h.IsListIter (n+j) (l j) (p j)/\h.IsList (l j) (xs j)/\l j<n
noncomputable abbrev IsZ(h:Heap)(n:Nat)(f0:Value)(f1:Bool):Prop:=
 h.get? (n+6)=some { cls:=.type "zip",dict:=none,data:=.fields #[f0,.bool f1,.bool false,.ref (n+4),.ref (n+5)],slots:=#[] }
noncomputable abbrev IsQ(h:Heap)(t:Nat)(a b c d:Value):Prop:=h.get? t=some { cls:=.type "tuple",data:=.seq #[a,b,c,d] }
section
variable{P:Yx}{w:World}{A:Around}{E:Value->Shared->Prop}{s:Shared}{n:Nat}{l:Nat->Nat}{xs:Nat->Array Value}{p:Nat->Nat}
noncomputable def Free(h:Heap)(n:Nat):Prop:=∃f1,IsZ h n .none f1∨∃a:Nat,IsZ h n (rawInt a) f1
structure Sd (n:Nat) (l:Nat->Nat) (k:Nat) (h:Heap):Prop where
 zip:Free h n
 its:IsQ h (n+4) (.ref (n+0)) (.ref (n+1)) (.ref (n+2)) (.ref (n+3))
 out:∃a b c d,IsQ h (n+5) a b c d
 pos:∀j:Nat,j<4->h.IsListIter (n+j) (l j) k/\l j<n
noncomputable def Kp(n:Nat)(h g:Heap):Prop:=g.objs.size=h.objs.size/\∀c o,(c<n∨n+7<=c)->h.get? c=some o->g.get? c=some o
end
noncomputable abbrev fp4(n:Nat):List Addr:=[n+6,n+4,n+5,n+0,n+1,n+2,n+3]
noncomputable def Itz4(K:Frag)(l:Nat->Nat):It:=
 ⟨λi H=>∃(xs:Nat->List V) (x:Nat->V),∀j:Nat,j<4->SqL K H (l j) (xs j)/\(xs j)[i]?=some (x j),
  λi H v H'=>∃(x:Nat->V) (c:Addr),(∀j:Nat,j<4->∀ys,SqL K H (l j) ys->ys[i]?=some (x j))/\H c=none/\v=.ref c/\H'=upd H c (.tup [x 0,x 1,x 2,x 3]),
  λi H=>∃xs,SqL K H (l 0) xs/\xs.length<=i⟩
noncomputable def pick4{α:Type}(a b c d:α):Nat->α
 |0=>a
 |1=>b
 |2=>c
 |_=>d
theorem all4{Q:Nat->Prop}(h0:Q 0)(h1:Q 1)(h2:Q 2)(h3:Q 3):∀j:Nat,j<4->Q j
 |0,_=>h0
 |1,_=>h1
 |2,_=>h2
 |3,_=>h3
noncomputable def Ite(K:Frag)(l:Addr):It:=
 ⟨λi H=>∃xs x,SqL K H l xs/\xs[i]?=some x,
  λi H v H'=>∃x c,(∀xs,SqL K H l xs->xs[i]?=some x)/\H c=none/\v=.ref c/\H'=upd H c (.tup [.int (i:Int),x]),
  λi H=>∃xs,SqL K H l xs/\xs.length<=i⟩
theorem Zg7{P:Yx}{w:World}{K:Frag}{es:List Expr}{kk}{pos:Pos}{e it l:Addr}(hei:e≠it):
  Turn P w K (.Tuple es kk pos) (Ite K l) [e,it] e (λk h=>(∃old,IsEnum h e it (k:Int) old)/\h.IsListIter it l k) where
 mem:=by simp
 obj:=λk h st c hc=>by
  obtain⟨⟨old,he⟩,⟨o1,e1,c1,d1⟩⟩:=st
  simp only[Ys,YF,or_false]at hc
  rcases hc with rfl|rfl
  ·exact⟨_,he,λv y=>by cases(show Data.fields _=Data.cell v from y)⟩
  ·exact⟨o1,e1,λv y=>by rw[d1]at y;cases y⟩
 keep:=λk h h' st f=>by
  obtain⟨⟨old,he⟩,h1⟩:=st
  exact⟨⟨old,f e (by simp) _ he⟩,h1.at λo q=>f it (by simp) o q⟩
 item:=by
  intro X hP hw hK hc k pins s σ H E I hf st hg
  subst hP hw hK
  obtain⟨xs,x,q1,hx⟩:=hg
  obtain⟨its,rv,p,_⟩:=I.list q1
  obtain⟨u,hu,ru⟩:=rv.get hx
  obtain⟨⟨old,he⟩,hit⟩:=st
  obtain⟨oi,ei,_⟩:=id hit
  refine wpAny_pyNext_enum_item he hit p.isList (x:=u) (by simpa using hu) hei λh' heo hit' ht hz kp=>?_
  refine⟨_,rfl,?_⟩
  have fr:∀{c:Addr}{o:Obj},s.heap.get? c=some o->c≠s.heap.objs.size:=λq=>Yv (Yp q)
  have fresh:H s.heap.objs.size=none:=I.hok.fresh (Yj _)
  have I6:Inv X pins σ (upd H s.heap.objs.size (.tup [.int (k:Int),x])) { s with heap:=s.heap.push { cls:=.type "tuple",data:=.seq #[.int k s.toks,u] },toks:=s.toks }:=
   I.laid (t':=s.toks) (λc o q=>Yc _ q) (Yj _) ⟨by unfold YC;simp,[.int k s.toks,u],.cons ⟨_,rfl⟩ (.cons ru .nil),⟨_,Yl _ rfl,rfl,⟨_,rfl⟩,rfl⟩⟩
  have hf6:∀b∈[e,it],FpOk X pins (upd H s.heap.objs.size (.tup [.int (k:Int),x])) b:=λb hb=>by
   refine⟨?_,(hf b hb).2⟩
   have nb:b≠s.heap.objs.size:=by
    simp only[Ys,YF,or_false]at hb
    rcases hb with rfl|rfl
    ·exact fr he
    ·exact fr ei
   rw[Zm nb]
   exact(hf b hb).1
  have up:∀c o,c∉[e,it]->(s.heap.push { cls:=.type "tuple",data:=.seq #[.int k s.toks,u] }).get? c=some o->h'.get? c=some o:=λc o hc q=>by
   rcases Heap.get?_push_cases q with⟨rfl,rfl⟩|q
   ·exact ht
   ·exact kp c o (λy=>hc (by simp[y])) (λy=>hc (by simp[y])) q
  have I8:Inv X pins σ (upd H s.heap.objs.size (.tup [.int (k:Int),x])) { s with heap:=h',toks:=s.toks+1 }:=
   Inv.turnedL (s:={ s with heap:=s.heap.push { cls:=.type "tuple",data:=.seq #[.int k s.toks,u] },toks:=s.toks }) (t':=s.toks+1) (ch:=[e,it]) I6 up hf6
  refine wpAny_letOwnedTupleGo_enum heo λh2 he2 sb=>?_
  have I9:=Inv.turnedL (s:={ s with heap:=h',toks:=s.toks+1 }) (g:=h2) (t':=s.toks+1) (ch:=[e]) I8 (λc o hc q=>sb.extBut c o (λy=>hc (by simp[y])) q) (λb hb=>hf6 b (by
   have z:b=e:=by simpa using hb
   simp[z]))
  exact⟨.ref s.heap.objs.size,upd H s.heap.objs.size (.tup [.int (k:Int),x]),I9,rfl,⟨x,_,λys q=>by rw[<-I.list_inj q1 q];exact hx,fresh,rfl,rfl⟩,⟨⟨_,he2⟩,hit'.extBut sb.extBut hei.symm⟩,λb hb=>(hf6 b hb).1⟩
 done:=by
  intro X hP hw hK hc k pins s σ H E I hf st hg
  subst hP hw hK
  obtain⟨xs,q1,hx⟩:=hg
  obtain⟨its,rv,p,_⟩:=I.list q1
  have hl:=rv.length
  obtain⟨⟨old,he⟩,hit⟩:=st
  refine wpAny_pyNext_enum_end (I.ok.hd hc) he hit p.isList (by simp;omega) λh' kp=>⟨rfl,?_⟩
  exact Inv.turnedL (t':=s.toks) (ch:=[it]) I (λc o hc q=>kp c o (λy=>hc (by simp[y])) q) (λb hb=>hf b (by
   have z:b=it:=by simpa using hb
   simp[z]))
 self:=λ_ _ _ _ _ st h=>by
  obtain⟨⟨old,he⟩,_⟩:=st
  exact wpAny_pyIter_enum he h
noncomputable def Its(cs:List Nat):It:=⟨λi _=>i<cs.length,λi H x H'=>H'=H/\∃c,cs[i]?=some c/\x=.str ⟨#[c]⟩,λi _=>cs.length<=i⟩
theorem Zfb{P:Yx}{w:World}{K:Frag}{tg:Expr}{cs:List Nat}{it:Addr}{cl:String}{t:Tok}(hcl:["enumerate","zip","dict_itemiterator","dict_reverseitemiterator","odict_iterator","itertools.zip_longest","itertools.pairwise"].contains cl=false)(hself:∀(A:Around) (i:Nat) (s:Shared) (Q:Value->Shared->Prop) (E:Value->Shared->Prop),s.heap.IsStrIter it cl ⟨cs.toArray⟩ t i->Q (.ref it) s->wpAny (model P w) A (pyIter (.ref it)) Q E s)(W:∀A':Around,A'.handled=none->Walks P w A' it [it] [it] cs.length (SignAt ⟨cs.toArray⟩) (λi h=>h.IsStrIter it cl ⟨cs.toArray⟩ t i)):Turn P w K tg (Its cs) [it] it (λi h=>h.IsStrIter it cl ⟨cs.toArray⟩ t i/\i<=cs.length) where
 mem:=by simp
 obj:=λi h st b hb=>by
  have e:b=it:=by simpa using hb
  subst e
  obtain⟨⟨o,e,c,d⟩,_⟩:=st
  exact⟨o,e,λv z=>by rw[d]at z;cases z⟩
 keep:=λi h h' st k=>⟨let⟨⟨o,ho,r⟩,_⟩:=st;⟨o,k it (by simp) o ho,r⟩,st.2⟩
 item:=by
  intro X hP hw hK hc i pins s σ H E I hf st hg
  subst hP hw hK
  obtain⟨f0,f1,f2,f3,f4,f5⟩:=hf it (by simp)
  have hg':i<cs.length:=hg
  refine(W X.A (I.ok.hd hc)).item i s _ _ hg' st.1 λv h' tk hv st' kk=>?_
  obtain⟨c,u,hc',rfl⟩:=hv
  have I1:Inv X pins σ H { s with heap:=h',toks:=tk }:=I.turned (λb o hb e=>kk b o (by simpa using hb) e) f0 f1 f3 f4 f5
  obtain⟨o,e,cc,d⟩:=id st'
  refine⟨_,rfl,Zj1 (s:={ s with heap:=h',toks:=tk }) e cc d hcl ⟨.str ⟨#[c]⟩,H,I1,⟨u,rfl⟩,⟨rfl,c,by simpa using hc',rfl⟩,⟨st',by omega⟩,λb hb=>(hf b hb).1⟩⟩
 done:=by
  intro X hP hw hK hc i pins s σ H E I hf st hg
  subst hP hw hK
  obtain⟨f0,f1,f2,f3,f4,f5⟩:=hf it (by simp)
  have hg':cs.length<=i:=hg
  have e:i=cs.length:=by have:=st.2;omega
  subst e
  exact(W X.A (I.ok.hd hc)).done s _ _ st.1 λh' tk kk=>⟨rfl,I.turned (λb o hb e=>kk b o (by simpa using hb) e) f0 f1 f3 f4 f5⟩
 self:=λA i s Q E st h=>hself A i s Q E st.1 h
section
variable{K:Frag}{cm cm':List Addr}{m m':Mem}{H H':Hp}{xr:XR}{X:Cx}
variable(K) in
inductive Src (cm:List Addr) (m:Mem) (H:Hp):It->List T->Prop where
 |tup {a:Addr}{vs:List V}{ts:List T}:SqT K H a vs->RTs K cm m H ts vs->Src cm m H (Itt K a) ts
 |lst {a:Addr}{vs:List V}{ts:List T}:H a=some (.lst vs)->Zn cm m a->RTs K cm m H ts vs->Src cm m H (Itl K a) ts
 |cel {a:Addr}{i:Nat}{ts:List T}:m[i]?=some (some (true,ts))->cm[i]?=some a->Src cm m H (Itl K a) ts
 |scr {a:Addr}(ns:List Int):Zb2 K H a ns->Src cm m H (Itl K a) (ns.map .int)
 |str (cs:List Nat):Src cm m H (Its cs) (cs.map λc=>.str [c])
 |rng (lo:Int) (n:Nat):Src cm m H (Itr lo n) (rangeT lo n)
 |zip {a b:Addr}{xs ys:List V}{ts us:List T}:SqT K H a xs->SqT K H b ys->RTs K cm m H ts xs->RTs K cm m H us ys->ts.length=us.length->Src cm m H (Itz K a b) (zipL ts us)
 |zip4 {l:Nat->Nat}{vs:Nat->List V}{ts:Nat->List T}:(∀j:Nat,j<4->H (l j)=some (.lst (vs j))/\Zn cm m (l j)/\RTs K cm m H (ts j) (vs j))->(∀j:Nat,j<4->(ts 0).length=(ts j).length)->Src cm m H (Itz4 K l) (ZgZ (ts 0) (ts 1) (ts 2) (ts 3))
 |enm {a:Addr}{vs:List V}{ts:List T}:H a=some (.lst vs)->Zn cm m a->RTs K cm m H ts vs->Src cm m H (Ite K a) (ZeP ts)
theorem Src.ext(x:Ext cm m H cm' m' H')(M:MemR K cm m H)(M':MemR K cm' m' H'){J:It}{ts:List T}(h:Src K cm m H J ts):Src K cm' m' H' J ts:=by
 cases h with
 |tup h1 h2=>exact .tup (x.sqT M h1) (RTs.ext x M M' h2)
 |lst h1 h2 h3=>exact .lst (x.keep _ _ h1 h2).1 (x.keep _ _ h1 h2).2 (RTs.ext x M M' h3)
 |cel h1 h2=>exact .cel (x.lent _ _ h1) (x.pre _ _ h2)
 |scr ns h=>exact .scr ns (x.scr M h)
 |str cs=>exact .str cs
 |rng lo n=>exact .rng lo n
 |zip h1 h2 h3 h4 h5=>exact .zip (x.sqT M h1) (x.sqT M h2) (RTs.ext x M M' h3) (RTs.ext x M M' h4) h5
 |zip4 h1 h2=>exact .zip4 (λj hj=>let⟨a,b,c⟩:=h1 j hj;⟨(x.keep _ _ a b).1,(x.keep _ _ a b).2,RTs.ext x M M' c⟩) h2
 |enm h1 h2 h3=>exact .enm (x.keep _ _ h1 h2).1 (x.keep _ _ h1 h2).2 (RTs.ext x M M' h3)
theorem stay(M:MemR K cm m H)(z:H'=H){t:T}{x:V}(r:RT K cm m H t x):Ext cm m H cm m H'/\MemR K cm m H'/\RT K cm m H' t x:=by
 subst z
 exact⟨.refl,M,r⟩
theorem Zi8{xs ys:List T}{i:Nat}{t:T}(e:(zipL xs ys)[i]?=some t):∃x y,xs[i]?=some x/\ys[i]?=some y/\t=.tup [x,y]:=by
 unfold zipL at e
 rw[List.getElem?_zipWith]at e
 split at e
 ·rename_i x y h1 h2
  cases e
  exact⟨x,y,h1,h2,rfl⟩
 ·cases e
theorem ZgY{a b c d:List T}{i:Nat}{t:T}(e:(ZgZ a b c d)[i]?=some t):∃x y z w,a[i]?=some x/\b[i]?=some y/\c[i]?=some z/\d[i]?=some w/\t=.tup [x,y,z,w]:=by
 unfold ZgZ at e
 rw[YJ]at e
 obtain⟨p,h1,h2⟩:=Option.map_eq_some_iff.mp e
 obtain⟨q1,q2⟩:=GX.mp h1
 obtain⟨q3,q4⟩:=GX.mp q2
 obtain⟨q5,q6⟩:=GX.mp q4
 exact⟨_,_,_,_,q1,q3,q5,q6,h2.symm⟩
theorem ZiB{xs:List T}{i:Nat}{t:T}(e:(ZeP xs)[i]?=some t):∃x,xs[i]?=some x/\t=.tup [.int (i:Int),x]:=by
 unfold ZeP at e
 rw[List.getElem?_zipWith]at e
 split at e
 ·rename_i k y h1 h2
  cases e
  have hi:=(Ye.mp h1).1
  rw[WM]at hi
  rw[G6 hi]at h1
  cases h1
  exact⟨y,h2,rfl⟩
 ·cases e
theorem Zea(xs:List T):(ZeP xs).length=xs.length:=by
 unfold ZeP
 rw[List.length_zipWith,WM,Nat.min_self]
theorem Src.go(M:MemR K cm m H){J:It}{ts:List T}(h:Src K cm m H J ts){i:Nat}{t:T}(e:ts[i]?=some t):J.go i H/\∀x H',J.yld i H x H'->Ext cm m H cm m H'/\MemR K cm m H'/\RT K cm m H' t x:=by
 cases h with
 |tup h1 h2 =>
  obtain⟨v,e1,e2⟩:=Zx h2 e
  refine⟨⟨_,v,h1,e1⟩,λx H' ⟨z,q⟩=>stay M z ?_⟩
  have:=q _ h1
  rw[e1]at this;cases this
  exact e2
 |lst h1 h2 h3 =>
  obtain⟨v,e1,e2⟩:=Zx h3 e
  refine⟨⟨_,v,.of h1,e1⟩,λx H' ⟨z,q⟩=>stay M z ?_⟩
  have:=q _ (.of h1)
  rw[e1]at this;cases this
  exact e2
 |cel h1 h2 =>
  obtain⟨b,vs,q1,q2,q3,q4⟩:=M.at' _ _ h1
  rw[h2]at q1;cases q1
  obtain⟨v,e1,e2⟩:=Zx q4 e
  refine⟨⟨_,v,.of q2,e1⟩,λx H' ⟨z,q⟩=>stay M z ?_⟩
  have:=q _ (.of q2)
  rw[e1]at this;cases this
  exact e2
 |scr ns h =>
  obtain⟨v,e1,e2⟩:=Zx (Zao (K:=K) (cm:=cm) (m:=m) (H:=H) ns) e
  refine⟨⟨_,v,h.sq,e1⟩,λx H' ⟨z,q⟩=>stay M z ?_⟩
  have:=q _ h.sq
  rw[e1]at this;cases this
  exact e2
 |str cs =>
  rw[YJ]at e
  cases q:cs[i]? with
  |none=>rw[q]at e;cases e
  |some c =>
   rw[q]at e;cases e
   refine⟨(Ye.mp q).1,λx H' ⟨z,c',q',e'⟩=>stay M z ?_⟩
   rw[q]at q';cases q'
   subst e'
   exact .str [c]
 |rng lo n =>
  unfold rangeT at e
  rw[YJ]at e
  cases q:(YM n)[i]? with
  |none=>rw[q]at e;cases e
  |some k =>
   rw[q]at e;cases e
   have hi:=(Ye.mp q).1
   rw[WM]at hi
   rw[G6 hi]at q
   cases q
   exact⟨hi,λx H' ⟨z,e'⟩=>stay M z (by subst e';exact .int _)⟩
 |zip h1 h2 h3 h4 h5 =>
  obtain⟨x,y,hx,hy,rfl⟩:=Zi8 e
  obtain⟨u,e1,r1⟩:=Zx h3 hx
  obtain⟨v,e2,r2⟩:=Zx h4 hy
  refine⟨⟨_,_,u,v,h1,h2,e1,e2⟩,?_⟩
  rintro x' H' ⟨u',v',c,q1,q2,hc,rfl,rfl⟩
  have z1:=q1 _ h1
  rw[e1]at z1;cases z1
  have z2:=q2 _ h2
  rw[e2]at z2;cases z2
  exact⟨.new hc,M.new hc,RT.newTup (.cons r1 (.cons r2 .nil)) hc⟩
 |@zip4 l vs ts h1 h2 =>
  obtain⟨x0,x1,x2,x3,e0,e1,e2,e3,rfl⟩:=ZgY e
  obtain⟨q0,_,p0⟩:=h1 0 (by decide)
  obtain⟨q1,_,p1⟩:=h1 1 (by decide)
  obtain⟨q2,_,p2⟩:=h1 2 (by decide)
  obtain⟨q3,_,p3⟩:=h1 3 (by decide)
  obtain⟨u0,f0,r0⟩:=Zx p0 e0
  obtain⟨u1,f1,r1⟩:=Zx p1 e1
  obtain⟨u2,f2,r2⟩:=Zx p2 e2
  obtain⟨u3,f3,r3⟩:=Zx p3 e3
  refine⟨⟨vs,pick4 u0 u1 u2 u3,all4 ⟨.of q0,f0⟩ ⟨.of q1,f1⟩ ⟨.of q2,f2⟩ ⟨.of q3,f3⟩⟩,?_⟩
  rintro x' H' ⟨x,c,q,hc,rfl,rfl⟩
  have z0:=q 0 (by decide) _ (.of q0)
  rw[f0]at z0
  have z1:=q 1 (by decide) _ (.of q1)
  rw[f1]at z1
  have z2:=q 2 (by decide) _ (.of q2)
  rw[f2]at z2
  have z3:=q 3 (by decide) _ (.of q3)
  rw[f3]at z3
  rw[<-YQ z0,<-YQ z1,<-YQ z2,<-YQ z3]
  exact⟨.new hc,M.new hc,RT.newTup (.cons r0 (.cons r1 (.cons r2 (.cons r3 .nil)))) hc⟩
 |enm h1 h2 h3 =>
  obtain⟨x,hx,rfl⟩:=ZiB e
  obtain⟨u,e1,r1⟩:=Zx h3 hx
  refine⟨⟨_,u,.of h1,e1⟩,?_⟩
  rintro x' H' ⟨u',c,q1,hc,rfl,rfl⟩
  have z1:=q1 _ (.of h1)
  rw[e1]at z1;cases z1
  exact⟨.new hc,M.new hc,RT.newTup (.cons (.int _) (.cons r1 .nil)) hc⟩
theorem Src.stop(M:MemR K cm m H){J:It}{ts:List T}(h:Src K cm m H J ts){i:Nat}(e:ts[i]?=none):J.stop i H:=by
 have l:=GZ.mp e
 cases h with
 |tup h1 h2=>exact⟨_,h1,by rw[<-h2.length];exact l⟩
 |lst h1 h2 h3=>exact⟨_,.of h1,by rw[<-h3.length];exact l⟩
 |cel h1 h2 =>
  obtain⟨b,vs,q1,q2,q3,q4⟩:=M.at' _ _ h1
  rw[h2]at q1;cases q1
  exact⟨_,.of q2,by rw[<-q4.length];exact l⟩
 |scr ns h=>exact⟨_,h.sq,by rw[Yi]at l ⊢;exact l⟩
 |str cs=>rw[Yi]at l;exact l
 |rng lo n =>
  unfold rangeT at l
  rw[Yi,WM]at l
  exact l
 |zip h1 h2 h3 h4 h5 =>
  refine⟨_,h1,?_⟩
  unfold zipL at l
  rw[List.length_zipWith]at l
  rw[<-h3.length]
  omega
 |@zip4 l vs ts h1 h2 =>
  obtain⟨q0,_,p0⟩:=h1 0 (by decide)
  refine⟨_,.of q0,?_⟩
  have l1:=h2 1 (by decide)
  have l2:=h2 2 (by decide)
  have l3:=h2 3 (by decide)
  unfold ZgZ at l
  rw[Yi,V9,V9,V9]at l
  rw[<-p0.length]
  omega
 |enm h1 h2 h3 =>
  refine⟨_,.of h1,?_⟩
  rw[Zea]at l
  rw[<-h3.length]
  exact l
variable(K) in
noncomputable def tI(call:Nat->List W->Mem->Res W)(gv:List T)(xr:XR)(it:E):TI:=λσ H R=>∃env cm m,EnvR K cm m H env σ/\MemR K cm m H /\
 OkR K (ev call gv it env m) xr cm m H λx cm1 m1 H1=>∃ts m2,Z4 x m1=.ok ts m2/\∀J,Src K cm1 m2 H1 J ts->R J H1
theorem PI.mono{tg iter:Expr}{t t':TI}(h:PI X tg iter t)(f:∀σ H R,t' σ H R->t σ H R):PI X tg iter t':=λpins s σ H R I q=>h pins s σ H R I (f σ H R q)
theorem pi_of{tg iter:Expr}{call:Nat->List W->Mem->Res W}{gv:List T}{it:E}(h:PE X iter (tE X.K call gv xr it)):PI X tg iter (tI X.K call gv xr it):=by
 rintro pins s σ H R I ⟨env,cm,m,hE,hM,ho⟩
 refine thn (h pins s σ H (λv H1=>∃cm1 m1 w,MemR X.K cm1 m1 H1/\RW X.K cm1 m1 H1 w v/\∃ts m2,Z4 w m1=.ok ts m2/\∀J,Src X.K cm1 m2 H1 J ts->R J H1) I
  ⟨env,cm,m,hE,hM,ho.mono λw cm1 m1 H1 x1 M1 o1 v rv=>⟨cm1,m1,w,M1,rv,o1⟩⟩) λv s1 ⟨x,H1,I1,r1,cm1,m1,w,M1,rw1,ts0,m2,eb,o1⟩=>?_
 -- an iterator over a list that stands at a
 have onList:∀(a:Addr) (vs:List V),x=.ref a->SqL X.K H1 a vs->R (Itl X.K a) H1->wpAny (model X.prog X.w) X.A (pyIter v) (PIE X pins σ tg R) X.xe s1:=λa vs e hq q=>by
  subst e
  cases r1
  obtain⟨its,rv,p,hz⟩:=I1.list hq
  refine Yax p.isList ?_
  refine⟨s1.heap.objs.size,[s1.heap.objs.size],_,_,H1,rfl,I1.kept (t':=s1.toks) λb o e=>Yc _ e,Zg6 a _,⟨_,Yl _ rfl,rfl,rfl⟩,λb hb=>?_,q⟩
  have e:b=s1.heap.objs.size:=by simpa using hb
  subst e
  exact I1.fpOk (Yj _) (I1.hok.fresh (Yj _))
 cases w with
 |f a=>cases eb
 |x _ _ _=>cases eb
 |o _ _ _=>cases eb
 |u=>cases eb
 |c i =>
  unfold Z4 at eb
  dsimp only at eb
  split at eb
  ·rename_i fl ts e
   cases eb
   obtain⟨a,vs,q1,q2,_⟩:=M1.at' i _ e
   obtain⟨b,h1,h2⟩:=rw1
   rw[q1]at h1;cases h1
   exact onList a vs h2 (.of q2) (o1 _ (.cel (YB (Ye.mp e).1) q1))
  ·cases eb
 |t t =>
  unfold Z4 at eb
  dsimp only at eb
  cases t with
  |tup ts =>
   cases eb
   obtain⟨a,vs,e,h1,h2⟩:=RT.itup rw1
   subst e
   cases r1
   obtain⟨its,rv,p,hz⟩:=I1.tuple h1
   refine Yak (show s1.heap.IsTuple a its.toArray from p) ?_
   refine⟨s1.heap.objs.size,[s1.heap.objs.size],_,_,H1,rfl,I1.kept (t':=s1.toks) λb o e=>Yc _ e,ZfT a _,⟨_,Yl _ rfl,rfl,rfl⟩,λb hb=>?_,o1 _ (.tup h1 h2)⟩
   have e:b=s1.heap.objs.size:=by simpa using hb
   subst e
   exact I1.fpOk (Yj _) (I1.hok.fresh (Yj _))
  |lst ts =>
   cases eb
   obtain⟨a,vs,e,h1,h2,h3⟩:=RT.ilst rw1
   exact onList a vs e (.of h1) (o1 _ (.lst h1 h2 h3))
  |scr ns =>
   cases eb
   obtain⟨a,e,h1⟩:=RT.vscr rw1
   exact onList a _ e h1.sq (o1 _ (.scr ns h1))
  |str cs =>
   unfold Zii at eb
   dsimp only at eb
   split at eb
   ·rename_i ts e
    split at e<;>cases e
    cases eb
    cases RT.vstr rw1
    obtain⟨t,rfl⟩:=r1
    have q:=o1 _ (.str cs)
    have I2:∀o:Obj,Inv X pins σ H1 { s1 with heap:=s1.heap.push o }:=λo=>I1.kept (t':=s1.toks) λb o e=>Yc _ e
    have fpk:∀b∈[s1.heap.objs.size],FpOk X pins H1 b:=λb hb=>by
     have e:b=s1.heap.objs.size:=by simpa using hb
     subst e
     exact I1.fpOk (Yj _) (I1.hok.fresh (Yj _))
    cases ha:(⟨cs.toArray⟩:Str).cps.all (·<128)
    ·refine wpAny_pyIter_wide ha ?_
     exact⟨s1.heap.objs.size,[s1.heap.objs.size],_,_,H1,rfl,I2 _,Zfb (cl:="str_iterator") (t:=t) (by decide) (λA i s Q E st h=>wpAny_pyIter_striter_wide st h) (λA' hA=>by simpa using Walks.strWide hA _ ⟨cs.toArray⟩ t),⟨⟨_,Yl _ rfl,rfl,rfl⟩,Wd _⟩,fpk,q⟩
    ·refine wpAny_pyIter_ascii ha ?_
     exact⟨s1.heap.objs.size,[s1.heap.objs.size],_,_,H1,rfl,I2 _,Zfb (cl:="str_ascii_iterator") (t:=t) (by decide) (λA i s Q E st h=>wpAny_pyIter_striter_ascii st h) (λA' hA=>by simpa using Walks.strAscii hA _ ⟨cs.toArray⟩ t),⟨⟨_,Yl _ rfl,rfl,rfl⟩,Wd _⟩,fpk,q⟩
   ·cases eb
  |_=>cases eb
end
theorem Zdd{elt:Expr}{gens:List WN}{scope:Scope}{pos:Pos}{d:Nat}{target iter:Expr}{ifs:List Expr}{it acc:Value}{env:Wb}(hg:gens[d]?=some ⟨target,iter,ifs,0⟩)(hn:gens[d+1]?=none):
  Vs (.ListComp elt gens scope pos) d it acc env=(do
   Gb iter.pos
   match <-pyNext it with
   |none=>pure (.done .next)
   |some v =>
    UG target it v
    assign target env v
    let mut ok:=true
    for c in ifs do
     if ok then ok <-isTrue c env (eval c env)
    if ok then
     (do let _ <-call (.builtin "list.append") [acc,<-eval elt env])
    again (.compLoop (.ListComp elt gens scope pos) d it acc env)):=by
 unfold Vs
 simp only[hg,hn]
 rfl
theorem Zdc{elt:Expr}{gens:List WN}{scope:Scope}{pos:Pos}{d:Nat}{target iter:Expr}{ifs:List Expr}{it acc:Value}{env:Wb}{target' iter':Expr}{ifs':List Expr}(hg:gens[d]?=some ⟨target,iter,ifs,0⟩)(hn:gens[d+1]?=some ⟨target',iter',ifs',0⟩):
  Vs (.ListComp elt gens scope pos) d it acc env=(do
   Gb iter.pos
   match <-pyNext it with
   |none=>pure (.done .next)
   |some v =>
    UG target it v
    assign target env v
    let mut ok:=true
    for c in ifs do
     if ok then ok <-isTrue c env (eval c env)
    if ok then
     let x <-eval iter' env
     Gb iter'.pos
     let x <-Wu iter' env x
     let _ <-runOwn (.compStart (.ListComp elt gens scope pos) (d+1) (<-Vh [x] (pyIter x)) acc env) env
    again (.compLoop (.ListComp elt gens scope pos) d it acc env)):=by
 unfold Vs
 simp only[hg,hn]
 rfl
section
variable{K:Frag}{cm cm':List Addr}{m m':Mem}{H H':Hp}{xr:XR}{Y:Cx}
noncomputable def AccAt(h:Heap)(D:Addr)(vs:List V):Prop:=vs.length<=YC/\∃(its:List Value) (n:Nat),Vals vs its/\h.get? D=some { cls:=.type "list",data:=.seq its.toArray n }
structure DOk (Y:Cx) (pins:List (Addr×Obj)) (H:Hp) (D:Addr):Prop where
 free:H D=none
 loc:D≠Y.env.locals
 nofs:D∉Y.fs
 own:D∈Y.ex∨Y.s₀.heap.objs.size<=D
 cell:∀x c,Y.env.cells.lookup x=some c->c≠D
 pin:∀p∈Y.pn++pins,p.1≠D
theorem pe_run{e:Expr}{call:Nat->List W->Mem->Res W}{gv:List T}{a:E}(h:PE Y e (tE Y.K call gv xr a)){pins:List (Addr×Obj)}{s:Shared}{σ:L2.St}{env:Env}{w:W}(I:Inv Y pins σ H s)(hE:EnvR Y.K cm m H env σ)(M:MemR Y.K cm m H)(ok:ev call gv a env m=.ok w m'):wpAny (model Y.prog Y.w) Y.A (eval e Y.env) (EP Y pins σ λv H'=>∃cm',Ext cm m H cm' m' H'/\MemR Y.K cm' m' H'/\RW Y.K cm' m' H' w v) Y.xe s:=by
 refine h pins s σ H _ I ⟨env,cm,m,hE,M,?_⟩
 rw[ok]
 exact λcm' H' x M' v r=>⟨cm',x,M',r⟩
theorem pt_run{e:Expr}{call:Nat->List W->Mem->Res W}{gv:List T}{a:E}(h:PT Y e (tT Y.K call gv xr a)){pins:List (Addr×Obj)}{s:Shared}{σ:L2.St}{env:Env}{k:Bool}(I:Inv Y pins σ H s)(hE:EnvR Y.K cm m H env σ)(M:MemR Y.K cm m H)(ok:(ev call gv a env m).bind QZ=.ok k m'):wpAny (model Y.prog Y.w) Y.A (isTrue e Y.env (eval e Y.env)) (TP Y pins σ λb H'=>b=k/\∃cm',Ext cm m H cm' m' H'/\MemR Y.K cm' m' H') Y.xe s:=by
 refine h pins s σ H _ I ⟨env,cm,m,hE,M,?_⟩
 rw[ok]
 exact λcm' H' x M'=>⟨rfl,cm',x,M'⟩
noncomputable def PTs(Y:Cx)(call:Nat->List W->Mem->Res W)(gv:List T)(xr:XR):Es->List Expr->Prop
 |.nil,[]=>True
 |.cons a es,e::r=>PT Y e (tT Y.K call gv xr a)/\PTs Y call gv xr es r
 |_,_=>False
theorem Zbk{env:Wb}{M:Model}{A:Around}{E:Value->Shared->Prop}{s:Shared}{Q:Bool->Shared->Prop}(h:Q false s):∀ifs:List Expr,
  wpAny M A (forIn ifs false λc r=>if r=true then do let ok <-isTrue c env (eval c env);pure (Ua ok)else pure (Ua r)) Q E s
 |[]=>Yd h
 |_::r=>by
  simp only[Yaa,Yz,if_false]
  exact Yb (Yd (Zbk h r))
theorem Zdx{call:Nat->List W->Mem->Res W}{gv:List T}{pins:List (Addr×Obj)}{σ:L2.St}{env:Env}:∀{cs:Es}{ifs:List Expr}{cm:List Addr}{m m':Mem}{H:Hp}{s:Shared}{k:Bool},PTs Y call gv xr cs ifs->Inv Y pins σ H s->EnvR Y.K cm m H env σ->MemR Y.K cm m H ->
  tests call gv cs env m=.ok k m' ->
  wpAny (model Y.prog Y.w) Y.A (forIn ifs true λc r=>if r=true then do let ok <-isTrue c Y.env (eval c Y.env);pure (Ua ok)else pure (Ua r))
   (λb s'=>b=k/\∃H' cm',Inv Y pins σ H' s'/\Ext cm m H cm' m' H'/\MemR Y.K cm' m' H') Y.xe s
 |.nil,[],cm,m,m',H,s,k,_,I,hE,M,ok=>by
  unfold tests at ok
  cases ok
  exact Yd ⟨rfl,H,cm,I,.refl,M⟩
 |.cons a es,e::r,cm,m,m',H,s,k,hp,I,hE,M,ok=>by
  unfold tests at ok
  obtain⟨h1,h2⟩:=hp
  simp only[Yaa,if_true]
  cases e1:ev call gv a env m with
  |ok w m1 =>
   rw[e1]at ok
   change (QZ w m1).bind _=_ at ok
   cases e2:QZ w m1 with
   |ok b m2 =>
    rw[e2]at ok
    change (if b=true then _ else _)=_ at ok
    refine Yb (Yb (thn (pt_run h1 I hE M (m':=m2) (k:=b) (by rw[e1];exact e2)) λc s1 ⟨H1,I1,hb,cm1,x1,M1⟩=>Yd ?_))
    subst hb
    cases c with
    |true =>
     rw[if_pos rfl]at ok
     exact thn (Zdx h2 I1 (hE.ext x1 M M1) M1 ok) λb' s2 ⟨hb',H2,cm2,I2,x2,M2⟩=>⟨hb',H2,cm2,I2,x1.trans x2,M2⟩
    |false =>
     rw[if_neg Yt]at ok
     cases ok
     exact Zbk (Q:=λb s'=>b=false/\∃H' cm',Inv Y pins σ H' s'/\Ext cm m H cm' m' H'/\MemR Y.K cm' m' H') ⟨rfl,H1,cm1,I1,x1,M1⟩ r
   |exc _ _=>rw[e2]at ok;cases ok
   |stuck=>rw[e2]at ok;cases ok
  |exc _ _=>rw[e1]at ok;cases ok
  |stuck=>rw[e1]at ok;cases ok
 |.nil,_::_,_,_,_,_,_,_,hp,_,_,_,_=>hp.elim
 |.cons _ _,[],_,_,_,_,_,_,hp,_,_,_,_=>hp.elim
noncomputable def tgS:Tg->List Nat
 |.nm i=>[i]
 |.tp is=>is
noncomputable def Agree(S:List Nat)(σ σ':L2.St):Prop:=∀i,i∉S->σ'[i]?=σ[i]?
noncomputable def setAll:List Nat->List V->L2.St->L2.St
 |i::is,v::vs,σ=>setAll is vs (σ.set i (some v))
 |_,_,σ=>σ
variable(K) in
noncomputable def gT:Tg->TG
 |.nm i=>Zl2 i
 |.tp is=>λv σ H Q=>∃a xs,v=.ref a/\SqT K H a xs/\xs.length=is.length/\Q (setAll is xs σ) H
theorem ZaR:∀(is:List Nat) (vs:List V) (σ:L2.St),Agree is σ (setAll is vs σ)
 |[],_,_=>λ_ _=>by unfold setAll;rfl
 |_::_,[],_=>λ_ _=>by unfold setAll;rfl
 |i::is,v::vs,σ=>λj hj=>by
  unfold setAll
  rw[Ys]at hj
  rw[ZaR is vs _ j λz=>hj (.inr z),Yo λz=>hj (.inl z.symm)]
theorem EnvR.set{env:Env}{σ:L2.St}(h:EnvR K cm m H env σ){w:W}{v:V}(r:RW K cm m H w v)(i:Nat)(hi:i<σ.length):EnvR K cm m H (env.set i (some w)) (σ.set i (some v)):=λj u e=>by
 by_cases hj:j=i
 ·subst hj
  have hl:j<env.length:=by
   have:=(Ye.mp e).1
   rwa [Wt]at this
  rw[YB hl]at e
  cases e
  exact⟨v,YB hi,r⟩
 ·rw[Yo (WR hj)]at e
  obtain⟨v',h1,h2⟩:=h j u e
  exact⟨v',by rw[Yo (WR hj)];exact h1,h2⟩
theorem EnvR.setAll:∀{is:List Nat}{ts:List T}{vs:List V}{env:Env}{σ:L2.St},EnvR K cm m H env σ->RTs K cm m H ts vs->(∀i∈is,i<σ.length) ->
  EnvR K cm m H ((is.zip ts).foldl (λenv p=>env.set p.1 (some (.t p.2))) env) (Mi.setAll is vs σ)
 |[],_,_,_,_,h,_,_=>by unfold Mi.setAll;exact h
 |_::_,[],_,_,_,h,.nil,_=>by unfold Mi.setAll;exact h
 |i::is,t::ts,v::vs,env,σ,h,.cons r rs,hi=>by
  unfold Mi.setAll
  rw[Vt,V4]
  refine EnvR.setAll (h.set (w:=.t t) r i (hi i YD)) rs λj hj=>?_
  rw[Wt]
  exact hi j (Yw _ hj)
theorem gT_ok{tg:Tg}{t:T}{v:V}{env env':Env}{σ:L2.St}(hE:EnvR K cm m H env σ)(hi:∀i∈tgS tg,i<σ.length)(r:RT K cm m H t v)(e:JL tg t env=some env'){Q:L2.St->Hp->Prop}(q:∀σ',EnvR K cm m H env' σ'->Agree (tgS tg) σ σ'->Q σ' H):gT K tg v σ H Q:=by
 cases tg with
 |nm i =>
  cases e
  refine q _ (hE.set (w:=.t t) r i (hi i (by simp[tgS]))) λj hj=>?_
  rw[Yo]
  intro z
  exact hj (by simp[tgS,z])
 |tp is =>
  unfold JL at e
  dsimp only at e
  split at e
  ·split at e<;>cases e
   rename_i ts hl
   obtain⟨a,vs,rfl,h1,h2⟩:=RT.itup r
   exact⟨a,vs,rfl,h1,by rw[<-h2.length];exact hl,q _ (EnvR.setAll hE h2 hi) (ZaR is vs σ)⟩
  ·cases e
end
noncomputable def innS:E->List Nat
 |.more _ tg _ inner=>tgS tg++innS inner
 |_=>[]
section
variable{xr:XR}{Y:Cx}{call:Nat->List W->Mem->Res W}{gv:List T}
variable(Y call gv xr) in
noncomputable def Ins(elt:Expr)(gens:List WN):Nat->E->Prop
 |d,.emit a=>gens[d+1]?=none/\PE Y elt (tE Y.K call gv xr a)
 |d,.more it tg cs inner=>(∃target iter ifs,gens[d+1]?=some ⟨target,iter,ifs,0⟩/\PI Y target iter (tI Y.K call gv xr it)/\(∀x,Wu iter Y.env x=pure x)/\PG Y target (gT Y.K tg)/\PTs Y call gv xr cs ifs) /\
  (∀i∈tgS tg,i∉innS inner)/\(∀i∈tgS tg++innS inner,i<Y.N.length)/\Ins elt gens (d+1) inner
 |_,_=>False
theorem Zgr{α:Type}{M:Model}{A:Around}{t:Sem α}{Q:α->Shared->Prop}{E:Value->Shared->Prop}{s:Shared}(hxe:∀e s,¬Y.xe e s)(h:wpAny M A t Q Y.xe s):wpAny M A t Q E s:=Uq h (λ_ _ q=>q) λ_ _ z=>(hxe _ _ z).elim
noncomputable abbrev turnF(call:Nat->List W->Mem->Res W)(gv:List T)(cs:Es)(inner:E):Env->Mem->Res (List T):=λenv m=>(tests call gv cs env m).bind λk m=>if k then(ev call gv inner env m).bind Zdp else .ok [] m
noncomputable def Zi7(Y:Cx)(Acc:Heap->List V->Prop)(D:Addr)(S:List Nat)(pins:List (Addr×Obj))(σ:L2.St)(cm:List Addr)(m:Mem)(H:Hp)(vs:List V)(out:List T)(m':Mem)(s':Shared):Prop:=
 ∃σ' H' cm' vs',Inv Y pins σ' H' s'/\Ext cm m H cm' m' H'/\MemR Y.K cm' m' H'/\RTs Y.K cm' m' H' out vs'/\Acc s'.heap (vs++vs')/\Agree S σ σ'/\H' D=none
noncomputable abbrev CEnd(Y:Cx)(D:Addr):=Zi7 Y (λh vs=>AccAt h D vs) D
theorem AccAt.keep{h h':Heap}{D:Addr}{vs:List V}(a:AccAt h D vs)(k:∀o,h.get? D=some o->h'.get? D=some o):AccAt h' D vs:=by
 obtain⟨z,its,n,r,e⟩:=a
 exact⟨z,its,n,r,k _ e⟩
theorem EnvR.agree{K:Frag}{cm:List Addr}{m:Mem}{H:Hp}{env:Env}{σ σ':L2.St}{S:List Nat}(h:EnvR K cm m H env σ)(a:Agree S σ σ')(n:∀i∈S,∀w,env[i]?≠some (some w)):EnvR K cm m H env σ':=λi w e=>by
 obtain⟨v,h1,h2⟩:=h i w e
 refine⟨v,?_,h2⟩
 rw[a i λz=>n i z w e]
 exact h1
theorem Agree.trans{S:List Nat}{a b c:L2.St}(h:Agree S a b)(g:Agree S b c):Agree S a c:=λi hi=>(g i hi).trans (h i hi)
theorem Agree.mono{S S':List Nat}{a b:L2.St}(h:Agree S a b)(g:∀i∈S,i∈S'):Agree S' a b:=λi hi=>h i λz=>hi (g i z)
theorem Agree.refl{S:List Nat}{a:L2.St}:Agree S a a:=λ_ _=>rfl
theorem Ze1{tg:Tg}{t:T}{env env':Env}(e:JL tg t env=some env'){i:Nat}(hi:i∉tgS tg):env'[i]?=env[i]?:=by
 cases tg with
 |nm j =>
  cases e
  rw[Yo]
  intro z;exact hi (by simp[tgS,z])
 |tp is =>
  unfold JL at e
  dsimp only at e
  split at e
  ·split at e<;>cases e
   rename_i ts hl
   have:∀(is:List Nat) (ts:List T) (env:Env),i∉is->((is.zip ts).foldl (λenv p=>env.set p.1 (some (.t p.2))) env)[i]?=env[i]?:=by
    intro is
    induction is with
    |nil=>intro ts env _;rfl
    |cons j is ih =>
     intro ts env h
     cases ts with
     |nil=>rfl
     |cons t ts =>
      rw[Ys]at h
      rw[Vt,V4,ih ts _ λz=>h (.inr z),Yo λz=>h (.inl z.symm)]
   exact this is ts env hi
  ·cases e
theorem Zk{α β:Type}{r:Res α}{f:α->Mem->Res β}{y:β}{m':Mem}(h:r.bind f=.ok y m'):∃x m,r=.ok x m/\f x m=.ok y m':=by
 cases r with
 |ok x m=>exact⟨x,m,rfl,h⟩
 |exc _ _=>cases h
 |stuck=>cases h
theorem Zeq{w:W}{m m':Mem}{ts:List T}(h:Zdp w m=.ok ts m'):w=.t (.lst ts)/\m'=m:=by
 unfold Zdp at h
 split at h<;>cases h
 exact⟨rfl,rfl⟩
theorem Ziu{K:Frag}{cm:List Addr}{m m':Mem}{H:Hp}{w:W}{v:V}{t:T}(M:MemR K cm m H)(r:RW K cm m H w v)(e:frz w m=.ok t m'):Ext cm m H cm m' H/\MemR K cm m' H/\RT K cm m' H t v:=by
 cases w with
 |t x=>cases e;exact⟨.refl,M,r⟩
 |f a=>cases e
 |x _ _ _=>cases e
 |o _ _ _=>cases e
 |u=>cases e
 |c i =>
  unfold frz at e
  dsimp only at e
  split at e
  ·rename_i ts h
   cases e
   obtain⟨a,vs,q1,q2,q3,q4,q5,q6,q7⟩:=ZiT M h
   obtain⟨b,h1,h2⟩:=r
   rw[q1]at h1;cases h1
   subst h2
   exact⟨q4,q5,q7⟩
  ·cases e
theorem Ziv{pins:List (Addr×Obj)}{H:Hp}{b:Addr}{fp:List Addr}{h:Heap}(f:FpOk Y pins H b)(n:b∉fp):FpOk Y (pins++J8 fp h) H b:=
 ⟨f.1,f.2.1,f.2.2.1,f.2.2.2.1,f.2.2.2.2.1,λp hp z=>by
  rw[<-YW]at hp
  rcases Uz.mp hp with hp|hp
  ·exact f.2.2.2.2.2 p hp z
  ·exact n (by rw[<-z];exact(Zd0 hp).1)⟩
structure AccK (D:Addr) (Acc:Heap->List V->Prop):Prop where
 obj:∀{h vs},Acc h vs->∃o,h.get? D=some o/\∀v,o.data≠.cell v
 keep:∀{h h' vs},Acc h vs->(∀o,h.get? D=some o->h'.get? D=some o)->Acc h' vs
theorem Zbj(D:Addr):AccK D (λh vs=>AccAt h D vs):=⟨λ⟨_,_,_,_,e⟩=>⟨_,e,λv z=>by cases z⟩,λa k=>a.keep k⟩
theorem ZfO{pins:List (Addr×Obj)}{s:Shared}{σ:L2.St}{H:Hp}{D:Addr}{Acc:Heap->List V->Prop}(hA:AccK D Acc){vs:List V}(I:Inv Y pins σ H s)(f:FpOk Y pins H D)(a:Acc s.heap vs):Inv Y (pins++J8 [D] s.heap) σ H s:=by
 refine I.pinned (λb hb=>?_) λb hb=>?_
 ·have e:b=D:=by simpa using hb
  rw[e];exact f
 ·have e:b=D:=by simpa using hb
  obtain⟨o,q,n⟩:=hA.obj a
  rw[e]
  exact⟨_,q,n⟩
theorem Zdq{pins:List (Addr×Obj)}{h:Heap}{s:Shared}{σ:L2.St}{H:Hp}{D:Addr}{Acc:Heap->List V->Prop}(hA:AccK D Acc){vs:List V}(a:Acc h vs)(I:Inv Y pins σ H s)(hp:∀o,h.get? D=some o->(D,o)∈pins):Acc s.heap vs/\H D=none:=by
 obtain⟨o,q,_⟩:=hA.obj a
 obtain⟨h1,h2,_⟩:=I.pin _ (Ym _ (hp _ q))
 refine⟨hA.keep a λo' e=>?_,h2⟩
 rw[q]at e;cases e
 exact h1
theorem Zi3{pins:List (Addr×Obj)}{s:Shared}{σ:L2.St}{H:Hp}{D:Addr}{vs:List V}(I:Inv Y pins σ H s)(f:FpOk Y pins H D)(a:AccAt s.heap D vs):Inv Y (pins++J8 [D] s.heap) σ H s:=ZfO (Zbj D) I f a
theorem ZkP{pins:List (Addr×Obj)}{h:Heap}{s:Shared}{σ:L2.St}{H:Hp}{D:Addr}{vs:List V}(a:AccAt h D vs)(I:Inv Y pins σ H s)(hp:∀o,h.get? D=some o->(D,o)∈pins):AccAt s.heap D vs/\H D=none:=Zdq (Zbj D) a I hp
noncomputable abbrev Zfc(target iter:Expr)(ifs:List Expr)(env:Wb)(it:Value)(c:Code)(br:Sem YbN):Sem YbN:=
 Gb iter.pos >>= λ_=>pyNext it >>= λr=>match r with
  |none=>pure (.done .next)
  |some v=>UG target it v >>= λ_=>assign target env v >>= λ_ =>
   (forIn ifs true λc r=>if r=true then do let ok <-isTrue c env (eval c env);pure (Ua ok)else pure (Ua r)) >>= λok=>if ok=true then br else again c
theorem Zc0(hc:Y.calm=true)(hxe:∀e s,¬Y.xe e s){ce:Expr}{D:Addr}{Acc:Heap->List V->Prop}(hA:AccK D Acc){L:Nat}{Pt:T->Prop}{inner:E}{d:Nat}{target iter:Expr}{ifs:List Expr}{tg:Tg}{cs:Es}{it:Addr}{br:Sem YbN}(hu:Y.A.under (.compLoop ce d (.ref it) (.ref D) Y.env)=Y.A)(hd:(model Y.prog Y.w).den (.compLoop ce d (.ref it) (.ref D) Y.env)=(Vs ce d (.ref it) (.ref D) Y.env).onRaise (λx=>do VG x Y.env;theTreesLotGoes x))(code:Vs ce d (.ref it) (.ref D) Y.env=Zfc target iter ifs Y.env (.ref it) (.compLoop ce d (.ref it) (.ref D) Y.env) br)(hg:PG Y target (gT Y.K tg))(ht:PTs Y call gv xr cs ifs)(hdis:∀i∈tgS tg,i∉innS inner)(hlt:∀i∈tgS tg++innS inner,i<Y.N.length)(hbr:∀{pins:List (Addr×Obj)}{s:Shared}{σ:L2.St}{H:Hp}{cm:List Addr}{m m':Mem}{env:Env}{out:List T}{vs:List V},Inv Y pins σ H s->FpOk Y pins H D->Acc s.heap vs->EnvR Y.K cm m H env σ->(∀i∈innS inner,∀w,env[i]?≠some (some w))->MemR Y.K cm m H ->
   (ev call gv inner env m).bind Zdp=.ok out m'->vs.length+out.length<=L->(∀t∈out,Pt t) ->
   wpAny (model Y.prog Y.w) Y.A br (λfin s'=>fin=.again (.compLoop ce d (.ref it) (.ref D) Y.env)/\Zi7 Y Acc D (innS inner) pins σ cm m H vs out m' s') Y.xe s){pins:List (Addr×Obj)}{s:Shared}{σ:L2.St}{H:Hp}{cm:List Addr}{m m':Mem}{env:Env}{ts out:List T}{J:It}{fp:List Addr}{tn:Nat->Heap->Prop}{vs:List V}(I:Inv Y pins σ H s)(hD:FpOk Y pins H D)(ha:Acc s.heap vs)(hT:Turn Y.prog Y.w Y.K target J fp it tn)(h0:tn 0 s.heap)(hf:∀b∈fp,FpOk Y pins H b)(hDf:D∉fp)(hE:EnvR Y.K cm m H env σ)(hn:∀i∈tgS tg++innS inner,∀w,env[i]?≠some (some w))(M:MemR Y.K cm m H)(hs:Src Y.K cm m H J ts)(ok:Jd (turnF call gv cs inner) tg ts env m=.ok out m')(hl:vs.length+out.length<=L)(hpt:∀t∈out,Pt t):
  Gv (model Y.prog Y.w) Y.A (.compLoop ce d (.ref it) (.ref D) Y.env) (λr s'=>r=.ok .next/\Zi7 Y Acc D (tgS tg++innS inner) pins σ cm m H vs out m' s') s:=by
 have statD:∀{H1:Hp},H1 D=none->FpOk Y pins H1 D:=λh=>⟨h,hD.2⟩
 have stat:∀{H1:Hp},(∀b∈fp,H1 b=none)->∀b∈fp,FpOk Y pins H1 b:=λh b hb=>⟨h b hb,(hf b hb).2⟩
 refine codeAny_loop rfl (λn s1=>∃i σ1 H1 cm1 m1 vs1 done rest,Inv Y pins σ1 H1 s1/\tn i s1.heap/\(∀b∈fp,H1 b=none)/\H1 D=none/\Ext cm m H cm1 m1 H1/\MemR Y.K cm1 m1 H1/\Agree (tgS tg++innS inner) σ σ1 /\
   Acc s1.heap (vs++vs1)/\RTs Y.K cm1 m1 H1 done vs1/\Jd (turnF call gv cs inner) tg (ts.drop i) env m1=.ok rest m'/\out=done++rest/\n=ts.length+1-i/\i<=ts.length) ?_ (ts.length+1)
  ⟨0,σ,H,cm,m,[],[],out,I,h0,λb hb=>(hf b hb).1,hD.1,.refl,M,.refl,by rw[Ws];exact ha,.nil,by rw[Yaq];exact ok,rfl,rfl,Wd _⟩
 rintro n s1 ⟨i,σ1,H1,cm1,m1,vs1,done,rest,I1,st1,fr1,d1,x1,M1,ag1,a1,r1,ok1,eo,rfl,hi⟩
 rw[hu,hd]
 refine wpAny_noted ?_
 rw[code]
 refine Yb (Uj (Yb ?_))
 have hE1:EnvR Y.K cm1 m1 H1 env σ1:=(hE.ext x1 M M1).agree ag1 hn
 have s1':=hs.ext x1 M M1
 have I1D:=ZfO hA I1 (statD d1) a1
 have fpD:∀{H1:Hp},(∀b∈fp,H1 b=none)->∀b∈fp,FpOk Y (pins++J8 [D] s1.heap) H1 b:=λh b hb=>Ziv (stat h b hb) λz=>hDf (by
  have e:b=D:=by simpa using z
  rw[<-e];exact hb)
 have inD:∀o,s1.heap.get? D=some o->(D,o)∈pins++J8 [D] s1.heap:=λo e=>Ym _ (Z2 (by simp) e)
 cases et:ts[i]? with
 |none =>
  refine Zgr hxe (thn (hT.done Y rfl rfl rfl hc i _ s1 σ1 H1 Y.xe I1D (fpD fr1) st1 (Src.stop M1 s1' et)) λr s2 ⟨hr,I2⟩=>?_)
  subst hr
  have hd:ts.drop i=[]:=List.drop_eq_nil_of_le (GZ.mp et)
  rw[hd]at ok1
  unfold Jd at ok1
  cases ok1
  rw[Ws]at eo
  subst eo
  exact Yd ⟨rfl,σ1,H1,cm1,vs1,I2.unpinned,x1,M1,r1,(Zdq hA a1 I2 inD).1,ag1,(Zdq hA a1 I2 inD).2⟩
 |some t =>
  obtain⟨go,yl⟩:=Src.go M1 s1' et
  have hit:i<ts.length:=(Ye.mp et).1
  have hd:ts.drop i=t::ts.drop (i+1):=by
   rw[List.drop_eq_getElem_cons hit]
   congr 1
   exact YQ ((YH hit).symm.trans et)
  rw[hd]at ok1
  unfold Jd at ok1
  split at ok1
  ·cases ok1
  ·rename_i env' eb
   obtain⟨xs,m2,ok2,ok3⟩:=Zk ok1
   obtain⟨ys,m3,ok4,ok5⟩:=Zk ok3
   cases ok5
   obtain⟨k,m4,okt,okb⟩:=Zk ok2
   refine Zgr hxe (thn (hT.item Y rfl rfl rfl hc i _ s1 σ1 H1 Y.xe I1D (fpD fr1) st1 go) λr s2 ⟨u,hr,h2⟩=>?_)
   subst hr
   refine Yb (Zgr hxe (thn h2 λ_ s3 ⟨x,H3,I3,rx,y3,st3,fr3⟩=>?_))
   obtain⟨xy,My,rt⟩:=yl x H3 y3
   have hE1:=hE1.ext xy M1 My
   have x1:=x1.trans xy
   have r1:=RTs.ext xy M1 My r1
   have M1:=My
   -- pinned: the list that is filled,and the iterator
   have I3':=I3.pinned (fpD fr3) (hT.obj _ _ st3)
   refine Yb (Zgr hxe (thn (hg _ s3 σ1 H3 x u (λσ' H'=>H'=H3/\EnvR Y.K cm1 m1 H3 env' σ'/\Agree (tgS tg) σ1 σ') I3' rx (gT_ok hE1 (λj hj=>by rw[I3.len];exact hlt j (Wf _ hj)) rt eb λσ' h1 h2=>⟨rfl,h1,h2⟩)) λ_ s4 ⟨σ4,H4,I4,e4,hE4,ag4⟩=>?_))
   subst e4
   refine Yb (Zgr hxe (thn (Zdx ht I4 hE4 M1 okt) λb s5 ⟨hb,H5,cm5,I5,x5,M5⟩=>?_))
   subst hb
   have a5:=Zdq hA a1 I5 λo e=>Wf _ (inD o e)
   have st5:tn (i+1) s5.heap:=hT.keep _ _ _ st3 λb hb o e=>(I5.pin (b,o) (Ym _ (Ym _ (Z2 hb e)))).1
   have f5:∀b∈fp,H5 b=none:=λb hb=>by
    obtain⟨o,e,dd⟩:=hT.obj _ _ st3 b hb
    exact(I5.pin (b,o) (Ym _ (Ym _ (Z2 hb e)))).2.1
   have ag45:Agree (tgS tg++innS inner) σ σ4:=ag1.trans (ag4.mono λi hi=>Wf _ hi)
   cases b with
   |false =>
    rw[if_neg Yt]at okb ⊢
    cases okb
    rw[Gy]at eo
    exact Yd ⟨rfl,_,by omega,i+1,σ4,H5,cm5,m2,vs1,done,ys,I5.unpinned.unpinned,st5,f5,a5.2,x1.trans x5,M5,ag45,a5.1,RTs.ext x5 M1 M5 r1,ok4,eo,rfl,hit⟩
   |true =>
    rw[if_pos rfl]at okb ⊢
    have I6:Inv Y (pins++J8 fp s5.heap) σ4 H5 s5:=I5.unpinned.unpinned.pinned (stat f5) (hT.obj _ _ st5)
    have hv:=r1.length
    have hz:(vs++vs1).length+xs.length<=L:=by
     rw[Yh,<-hv]
     rw[eo,Yh,Yh]at hl
     omega
    have hn6:∀j∈innS inner,∀w,env'[j]?≠some (some w):=λj hj w=>by
     rw[Ze1 eb λz=>hdis j z hj]
     exact hn j (Ym _ hj) w
    refine Zgr hxe (thn (hbr I6 (Ziv (statD a5.2) hDf) a5.1 (hE4.ext x5 M1 M5) hn6 M5 okb hz λt ht'=>hpt t (by rw[eo];exact Ym _ (Wf _ ht'))) λfin s7 ⟨hfin,σ7,H7,cm7,vs7,I7,x7,M7,r7,a7,ag7,d7⟩=>?_)
    subst hfin
    have keep7:∀b∈fp,∀o,s5.heap.get? b=some o->s7.heap.get? b=some o:=λb hb o e=>(I7.pin (b,o) (Ym _ (Ym _ (Z2 hb e)))).1
    refine⟨rfl,_,by omega,i+1,σ7,H7,cm7,m2,vs1++vs7,done++xs,ys,I7.unpinned,hT.keep _ _ _ st5 keep7,λb hb=>?_,?_,(x1.trans x5).trans x7,M7,ag45.trans (ag7.mono λi hi=>Ym _ hi),by rw[<-YW];exact a7,
     ZF (RTs.ext x7 M5 M7 (RTs.ext x5 M1 M5 r1)) r7,ok4,by rw[eo,YW],rfl,hit⟩
    ·obtain⟨o,e,dd⟩:=hT.obj _ _ st5 b hb
     exact(I7.pin (b,o) (Ym _ (Ym _ (Z2 hb e)))).2.1
    ·exact d7
theorem Zde{prog:Yx}{w:World}{A:Around}{R:Result->Shared->Prop}{s:Shared}{elt:Expr}{gens:List WN}{scope:Scope}{pos:Pos}{d:Nat}{target iter:Expr}{ifs:List Expr}{it acc:Value}{env:Wb}(hg:gens[d]?=some ⟨target,iter,ifs,0⟩)(h0:Gv (model prog w) A (.compLoop (.ListComp elt gens scope pos) d it acc env) R s)(h:wpAny (model prog w) A (pyIter it) (λit' s'=>Gv (model prog w) A (.compLoop (.ListComp elt gens scope pos) d it' acc env) R s') (notedBy (model prog w) A env λx s'=>R (.error x) s') s):
  Gv (model prog w) A (.compStart (.ListComp elt gens scope pos) d it acc env) R s:=by
 refine Vq ?_
 show wpAny _ _ ((Ya3 (.ListComp elt gens scope pos) d it acc env).onRaise (λx=>do VG x env;Gb Yab)) _ _ s
 refine wpAny_notedAt ?_
 unfold Ya3
 have e:(YbO (.ListComp elt gens scope pos))[d]?=some ⟨target,iter,ifs,0⟩:=hg
 rw[e]
 show wpAny _ _ (ask >>= _) _ _ s
 refine Yb (U3 (wpAny_ite ?_))
 split
 ·first
   |exact Yb (Yd (Yd (YK rfl h0)))
   |exact Yd (YK rfl h0)
 ·first
   |exact Yb (Ve (Yb (Uj (Yb (Uq h (λit' s' h'=>Yd (YK rfl h')) λ_ _ x=>x)))))
   |(refine Yb (Ve ?_);show wpAny _ _ (Gb iter.pos >>= _) _ _ s;exact Yb (Uj (Yb (Uq h (λit' s' h'=>Yd (YK rfl h')) λ_ _ x=>x))))
theorem ZgX{pins:List (Addr×Obj)}{s:Shared}{σ:L2.St}{H:Hp}{D:Addr}{vs:List V}{v:V}{u:Value}{E:Value->Shared->Prop}{Q:Value->Shared->Prop}(I:Inv Y pins σ H s)(f:FpOk Y pins H D)(a:AccAt s.heap D vs)(r:RelV v u)(hz:vs.length<YC)(q:∀s',Inv Y pins σ H s'->AccAt s'.heap D (vs++[v])->Q .none s'):wpAny (model Y.prog Y.w) Y.A (GD (.builtin "list.append") [.ref D,u]) Q E s:=by
 obtain⟨z,its,n,rv,e⟩:=a
 have hl:=rv.length
 refine Vc F.slot_list_append ⟨_,e,rfl⟩ F.entry_list_append (F.args_list_append_2 _ _) (PySem.list_append D its.toArray n u (by rw[Yk];omega)) ⟨e,?_⟩
 have e2:=PySem.IsL.update e (·.push u)
 have hf:its.toArray.push u=(its++[u]).toArray:=by simp
 rw[hf]at e2
 obtain⟨f0,f1,f2,f3,f4,f5⟩:=f
 refine q _ (I.turned (t':=s.toks) (it:=D) (λb o hb eb=>(Y6 s.heap (Ui (·.push u)) (WR hb)).trans eb) f0 f1 f3 f4 f5) ⟨?_,its++[u],_,rv.append (.cons r .nil),e2⟩
 rw[Yh,WF]
 omega
theorem ZbQ{K:Frag}{cm:List Addr}{m m1:Mem}{H:Hp}{w:W}{ts:List T}(M:MemR K cm m H)(e:Z4 w m=.ok ts m1):Ext cm m H cm m1 H/\MemR K cm m1 H:=by
 cases w with
 |t t =>
  unfold Z4 at e
  dsimp only at e
  split at e<;>cases e
  exact⟨.refl,M⟩
 |f a=>cases e
 |x _ _ _=>cases e
 |o _ _ _=>cases e
 |u=>cases e
 |c i =>
  unfold Z4 at e
  dsimp only at e
  split at e
  ·cases e
   exact ZiS M (by assumption)
  ·cases e
theorem Zia(hc:Y.calm=true)(hxe:∀e s,¬Y.xe e s){elt:Expr}{gens:List WN}{scope:Scope}{pos:Pos}{D:Addr}:∀(inner:E) (d:Nat) (target iter:Expr) (ifs:List Expr) (tg:Tg) (cs:Es),gens[d]?=some ⟨target,iter,ifs,0⟩ ->
  PG Y target (gT Y.K tg)->PTs Y call gv xr cs ifs->Ins xr Y call gv elt gens d inner->(∀i∈tgS tg,i∉innS inner)->(∀i∈tgS tg++innS inner,i<Y.N.length) ->
  ∀{pins:List (Addr×Obj)}{s:Shared}{σ:L2.St}{H:Hp}{cm:List Addr}{m m':Mem}{env:Env}{ts out:List T}{J:It}{it:Addr}{fp:List Addr}{tn:Nat->Heap->Prop}{vs:List V},Inv Y pins σ H s->FpOk Y pins H D->AccAt s.heap D vs ->
   Turn Y.prog Y.w Y.K target J fp it tn->tn 0 s.heap->(∀b∈fp,FpOk Y pins H b)->D∉fp->EnvR Y.K cm m H env σ->(∀i∈tgS tg++innS inner,∀w,env[i]?≠some (some w))->MemR Y.K cm m H->Src Y.K cm m H J ts ->
   Jd (turnF call gv cs inner) tg ts env m=.ok out m'->vs.length+out.length<=lim ->
   Gv (model Y.prog Y.w) Y.A (.compLoop (.ListComp elt gens scope pos) d (.ref it) (.ref D) Y.env) (λr s'=>r=.ok .next/\CEnd Y D (tgS tg++innS inner) pins σ cm m H vs out m' s') s
 |.emit a=>@λd target iter ifs tg cs hg pg pt hin hdis hlt pins s σ H cm m m' env ts out J it fp tn vs I hD ha hT h0 hf hDf hE hn M hs ok hl=>by
  obtain⟨hnx,pe⟩:=hin
  refine Zc0 hc hxe (Zbj D) (br:=do(do let _ <-GD (.builtin "list.append") [.ref D,<-eval elt Y.env]);again (.compLoop (.ListComp elt gens scope pos) d (.ref it) (.ref D) Y.env)) rfl rfl (Zdd hg hnx) pg pt hdis hlt ?_ I hD ha hT h0 hf hDf hE hn M hs ok hl (Pt:=λ_=>True) (λ_ _=>trivial)
  intro pins s σ H cm m m' env out vs I hD ha hE hn M ok hl _
  obtain⟨w,m1,ok1,ok2⟩:=Zk ok
  obtain⟨rfl,rfl⟩:=Zeq ok2
  unfold ev at ok1
  obtain⟨w1,m2,ok3,ok4⟩:=Zk ok1
  obtain⟨t,m3,ok5,ok6⟩:=Zk ok4
  cases ok6
  have hz:=ZM
  refine Yb (Yb (thn (pe_run pe (Zi3 I hD ha) hE M ok3) λu s1 ⟨v,H1,I1,rv,cm1,x1,M1,r1⟩=>?_))
  obtain⟨a1,d1⟩:=ZkP ha I1 λo e=>Ym _ (Z2 (by simp) e)
  obtain⟨x2,M2,r2⟩:=Ziu M1 r1 ok5
  have I1':Inv Y pins σ H1 s1:=I1.unpinned
  refine Yb (ZgX I1' ⟨d1,hD.2⟩ a1 rv (by simp at hl;omega) λs2 I2 a2=>Yd (Yd ⟨rfl,σ,H1,cm1,[v],I2,x1.trans x2,M2,.cons r2 .nil,a2,.refl,d1⟩))
 |.more it' tg' cs' inner'=>@λd target iter ifs tg cs hg pg pt hin hdis hlt pins s σ H cm m m' env ts out J it fp tn vs I hD ha hT h0 hf hDf hE hn M hs ok hl=>by
  obtain⟨⟨target',iter',ifs',hnx,pi,hfs,pg',pt'⟩,hdis',hlt',hin'⟩:=hin
  have rec_:=@Zia hc hxe elt gens scope pos D inner' (d+1) target' iter' ifs' tg' cs' hnx pg' pt' hin' hdis' hlt'
  refine Zc0 hc hxe (Zbj D) rfl rfl (Zdc hg hnx) pg pt hdis hlt ?_ I hD ha hT h0 hf hDf hE hn M hs ok hl (Pt:=λ_=>True) (λ_ _=>trivial)
  intro pins s σ H cm m m' env out vs I hD ha hE hn M ok hl _
  obtain⟨w,m1,ok1,ok2⟩:=Zk ok
  obtain⟨rfl,rfl⟩:=Zeq ok2
  unfold ev at ok1
  obtain⟨w1,m2,ok3,ok4⟩:=Zk ok1
  obtain⟨ts',m3,ok5,ok6⟩:=Zk ok4
  obtain⟨out',m4,ok7,ok8⟩:=Zk ok6
  cases ok8
  have hz:=ZM
  refine Yb (thn (pi _ s σ H (λJ H1=>∃cm1,Ext cm m H cm1 m2 H1/\MemR Y.K cm1 m2 H1/\Src Y.K cm1 m3 H1 J ts') (Zi3 I hD ha) ⟨env,cm,m,hE,M,by
   rw[ok3]
   exact λcm1 H1 x M1=>⟨ts',m3,ok5,λJ hs=>⟨cm1,x,M1,hs⟩⟩⟩) λxv s1 h1=>?_)
  refine Yb (Uj (Yb (YbL (hfs xv) (Yb (Wg (thn h1 λitv s2 h2=>?_))))))
  obtain⟨it2,fp2,tn2,J2,H2,rfl,I2,T2,st2,f2,cm2,x2,M2,hs2⟩:=h2
  obtain⟨a2,d2⟩:=ZkP ha I2 λo e=>Ym _ (Z2 (by simp) e)
  have hDf2:D∉fp2:=λz=>by
   obtain⟨_,its,n,_,e⟩:=id ha
   exact(f2 D z).2.2.2.2.2 (D,_) (Ym _ (Ym _ (Z2 (by simp) e))) rfl
  have f2':∀b∈fp2,FpOk Y pins H2 b:=λb hb=>⟨(f2 b hb).1,(f2 b hb).2.1,(f2 b hb).2.2.1,(f2 b hb).2.2.2.1,(f2 b hb).2.2.2.2.1,λp hp=>(f2 b hb).2.2.2.2.2 p (by rw[<-YW];exact Wf _ hp)⟩
  have hb3:Ext cm2 m2 H2 cm2 m3 H2/\MemR Y.K cm2 m3 H2:=ZbQ M2 ok5
  have E2:EnvR Y.K cm2 m3 H2 env σ:=(hE.ext x2 M M2).ext hb3.1 M2 hb3.2
  have go:=rec_ I2.unpinned ⟨d2,hD.2⟩ a2 T2 st2 f2' hDf2 E2 hn hb3.2 hs2 ok7 hl
  have self:Gv (model Y.prog Y.w) Y.A (.compStart (.ListComp elt gens scope pos) (d+1) (.ref it2) (.ref D) Y.env) _ s2:=Zde hnx go (T2.self Y.A 0 s2 _ _ st2 go)
  refine Yb (wpAny_runOwn (U6 self λr s3 ⟨hr,σ3,H3,cm3,vs3,I3,x3,M3,r3,a3,ag3,d3⟩=>?_))
  subst hr
  obtain⟨x4,M4,sm⟩:=XX M2 ok5 x3 M3
  exact Yd ⟨rfl,σ3,H3,cm3,vs3,I3,x2.trans x4,M4,Zf (λ_ _ z=>sm _ _ z) r3,a3,ag3,d3⟩
 |.var _|.gl _|.con _|.bin _ _ _|.neg _|.not _|.and _ _|.or _ _|.one _|.cmp _ _ _|.chn _ _ _ _ _|.ite _ _ _|.tup _|.lst _|.cel _|.celL _|.celb _ _|.celA _ _|.dsp _ _|.ix _ _|.slc _ _ _|.rev _|.hole|.call _ _|.blt _ _|.mth _ _ _|.isi _ _|.comp _ _ _ _ _ _|.tr _|.fnv _|.callV _ _ _|.fst _|.xat _ _ _|.xis _ _ _|.gdg _ _|.ptd _ _|.gdn _ _ _|.dsn _ _|.emit2 _ _|.sortk _ _ _|.fld _ _ _|.mcal _ _ _ _ _|.make _ _ _ _|.emp _ _=>@λd target iter ifs tg cs hg pg pt hin=>hin.elim
end
theorem Zct{scope:Scope}{env:Wb}(h:∀x,(x,YX)∈scope.names->∃c,env.cells.lookup x=some c):
  ∃cl,YbV scope env=pure cl/\(∀x c,cl.lookup x=some c->env.cells.lookup x=some c)/\∀x,(x,YX)∈scope.names->∃c,cl.lookup x=some c:=by
 have go:∀(ns:List (Str×GC)) (acc:List (Str×Addr)),(∀x,(x,YX)∈ns->∃c,env.cells.lookup x=some c)->(∀x c,acc.lookup x=some c->env.cells.lookup x=some c) ->
   ∃cl,(forIn ns acc λ(x:Str×GC) cs=>(match x with|(name,kind)=>if(kind==YX)=true then do let a <-cellOf env name;pure (Ua ((name,a)::cs))else pure (Ua cs):Sem (ForInStep (List (Str×Addr)))))=pure cl /\
    (∀x c,cl.lookup x=some c->env.cells.lookup x=some c)/\(∀x,(x,YX)∈ns->∃c,cl.lookup x=some c)/\∀x c,acc.lookup x=some c->∃c,cl.lookup x=some c:=by
  intro ns
  induction ns with
  |nil=>intro acc _ h2;exact⟨acc,rfl,h2,λx hx=>absurd hx (by simp),λx c e=>⟨c,e⟩⟩
  |cons p ns ih =>
   intro acc h1 h2
   obtain⟨n,k⟩:=p
   have h1':∀x,(x,YX)∈ns->∃c,env.cells.lookup x=some c:=λx hx=>h1 x (Yw _ hx)
   by_cases hk:k=.free
   ·subst hk
    obtain⟨c,hc⟩:=h1 n YD
    have h2':∀x d,((n,c)::acc).lookup x=some d->env.cells.lookup x=some d:=λx d e=>by
     rw[Y8]at e
     cases hx:x==n with
     |true=>rw[hx]at e;cases e;rw[eq_of_beq hx];exact hc
     |false=>rw[hx]at e;exact h2 x d e
    obtain⟨cl,e1,e2,e3,e4⟩:=ih ((n,c)::acc) h1' h2'
    refine⟨cl,?_,e2,λx hx=>?_,λx d e=>?_⟩
    ·rw[Yaa]
     simp only[beq_self_eq_true,if_true,cellOf,hc,pure_bind]
     exact e1
    ·rcases Ys.mp hx with z|z
     ·cases z
      exact e4 n c (by rw[Y8,beq_self_eq_true])
     ·exact e3 x z
    ·by_cases hx:x=n
     ·subst hx;exact e4 x c (by rw[Y8,beq_self_eq_true])
     ·exact e4 x d (by rw[Y8,beq_eq_false_iff_ne.mpr hx];exact e)
   ·obtain⟨cl,e1,e2,e3,e4⟩:=ih acc h1' h2
    have hb:(k==YX)=false:=beq_eq_false_iff_ne.mpr hk
    refine⟨cl,?_,e2,λx hx=>?_,e4⟩
    ·rw[Yaa]
     simp only[hb,Yz,if_false,pure_bind]
     exact e1
    ·rcases Ys.mp hx with z|z
     ·cases z;exact absurd rfl hk
     ·exact e3 x z
 obtain⟨cl,e1,e2,e3,_⟩:=go scope.names [] h (λx c e=>by simp at e)
 refine⟨cl,?_,e2,e3⟩
 unfold YbV
 have:(forIn scope.names ([]:List (Str×Addr)) λ(x:Str×GC) cs=>(match x with|(name,kind)=>if(kind==YX)=true then do let a <-cellOf env name;pure (Ua ((name,a)::cs))else pure (Ua cs):Sem (ForInStep (List (Str×Addr))))) >>= (λcs=>pure cs)=(pure cl:Sem (List (Str×Addr))):=by rw[e1];rfl
 exact this
section
variable{xr:XR}{X:Cx}{call:Nat->List W->Mem->Res W}{gv:List T}
noncomputable abbrev Qs(X:Cx)(N':List Str)(scope:Scope)(cl:List (Str×Addr))(C:Addr)(s2:Shared)(H2:Hp)(fp:List Addr):Cx:=
 { X with N:=N',s₀:=s2,H₀:=H2,env:=compEnvC scope cl C X.env,outer:=X.stack,stack:=X.stack,ex:=fp,fn:=λx=>scope.names.lookup x==some .cell,pn:=[],xe:=λ_ _=>False }
structure CompSc (X:Cx) (N':List Str) (scope:Scope):Prop where
 kind:scope.kind=.function
 look:∀p∈scope.names,scope.names.lookup p.1=some p.2
 free:∀x,(x,YX)∈scope.names->X.env.kindOf x=some .cell∨X.env.kindOf x=some .free
theorem ZaS{scope:Scope}{env:Wb}(look:∀p∈scope.names,scope.names.lookup p.1=some p.2){x:Str}{k:GC}(h:(relabel scope env).names.lookup x=some k):
  ∃k',scope.names.lookup x=some k'/\(k=k'∨(k'=.free/\k=.cell)):=by
 have go:∀(ns:List (Str×GC)),(ns.map λ(n,k)=>if(k==YX&&env.scope.kind==.function&&env.kindOf n==some .cell)then(n,YaJ)else(n,k)).lookup x=some k->∃k',ns.lookup x=some k'/\(k=k'∨(k'=.free/\k=.cell)):=by
  intro ns
  induction ns with
  |nil=>intro h;simp at h
  |cons p r ih =>
   obtain⟨n,q⟩:=p
   intro h
   rw[Wa]at h
   by_cases hc:(q==YX&&env.scope.kind==.function&&env.kindOf n==some .cell)=true
   ·simp only[hc,if_true]at h
    rw[Y8]at h ⊢
    cases hx:x==n with
    |true =>
     rw[hx]at h;cases h
     rw[Yg,Yg]at hc
     exact⟨q,rfl,.inr ⟨eq_of_beq hc.1.1,rfl⟩⟩
    |false=>rw[hx]at h;exact ih h
   ·simp only[hc,Yz,if_false]at h
    rw[Y8]at h ⊢
    cases hx:x==n with
    |true=>rw[hx]at h;cases h;exact⟨_,rfl,.inl rfl⟩
    |false=>rw[hx]at h;exact ih h
 exact go scope.names h
theorem Zbw{ns:List (Str×GC)}{x:Str}{k:GC}(h:ns.lookup x=some k):(x,k)∈ns:=UL h
structure CA (h:Heap) (lo:Nat) (cs:List (Str×Addr)):Prop where
 lt:∀x c,cs.lookup x=some c->c<h.objs.size
 inj:∀x y c,cs.lookup x=some c->cs.lookup y=some c->x=y
 new:∀x c,cs.lookup x=some c->lo<=c->h.IsCell c none
theorem JS{α:Type}{x y:Str}{a c:α}{l:List (Str×α)}(h:Gw x ((y,a)::l)=some c):(x=y/\c=a)∨l.lookup x=some c:=by
 rw[Y8]at h
 cases e:x==y with
 |true=>rw[e]at h;cases h;exact .inl ⟨eq_of_beq e,rfl⟩
 |false=>rw[e]at h;exact .inr h
theorem ZeY:∀(names:List (Str×GC)) (h:Heap) (lo:Nat) (acc:List (Str×Addr)),CA h lo acc->lo<=h.objs.size->CA (pushCells h names) lo (Vn h.objs.size names acc)
 |[],_,_,_,x,_=>x
 |(name,kind)::r,h,lo,acc,x,hlo=>by
  unfold pushCells Vn
  split
  ·have:=ZeY r (h.push { cls:=.type "cell",data:=.cell none }) lo ((name,h.objs.size)::acc)
    ⟨λn c hm=>by
      rw[Y4]
      rcases JS hm with⟨_,rfl⟩|hm
      ·exact WX _
      ·exact Y0 (x.lt n c hm),
     λn n' c h1 h2=>by
      rcases JS h1 with⟨e1,z1⟩|h1<;>rcases JS h2 with⟨e2,z2⟩|h2
      ·rw[e1,e2]
      ·exact absurd (x.lt _ _ h2) (by rw[z1];exact Y9 _)
      ·exact absurd (x.lt _ _ h1) (by rw[z2];exact Y9 _)
      ·exact x.inj n n' c h1 h2,
     λn c hm hc=>by
      rcases JS hm with⟨_,rfl⟩|hm
      ·exact⟨_,Yl _ rfl,rfl⟩
      ·exact(x.new n c hm hc).keeps λb o e=>Yc _ e⟩ (by rw[Y4];omega)
   rwa [Y4]at this
  ·exact ZeY r h lo acc x hlo
theorem Zbg{x:Str}{c:Addr}:∀(names:List (Str×GC)) (n:Nat) (acc:List (Str×Addr)),(Vn n names acc).lookup x=some c->(n<=c/\(x,YaJ)∈names)∨acc.lookup x=some c
 |[],_,_,h=>.inr h
 |(y,k)::r,n,acc,h=>by
  unfold Vn at h
  split at h
  ·rename_i hk
   have hk:k=.cell:=eq_of_beq hk
   rcases Zbg r (n+1) _ h with⟨h1,h2⟩|h1
   ·exact .inl ⟨by omega,Yw _ h2⟩
   ·rcases JS h1 with⟨rfl,rfl⟩|h1
    ·exact .inl ⟨Yj _,by rw[hk];exact YD⟩
    ·exact .inr h1
  ·rcases Zbg r n _ h with⟨h1,h2⟩|h1
   ·exact .inl ⟨h1,Yw _ h2⟩
   ·exact .inr h1
theorem ZbO{x:Str}{c:Addr}:∀(names:List (Str×GC)) (n:Nat) (acc:List (Str×Addr)),names.lookup x=some .cell->(Vn n names acc).lookup x=some c->n<=c
 |[],_,_,h,_=>by cases h
 |(y,k)::r,n,acc,h,e=>by
  unfold Vn at e
  rw[Y8]at h
  cases q:x==y with
  |true =>
   rw[q]at h
   cases h
   have e:(Vn (n+1) r ((y,n)::acc)).lookup x=some c:=e
   rcases Zbg r (n+1) _ e with⟨h1,_⟩|h1
   ·omega
   ·rw[Y8,q]at h1
    cases h1
    exact Yj _
  |false =>
   rw[q]at h
   split at e
   ·have:=ZbO r (n+1) _ h e
    omega
   ·exact ZbO r n _ h e
structure Clo (X:Cx) (scope:Scope) (cl:List (Str×Addr)) (C:Addr) (h:Heap):Prop where
 one:∀x c,cl.lookup x=some c->(C<c/\(x,YaJ)∈scope.names/\h.IsCell c none)∨X.env.cells.lookup x=some c
 own:∀x c,scope.names.lookup x=some .cell->cl.lookup x=some c->C<c
 inj:∀x y c,cl.lookup x=some c->cl.lookup y=some c->x=y
 has:∀x,(x,YX)∈scope.names∨scope.names.lookup x=some .cell->∃c,cl.lookup x=some c
theorem Clo.ne{scope:Scope}{cl:List (Str×Addr)}{C:Addr}{h:Heap}(k:Clo X scope cl C h){b:Addr}(hb:b<C)(hx:∀x c,X.env.cells.lookup x=some c->c≠b):∀x c,cl.lookup x=some c->c≠b:=λx c e=>by
 rcases k.one x c e with⟨h1,_⟩|h1
 ·exact Gu (Vd hb h1)
 ·exact hx x c h1
theorem ZfQ{M:Model}{A:Around}{E:Value->Shared->Prop}{s:Shared}{scope:Scope}{cl0:List (Str×Addr)}{Q:Wb->Shared->Prop}(hcl1:∀x c,cl0.lookup x=some c->X.env.cells.lookup x=some c)(hcl2:∀x,(x,YX)∈scope.names->∃c,cl0.lookup x=some c)(hlt:∀x c,X.env.cells.lookup x=some c->c<s.heap.objs.size)(hinj:∀x y c,X.env.cells.lookup x=some c->X.env.cells.lookup y=some c->x=y)(h:∀h1 cl,(∃m,h1.Ns s.heap.objs.size m)->(∀b o,s.heap.get? b=some o->h1.get? b=some o)->Clo X scope cl s.heap.objs.size h1->Q (newEnv scope s.heap.objs.size X.env.globals cl X.env.qual none .none (some X.env) Vx) { s with heap:=h1 }):
  wpAny M A (newFunctionEnv scope X.env.globals cl0 [] X.env.qual none .none (some X.env)) Q E s:=by
 simp only[newFunctionEnv,Option.isSome_some,if_true]
 refine Yb (YbM ?_)
 refine Yb (wpAny_layCells _ (λname kind cells=>by cases hkc:kind==YaJ<;>simp[hkc]) _ _ _ _ ?_)
 have hz:(s.heap.push { cls:=.type "dict",data:=.dict #[] }).objs.size=s.heap.objs.size+1:=Y4 ..
 have ok:=ZeY scope.names (s.heap.push { cls:=.type "dict",data:=.dict #[] }) (s.heap.objs.size+1) cl0
  ⟨λx c e=>by rw[hz];exact Y0 (hlt x c (hcl1 x c e)),λx y c e1 e2=>hinj x y c (hcl1 x c e1) (hcl1 y c e2),λx c e z=>absurd (hlt x c (hcl1 x c e)) (YbW.mpr (Nat.le_of_succ_le z))⟩ (by rw[hz];exact Yj _)
 rw[List.forIn_nil]
 refine Yb (Yd (Yd ?_))
 refine h _ _ ⟨_,(Heap.Ns.new s.heap (.type "dict")).keeps (pushCells_keeps _ _)⟩ (λb o e=>pushCells_keeps _ _ b o (Yc _ e)) ⟨λx c e=>?_,λx c hx e=>?_,ok.inj,λx hx=>?_⟩
 ·rcases Zbg _ _ _ e with⟨h1,h2⟩|h1
  ·rw[show({ s with heap:=s.heap.push { cls:=.type "dict",data:=.dict #[] } }:Shared).heap.objs.size=s.heap.objs.size+1 from hz]at h1
   exact .inl ⟨h1,h2,ok.new x c e h1⟩
  ·exact .inr (hcl1 x c h1)
 ·have:=ZbO _ _ _ hx e
  rw[show({ s with heap:=s.heap.push { cls:=.type "dict",data:=.dict #[] } }:Shared).heap.objs.size=s.heap.objs.size+1 from hz]at this
  exact this
 ·refine G9.mp (Ya8 _ _ _ ?_)
  rcases hx with hx|hx
  ·obtain⟨c,e⟩:=hcl2 x hx
   exact .inr (by rw[e];rfl)
  ·exact .inl hx
theorem ZgK{pins:List (Addr×Obj)}{s:Shared}{σ σ':L2.St}{H:Hp}{fp:List Addr}{N':List Str}{scope:Scope}{cl:List (Str×Addr)}{C:Addr}{h1:Heap}{t:Nat}(I:Inv X pins σ H s)(S:CompSc X N' scope)(hf:∀b∈fp,FpOk X pins H b)(hlt:∀b∈fp,b<s.heap.objs.size)(hC:s.heap.objs.size<=C)(hns:∃m,h1.Ns C m)(hk:∀b o,s.heap.get? b=some o->h1.get? b=some o)(kc:Clo X scope cl C h1)(hl:σ'.length=N'.length)(hσ:∀(i:Nat) (x:Str) (v:V),N'[i]?=some x->σ'[i]?=some (some v)->∃j:Nat,X.N[j]?=some x/\σ[j]?=some (some v)/\(x,YX)∈scope.names):
  Inv (Qs X N' scope cl C s H fp) [] σ' H { s with heap:=h1,toks:=t }:=by
 have hfree:∀x k,(relabel scope X.env).names.lookup x=some k->(k=.cell∨k=.free)->(x,YX)∈scope.names∨scope.names.lookup x=some .cell:=λx k h hk'=>by
  obtain⟨k',h1,h2⟩:=ZaS S.look h
  rcases h2 with rfl|⟨rfl,_⟩
  ·rcases hk' with rfl|rfl
   ·exact .inr h1
   ·exact .inl (Zbw h1)
  ·exact .inl (Zbw h1)
 obtain⟨mm,hns⟩:=hns
 refine⟨⟨I.ok.mod,S.kind,I.ok.glob,I.ok.blt,hC,kc.inj,λx hx=>?_,λx c h e=>?_,I.ok.hd,I.ok.frames,.inl rfl,λb hb=>⟨Yv (Yq (hlt b hb) hC),kc.ne (Yq (hlt b hb) hC) (hf b hb).2.2.2.2.1⟩,I.bs,Wm I.ok.bsz I.sz,λb o e hb=>?_,λb hb z=>?_,I.stack,I.stkFree⟩,
  rfl,I.bare,Un.kept hk,⟨mm,hns,λi x v e1 e2 e3=>?_⟩,λx c e=>?_,I.hok.fresh hC,λx c e=>?_,λp hp=>absurd (show p∈([]:List (Addr×Obj))from hp) (by simp),I.hok.kept hk,hl⟩
 ·rcases hx with hx|hx
  ·exact kc.has x (hfree x _ hx (.inl rfl))
  ·exact kc.has x (hfree x _ hx (.inr rfl))
 ·have h:(scope.names.lookup x==some .cell)=true:=h
  exact Wm hC (G8 (kc.own x c (eq_of_beq h) e))
 ·rcases(hf b hb).2.2.2.1 with z|z
  ·exact I.ok.noex b o e z
  ·exact absurd (Yq (Yp e) (Wm I.ok.bsz z)) (Y9 _)
 ·rcases Ys.mp (I.stkSub b z)with q|q
  ·exact(hf b hb).2.1 q
  ·exact(hf b hb).2.2.1 q
 ·obtain⟨j,h1',h2',h3'⟩:=hσ i x v e1 e2
  obtain⟨m0,hn0,hl0⟩:=I.loc
  have kx:=S.free x h3'
  obtain⟨u,ru,lu⟩:=hl0 j x v h1' h2' (kx.elim (λz=>.inr (.inl z)) λz=>.inr (.inr z))
  refine⟨u,ru,.inr ?_⟩
  obtain⟨c,ec,ic⟩:∃c,X.env.cells.lookup x=some c/\s.heap.IsCell c (some u):=by
   rcases lu with⟨q,_⟩|⟨_,c,q1,q2⟩
   ·rcases kx with z|z
    ·rw[z]at q;cases q
    ·rw[z]at q;cases q
   ·exact⟨c,q1,q2⟩
  obtain⟨c',ec'⟩:=kc.has x (.inl h3')
  have:c'=c:=by
   rcases kc.one x c' ec' with⟨_,q,_⟩|this
   ·have q1:=S.look _ q
    rw[S.look _ h3']at q1
    cases q1
   ·rw[ec]at this;exact(YQ this).symm
  subst this
  obtain⟨o,ho,hd⟩:=ic
  refine⟨?_,c',ec',o,hk _ _ ho,hd⟩
  rcases e3 with e3|e3|e3
  ·obtain⟨k',q1,q2⟩:=ZaS S.look e3
   rw[S.look _ h3']at q1;cases q1
   rcases q2 with q2|⟨_,q2⟩<;>cases q2
  ·exact .inl e3
  ·exact .inr e3
 ·rcases kc.one x c e with⟨_,_,q⟩|q
  ·exact⟨_,q⟩
  ·obtain⟨v,o,ho,hd⟩:=I.cell x c q
   exact⟨v,o,hk _ _ ho,hd⟩
 ·rcases kc.one x c e with⟨q,_⟩|q
  ·exact I.hok.fresh (Wm hC (G8 q))
  ·exact I.freeC x c q
theorem ZgJ{pins:List (Addr×Obj)}{s s':Shared}{σ σ':L2.St}{H H':Hp}{fp:List Addr}{N':List Str}{scope:Scope}{cl:List (Str×Addr)}{C:Addr}(I:Inv X pins σ H s)(hf:∀b∈fp,FpOk X pins H b)(J:Inv (Qs X N' scope cl C s H fp) [] σ' H' s'):
  Inv X pins σ H' s':=
 I.call' J.os J.base J.hok J.bare λb hb=>⟨(hf b hb).2.2.2.1,(hf b hb).2.1,(hf b hb).2.2.2.2.1,(hf b hb).2.2.2.2.2⟩
theorem Inv.adopt{pins:List (Addr×Obj)}{s:Shared}{σ:L2.St}{H:Hp}{D:Addr}{ho:HO}(I:Inv X pins σ H s)(f:FpOk X pins H D)(a:QJ X.prog X.w (upd H D ho) s.heap D ho):Inv X pins σ (upd H D ho) s:=by
 obtain⟨f0,f1,f2,f3,f4,f5⟩:=f
 have hne:∀b u,H b=some u->b≠D:=λb u e z=>by subst z;rw[f0]at e;cases e
 refine I.call' (ch:=[D]) rfl ⟨λb o e _ _ _=>e,λb o e _ _ _=>⟨o.slots,e⟩,λb o e n hx=>by rw[Zm (by simpa using hx)];exact n,λb o e _=>⟨o,e⟩,λb xs e=>by rw[Zm (hne b _ e)];exact e,λb o u e=>by rw[Zm (hne b _ e)];exact e,
  λb ps e=>⟨#[],by rw[Zm (hne b _ e),e];simp⟩⟩ (λb u e=>?_) I.bare λb hb=>?_
 ·by_cases hb:b=D
  ·subst hb
   rw[ZL]at e;cases e
   exact a
  ·rw[Zm hb]at e
   exact(I.hok b u e).stay (λ_ _ _ q=>q) (λc q=>by rw[Zm (hne c _ q)];exact q) λc xs q=>by rw[Zm (hne c _ q)];exact q
 ·have e:b=D:=by simpa using hb
  subst e
  exact⟨f3,f1,f4,f5⟩
noncomputable def Zi6(X:Cx)(xr:XR)(call:Nat->List W->Mem->Res W)(gv:List T)(N':List Str)(scope:Scope)(elt target:Expr)(ifs:List Expr)(gens:List WN)(tg:Tg)(cs:Es)(inner:E):Prop:=
 ∀(cl:List (Str×Addr)) (C:Addr) (s2:Shared) (H2:Hp) (fp:List Addr),PG (Qs X N' scope cl C s2 H2 fp) target (gT X.K tg)/\PTs (Qs X N' scope cl C s2 H2 fp) call gv xr cs ifs/\Ins xr (Qs X N' scope cl C s2 H2 fp) call gv elt gens 0 inner
noncomputable def envC(own:Nat)(keep:List Nat)(env:Env):Env:=Yn own none++keep.map λi=>(env[i]?).join
noncomputable def stC(own:Nat)(keep:List Nat)(σ:L2.St):L2.St:=Yn own none++keep.map λi=>(σ[i]?).join
theorem envC_R{K:Frag}{cm:List Addr}{m:Mem}{H:Hp}{env:Env}{σ:L2.St}{own:Nat}{keep:List Nat}(h:EnvR K cm m H env σ):EnvR K cm m H (envC own keep env) (stC own keep σ):=λi w e=>by
 unfold envC at e
 unfold stC
 by_cases hi:i<own
 ·rw[Yy (by simpa using hi),Wr]at e
  split at e<;>cases e
 ·rw[Yu (by simpa using hi),Wn,YJ]at e
  rw[Yu (by simpa using hi),Wn,YJ]
  cases q:keep[i-own]? with
  |none=>rw[q]at e;cases e
  |some j =>
   rw[q]at e
   have e':(env[j]?).join=some w:=YQ e
   cases r:env[j]? with
   |none=>rw[r]at e';cases e'
   |some o =>
    rw[r]at e'
    have e2:o=some w:=e'
    subst e2
    obtain⟨v,h1,h2⟩:=h j w r
    exact⟨v,by simp[h1],h2⟩
theorem Zfz{α:Type}{r:Res α}{x:α}{m:Mem}(h:r.only=.ok x m):r=.ok x m:=by
 cases r with
 |ok _ _=>exact h
 |exc _ _=>cases h
 |stuck=>cases h
theorem Zci{α β:Type}{r:Res α}{f:α->Mem->Res β}(hf:∀x m e m',f x m≠.exc e m')(e:Exc)(m':Mem):r.only.bind f≠.exc e m':=by
 cases r with
 |ok x m=>exact hf x m e m'
 |exc _ _=>intro h;cases h
 |stuck=>intro h;cases h
theorem ZaK{own:Nat}{keep:List Nat}{it:E}{tg:Tg}{cs:Es}{inner:E}{env:Env}{m:Mem}(e:Exc)(m':Mem):ev call gv (.comp own keep it tg cs inner) env m≠.exc e m':=by
 unfold ev
 refine Zci (λx m0 e m'=>?_) e m'
 cases h:Z4 x m0 with
 |ok ts m1 =>
  refine Zci (λout m2 e m'=>?_) e m'
  split<;>(intro h;cases h)
 |exc _ _ =>
  unfold Z4 at h
  split at h<;>first
   |(cases h;done)
   |(split at h<;>cases h)
 |stuck=>intro h;cases h
theorem ZbL{own:Nat}{keep:List Nat}{it:E}{tg:Tg}{cs:Es}{inner:E}{env:Env}{m m':Mem}{w:W}(h:ev call gv (.comp own keep it tg cs inner) env m=.ok w m'):∃out,w=.t (.lst out):=by
 unfold ev at h
 obtain⟨_,_,_,h⟩:=Zk h
 obtain⟨_,_,_,h⟩:=Zk h
 obtain⟨out,_,_,h⟩:=Zk h
 split at h<;>cases h
 exact⟨_,rfl⟩
theorem Zb6{prog:Yx}{w:World}{A:Around}{R:Result->Shared->Prop}{s:Shared}{node:Expr}{d:Nat}{target iter:Expr}{ifs:List Expr}{it acc:Value}{env:Wb}(hg:(YbO node)[d]?=some ⟨target,iter,ifs,0⟩)(hd:(model prog w).den (.compStart node d it acc env)=(Ya3 node d it acc env).onRaise (λx=>do VG x env;Gb Yab))(hA:A.under (.compStart node d it acc env)=A)(h0:Gv (model prog w) A (.compLoop node d it acc env) R s)(h:wpAny (model prog w) A (pyIter it) (λit' s'=>Gv (model prog w) A (.compLoop node d it' acc env) R s') (notedBy (model prog w) A env λx s'=>R (.error x) s') s):
  Gv (model prog w) A (.compStart node d it acc env) R s:=by
 refine Vq ?_
 rw[hd,hA]
 refine wpAny_notedAt ?_
 unfold Ya3
 rw[hg]
 show wpAny _ _ (ask >>= _) _ _ s
 refine Yb (U3 (wpAny_ite ?_))
 split
 ·first
   |exact Yb (Yd (Yd (YK rfl h0)))
   |exact Yd (YK rfl h0)
 ·first
   |exact Yb (Ve (Yb (Uj (Yb (Uq h (λit' s' h'=>Yd (YK rfl h')) λ_ _ x=>x)))))
   |(refine Yb (Ve ?_);show wpAny _ _ (Gb iter.pos >>= _) _ _ s;exact Yb (Uj (Yb (Uq h (λit' s' h'=>Yd (YK rfl h')) λ_ _ x=>x))))
theorem Zcr{node target iter:Expr}{ifs:List Expr}{gs:List WN}{scope:Scope}{pos':Pos}{N':List Str}{own:Nat}{keep:List Nat}{it:E}{tg:Tg}{cs:Es}{inner:E}{use:Option (Value->Sem Unit)}{nw:Sem Value}{oN:Obj}{Acc:Addr->Heap->List V->Prop}(hc:X.calm=true)(S:CompSc X N' scope)(hown:N'.length=own+keep.length)(hkeep:∀(i:Nat) x,N'[own+i]?=some x->∃j,keep[i]?=some j/\X.N[j]?=some x/\(x,YX)∈scope.names)(hlocal:∀x∈scope.names,x.2=NameKind.local->scope.names.lookup x.1=some .local)(pi:PI X target iter (tI X.K call gv xr it))(hfs:∀x,Wu iter X.env x=pure x)(hcl:YbO node=⟨target,iter,ifs,0⟩::gs)(hal:oN.isFreed=false)(hd:∀it acc env,(model X.prog X.w).den (.compStart node 0 it acc env)=(Ya3 node 0 it acc env).onRaise (λx=>do VG x env;Gb Yab))(hA:∀it acc env,X.A.under (.compStart node 0 it acc env)=X.A)(hnw:∀{A:Around}{E:Value->Shared->Prop}{s:Shared}{Q:Value->Shared->Prop},Q (.ref s.heap.objs.size) { s with heap:=s.heap.push oN }->wpAny (model X.prog X.w) A nw Q E s)(h0:∀{h:Heap}{D:Addr},h.get? D=some oN->Acc D h [])(hdis:∀i∈tgS tg,i∉innS inner)(hsl:∀i∈tgS tg++innS inner,i<own){pins:List (Addr×Obj)}{s:Shared}{σ:L2.St}{H:Hp}{cm:List Addr}{m m':Mem}{env:Env}{out:List T}{Q:Value->Shared->Prop}(I:Inv X pins σ H s)(hE:EnvR X.K cm m H env σ)(M:MemR X.K cm m H)(loop:∀(cl:List (Str×Addr)) (C:Addr) (s2:Shared) (H2:Hp) (fp:List Addr) {D:Addr}{pins:List (Addr×Obj)}{s:Shared}{σ:L2.St}{H:Hp}{cm:List Addr}{m m':Mem}{env:Env}{ts:List T}{J:It}{it:Addr}{fp':List Addr}{tn:Nat->Heap->Prop},Inv (Qs X N' scope cl C s2 H2 fp) pins σ H s->FpOk (Qs X N' scope cl C s2 H2 fp) pins H D->Acc D s.heap [] ->
   Turn X.prog X.w X.K target J fp' it tn->tn 0 s.heap->(∀b∈fp',FpOk (Qs X N' scope cl C s2 H2 fp) pins H b)->D∉fp'->EnvR X.K cm m H env σ->(∀i∈tgS tg++innS inner,∀w,env[i]?≠some (some w))->MemR X.K cm m H->Src X.K cm m H J ts->Jd (turnF call gv cs inner) tg ts env m=.ok out m'->out.length<=lim ->
   Gv (model X.prog X.w) X.A (.compLoop node 0 (.ref it) (.ref D) (compEnvC scope cl C X.env)) (λr s'=>r=.ok .next/\Zi7 (Qs X N' scope cl C s2 H2 fp) (Acc D) D (tgS tg++innS inner) pins σ cm m H [] out m' s') s)(ok:ev call gv (.comp own keep it tg cs inner) env m=.ok (.t (.lst out)) m')(fin:∀(D C:Addr) (s3:Shared) (H3:Hp) (cm3:List Addr) (vs:List V),Inv X pins σ H3 s3->Acc D s3.heap vs->FpOk X pins H3 D->X.s₀.heap.objs.size<=D->X.K.lookup D=none->Ext cm m H cm3 m' H3->MemR X.K cm3 m' H3->RTs X.K cm3 m' H3 out vs->(∃mm,s3.heap.Ns C mm)->FpOk X pins H3 C->D≠C ->
   Yb3 (model X.prog X.w) X.A X.xe use Q (.ref D) C (.ok .next) s3):
  wpAny (model X.prog X.w) X.A (YaK node scope X.env pos' nw false (eval iter X.env) use) Q X.xe s:=by
 obtain⟨cl0,hclos,hcl1,hcl2⟩:=Zct (scope:=scope) (env:=X.env) λx hx=>I.ok.has x (S.free x hx)
 unfold ev at ok
 obtain⟨w1,m1,ok0,ok2⟩:=Zk ok
 have ok1:=Zfz ok0
 obtain⟨ts,m2,ok3,ok4⟩:=Zk ok2
 obtain⟨out',m3,ok5,ok6⟩:=Zk ok4
 split at ok6<;>cases ok6
 rename_i hlen
 have ok5':Jd (turnF call gv cs inner) tg ts (envC own keep env) m2=.ok out m3:=Zfz ok5
 have hz:=ZM
 refine wpAny_comprehension_free hcl hfs hclos S.kind hlocal (thn (pi pins s σ H (λJ H1=>∃cm1,Ext cm m H cm1 m1 H1/\MemR X.K cm1 m1 H1/\Src X.K cm1 m2 H1 J ts) I ⟨env,cm,m,hE,M,by
   rw[ok1]
   exact λcm1 H1 x M1=>⟨ts,m2,ok3,λJ hs=>⟨cm1,x,M1,hs⟩⟩⟩) λxv s1 h1=>thn h1 λitv s2 h2=>?_)
 obtain⟨it2,fp,tn,J,H2,rfl,I2,T2,st2,f2,cm2,x2,M2,hs2⟩:=h2
 refine hnw (ZfQ hcl1 hcl2 (λx c e=>?_) I2.ok.inj λh₁ cl hns₁ hsb₁ kc=>?_)
 ·obtain⟨v,q⟩:=I2.cell x c e
  exact Yq q.lt (by show _<=(Heap.push _ _).objs.size;rw[Y4];exact UJ _)
 dsimp only at hns₁ hsb₁ kc ⊢
 generalize hH2:s2.heap.push oN=P2 at hns₁ hsb₁ kc ⊢
 have hCs:P2.objs.size=s2.heap.objs.size+1:=by rw[<-hH2,Y4]
 have hDC:s2.heap.objs.size≠P2.objs.size:=by omega
 have below:∀b,b<s2.heap.objs.size->b≠P2.objs.size:=λb hb=>by omega
 have old:∀b o,s2.heap.get? b=some o->h₁.get? b=some o:=λb o e=>hsb₁ b o (hH2▸Yc _ e)
 have hacc:h₁.get? s2.heap.objs.size=some oN:=hsb₁ _ _ (hH2▸Yl _ hal)
 have flt:∀b∈fp,b<s2.heap.objs.size:=λb hb=>by
  obtain⟨o,e,_⟩:=T2.obj _ _ st2 b hb
  exact Yp e
 have hb3:=ZbQ M2 ok3
 have E2:EnvR X.K cm2 m2 H2 env σ:=(hE.ext x2 M M2).ext hb3.1 M2 hb3.2
 have hσl:(stC own keep σ).length=N'.length:=by unfold stC;simp[hown]
 have J0:Inv (Qs X N' scope cl P2.objs.size s2 H2 fp) [] (stC own keep σ) H2 { s2 with heap:=h₁ }:=
  ZgK (t:=s2.toks) I2 S f2 flt (by omega) hns₁ old kc hσl λi x v e1 e2=>by
   unfold stC at e2
   by_cases hi:i<own
   ·rw[Yy (by simpa using hi),Wr]at e2
    split at e2<;>cases e2
   ·rw[Yu (by simpa using hi),Wn,YJ]at e2
    have ei:N'[own+(i-own)]?=some x:=by rw[show own+(i-own)=i by omega];exact e1
    obtain⟨j,q1,q2,q3⟩:=hkeep (i-own) x ei
    rw[q1]at e2
    have e3:(σ[j]?).join=some v:=YQ e2
    refine⟨j,q2,?_,q3⟩
    cases r:σ[j]? with
    |none=>rw[r]at e3;cases e3
    |some o=>rw[r]at e3;exact congrArg some e3
 have fD:FpOk (Qs X N' scope cl P2.objs.size s2 H2 fp) [] H2 s2.heap.objs.size:=by
  refine⟨I2.hok.fresh (Yj _),hDC,λz=>?_,.inr (Yj _),λx c e z=>?_,λp hp=>absurd (show p∈([]:List (Addr×Obj))from hp) (by simp)⟩
  ·have:=I2.stkSub _ z
   rcases Ys.mp this with q|q
   ·exact absurd I2.lt (by rw[<-q];exact Y9 _)
   ·exact I2.nofs (Yj _) q
  ·rcases kc.one x c e with⟨q,_⟩|q
   ·exact absurd q (by rw[z,hCs];exact YbW.mpr (UJ _))
   ·obtain⟨v,q⟩:=I2.cell x c q
    exact absurd q.lt (by rw[z];exact Y9 _)
 have fF:∀b∈fp,FpOk (Qs X N' scope cl P2.objs.size s2 H2 fp) [] H2 b:=λb hb=>by
  refine⟨(f2 b hb).1,below b (flt b hb),λz=>?_,.inl hb,kc.ne (Yq (flt b hb) (by rw[hCs];exact UJ _)) (f2 b hb).2.2.2.2.1,λp hp=>absurd (show p∈([]:List (Addr×Obj))from hp) (by simp)⟩
  rcases Ys.mp (I2.stkSub b z)with q|q
  ·exact(f2 b hb).2.1 q
  ·exact(f2 b hb).2.2.1 q
 have st2':tn 0 h₁:=T2.keep _ _ _ st2 λb _ o e=>old b o e
 have hDf:s2.heap.objs.size∉fp:=λz=>absurd (flt _ z) (Y9 _)
 have hnone:∀i∈tgS tg++innS inner,∀w,(envC own keep env)[i]?≠some (some w):=λi hi w e=>by
  unfold envC at e
  rw[Yy (by simpa using hsl i hi),Wr]at e
  split at e<;>cases e
 have go:=loop cl P2.objs.size s2 H2 fp J0 fD (h0 hacc) T2 st2' fF hDf (envC_R E2) hnone hb3.2 hs2 ok5' hlen
 have fine:∀r s3,(r=.ok .next/\Zi7 (Qs X N' scope cl P2.objs.size s2 H2 fp) (Acc s2.heap.objs.size) s2.heap.objs.size (tgS tg++innS inner) [] (stC own keep σ) cm2 m2 H2 [] out m3 s3)->Yb3 (model X.prog X.w) X.A X.xe use Q (.ref s2.heap.objs.size) P2.objs.size r s3:=λr s3 ⟨hr,σ3,H3,cm3,vs3,J3,x3,M3,r3,a3,ag3,d3⟩=>by
  subst hr
  rw[Gy]at a3
  obtain⟨x4,M4,sm⟩:=XX M2 ok3 x3 M3
  have I3:Inv X pins σ H3 s3:=ZgJ I2 f2 J3
  have fX:∀b,s2.heap.objs.size<=b->∀H',H' b=none->FpOk X pins H' b:=λb hb H' hn=>I2.fpOk hb hn
  obtain⟨mm,hmm,_⟩:=J3.loc
  refine fin s2.heap.objs.size P2.objs.size s3 H3 cm3 vs3 I3 a3 (fX _ (Yj _) _ d3) I2.sz ?_ (x2.trans x4) M4 (Zf (λ_ _ z=>sm _ _ z) r3) ⟨mm,hmm⟩ (fX _ (by omega) _ J3.free) hDC
  cases q:X.K.lookup s2.heap.objs.size with
  |none=>rfl
  |some o=>exact absurd (Yp (I2.kIn _ _ q)) (Y9 _)
 exact U6 (Zb6 (by rw[hcl];rfl) (hd _ _ _) (hA _ _ _) go (T2.self X.A 0 { s2 with heap:=h₁ } _ _ st2' go)) fine
theorem Zeb{elt target iter:Expr}{ifs:List Expr}{gs:List WN}{scope:Scope}{pos pos':Pos}{N':List Str}{own:Nat}{keep:List Nat}{it:E}{tg:Tg}{cs:Es}{inner:E}{use:Option (Value->Sem Unit)}(hc:X.calm=true)(S:CompSc X N' scope)(hown:N'.length=own+keep.length)(hkeep:∀(i:Nat) x,N'[own+i]?=some x->∃j,keep[i]?=some j/\X.N[j]?=some x/\(x,YX)∈scope.names)(hlocal:∀x∈scope.names,x.2=NameKind.local->scope.names.lookup x.1=some .local)(pi:PI X target iter (tI X.K call gv xr it))(hfs:∀x,Wu iter X.env x=pure x)(hY:Zi6 X xr call gv N' scope elt target ifs (⟨target,iter,ifs,0⟩::gs) tg cs inner)(hdis:∀i∈tgS tg,i∉innS inner)(hsl:∀i∈tgS tg++innS inner,i<own){pins:List (Addr×Obj)}{s:Shared}{σ:L2.St}{H:Hp}{cm:List Addr}{m m':Mem}{env:Env}{out:List T}{Q:Value->Shared->Prop}(I:Inv X pins σ H s)(hE:EnvR X.K cm m H env σ)(M:MemR X.K cm m H)(ok:ev call gv (.comp own keep it tg cs inner) env m=.ok (.t (.lst out)) m')(fin:∀(D C:Addr) (s3:Shared) (H3:Hp) (cm3:List Addr) (vs:List V),Inv X pins σ (upd H3 D (.lst vs)) s3->H3 D=none->X.K.lookup D=none->Ext cm m H cm3 m' H3->MemR X.K cm3 m' H3->RTs X.K cm3 m' H3 out vs->(∃mm,s3.heap.Ns C mm)->FpOk X pins (upd H3 D (.lst vs)) C ->
   Yb3 (model X.prog X.w) X.A X.xe use Q (.ref D) C (.ok .next) s3):
  wpAny (model X.prog X.w) X.A (YaK (.ListComp elt (⟨target,iter,ifs,0⟩::gs) scope pos) scope X.env pos' (newList []) false (eval iter X.env) use) Q X.xe s:=
 Zcr (node:=.ListComp elt (⟨target,iter,ifs,0⟩::gs) scope pos) (oN:={ cls:=.type "list",dict:=none,data:=.seq ([]:List Value).toArray }) (Acc:=λD h vs=>AccAt h D vs) hc S hown hkeep hlocal pi hfs rfl rfl (λ_ _ _=>rfl) (λ_ _ _=>rfl) (λh=>YZ h) (λh=>⟨Wd _,[],0,.nil,h⟩) hdis hsl I hE M
  (λcl C s2 H2 fp D pins s σ H cm m m' env ts J it fp' tn J0 fD h0 hT ht hf hDf hE hn M hs ok hl=>let⟨pg,pt,hin⟩:=hY cl C s2 H2 fp
   Zia (Y:=Qs X N' scope cl C s2 H2 fp) hc (λ_ _ z=>z) inner 0 target iter ifs tg cs rfl pg pt hin hdis (λi hi=>by
    show i<N'.length
    rw[hown]
    have:=hsl i hi
    omega) J0 fD h0 hT ht hf hDf hE hn M hs ok (by rw[UT,Nat.zero_add];exact hl)) ok
  λD C s3 H3 cm3 vs I3 a3 f3 _ k3 x3 M3 r3 n3 c3 ne=>fin D C s3 H3 cm3 vs (Inv.adopt I3 f3 a3) f3.1 k3 x3 M3 r3 n3 ⟨by rw[Zm (WR ne)];exact c3.1,c3.2⟩
structure CompK (X:Cx) (xr:XR) (call:Nat->List W->Mem->Res W) (gv:List T) (N':List Str) (scope:Scope) (own:Nat) (keep:List Nat) (elt target iter:Expr) (ifs:List Expr) (gs:List WN) (it:E) (tg:Tg) (cs:Es) (inner:E):Prop where
 sc:CompSc X N' scope
 hown:N'.length=own+keep.length
 hkeep:∀(i:Nat) x,N'[own+i]?=some x->∃j,keep[i]?=some j/\X.N[j]?=some x/\(x,YX)∈scope.names
 pi:PI X target iter (tI X.K call gv xr it)
 fs:∀x,Wu iter X.env x=pure x
 ins:Zi6 X xr call gv N' scope elt target ifs (⟨target,iter,ifs,0⟩::gs) tg cs inner
 dis:∀i∈tgS tg,i∉innS inner
 slt:∀i∈tgS tg++innS inner,i<own
variable{elt target iter:Expr}{ifs:List Expr}{gs:List WN}{scope:Scope}{pos:Pos}{N':List Str}{own:Nat}{keep:List Nat}{it:E}{tg:Tg}{cs:Es}{inner:E}
theorem Ju(hc:X.calm=true)(k:CompK X xr0 call gv N' scope own keep elt target iter ifs gs it tg cs inner):
  PE X (.ListComp elt (⟨target,iter,ifs,0⟩::gs) scope pos) (tE X.K call gv xr (.comp own keep it tg cs inner)):=by
 rintro pins s σ H Q I ⟨env,cm,m,hE,M,ho⟩
 cases h:ev call gv (.comp own keep it tg cs inner) env m with
 |stuck=>rw[h]at ho;exact ho.elim
 |exc e m'=>exact absurd h (ZaK e m')
 |ok w m' =>
  obtain⟨out,rfl⟩:=ZbL h
  rw[h]at ho
  rw[eval_ListComp]
  refine Zeb (use:=none) hc k.sc k.hown k.hkeep (λx hx e=>by rw[k.sc.look x hx,e]) k.pi k.fs k.ins k.dis k.slt I hE M h ?_
  rintro D C s3 H3 cm3 vs I3 hD _ x3 M3 r3 ⟨mm,hm⟩ fC
  refine⟨mm,hm,λh' hs'=>?_⟩
  have I4:Inv X pins σ (upd H3 D (.lst vs)) { s3 with heap:=h' }:=I3.turned (t':=s3.toks) (it:=C) (λb o hb e=>(hs'.2 b hb).trans e) fC.1 fC.2.1 fC.2.2.2.1 fC.2.2.2.2.1 fC.2.2.2.2.2
  exact⟨.ref D,_,I4,rfl,OkR.to ho (x3.trans (.new hD)) (M3.new hD) _ (RT.newLst M3 r3 hD)⟩
theorem Zkc{i:Nat}{x:Str}{px spos:Pos}(hc:X.calm=true)(k:CompK X xr0 call gv N' scope own keep elt target iter ifs gs it tg cs inner)(hN:X.N.Nodup)(hi:X.N[i]?=some x)(hx:X.env.scope.names.lookup x=some .local)(hsw:V2 (.ListComp elt (⟨target,iter,ifs,0⟩::gs) scope pos) (some (.Name x px)) spos.line X.env=pure true){pins:List (Addr×Obj)}{s:Shared}{σ:L2.St}{H:Hp}{cm:List Addr}{m m':Mem}{env:Env}{out:List T}{D:Ends}(I:Inv X pins σ H s)(hE:EnvR X.K cm m H env σ)(M:MemR X.K cm m H)(ok:ev call gv (.comp own keep it tg cs inner) env m=.ok (.t (.lst out)) m')(q:∀(p:Addr) (H3:Hp) (cm3:List Addr) (vs:List V),H3 p=none->X.K.lookup p=none->Ext cm m H cm3 m' H3->MemR X.K cm3 m' H3->RTs X.K cm3 m' H3 out vs->D.nx (σ.set i (some (.ref p))) (upd H3 p (.lst vs))):
  wpAny (model X.prog X.w) X.A (exec (.Assign [.Name x px] (.ListComp elt (⟨target,iter,ifs,0⟩::gs) scope pos) spos) X.env) (SP X pins D) X.xe s:=by
 rw[exec_Assign_Name_used _ _ _ _ hsw]
 refine Yb (Uj (Yb ?_))
 show wpAny _ _ (do let _ <-YaK (.ListComp elt (⟨target,iter,ifs,0⟩::gs) scope pos) scope X.env _ (newList []) false (eval iter X.env) (some (assign (.Name x px) X.env))) _ _ s
 refine Yb (thn (Zeb (use:=some (assign (.Name x px) X.env)) (Q:=λ_ s'=>SP X pins D .next s') hc k.sc k.hown k.hkeep (λx hx e=>by rw[k.sc.look x hx,e]) k.pi k.fs k.ins k.dis k.slt I hE M ok ?_) λ_ s' h=>Yd (Yd h))
 rintro p C s3 H3 cm3 vs I3 hD hK x3 M3 r3 ⟨mm,hm⟩ fC
 show wpAny _ _ (assign (.Name x px) X.env (.ref p)) _ _ s3
 refine wpAny_assign_Name (Zdz I3 hN hi (.inl hx) (v:=.ref p) rfl (λs4 I4 ⟨a,hs4,ha⟩=>?_) (.inr hx))
 have hac:C≠a:=by
  rcases ha with rfl|ha
  ·exact fC.2.1
  ·exact λz=>fC.2.2.2.2.1 x a ha z.symm
 refine⟨mm,hm.sameBut hs4 hac,λh' hs'=>?_⟩
 have I5:Inv X pins (σ.set i (some (.ref p))) (upd H3 p (.lst vs)) { s4 with heap:=h' }:=I4.turned (t':=s4.toks) (it:=C) (λb o hb e=>(hs'.2 b hb).trans e) fC.1 fC.2.1 fC.2.2.2.1 fC.2.2.2.2.1 fC.2.2.2.2.2
 exact⟨_,_,I5,q p H3 cm3 vs hD hK x3 M3 r3⟩
end
theorem Zec{elt:Expr}{gens:List WN}{scope:Scope}{pos:Pos}{d:Nat}{target iter:Expr}{ifs:List Expr}{it acc:Value}{env:Wb}(hg:gens[d]?=some ⟨target,iter,ifs,0⟩)(hn:gens[d+1]?=none):
  Vs (.SetComp elt gens scope pos) d it acc env=(do
   Gb iter.pos
   match <-pyNext it with
   |none=>pure (.done .next)
   |some v =>
    UG target it v
    assign target env v
    let mut ok:=true
    for c in ifs do
     if ok then ok <-isTrue c env (eval c env)
    if ok then
     (do let v <-eval elt env;Gb elt.pos;let _ <-call (.builtin "set.add") [acc,v])
    again (.compLoop (.SetComp elt gens scope pos) d it acc env)):=by
 unfold Vs
 simp only[hg,hn]
 rfl
noncomputable abbrev ledS(w:World):Bool:=!w.params.followText "set-order"
section
variable{xr:XR}{X:Cx}{call:Nat->List W->Mem->Res W}{gv:List T}
theorem Zdt{P:Yx}{w:World}{A:Around}{E:Value->Shared->Prop}{s:Shared}{Q:Value->Shared->Prop}(h:Q (.ref s.heap.objs.size) { s with heap:=s.heap.push { cls:=.type "set",dict:=none,data:=.set #[] 0 (.fresh 0 0 (ledS w)) } }):wpAny (model P w) A (newSet (.type "set")) Q E s:=by
 unfold newSet YbU
 refine Yb (Yb (U3 (Yd ?_)))
 dsimp only
 simp only[newObj]
 exact Yb (YbM (Yd h))
end
section
variable{K:Frag}{cm:List Addr}{m:Mem}{H:Hp}{xr:XR}{X:Cx}{call:Nat->List W->Mem->Res W}{gv:List T}
theorem RTs.nil_iff{ts:List T}{vs:List V}(h:RTs K cm m H ts vs):(!ts.isEmpty)=!vs.isEmpty:=by cases h<;>rfl
theorem tru_of{w:W}{v:V}{t:T}(M:MemR K cm m H)(r:RW K cm m H w v)(e:view w m=some t)(f:fitT t=true):TruV K v H (Zfe t):=by
 have hz:=ZM
 cases t with
 |lst ts =>
  obtain⟨a,vs,rfl,h1,h2⟩:=Zq M r e
  exact .inl ⟨vs,.of h1,h2.nil_iff⟩
 |non=>cases(Zd r e (λ_ z=>by cases z)).vnon;exact rfl
 |bl b=>cases(Zd r e (λ_ z=>by cases z)).vbl;exact rfl
 |int i=>cases(Zd r e (λ_ z=>by cases z)).vint;exact rfl
 |str cs =>
  cases(Zd r e (λ_ z=>by cases z)).vstr
  have hl:cs.length<=lim:=of_decide_eq_true f
  refine⟨by rw[Xn];omega,?_⟩
  rw[Xn]
  cases cs with
  |nil=>rfl
  |cons c cs =>
   show true=_
   symm
   simp
   omega
 |tup ts =>
  obtain⟨a,vs,rfl,h1,h2⟩:=(Zd r e (λ_ z=>by cases z)).itup
  exact .inr (.inl ⟨vs,h1,h2.nil_iff⟩)
 |dct ks ts =>
  have h:=Zd r e (λ_ z=>by cases z)
  cases h with
  |@dct a ks ts vs h1 h2 h3 h4 h5 =>
   refine .inr (.inr ⟨_,h1,?_⟩)
   cases ks with
   |nil=>rfl
   |cons k ks =>
    cases vs with
    |nil=>simp at h3
    |cons v vs=>rfl
 |scr ns =>
  obtain⟨a,rfl,h1⟩:=(Zd r e (λ_ z=>by cases z)).vscr
  exact .inl ⟨_,h1.sq,by cases ns<;>rfl⟩
theorem Zg8{w:W}{k:Bool->List Addr->Mem->Hp->Prop}(h:OkR K (QZ w m) xr cm m H k):∃t,view w m=some t/\fitT t=true/\OkR K (.ok (Zfe t) m) xr cm m H k:=by
 unfold QZ at h
 split at h
 ·split at h
  ·exact⟨_,‹_›,‹_›,h⟩
  ·exact h.elim
 ·exact h.elim
theorem Zdo{w:W}{k:Bool->List Addr->Mem->Hp->Prop}(h:OkR K (Zel w m) xr cm m H k):∃b,w=.t (.bl b)/\OkR K (.ok b m) xr cm m H k:=by
 unfold Zel at h
 split at h
 ·exact⟨_,rfl,h⟩
 ·exact h.elim
theorem pt_of{e:Expr}{a:E}(h:PE X e (tE X.K call gv xr a))(he:∀whole,isTrue e X.env whole=(do let v <-whole;Gb e.pos;Vh [v] (truthy v))):PT X e (tT X.K call gv xr a):=by
 refine PT.mono (Zjn h he) λσ H Q ⟨env,cm,m,hE,M,ho⟩=>⟨env,cm,m,hE,M,ho.bind.mono λw cm1 m1 H1 x1 M1 o1 v rv=>?_⟩
 obtain⟨t,e1,f1,o2⟩:=Zg8 o1
 exact⟨Zfe t,tru_of M1 rv e1 f1,OkR.now o2 M1⟩
theorem ZlE{a b:Expr}{rest:List Expr}{pos:Pos}{ea eb:E}(ha:PE X a (tE X.K call gv xr ea))(hb:PE X (.BoolOp .And (b::rest) pos) (tE X.K call gv xr eb)):PE X (.BoolOp .And (a::b::rest) pos) (tE X.K call gv xr (.and ea eb)):=by
 refine PE.mono (pe_and ha hb) ?_
 rintro σ H Q ⟨env,cm,m,hE,M,ho⟩
 unfold ev at ho
 refine⟨env,cm,m,hE,M,ho.bind.mono λw cm1 m1 H1 x1 M1 o1 v rv=>?_⟩
 obtain⟨c,rfl,o2⟩:=Zdo o1.bind
 cases RT.vbl rv
 have o3:=OkR.now o2 M1
 refine⟨c,rfl,?_⟩
 cases c with
 |true=>exact iteT ⟨env,cm1,m1,hE.ext x1 M M1,M1,o3⟩
 |false=>exact iteF (OkR.now o3 M1 _ (.bl false))
theorem pe_orW{a b:Expr}{rest:List Expr}{pos:Pos}{ea eb:E}(ha:PE X a (tE X.K call gv xr ea))(hb:PE X (.BoolOp .Or (b::rest) pos) (tE X.K call gv xr eb)):PE X (.BoolOp .Or (a::b::rest) pos) (tE X.K call gv xr (.or ea eb)):=by
 refine PE.mono (pe_or ha hb) ?_
 rintro σ H Q ⟨env,cm,m,hE,M,ho⟩
 unfold ev at ho
 refine⟨env,cm,m,hE,M,ho.bind.mono λw cm1 m1 H1 x1 M1 o1 v rv=>?_⟩
 obtain⟨c,rfl,o2⟩:=Zdo o1.bind
 cases RT.vbl rv
 have o3:=OkR.now o2 M1
 refine⟨c,rfl,?_⟩
 cases c with
 |true=>exact iteT (OkR.now o3 M1 _ (.bl true))
 |false=>exact iteF ⟨env,cm1,m1,hE.ext x1 M M1,M1,o3⟩
theorem Zln{a:Expr}{pos:Pos}{ea:E}(ha:PE X a (tE X.K call gv xr ea)):PE X (.UnaryOp .Not a pos) (tE X.K call gv xr (.not ea)):=by
 refine PE.mono (pe_not ha) ?_
 rintro σ H Q ⟨env,cm,m,hE,M,ho⟩
 unfold ev at ho
 refine⟨env,cm,m,hE,M,ho.bind.mono λw cm1 m1 H1 x1 M1 o1 v rv=>?_⟩
 obtain⟨c,rfl,o2⟩:=Zdo o1.bind
 cases RT.vbl rv
 exact⟨c,rfl,OkR.now (OkR.now o2 M1) M1 _ (.bl _)⟩
theorem Zha{a:E}{σ:L2.St}{H:Hp}{env:Env}{cm:List Addr}{m:Mem}{f:Bool->Mem->Res W}{Q:Bool->Hp->Prop}(hE:EnvR K cm m H env σ)(M:MemR K cm m H)(ho:OkR K (((ev call gv a env m).bind λx m=>(Zel x m).bind f).bind QZ) xr cm m H λk _ _ H'=>Q k H'):
  tT K call gv xr a σ H λc H1=>∃cm1 m1,Ext cm m H cm1 m1 H1/\MemR K cm1 m1 H1/\OkR K ((f c m1).bind QZ) xr cm1 m1 H1 λk _ _ H'=>Q k H':=by
 refine⟨env,cm,m,hE,M,?_⟩
 cases h:ev call gv a env m with
 |stuck=>rw[h]at ho;exact ho.elim
 |exc e m'=>rw[h]at ho;exact ho
 |ok w m1 =>
  rw[h]at ho
  have ho':OkR K (((Zel w m1).bind f).bind QZ) xr cm m H λk _ _ H'=>Q k H':=ho
  cases w with
  |f a=>exact ho'.elim
  |x _ _ _=>exact ho'.elim
  |o _ _ _=>exact ho'.elim
  |u=>exact ho'.elim
  |c i=>exact ho'.elim
  |t x =>
   cases x with
   |bl b=>exact λcm1 H1 x1 M1=>⟨cm1,m1,x1,M1,OkR.shift ho' x1⟩
   |_=>exact ho'.elim
theorem pw_orW{a b:Expr}{rest:List Expr}{pos:Pos}{ea eb:E}(ha:PT X a (tT X.K call gv xr ea))(hb:PW X (.BoolOp .Or (b::rest) pos) (tT X.K call gv xr eb)):PW X (.BoolOp .Or (a::b::rest) pos) (tT X.K call gv xr (.or ea eb)):=by
 rintro whole pins s σ H Q I ⟨env,cm,m,hE,M,ho⟩
 unfold ev at ho
 obtain⟨env',cm',m',hE',M',ho'⟩:=Zha hE M ho
 refine pw_or ha hb whole pins s σ H Q I ⟨env',cm',m',hE',M',ho'.mono λc cm1 m1 H1 _ _ ⟨cm2,m2,x2,M2,o2⟩=>?_⟩
 cases c with
 |true=>exact iteT (OkR.now (show OkR X.K (.ok true m2) xr cm2 m2 H1 _ from o2) M2)
 |false=>exact iteF ⟨env,cm2,m2,hE.ext x2 M M2,M2,o2⟩
theorem Zk7{a:Expr}{pos:Pos}{ea:E}(ha:PT X a (tT X.K call gv xr ea)):PT X (.UnaryOp .Not a pos) (tT X.K call gv xr (.not ea)):=by
 refine PT.mono (pt_not ha) ?_
 rintro σ H Q ⟨env,cm,m,hE,M,ho⟩
 unfold ev at ho
 obtain⟨env',cm',m',hE',M',ho'⟩:=Zha hE M ho
 exact⟨env',cm',m',hE',M',ho'.mono λc cm1 m1 H1 _ _ ⟨cm2,m2,x2,M2,o2⟩=>OkR.now (show OkR X.K (.ok (!c) m2) xr cm2 m2 H1 _ from o2) M2⟩
end
end Mi
namespace Mi
open PySem PySem.Spec PyProof.Rows L2
open Builtin
theorem Za6:fillsNumberSlot (.type "tuple") "mul" = pure false:=
 PySem.fillsNumberSlot_seq (id:="tuple.__mul__") (r:=some (.builtin "tuple.__rmul__")) F.slot_tuple_mul.lookup (by decide +kernel) F.slot_tuple_rmul.lookup (by decide +kernel)
theorem ZdL:seqRepeat? (.type "tuple")=pure (some (.builtin "tuple.__mul__")):=by
 unfold seqRepeat?
 rw[PySem.seqSlot_of (T:="tuple") (name:="__mul__") (id:="tuple.__mul__") F.slot_tuple_mul.lookup (by decide +kernel),PySem.seqSlot_of (T:="tuple") (name:="__rmul__") (id:="tuple.__rmul__") F.slot_tuple_rmul.lookup (by decide +kernel)]
 rfl
theorem Zf4(a:Int)(t:Tok)(l:Addr)(items:Array Value)(n:Nat)(dd:Option Addr)(sl:Array (Option Value)):
  Meets (Builtin.«int.__rmul__» ⟨[.int a t,.ref l],[]⟩) (λ_ R s=>s.heap.get? l=some { cls:=.type "tuple",dict:=dd,data:=.seq items n,slots:=sl }/\R (.ok (.ret Value.notImplemented)) s):=
 .of_wp λprog w A R s h=>by obtain⟨hp,g,d,tk,os⟩:=s;obtain⟨hl,h⟩:=h;wp_walk;exact⟨_,rfl,h⟩
theorem tmul0(l:Addr)(items:Array Value)(n:Nat)(dd:Option Addr)(sl:Array (Option Value))(k:Int)(u:Tok)(h1:(decide (k < -(2^63)) || decide (k ≥ 2^63))=false)(hc:(items.isEmpty || k==1)=true):
  Meets (Builtin.«tuple.__mul__» ⟨[.ref l,.int k u],[]⟩) (λ_ R s=>s.heap.get? l=some { cls:=.type "tuple",dict:=dd,data:=.seq items n,slots:=sl }/\R (.ok (.ret (Y5 l))) s):=
 .of_wp λprog w A R s h=>by obtain⟨hp,g,d,tk,os⟩:=s;obtain⟨hl,h⟩:=h;have f1:=YaQ;have f2:=Vg;wp_walk;refine Yac (decide_eq_false (Vy.mp h1)) ?_;wp_walk using Yad hl;exact⟨_,rfl,h⟩
theorem tmul1(l:Addr)(items:Array Value)(n:Nat)(dd:Option Addr)(sl:Array (Option Value))(k:Int)(u:Tok)(h1:(decide (k < -(2^63)) || decide (k ≥ 2^63))=false)(hc:¬(items.isEmpty || k==1)=true)(hc1:(decide (k<=0) || items.isEmpty)=true):
  Meets (Builtin.«tuple.__mul__» ⟨[.ref l,.int k u],[]⟩) (λ_ R s=>s.heap.get? l=some { cls:=.type "tuple",dict:=dd,data:=.seq items n,slots:=sl }/\R (.ok (.ret (Y5 s.heap.objs.size))) { s with heap:=s.heap.push { cls:=G7 "tuple",data:=Data.seq #[] },toks:=s.toks }):=
 .of_wp λprog w A R s h=>by obtain⟨hp,g,d,tk,os⟩:=s;obtain⟨hl,h⟩:=h;have f1:=YaQ;have f2:=Vg;wp_walk;refine Yac (decide_eq_false (Vy.mp h1)) ?_;wp_walk using Yad hl;exact⟨_,rfl,h⟩
theorem tmul2(l:Addr)(items:Array Value)(n:Nat)(dd:Option Addr)(sl:Array (Option Value))(k:Int)(u:Tok)(h1:(decide (k < -(2^63)) || decide (k ≥ 2^63))=false)(hc:¬(items.isEmpty || k==1)=true)(hc1:¬(decide (k<=0) || items.isEmpty)=true)(hc2:¬(items.size:Int)*k>(2^63-1) / 8)(hc3:¬Tuple.tupleTooMany ((items.size:Int)*k)=true)(hz:(Yat (λx1 x2=>x1++x2) #[] (Yn k.toNat items)).size<=YC):
  Meets (Builtin.«tuple.__mul__» ⟨[.ref l,.int k u],[]⟩) (λ_ R s=>s.heap.get? l=some { cls:=.type "tuple",dict:=dd,data:=.seq items n,slots:=sl }/\R (.ok (.ret (Y5 s.heap.objs.size))) { s with heap:=s.heap.push { cls:=G7 "tuple",data:=Data.seq (Yat (λx1 x2=>x1++x2) #[] (Yn k.toNat items)) },toks:=s.toks }):=
 .of_wp λprog w A R s h=>by obtain⟨hp,g,d,tk,os⟩:=s;obtain⟨hl,h⟩:=h;have f1:=YaQ;have f2:=Vg;wp_walk;refine Yac (decide_eq_false (Vy.mp h1)) ?_;wp_walk using Yad hl;refine Yac (decide_eq_false hc2) ?_;wp_walk using Yad hl;exact⟨_,rfl,h⟩
section
variable{X:Cx}
theorem ZfV{n:Nat}(h:n<=YC):¬Tuple.tupleTooMany (n:Int)=true:=by
 unfold Tuple.tupleTooMany
 intro hc
 have:=of_decide_eq_true hc
 have e:=Uh
 omega
theorem ZlF:OpR X (WW .Mult) (λx y H Q=>∃l k xs,x=.ref l/\y=.int k/\SqT X.K H l xs/\(-(2^63)<=k/\k<2^63)/\xs.length*k.toNat<=YC/\((xs=[]∨k=1)->Q (.ref l) H) /\
  (¬(xs=[]∨k=1)->∀p,H p=none->Q (.ref p) (upd H p (.tup (Yn k.toNat xs).flatten)))):=by
 intro pins s σ H x y v u Q I rx ry h
 obtain⟨l,k,xs,rfl,rfl,hH,⟨h1,h2⟩,hz,q1,q2⟩:=h
 cases rx
 obtain⟨t,rfl⟩:=ry
 obtain⟨its,r,⟨⟨cls,dd,data,sl⟩,ho,hc,n,hd⟩,hz2⟩:=I.tuple hH
 simp only at hc hd
 subst hc hd
 have hl:=r.length
 have g1:(decide (k < -(2^63)) || decide (k ≥ 2^63))=false:=by
  rw[decide_eq_false (by omega),decide_eq_false (by omega)];rfl
 have road:∀{Q':Value->Shared->Prop},wpAny (model X.prog X.w) X.A (call (.builtin "tuple.__mul__") [.ref l,.int k t]) Q' X.xe s->wpAny (model X.prog X.w) X.A (WW .Mult (.ref l) (.int k t)) Q' X.xe s:=λhq =>
  wpAny_binaryOp_repeat_ref (T:="tuple") (U:="int") (by decide) ⟨_,ho,rfl⟩ (λs'=>Ya5 s' k t) Za6 F.fills_int_mul V5 ZdL F.slot_int_index.lookup
   (Vc V5 (Ya5 s k t) F.entry_int_rmul (F.args_int_rmul_2 _ _) (Zf4 k t l its.toArray n dd sl) ⟨ho,rfl,⟨_,ho,rfl⟩,hq⟩)
 refine road ?_
 by_cases hc:xs=[]∨k=1
 ·have g2:(its.toArray.isEmpty || k==1)=true:=by
   rcases hc with rfl|rfl
   ·cases r;rfl
   ·simp
  exact Vc YaR ⟨_,ho,rfl⟩ YaB (Yal _ _) (tmul0 l its.toArray n dd sl k t g1 g2) ⟨ho,.ref l,H,I,rfl,q1 hc⟩
 ·have hne:its≠[]:=λe=>hc (.inl (r.nil_iff.mp e))
  have g2:¬(its.toArray.isEmpty || k==1)=true:=by
   intro hh
   rw[W9]at hh
   rcases hh with hh|hh
   ·exact hne (by simpa using hh)
   ·exact hc (.inr (eq_of_beq hh))
  have fin:∀arr:Array Value,arr=(Yn k.toNat its).flatten.toArray->EP X pins σ Q (.ref s.heap.objs.size) { s with heap:=s.heap.push { cls:=.type "tuple",data:=.seq arr } }:=λarr e=>by
   subst e
   refine⟨.ref s.heap.objs.size,_,I.laid (t':=s.toks) (o:=.tup (Yn k.toNat xs).flatten) (λb ob q=>Yc _ q) (Yj _) ?_,rfl,q2 hc _ (I.hok.fresh (Yj _))⟩
   exact⟨by rw[len_rep,YbA];exact hz,_,r.rep k.toNat,TupP.new _ _⟩
  by_cases h0:k<=0
  ·have g3:(decide (k<=0) || its.toArray.isEmpty)=true:=by rw[decide_eq_true h0];rfl
   refine Vc YaR ⟨_,ho,rfl⟩ YaB (Yal _ _) (tmul1 l its.toArray n dd sl k t g1 g2 g3) ⟨ho,fin #[] ?_⟩
   have:k.toNat=0:=by omega
   rw[this];rfl
  ·have g3:¬(decide (k<=0) || its.toArray.isEmpty)=true:=by
    intro hh
    rw[W9]at hh
    rcases hh with hh|hh
    ·exact h0 (of_decide_eq_true hh)
    ·exact hne (by simpa using hh)
   have hk:(k.toNat:Int)=k:=by omega
   have hs:(its.toArray.size:Int)*k=((xs.length*k.toNat:Nat):Int):=by
    rw[Yk,<-hl,Int.natCast_mul,hk]
   have hsl:(YC:Nat)=16777216:=Uh
   have hf:Yat (λx1 x2=>x1++x2) #[] (Yn k.toNat its.toArray)=(Yn k.toNat its).flatten.toArray:=by
    have:=foldl_rep its k.toNat []
    rw[Gy]at this
    exact this
   refine Vc YaR ⟨_,ho,rfl⟩ YaB (Yal _ _) (tmul2 l its.toArray n dd sl k t g1 g2 g3 (by rw[hs];omega) (by rw[hs];exact ZfV hz) ?_) ⟨ho,fin _ hf⟩
   rw[hf,Yk,len_rep,<-hl,YbA]
   exact hz
end
end Mi
namespace Mi
open PySem PySem.Spec PyProof.Rows L2
section
variable{K:Frag}{cm:List Addr}{m:Mem}{H:Hp}{xr:XR}{X:Cx}{call:Nat->List W->Mem->Res W}{gv:List T}
theorem Zlh{i:Nat}{x:Str}{pos:Pos}(hN:X.N[i]?=some x)(hv:Vis X.env.scope x)(hd:(x==("__debug__" : Str))=false)(hcd:(x==("__classdict__" : Str))=false):PE X (.Name x pos) (tE X.K call gv xr (.var i)):=by
 refine PE.mono (Zkz hN hv hd hcd) ?_
 rintro σ H Q ⟨env,cm,m,hE,M,ho⟩
 unfold ev at ho
 split at ho
 ·rename_i w e
  obtain⟨v,h1,h2⟩:=hE i w e
  exact⟨v,h1,OkR.now ho M v h2⟩
 ·exact ho.elim
noncomputable def JM(K:Frag)(mg:Str->Option Value)(x:Str)(t:T):Prop:=∃u v,mg x=some u/\RelV v u/\∀cm m H,RT K cm m H t v
theorem ZaT{k:Nat}{x:Str}{t:T}{pos:Pos}(hg:Gl X x)(hk:gv[k]?=some t)(ok:JM X.K X.mg x t)(hd:(x==("__debug__" : Str))=false):PE X (.Name x pos) (tE X.K call gv xr (.gl k)):=by
 obtain⟨u,v,h1,h2,h3⟩:=ok
 refine PE.mono (Qt hg h1 h2 hd) ?_
 rintro σ H Q ⟨env,cm,m,hE,M,ho⟩
 unfold ev at ho
 rw[hk]at ho
 exact OkR.now (a:=W.t t) ho M v (h3 cm m H)
theorem Zlw{i:Int}{j pos}:PE X (.Constant (.int i) j pos) (tE X.K call gv xr (.con (.int i))):=PE.mono pe_int λσ H Q ⟨env,cm,m,hE,M,ho⟩=>by
 unfold ev at ho
 exact OkR.now ho M _ (.int i)
theorem pe_blW{b:Bool}{j pos}:PE X (.Constant (.bool b) j pos) (tE X.K call gv xr (.con (.bl b))):=PE.mono pe_bl λσ H Q ⟨env,cm,m,hE,M,ho⟩=>by
 unfold ev at ho
 exact OkR.now ho M _ (.bl b)
theorem Zlo{j pos}:PE X (.Constant .none j pos) (tE X.K call gv xr (.con .non)):=PE.mono pe_non λσ H Q ⟨env,cm,m,hE,M,ho⟩=>by
 unfold ev at ho
 exact OkR.now ho M _ .non
theorem Zhe{x:Str}{cs:List Nat}(h:x.cps.toList=cs):x=⟨cs.toArray⟩:=by
 subst h
 cases x
 simp
theorem Zlj{x:Str}{cs:List Nat}{j pos}(h:x.cps.toList=cs):PE X (.Constant (.str x) j pos) (tE X.K call gv xr (.con (.str cs))):=PE.mono pe_str λσ H Q ⟨env,cm,m,hE,M,ho⟩=>by
 unfold ev at ho
 have:=OkR.now ho M _ (.str cs)
 rw[Zhe h]
 exact this
theorem ZfC(cs:List Nat):∀(n:Nat) (acc:Array Nat),(Yn n cs.toArray).foldl (·++·) acc=acc++(Yn n cs).flatten.toArray
 |0,acc=>by simp
 |n+1,acc=>by
  rw[WD,V4,ZfC cs n,WD,Ux]
  apply Array.toList_inj.mp
  simp
theorem ZjR{cs:List Nat}{k:Int}(h:0<=k):Txt.mul ⟨cs.toArray⟩ k=⟨(repT cs k.toNat).toArray⟩:=by
 unfold Txt.mul repT
 by_cases h1:k<1
 ·have:k=0:=by omega
  subst this
  rw[if_pos h1]
  rfl
 ·rw[if_neg h1]
  by_cases h2:(k==1 || (⟨cs.toArray⟩:Str).length==0)=true
  ·rw[if_pos h2]
   rcases W9 _ _▸h2 with h3|h3
   ·have:k=1:=eq_of_beq h3
    subst this
    simp
   ·have hl:cs.toArray.size=0:=eq_of_beq h3
    have:cs=[]:=by simpa using hl
    subst this
    simp
  ·rw[if_neg h2,ZfC]
   simp
theorem mul_fits{cs:List Nat}{k:Int}(h:0<=k/\k<=64)(hl:cs.length<=1000):MulOk ⟨cs.toArray⟩ k:=by
 have e:(⟨cs.toArray⟩:Str).length=cs.length:=by show cs.toArray.size=_;simp
 have hk:k.toNat<=64:=by omega
 have hm:cs.length*k.toNat<=1000*64:=Nat.mul_le_mul hl hk
 refine⟨?_,λh1 _=>?_,λh1 _=>?_⟩
 ·have a:¬k < -(2^63:Int):=by omega
  have b:¬k ≥ (2^63:Int):=by omega
  simp only[a,b,decide_false,Bool.or_self]
 ·rw[e]
  have:(1000:Int)<=(2^63-1) / k:=(Int.le_ediv_iff_mul_le (by omega)).mpr (by omega)
  omega
 ·rw[e]
  unfold Builtin.Str.tooLong
  have:=ZM
  unfold lim at this
  exact decide_eq_false (by omega)
theorem Zgn:OpR X (WW .Mult) (r2 X.K xr (fBin .Mult)):=by
 rintro pins s σ H x y v u Q I rx ry ⟨cm,m,a,b,M,ra,rb,ho⟩
 obtain⟨t,e,ho⟩:=Ql ho
 obtain⟨ta,tb,ea,eb,e⟩:=Zb9 e
 change mulT ta tb=some t at e
 unfold mulT at e
 split at e
 rotate_left
 ·cases e
 rename_i k
 split at e
 ·split at e<;>cases e
  cases(Zd ra ea (λ_ z=>by cases z)).vint
  cases(Zd rb eb (λ_ z=>by cases z)).vint
  exact ZlI pins s σ H _ _ v u Q I rx ry ⟨_,_,rfl,rfl,‹_›,ans ho M (.int _)⟩
 ·split at e<;>cases e
  rename_i ts hc
  obtain⟨p,vs,rfl,h1,r1⟩:=(Zd ra ea (λ_ z=>by cases z)).itup
  cases(Zd rb eb (λ_ z=>by cases z)).vint
  have l1:=r1.length
  have hz:=ZM
  have hl:(lim:Int)<2^63:=by unfold lim;decide
  refine ZlF pins s σ H _ _ v u Q I rx ry ⟨p,_,vs,rfl,rfl,h1,by omega,by rw[<-l1];omega,λhq=>?_,λ_ l hl=>Zb1 ho M (Zaw r1 _) hl⟩
  have e:repT ts k.toNat=ts:=by
   rcases hq with rfl|rfl
   ·cases r1;simp[repT]
   ·simp[repT]
  rw[e]at ho
  exact ans ho M (.mtup h1 r1)
 ·split at e<;>cases e
  rename_i hc
  obtain⟨p,vs,rfl,h1,r1⟩:=Zq M ra ea
  cases(Zd rb eb (λ_ z=>by cases z)).vint
  have l1:=r1.length
  have hz:=ZM
  have hl:(lim:Int)<2^63:=by unfold lim;decide
  exact op_rep pins s σ H _ _ v u Q I rx ry ⟨p,_,vs,rfl,rfl,h1,by omega,by omega,by rw[<-l1];omega,λl hl=>Zai ho M (Zaw r1 _) hl⟩
 ·split at e<;>cases e
  rename_i cs hc
  cases(Zd ra ea (λ_ z=>by cases z)).vstr
  cases(Zd rb eb (λ_ z=>by cases z)).vint
  obtain⟨tx,rfl⟩:=rx
  obtain⟨ty,rfl⟩:=ry
  refine SB.mul (mul_fits hc.1 hc.2) λt' k'=>⟨.str ⟨(repT cs k.toNat).toArray⟩,H,I.tok _,⟨t',?_⟩,ans ho M (.str _)⟩
  rw[ZjR hc.1.1]
 all_goals cases e
theorem op_no{op:Yag}(h:∀x y,binT op x y=none):OpR X (WW op) (r2 X.K xr (fBin op)):=by
 rintro pins s σ H x y v u Q I rx ry ⟨cm,m,a,b,M,ra,rb,ho⟩
 obtain⟨t,e,ho⟩:=Ql ho
 obtain⟨ta,tb,ea,eb,e⟩:=Zb9 e
 rw[h]at e
 cases e
theorem op_bin(op:Yag):OpR X (WW op) (r2 X.K xr (fBin op)):=by
 cases op<;>first|exact Zgp|exact Zgl|exact Zgn|exact ZeE|exact Zgo|exact Zgm|exact op_no λx y=>by cases x<;>cases y<;>rfl
variable{a b c:Expr}{ea eb ec:E}{pos:Pos}
theorem ZlD{op:Yag}(ha:PE X a (tE X.K call gv xr ea))(hb:PE X b (tE X.K call gv xr eb)):PE X (.BinOp a op b pos) (tE X.K call gv xr (.bin op ea eb)):=
 PE.mono (pe_op (op_bin op) ha hb) (Zhb λenv m=>by rw[ev];rfl)
noncomputable def fNeg(x:W)(m:Mem):Res W:=pur ((view x m).bind λx=>match x with
 |.int i=>some (.int (-i))
 |_=>none) m
theorem ZkU:UnR X (unaryOp .USub) (r1 X.K xr fNeg):=by
 rintro pins s σ H x v Q I rx ⟨cm,m,a,M,ra,ho⟩
 obtain⟨t,e,ho⟩:=Ql ho
 cases q:view a m with
 |none=>rw[q]at e;cases e
 |some ta =>
  rw[q]at e
  cases ta with
  |int i =>
   cases e
   cases(Zd ra q (λ_ z=>by cases z)).vint
   exact un_neg pins s σ H _ v Q I rx ⟨_,rfl,ans ho M (.int _)⟩
  |_=>cases e
theorem Zlq(ha:PE X a (tE X.K call gv xr ea)):PE X (.UnaryOp .USub a pos) (tE X.K call gv xr (.neg ea)):=
 PE.mono (pe_un ZkU ha) (t1_of λenv m=>by rw[ev];rfl)
theorem Zlz{op:CmpOp}(ha:PE X a (tE X.K call gv xr ea))(hb:PE X b (tE X.K call gv xr eb))(hm:YaE op b=false)(hu:X.A.units+64<cLine):PE X (.Compare a [op] [b] pos) (tE X.K call gv xr (.cmp op ea eb)):=
 PE.mono (ZhM (Zfy hu op) ha hb hm) (Zhb λenv m=>by rw[ev];rfl)
theorem Zl5{op:CmpOp}{x y w:W}{m m':Mem}(h:fCmp op x y m=.ok w m'):∃k,w=.t (.bl k)/\m'=m:=by
 unfold fCmp at h
 cases q:((view x m).bind λx=>(view y m).bind λy=>cmpT op x y)with
 |none=>rw[q]at h;cases h
 |some k=>rw[q]at h;cases h;exact⟨k,rfl,rfl⟩
theorem Zla{f:Env->Mem->Res W}{e:Expr}{te:TE}{a:E}(h:PT X e (tTest te))(hk:∀env m w m',ev call gv a env m=.ok w m'->∃k,w=.t (.bl k))(he:∀σ H Q,tE X.K call gv xr a σ H Q->te σ H Q):PT X e (tT X.K call gv xr a):=by
 refine PT.mono h λσ H Q ⟨env,cm,m,hE,M,ho⟩=>he σ H _ ⟨env,cm,m,hE,M,?_⟩
 cases q:ev call gv a env m with
 |stuck=>rw[q]at ho;exact ho.elim
 |exc e m'=>rw[q]at ho;exact ho
 |ok w m' =>
  obtain⟨k,rfl⟩:=hk env m w m' q
  rw[q]at ho
  intro cm1 H1 x1 M1 v rv
  cases RT.vbl rv
  exact⟨k,rfl,(show OkR X.K (.ok k m') xr cm m H _ from ho) cm1 H1 x1 M1⟩
theorem Zk8{op:CmpOp}(ha:PE X a (tE X.K call gv xr ea))(hb:PE X b (tE X.K call gv xr eb))(hm:YaE op b=false)(hu:X.A.units+64<cLine):PT X (.Compare a [op] [b] pos) (tT X.K call gv xr (.cmp op ea eb)):=by
 refine Zla (f:=λ_ _=>.stuck) (Zk9 (Zfy hu op) ha hb hm) (λenv m w m' h=>?_) (Zhb λenv m=>by rw[ev];rfl)
 rw[ev]at h
 obtain⟨x,m1,_,h⟩:=Zk h
 obtain⟨y,m2,_,h⟩:=Zk h
 obtain⟨k,hk,_⟩:=Zl5 h
 exact⟨k,hk⟩
theorem chn_of{op op':CmpOp}(σ:L2.St)(H:Hp)(Q:VK)(q:tE X.K call gv xr (.chn op op' ea eb ec) σ H Q):
  Zkr (r2 X.K xr (fCmp op)) (r2 X.K xr (fCmp op')) (tE X.K call gv xr ea) (tE X.K call gv xr eb) (tE X.K call gv xr ec) σ H Q:=by
 obtain⟨env,cm,m,hE,hM,ho⟩:=q
 rw[ev]at ho
 refine⟨env,cm,m,hE,hM,ho.bind.mono λw cm1 m1 H1 x1 M1 o1 v rv=>?_⟩
 refine⟨env,cm1,m1,hE.ext x1 hM M1,M1,o1.bind.mono λw2 cm2 m2 H2 x2 M2 o2 v2 rv2=>?_⟩
 refine⟨cm2,m2,w,w2,M2,rv.ext x2 M1 M2,rv2,?_⟩
 split at o2
 ·rename_i e
  have e1:fCmp op w w2 m2=.ok (.t (.bl true)) m2:=by unfold fCmp;rw[e];rfl
  rw[e1]
  intro cm3 H3 x3 M3 v3 rv3
  cases RT.vbl rv3
  refine⟨true,rfl,iteT ?_⟩
  refine⟨env,cm3,m2,(hE.ext (x1.trans (x2.trans x3)) hM M3),M3,(OkR.shift o2 x3).bind.mono λw4 cm4 m4 H4 x4 M4 o4 v4 rv4=>?_⟩
  exact⟨cm4,m4,w2,w4,M4,(rv2.ext x3 M2 M3).ext x4 M3 M4,rv4,o4⟩
 ·rename_i e
  have e1:fCmp op w w2 m2=.ok (.t (.bl false)) m2:=by unfold fCmp;rw[e];rfl
  rw[e1]
  intro cm3 H3 x3 M3 v3 rv3
  cases RT.vbl rv3
  exact⟨false,rfl,iteF (OkR.to o2 x3 M3 _ (.bl false))⟩
 ·exact o2.elim
theorem ZlA{op op':CmpOp}(ha:PE X a (tE X.K call gv xr ea))(hb:PE X b (tE X.K call gv xr eb))(hc:PE X c (tE X.K call gv xr ec))(hm:lastMarks [op,op'] [b,c]=false)(hu:X.A.units+64<cLine):
 PE X (.Compare a [op,op'] [b,c] pos) (tE X.K call gv xr (.chn op op' ea eb ec)):=PE.mono (ZjJ (Zfy hu op) (Zfy hu op') ha hb hc hm) chn_of
theorem pe_ixW(ha:PE X a (tE X.K call gv xr ea))(hb:PE X b (tE X.K call gv xr eb))(hs:Zi4 b):PE X (.Subscript a b pos) (tE X.K call gv xr (.ix ea eb)):=
 PE.mono (pe_ix ix_ix ha hb hs) (Zhb λenv m=>by rw[ev];rfl)
end
section
variable{K:Frag}{cm:List Addr}{m:Mem}{H:Hp}{xr:XR}{X:Cx}{call:Nat->List W->Mem->Res W}{gv:List T}
variable{a b c e:Expr}{es:List Expr}{ea eb ec:E}{eas:Es}{pos p:Pos}
noncomputable def notStar:Expr->Bool
 |.Starred _ _=>false
 |_=>true
theorem ZW{env:Wb}(h:notStar e=true):Wq (e::es) env=(false,eval e env)::Wq es env:=by
 cases e<;>first|rfl|cases h
theorem Zhg{env:Wb}:∀{es:List Expr},es.all notStar=true->(backTo pos (Wq es env)).all (λx=>!x.1)=true
 |[],_=>rfl
 |e::es,h=>by
  rw[U8,Yg]at h
  rw[ZW h.1]
  show(!false&&(backTo pos (Wq es env)).all (λx=>!x.1))=true
  rw[Zhg h.2]
  rfl
theorem Xo{env:Wb}{es:List Expr}(h:es.all notStar=true):(backTo pos (Wq es env)).any (·.1)=false:=by
 have h1:=Zhg (pos:=pos) (env:=env) h
 rw[List.any_eq_false]
 intro x hx
 have:=YT.mp h1 x hx
 simpa using this
theorem ZhP:PA X [] (tA X.K call gv xr .nil):=PA.mono Zch λσ H Q ⟨env,cm,m,hE,M,ho⟩=>by
 rw[evs]at ho
 exact OkR.now ho M [] .nil
theorem Zfx(ha:PE X e (tE X.K call gv xr ea))(hr:PA X es (tA X.K call gv xr eas))(hs:notStar e=true):PA X (e::es) (tA X.K call gv xr (.cons ea eas)):=by
 refine PA.mono (Jv ha hr (ZW hs)) ?_
 rintro σ H Q ⟨env,cm,m,hE,M,ho⟩
 rw[evs]at ho
 refine⟨env,cm,m,hE,M,ho.bind.mono λw cm1 m1 H1 x1 M1 o1 v rv=>?_⟩
 exact⟨env,cm1,m1,hE.ext x1 M M1,M1,o1.bind.mono λws cm2 m2 H2 x2 M2 o2 vs rvs=>OkR.now o2 M2 (v::vs) (.cons (rv.ext x2 M1 M2) rvs)⟩
theorem Zd8{w:W}{m m':Mem}{x:Exc}:frz w m≠.exc x m':=by
 intro h
 unfold frz at h
 split at h<;>first|cases h|(split at h<;>cases h)
theorem ZaH:∀{ws:List W}{m m':Mem}{x:Exc},frzs ws m≠.exc x m'
 |[],_,_,_=>λh=>by cases h
 |w::ws,m,m',x=>λh=>by
  rw[frzs]at h
  cases q:frz w m with
  |stuck=>rw[q]at h;cases h
  |exc y m1=>exact Zd8 q
  |ok t m1 =>
   rw[q]at h
   have h':((frzs ws m1).bind λts m=>Res.ok (t::ts) m)=.exc x m':=h
   cases q2:frzs ws m1 with
   |stuck=>rw[q2]at h';cases h'
   |exc y m2=>exact ZaH q2
   |ok ts m2=>rw[q2]at h';cases h'
theorem Xf:∀{ws:List W}{vs:List V}{ts:List T}{m m':Mem},MemR K cm m H->RWs K cm m H ws vs->frzs ws m=.ok ts m'->Ext cm m H cm m' H/\MemR K cm m' H/\RTs K cm m' H ts vs
 |[],_,_,_,_,M,.nil,e=>by cases e;exact⟨.refl,M,.nil⟩
 |w::ws,v::vs,ts,m,m',M,.cons r rs,e=>by
  rw[frzs]at e
  obtain⟨t,m1,e1,e⟩:=Zk e
  obtain⟨us,m2,e2,e⟩:=Zk e
  cases e
  obtain⟨x1,M1,r1⟩:=Ziu M r e1
  obtain⟨x2,M2,r2⟩:=Xf M1 (RWs.ext x1 M M1 rs) e2
  exact⟨x1.trans x2,M2,.cons (RT.ext x2 M1 M2 r1) r2⟩
theorem X4{α:Type}{ws:List W}{f:List T->Mem->Res α}{k:α->List Addr->Mem->Hp->Prop}(h:OkR K ((frzs ws m).bind f) xr cm m H k):∃ts m',frzs ws m=.ok ts m'/\OkR K (f ts m') xr cm m H k:=by
 cases q:frzs ws m with
 |stuck=>rw[q]at h;exact h.elim
 |exc x m'=>exact absurd q ZaH
 |ok ts m'=>rw[q]at h;exact⟨ts,m',rfl,h⟩
theorem Zd6{α:Type}{c:Prop}[Decidable c]{r:Res α}{k:α->List Addr->Mem->Hp->Prop}(h:OkR K (if c then r else .stuck) xr cm m H k):c/\OkR K r xr cm m H k:=by
 by_cases hc:c
 ·rw[if_pos hc]at h;exact⟨hc,h⟩
 ·rw[if_neg hc]at h;exact h.elim
theorem Zli{x1}(h:PA X es (tA X.K call gv xr eas)):PE X (.Tuple es x1 pos) (tE X.K call gv xr (.tup eas)):=by
 refine PE.mono (ZkA h) ?_
 rintro σ H Q ⟨env,cm,m,hE,M,ho⟩
 rw[ev]at ho
 refine⟨env,cm,m,hE,M,ho.bind.mono λws cm1 m1 H1 x1 M1 o1 vs rvs=>?_⟩
 obtain⟨ts,m2,e2,o2⟩:=X4 o1
 obtain⟨hl,o3⟩:=Zd6 o2
 obtain⟨x2,M2,r2⟩:=Xf M1 rvs e2
 have l2:=r2.length
 have hz:=ZM
 exact⟨by omega,λp hp=>Zb1 (OkR.shift o3 x2) M2 r2 hp⟩
theorem Zls(h:PA X es (tA X.K call gv xr eas)):PE X (.List es pos) (tE X.K call gv xr (.lst eas)):=by
 refine PE.mono (pe_lst h) ?_
 rintro σ H Q ⟨env,cm,m,hE,M,ho⟩
 rw[ev]at ho
 refine⟨env,cm,m,hE,M,ho.bind.mono λws cm1 m1 H1 x1 M1 o1 vs rvs=>?_⟩
 obtain⟨ts,m2,e2,o2⟩:=X4 o1
 obtain⟨hl,o3⟩:=Zd6 o2
 obtain⟨x2,M2,r2⟩:=Xf M1 rvs e2
 have l2:=r2.length
 have hz:=ZM
 exact⟨by omega,λp hp=>Zai (OkR.shift o3 x2) M2 r2 hp⟩
noncomputable def tLstN(K:Frag)(t:TA):TE:=λσ H Q=>t σ H λxs H1=>xs.length<=YC/\∀p,H1 p=none->K.lookup p=none->Q (.ref p) (upd H1 p (.lst xs))
theorem Inv.notK{pins:List (Addr×Obj)}{σ:L2.St}{H:Hp}{s:Shared}(I:Inv X pins σ H s):X.K.lookup s.heap.objs.size=none:=by
 cases q:X.K.lookup s.heap.objs.size with
 |none=>rfl
 |some o=>exact absurd (Yp (I.kIn _ _ q)) (Y9 _)
theorem Zlt{t:TA}(h:PA X es t):PE X (.List es pos) (tLstN X.K t):=by
 intro pins s σ H Q I hq
 refine wpAny_List_spliced (thn (h pos pins s σ H _ I hq) λus s1 ⟨xs,H1,I1,r,z,q⟩=>⟨by rw[<-r.length];exact z,?_⟩)
 have hf:H1 s1.heap.objs.size=none:=I1.hok.fresh (Yj _)
 refine⟨.ref s1.heap.objs.size,upd H1 s1.heap.objs.size (.lst xs),I1.laid (t':=s1.toks) (λb u e=>Yc _ e) (Yj _) ?_,rfl,q _ hf (Mi.Inv.notK I1)⟩
 exact⟨z,us,0,r,Yl _ rfl⟩
theorem ZlB(h:PA X es (tA X.K call gv xr eas)):PE X (.List es pos) (tE X.K call gv xr (.cel eas)):=by
 refine PE.mono (Zlt h) ?_
 rintro σ H Q ⟨env,cm,m,hE,M,ho⟩
 rw[ev]at ho
 refine⟨env,cm,m,hE,M,ho.bind.mono λws cm1 m1 H1 x1 M1 o1 vs rvs=>?_⟩
 obtain⟨ts,m2,e2,o2⟩:=X4 o1
 obtain⟨hl,o3⟩:=Zd6 o2
 obtain⟨x2,M2,r2⟩:=Xf M1 rvs e2
 have l2:=r2.length
 have hz:=ZM
 refine⟨by omega,λp hp hk=>?_⟩
 obtain⟨x3,M3,r3⟩:=ZfJ M2 r2 hp hk
 exact OkR.to o3 (x2.trans x3) M3 _ r3
theorem ZaZ{α:Type}(xs:List α)(lo hi:Option Int):cut xs lo hi=(xs.drop (HT.sIx xs.length 0 lo)).take (HT.sIx xs.length xs.length hi-HT.sIx xs.length 0 lo):=by
 have e:∀n d o,ZiL n d o=HT.sIx n d o:=λn d o=>by cases o<;>rfl
 unfold cut
 rw[e,e]
theorem Zax{α β:Type}{F:α->β->Prop}{xs:List α}{ys:List β}(h:Paired F xs ys)(lo hi:Option Int):Paired F (cut xs lo hi) (cut ys lo hi):=by
 rw[ZaZ,ZaZ,<-h.length]
 exact Zbr _ (Zbt _ h)
theorem ZeS(xs:List V)(lo hi:Option Int):cutV xs lo hi=cut xs lo hi:=(ZaZ xs lo hi).symm
theorem Zjl(x y:Nat):YbX (x:Int) (y:Int) 1=(YM (y-x)).map λk=>x+k:=by
 unfold YbX
 simp only[show((1:Int)>0)=True from by simp,if_true]
 by_cases h:(x:Int)<y
 ·have e3:(((y:Int)-x+1-1) / 1).toNat=y-x:=by first|omega|(simp;done)|(simp;omega)
  rw[if_pos h,e3]
  refine List.map_congr_left λk _=>?_
  omega
 ·have e3:y-x=0:=by omega
  rw[if_neg h,e3]
  rfl
theorem Zbf(n d:Nat)(v:Int):max 0 (min (if v<0 then v+n else v) (n:Int))=((HT.sIx n d (some v):Nat):Int):=by
 show max 0 (min (if v<0 then v+n else v) (n:Int))=(((if v<0 then(v+(n:Int)).toNat else min v.toNat n):Nat):Int)
 split<;>omega
theorem ZgC(lo hi:Option Int)(n:Nat):(Builtin.Str.strSliceIndices lo hi 1 n)=(YM (HT.sIx n n hi-HT.sIx n 0 lo)).map λk=>HT.sIx n 0 lo+k:=by
 rw[<-Zjl]
 unfold Builtin.Str.strSliceIndices
 cases lo with
 |none =>
  cases hi with
  |none=>rfl
  |some j =>
   rw[<-Zbf]
   rfl
 |some i =>
  cases hi with
  |none =>
   rw[<-Zbf]
   rfl
  |some j =>
   rw[<-Zbf,<-Zbf]
   rfl
noncomputable def fSl(w:W)(lo hi:Option Int)(m:Mem):Res W:=pur ((view w m).bind λx=>slT x lo hi) m
noncomputable def rSl(K:Frag)(xr:XR):V->Option Int->Option Int->Hp->VK->Prop:=λx lo hi H Q=>∃cm m w,MemR K cm m H/\RW K cm m H w x/\OkR K (fSl w lo hi m) xr cm m H λw cm' m' H'=>∀v,RW K cm' m' H' w v->Q v H'
theorem Zhk{prog:Yx}{w:World}{A:Around}{E:Value->Shared->Prop}{s:Shared}{cs:List Nat}{t:Tok}{sl:Addr}{vl vu:Value}{lo hi:Option Int}{Q:Value->Shared->Prop}(hs:s.heap.IsSliceOf sl vl vu .none)(pl:IsPart vl lo)(pu:IsPart vu hi)(hz:cs.length<=lim)(h:∀t' k,Q (.str ⟨(cut cs lo hi).toArray⟩ t') { s with toks:=k }):wpAny (model prog w) A (VH (.str ⟨cs.toArray⟩ t) (.ref sl)) Q E s:=by
 have hl:=ZM
 obtain⟨l,e1,e2⟩:∃l:Option (Int×Tok),vl=partValue l/\l.map (·.1)=lo:=by
  cases pl with
  |none=>exact⟨none,rfl,rfl⟩
  |int i t=>exact⟨some (i,t),rfl,rfl⟩
 obtain⟨u,f1,f2⟩:∃l:Option (Int×Tok),vu=partValue l/\l.map (·.1)=hi:=by
  cases pu with
  |none=>exact⟨none,rfl,rfl⟩
  |int i t=>exact⟨some (i,t),rfl,rfl⟩
 subst e1 f1
 refine wpAny_getItem_str_slice (l:=l) (u:=u) (st:=none) hs (by rfl) ?_
 have pk:Ybd ⟨cs.toArray⟩ l u none=(YM (HT.sIx cs.length cs.length hi-HT.sIx cs.length 0 lo)).map λk=>HT.sIx cs.length 0 lo+k:=by
  unfold Ybd
  rw[e2,f2,Xn]
  exact ZgC lo hi cs.length
 have hn:HT.sIx cs.length cs.length hi<=cs.length:=HT.sIx_le _ _ (Yj _) hi
 have fm:((Ybd ⟨cs.toArray⟩ l u none).filterMap ((⟨cs.toArray⟩:Str).cps[·]?))=cut cs lo hi:=by
  rw[pk,ZaZ]
  by_cases hle:HT.sIx cs.length 0 lo<=HT.sIx cs.length cs.length hi
  ·have:=StrLaws.picks cs (HT.sIx cs.length cs.length hi-HT.sIx cs.length 0 lo) (HT.sIx cs.length 0 lo) (by omega)
   rw[<-this]
   simp
  ·have:HT.sIx cs.length cs.length hi-HT.sIx cs.length 0 lo=0:=by omega
   rw[this]
   simp
 unfold sliceMade
 split
 ·rename_i hw
  rw[Yg]at hw
  have q:(Ybd ⟨cs.toArray⟩ l u none).length=cs.length:=by rw[eq_of_beq hw.2,Xn]
  rw[pk,Yi,WM]at q
  have e:cut cs lo hi=cs:=by
   rw[ZaZ]
   have:HT.sIx cs.length 0 lo=0∨cs.length=0:=by omega
   rcases this with h0|h0
   ·rw[h0]at q ⊢
    rw[Yaq,q]
    exact YaS
   ·rw[Vu]at h0
    subst h0
    simp
  have:=h t s.toks
  rw[e]at this
  exact this
 ·rw[fm]
  have hc:(cut cs lo hi).length<=cs.length:=by
   rw[ZaZ,Wi,VJ];omega
  exact⟨by show(cut cs lo hi).toArray.size<=_;rw[Yk];omega,h _ _⟩
theorem Zg2{prog:Yx}{w:World}{A:Around}{E:Value->Shared->Prop}{s:Shared}{t sl:Addr}{items:Array Value}{vl vu:Value}{lo hi:Option Int}{Q:Value->Shared->Prop}(ht:IsTup s.heap t items)(hs:s.heap.IsSliceOf sl vl vu .none)(pl:IsPart vl lo)(pu:IsPart vu hi)(hw:HT.sIx items.size 0 lo=0/\HT.sIx items.size items.size hi=items.size)(h:Q (.ref t) s):wpAny (model prog w) A (VH (.ref t) (.ref sl)) Q E s:=by
 obtain⟨os,hos,hcs,hds⟩:=id hs
 have hTs:s.TypeIs (.ref sl) "slice":=⟨os,hos,hcs⟩
 unfold VH
 try with_reducible refine Wg ?_
 first|refine Yb (Yd ?_)|skip
 refine Yb (Yas ht.typeIs (by decide) ?_)
 refine Yb (WL (name:=U7 "__getitem__") ht.typeIs Wj
  (WY Wj ht.typeIs V3 ?_ (Yaj _ _)))
 show wpAny _ _ (GK (.ref t) >>= _) _ _ s
 refine Yb (Ybg ht ?_)
 refine Yb (VD hTs ?_)
 rw[if_pos (by decide)]
 refine Yb (HT.sliceApplied_gen hs pl pu ?_)
 show wpAny _ _ (if(((HT.sIx items.size 0 lo:Nat):Int)==0&&(1:Int)==1&&(HT.sIx items.size items.size hi-HT.sIx items.size 0 lo)==items.size)=true then _ else _) _ _ s
 rw[if_pos (by rw[hw.1,hw.2];simp)]
 refine Yb ?_
 unfold Builtin.Tuple.tupleIsExact
 refine Yb (VD ht.typeIs (Yd ?_))
 rw[if_pos (by decide)]
 exact Yb (Ve (Yd ⟨_,rfl,Yd h⟩))
theorem Zjh{pins:List (Addr×Obj)}{s:Shared}{σ:L2.St}{H:Hp}{x:V}{v vl vu:Value}{lo hi:Option Int}{sl:Addr}{Q:VK}{a:Addr}{xs:List V}(I:Inv X pins σ H s)(rx:RelV x v)(hs:s.heap.IsSliceOf sl vl vu .none)(pl:IsPart vl lo)(pu:IsPart vu hi)(e:x=.ref a)(hx:SqT X.K H a xs)(hw:HT.sIx xs.length 0 lo=0/\HT.sIx xs.length xs.length hi=xs.length)(q:Q (.ref a) H):∃T id,Ybp (.type T) "__getitem__" = pure (some (.builtin id))/\s.TypeIs v T/\wpAny (model X.prog X.w) X.A (VH v (.ref sl)) (EP X pins σ Q) X.xe s:=by
 subst e
 cases rx
 obtain⟨its,r,ht,hz⟩:=I.tuple hx
 have hlen:its.toArray.size=xs.length:=by rw[Yk];exact r.length.symm
 exact⟨"tuple",_,PyProof.Rows.slot_tuple_getitem.lookup,ht.typeIs,Zg2 ht hs pl pu (by rw[hlen];exact hw) ⟨.ref a,H,I,rfl,q⟩⟩
theorem sl_any:SlR X (rSl X.K xr):=by
 rintro pins s σ H x v vl vu lo hi sl Q I rx hs pl pu ⟨cm,m,w,M,rw',ho⟩
 obtain⟨t,e,ho⟩:=Ql ho
 cases q:view w m with
 |none=>rw[q]at e;cases e
 |some tw =>
  rw[q]at e
  have e:slT tw lo hi=some t:=e
  cases tw with
  |tup ts =>
   cases e
   obtain⟨a,vs,rfl,h1,r1⟩:=(Zd rw' q (λ_ z=>by cases z)).itup
   have l1:=r1.length
   have e:∀n d o,ZiL n d o=HT.sIx n d o:=λn d o=>by cases o<;>rfl
   by_cases hc:HT.sIx vs.length 0 lo=0/\HT.sIx vs.length vs.length hi=vs.length
   ·refine Zjh I rx hs pl pu rfl h1 hc ?_
    have ec:cut ts lo hi=ts:=by
     unfold cut
     rw[e,e,l1,hc.1,hc.2,Yaq,Nat.sub_zero,<-l1,YaS]
    rw[ec]at ho
    exact ans ho M (.mtup h1 r1)
   ·refine sl_tup pins s σ H _ v vl vu lo hi sl Q I rx hs pl pu ⟨a,vs,rfl,h1,hc,λp hp=>?_⟩
    rw[ZeS];exact Zb1 ho M (Zax r1 lo hi) hp
  |lst ts =>
   cases e
   obtain⟨a,vs,rfl,h1,r1⟩:=Zq M rw' q
   exact Zhl pins s σ H _ v vl vu lo hi sl Q I rx hs pl pu ⟨a,vs,rfl,.of h1,λp hp=>by rw[ZeS];exact Zai ho M (Zax r1 lo hi) hp⟩
  |scr ns =>
   cases e
   obtain⟨a,rfl,h1⟩:=(Zd rw' q (λ_ z=>by cases z)).vscr
   refine Zhl pins s σ H _ v vl vu lo hi sl Q I rx hs pl pu ⟨a,_,rfl,h1.sq,λp hp=>?_⟩
   rw[ZeS]
   refine Zai ho M ?_ hp
   have:=Zax (Zao (K:=X.K) (cm:=cm) (m:=m) (H:=H) ns) lo hi
   have e:cut (ns.map T.int) lo hi=(cut ns lo hi).map T.int:=by
    rw[ZaZ,ZaZ,Yi,List.map_take,List.map_drop]
   rw[e]at this
   exact this
  |str cs =>
   unfold slT at e
   dsimp only at e
   split at e<;>cases e
   rename_i hc
   cases(Zd rw' q (λ_ z=>by cases z)).vstr
   obtain⟨t,rfl⟩:=rx
   exact⟨"str",_,slot_str_getitem.lookup,YbT s _ t,Zhk hs pl pu hc λt' k=>⟨.str ⟨(cut cs lo hi).toArray⟩,H,I.tok _,⟨t',rfl⟩,ans ho M (.str _)⟩⟩
  |_=>cases e
noncomputable def evP(call:Nat->List W->Mem->Res W)(gv:List T)(lo:E)(env:Env)(m:Mem):Res (Option Int):=if Qp lo then Res.ok none m else(ev call gv lo env m).bind intP
noncomputable def tP(K:Frag)(call:Nat->List W->Mem->Res W)(gv:List T)(xr:XR)(lo:E):TO:=λσ H Q=>∃env cm m,EnvR K cm m H env σ/\MemR K cm m H/\OkR K (evP call gv lo env m) xr cm m H λo cm' m' H'=>Q o H'
theorem Zfu:PO X none (tP X.K call gv xr .hole):=λpins s σ H Q I ⟨env,cm,m,hE,M,ho⟩=>Zle pins s σ H Q I (OkR.now ho M)
theorem Zjz{lo:Expr}(h:PE X lo (tE X.K call gv xr ea))(hn:evP call gv ea=λenv m=>(ev call gv ea env m).bind intP):PO X (some lo) (tP X.K call gv xr ea):=λpins s σ H Q I ⟨env,cm,m,hE,M,ho⟩=>by
 rw[hn]at ho
 refine Zld h pins s σ H Q I ⟨env,cm,m,hE,M,(OkR.bind ho).mono λw cm1 m1 H1 x1 M1 o1 v rv=>?_⟩
 unfold intP at o1
 split at o1
 ·cases RT.vint rv
  exact⟨_,rfl,OkR.now o1 M1⟩
 ·exact o1.elim
theorem Zlk{lo hi:Option Expr}{p2:Pos}(he:PE X e (tE X.K call gv xr ea))(hl:PO X lo (tP X.K call gv xr eb))(hu:PO X hi (tP X.K call gv xr ec)):PE X (.Subscript e (.Slice lo hi none p2) pos) (tE X.K call gv xr (.slc ea eb ec)):=by
 refine PE.mono (ZjE (sl_any (xr:=xr)) he hl hu) ?_
 rintro σ H Q ⟨env,cm,m,hE,M,ho⟩
 have e:ev call gv (.slc ea eb ec) env m=(ev call gv ea env m).bind λx m=>(evP call gv eb env m).bind λl m=>(evP call gv ec env m).bind λh m=>fSl x l h m:=by
  rw[ev]
  rfl
 rw[e]at ho
 refine⟨env,cm,m,hE,M,ho.bind.mono λw cm1 m1 H1 x1 M1 o1 v rv=>?_⟩
 refine⟨env,cm1,m1,hE.ext x1 M M1,M1,o1.bind.mono λl cm2 m2 H2 x2 M2 o2=>?_⟩
 refine⟨env,cm2,m2,(hE.ext x1 M M1).ext x2 M1 M2,M2,o2.bind.mono λh cm3 m3 H3 x3 M3 o3=>?_⟩
 exact⟨cm3,m3,w,M3,(rv.ext x2 M1 M2).ext x3 M2 M3,o3⟩
noncomputable def fBlt(b:B)(ws:List W)(m:Mem):Res W:=pur ((views ws m).bind λts=>bltT b ts) m
theorem Zkq{b:B}(σ:L2.St)(H:Hp)(Q:VK)(q:tE X.K call gv xr (.blt b eas) σ H Q):tCB (rN X.K xr (fBlt b)) (tA X.K call gv xr eas) σ H Q:=by
 obtain⟨env,cm,m,hE,M,ho⟩:=q
 rw[ev]at ho
 exact⟨env,cm,m,hE,M,ho.bind.mono λws cm1 m1 H1 x1 M1 o1 vs rvs=>⟨cm1,m1,ws,M1,rvs,o1⟩⟩
theorem ZeD{b:B}{id:String}{x:Str}(hc:J1 X (.builtin id) (rN X.K xr (fBlt b)))(hv:Ub x=some (.builtin id))(hg:Gl X x)(hm:X.mg x=none)(ha:PA X (e::es) (tA X.K call gv xr eas))(hn:x≠"__name__")(hdb:(x==("__debug__" : Str))=false)(he:notStar e=true)(hpl:es.all notStar=true):PE X (.Call (.Name x p) (e::es) [] pos) (tE X.K call gv xr (.blt b eas)):=
 PE.mono (Zbd hc hg hm hv ha hn hdb (ZW he) (Xo hpl)) Zkq
theorem ZeC{b:B}{id:String}{x:Str}(hc:J1 X (.type id) (rN X.K xr (fBlt b)))(hv:Ub x=some (.type id))(hg:Gl X x)(hm:X.mg x=none)(ha:PA X (e::es) (tA X.K call gv xr eas))(hn:x≠"__name__")(hdb:(x==("__debug__" : Str))=false)(he:notStar e=true)(hpl:es.all notStar=true):PE X (.Call (.Name x p) (e::es) [] pos) (tE X.K call gv xr (.blt b eas)):=
 PE.mono (ZhN hc hg hm hv ha hn hdb (ZW he) (Xo hpl)) Zkq
theorem blt1{b:B}{ws:List W}{vs:List V}{k:W->List Addr->Mem->Hp->Prop}(r:RWs K cm m H ws vs)(h1:∀ts t,bltT b ts=some t->ts.length=1)(h:OkR K (fBlt b ws m) xr cm m H k):
  ∃w v t r,ws=[w]/\vs=[v]/\RW K cm m H w v/\view w m=some t/\bltT b [t]=some r/\OkR K (.ok (.t r) m) xr cm m H k:=by
 obtain⟨t,e,ho⟩:=Ql h
 cases q:views ws m with
 |none=>rw[q]at e;cases e
 |some ts =>
  rw[q]at e
  have e:bltT b ts=some t:=e
  have hl:=h1 ts t e
  have hvl:∀(ws:List W) (ts:List T),views ws m=some ts->ts.length=ws.length:=λws=>by
   induction ws with
   |nil=>intro ts h;cases h;rfl
   |cons w ws ih =>
    intro ts h
    unfold views at h
    cases q1:view w m with
    |none=>rw[q1]at h;cases h
    |some t1 =>
     rw[q1]at h
     cases q2:views ws m with
     |none=>rw[q2]at h;cases h
     |some us=>rw[q2]at h;cases h;simp[ih us q2]
  have hw:=hvl ws ts q
  match ws,vs,r with
  |[],_,_=>rw[hl]at hw;simp at hw
  |w::w'::ws,_,_=>rw[hl]at hw;simp at hw
  |[w],_,.cons rv .nil =>
   unfold views at q
   cases q1:view w m with
   |none=>rw[q1]at q;cases q
   |some t1 =>
    rw[q1]at q
    cases q
    exact⟨w,_,t1,t,rfl,rfl,rv,q1,e,ho⟩
theorem Zh0{f:T->Option T}:∀{ts:List T}{t:T},one1 f ts=some t->∃x,ts=[x]/\f x=some t
 |[],_,h=>by cases h
 |[x],_,h=>⟨x,rfl,h⟩
 |_::_::_,_,h=>by cases h
theorem Zg5{f:Int->Int->Option T}{ts:List T}{t:T}(h:two2 f ts=some t):∃i j,ts=[.int i,.int j]/\f i j=some t:=by
 unfold two2 at h
 split at h
 ·exact⟨_,_,rfl,h⟩
 ·cases h
theorem JB{b:B}(hb:b≠.min2/\b≠.max2/\b≠.range2/\b≠.zip2/\b≠.zip4/\b≠.dget/\b≠.din/\b≠.dnot):∀ts t,bltT b ts=some t->ts.length=1:=by
 intro ts t h
 have h1:∀f:T->Option T,one1 f ts=some t->ts.length=1:=λf h=>by
  obtain⟨x,rfl,_⟩:=Zh0 h
  rfl
 cases b<;>first|exact h1 _ h|exact absurd hb (by decide)|cases h
theorem ZiV:J1 X (.builtin "len") (rN X.K xr (fBlt .len)):=by
 rintro pins s σ H xs us Q I r ⟨cm,m,ws,M,rws,ho⟩
 obtain⟨w,v,t,rr,rfl,rfl,rv,e,eb,ho⟩:=blt1 rws (JB (by decide)) ho
 have hz:=ZM
 cases t with
 |str cs =>
  change (if cs.length<=lim then some (T.int cs.length)else none)=some rr at eb
  split at eb<;>cases eb
  cases(Zd rv e (λ_ z=>by cases z)).vstr
  exact Zbh pins s σ H _ us Q I r ⟨_,_,rfl,⟨by rw[Xn];omega,rfl⟩,by rw[Xn];exact ans ho M (.int _)⟩
 |tup ts =>
  cases eb
  obtain⟨a,vs,rfl,h1,r1⟩:=(Zd rv e (λ_ z=>by cases z)).itup
  exact Zbh pins s σ H _ us Q I r ⟨_,_,rfl,.inr ⟨vs,h1,r1.length⟩,ans ho M (.int _)⟩
 |lst ts =>
  cases eb
  obtain⟨a,vs,rfl,h1,r1⟩:=Zq M rv e
  exact Zbh pins s σ H _ us Q I r ⟨_,_,rfl,.inl ⟨vs,.of h1,r1.length⟩,ans ho M (.int _)⟩
 |scr ns =>
  cases eb
  obtain⟨a,rfl,h1⟩:=(Zd rv e (λ_ z=>by cases z)).vscr
  exact Zbh pins s σ H _ us Q I r ⟨_,_,rfl,.inl ⟨_,h1.sq,by simp⟩,ans ho M (.int _)⟩
 |_=>cases eb
theorem ZiW:J1 X (.type "int") (rN X.K xr (fBlt .int)):=by
 rintro pins s σ H xs us Q I r ⟨cm,m,ws,M,rws,ho⟩
 obtain⟨w,v,t,rr,rfl,rfl,rv,e,eb,ho⟩:=blt1 rws (JB (by decide)) ho
 cases t with
 |int i =>
  cases eb
  cases(Zd rv e (λ_ z=>by cases z)).vint
  exact Zek pins s σ H _ us Q I r (.inl ⟨_,rfl,ans ho M (.int _)⟩)
 |bl b =>
  cases eb
  cases(Zd rv e (λ_ z=>by cases z)).vbl
  exact Zek pins s σ H _ us Q I r (.inr ⟨_,rfl,ans ho M (.int _)⟩)
 |str cs =>
  have eb:(if cs≠[]/\cs.length<=600/\cs.all (λc=>decide (48<=c)&&decide (c<=57))=true then some (T.int (figV cs))else none)=some rr:=eb
  split at eb<;>cases eb
  rename_i hc
  cases(Zd rv e (λ_ z=>by cases z)).vstr
  obtain⟨u,rfl,tt,rfl⟩:=vals1 r
  have hd:NumText.AllDigits (⟨cs.toArray⟩:Str).cps.toList:=λc hcm=>by
   have:=YT.mp hc.2.2 c (by simpa using hcm)
   rw[Yg]at this
   exact⟨of_decide_eq_true this.1,of_decide_eq_true this.2⟩
  have ht:=PySem.intText_digits (x:=⟨cs.toArray⟩) hd (by simpa using hc.1) (by show cs.toArray.size<=_;rw[Yk];omega)
  refine W.KIN.call_text ht (by show cs.toArray.size<=_;rw[Yk];omega) ⟨.int (figV cs),H,I.tok _,⟨s.toks,?_⟩,ans ho M (.int _)⟩
  show YaV _ _=YaV (figV cs) _
  rw[show(⟨cs.toArray⟩:Str).cps.toList=cs from by simp]
  rfl
 |_=>cases eb
theorem Zke(cs:List Nat):RTs K cm m H (cs.map λc=>T.str [c]) (cs.map λc=>V.str ⟨#[c]⟩):=by
 induction cs with
 |nil=>exact .nil
 |cons c cs ih=>exact .cons (.str [c]) ih
theorem Zcu{x:Str}:∀(cs:List Nat) (k:Nat) (vs:List Value),vs.length=cs.length->(∀(j:Nat) (v:Value),vs[j]?=some v->∃c u,cs[j]?=some c/\v=GQ ⟨#[c]⟩ u)->Vals (cs.map λc=>V.str ⟨#[c]⟩) vs
 |[],_,[],_,_=>.nil
 |[],_,_::_,h,_=>by simp at h
 |_::_,_,[],h,_=>by simp at h
 |c::cs,k,v::vs,hl,h=>by
  obtain⟨c',u,e1,e2⟩:=h 0 v rfl
  cases e1
  exact .cons ⟨u,e2⟩ (Zcu (x:=x) cs k vs (by simpa using hl) λj w hw=>h (j+1) w (by simpa using hw))
theorem ZeX(hcalm:X.calm=true):J1 X (.type "tuple") (rN X.K xr (fBlt .tuple)):=by
 rintro pins s σ H xs us Q I r ⟨cm,m,ws,M,rws,ho⟩
 obtain⟨w,v,t,rr,rfl,rfl,rv,e,eb,ho⟩:=blt1 rws (JB (by decide)) ho
 cases t with
 |tup ts =>
  cases eb
  obtain⟨a,vs,rfl,h1,r1⟩:=(Zd rv e (λ_ z=>by cases z)).itup
  exact Zab pins s σ H _ us Q I r ⟨a,vs,rfl,.inr ⟨h1,ans ho M (.mtup h1 r1)⟩⟩
 |lst ts =>
  cases eb
  obtain⟨a,vs,rfl,h1,r1⟩:=Zq M rv e
  exact Zab pins s σ H _ us Q I r ⟨a,vs,rfl,.inl ⟨.of h1,λl hl=>Zb1 ho M r1 hl⟩⟩
 |str cs =>
  change (if cs.length<=lim then some (T.tup (cs.map λc=>T.str [c]))else none)=some rr at eb
  split at eb<;>cases eb
  rename_i hc
  cases(Zd rv e (λ_ z=>by cases z)).vstr
  obtain⟨u,rfl,ru⟩:=vals1 r
  obtain⟨tk,rfl⟩:=ru
  have hz:=ZM
  refine call_tuple_str (I.ok.hd hcalm) ⟨cs.toArray⟩ tk (λh' tk' acc hk hit=>?_) (by show cs.toArray.size<=_;rw[Yk];omega)
  obtain⟨h1,h2⟩:=hit
  have I1:Inv X pins σ H { s with heap:=h',toks:=tk' }:=I.kept hk
  have rv2:Vals (cs.map λc=>V.str ⟨#[c]⟩) acc.toList:=Zcu (x:=⟨cs.toArray⟩) cs 0 acc.toList (by simpa using h1) λj w hw=>by
   obtain⟨c,u,e1,e2⟩:=h2 j w (by simpa using hw)
   exact⟨c,u,by simpa using e1,e2⟩
  refine⟨.ref h'.objs.size,_,I1.laid (t':=tk') (o:=.tup (cs.map λc=>V.str ⟨#[c]⟩)) (λb ob q=>Yc _ q) (Yj _) ?_,rfl,Zb1 ho M (Zke cs) (I1.hok.fresh (Yj _))⟩
  refine⟨by rw[Yi];omega,acc.toList,rv2,?_⟩
  have:=TupP.new h' acc.toList.toArray
  simpa using this
 |_=>cases eb
theorem ZgS:J1 X (.type "list") (rN X.K xr (fBlt .list)):=by
 rintro pins s σ H xs us Q I r ⟨cm,m,ws,M,rws,ho⟩
 obtain⟨w,v,t,rr,rfl,rfl,rv,e,eb,ho⟩:=blt1 rws (JB (by decide)) ho
 cases t with
 |tup ts =>
  cases eb
  obtain⟨a,vs,rfl,h1,r1⟩:=(Zd rv e (λ_ z=>by cases z)).itup
  exact Za0 pins s σ H _ us Q I r ⟨a,vs,rfl,.inr h1,λl hl=>Zai ho M r1 hl⟩
 |lst ts =>
  cases eb
  obtain⟨a,vs,rfl,h1,r1⟩:=Zq M rv e
  exact Za0 pins s σ H _ us Q I r ⟨a,vs,rfl,.inl (.of h1),λl hl=>Zai ho M r1 hl⟩
 |_=>cases eb
theorem RTs.bools:∀{ts:List T}{vs:List V}{bs:List Bool},RTs K cm m H ts vs->bools? ts=some bs->vs=bs.map V.bl
 |[],_,_,.nil,e=>by cases e;rfl
 |t::ts,_,bs,.cons r rs,e=>by
  cases t with
  |bl c =>
   unfold bools? at e
   cases q:bools? ts with
   |none=>rw[q]at e;cases e
   |some cs =>
    rw[q]at e;cases e
    cases RT.vbl r
    rw[RTs.bools rs q]
    rfl
  |_=>cases e
theorem Zak:∀{bs:List Bool}{us:List Value},Vals (bs.map V.bl) us->us=bs.map W3
 |[],_,.nil=>rfl
 |b::bs,_,.cons r rs=>by
  cases r
  rw[Zak rs]
  rfl
theorem Zig{s:Shared}{h':Heap}{o:Obj}(hk:∀b x,b∉[s.heap.objs.size]->(s.heap.push o).get? b=some x->h'.get? b=some x):∀b x,s.heap.get? b=some x->h'.get? b=some x:=
 λb x e=>hk b x (λhm=>by rw[Wl.mp hm]at e;exact Y9 _ (Yp e)) (Yc _ e)
theorem Zkv{α:Type}(f:List α->Bool)(bs:List Bool)(d:Bool):(YM bs.length).map (λi=>(bs[i]?).getD d)=bs:=by
 apply Yaz
 intro i
 rw[YJ]
 by_cases h:i<bs.length
 ·rw[G6 h];simp[h]
 ·simp[h]
theorem ZiX(hc:X.calm=true):J1 X (.builtin "all") (rN X.K xr (fBlt .all)):=by
 rintro pins s σ H xs us Q I r ⟨cm,m,ws,M,rws,ho⟩
 obtain⟨w,v,t,rr,rfl,rfl,rv,e,eb,ho⟩:=blt1 rws (JB (by decide)) ho
 cases t with
 |lst ts =>
  have eb:(bools? ts).map (λbs=>T.bl (bs.all id))=some rr:=eb
  cases q:bools? ts with
  |none=>rw[q]at eb;cases eb
  |some bs =>
   rw[q]at eb;cases eb
   obtain⟨a,vs,rfl,h1,r1⟩:=Zq M rv e
   obtain⟨u,rfl,ru⟩:=vals1 r
   cases ru
   obtain⟨its,rv',pl,hz⟩:=I.list (.of h1)
   cases RTs.bools r1 q
   cases Zak rv'
   have hl:=pl.isList
   have hlt:a<s.heap.objs.size:=by obtain⟨_,e,_⟩:=hl;exact Yp e
   refine call_all_walk (Yax hl ?_)
   refine⟨s.heap.objs.size,[s.heap.objs.size,a],[s.heap.objs.size],(bs.map W3).toArray.size,_,_,λi=>(bs[i]?).getD true,rfl,Walks.list (A:=X.A.in1) (I.ok.hd hc) _ a (Yv hlt) (bs.map W3).toArray,
    ⟨⟨_,Yl _ rfl,rfl,rfl⟩,hl.push _⟩,λi v s' Q' E' hP hQ=>?_,λh' tk hk=>?_⟩
   ·have hP':(bs.map W3)[i]?=some v:=by simpa using hP
    rw[YJ]at hP'
    cases qq:bs[i]? with
    |none=>rw[qq]at hP';cases hP'
    |some b =>
     rw[qq]at hP';cases hP'
     dsimp only at hQ
     rw[qq]at hQ
     exact Ug hQ
   ·have e:((YM (bs.map W3).toArray.size).all λi=>(bs[i]?).getD true)=bs.all id:=by
     rw[Yk,Yi]
     have:=congrArg (λl=>l.all id) (Zkv (α:=Nat) (λ_=>true) bs true)
     rw[<-this,Yam]
     rfl
    rw[e]
    exact⟨.bl _,H,I.kept (Zig hk),rfl,ans ho M (.bl _)⟩
 |tup ts =>
  have eb:(bools? ts).map (λbs=>T.bl (bs.all id))=some rr:=eb
  cases q:bools? ts with
  |none=>rw[q]at eb;cases eb
  |some bs =>
   rw[q]at eb;cases eb
   obtain⟨a,vs,rfl,h1,r1⟩:=RT.itup (Zd rv e (λ_ z=>by cases z))
   obtain⟨u,rfl,ru⟩:=vals1 r
   cases ru
   obtain⟨its,rv',pl,hz⟩:=I.tuple h1
   cases RTs.bools r1 q
   cases Zak rv'
   have hl:s.heap.IsTuple a (bs.map W3).toArray:=pl
   have hlt:a<s.heap.objs.size:=by obtain⟨_,e,_⟩:=hl;exact Yp e
   refine call_all_walk (Yak hl ?_)
   refine⟨s.heap.objs.size,[s.heap.objs.size,a],[s.heap.objs.size],(bs.map W3).toArray.size,_,_,λi=>(bs[i]?).getD true,rfl,Walks.tuple (A:=X.A.in1) (I.ok.hd hc) _ a (Yv hlt) (bs.map W3).toArray,
    ⟨⟨_,Yl _ rfl,rfl,rfl⟩,(show Heap.IsTuple (s.heap.push _) a _ from let⟨o,ho,r⟩:=hl;⟨o,Yc _ ho,r⟩)⟩,λi v s' Q' E' hP hQ=>?_,λh' tk hk=>?_⟩
   ·have hP':(bs.map W3)[i]?=some v:=by simpa using hP
    rw[YJ]at hP'
    cases qq:bs[i]? with
    |none=>rw[qq]at hP';cases hP'
    |some b =>
     rw[qq]at hP';cases hP'
     dsimp only at hQ
     rw[qq]at hQ
     exact Ug hQ
   ·have e:((YM (bs.map W3).toArray.size).all λi=>(bs[i]?).getD true)=bs.all id:=by
     rw[Yk,Yi]
     have:=congrArg (λl=>l.all id) (Zkv (α:=Nat) (λ_=>true) bs true)
     rw[<-this,Yam]
     rfl
    rw[e]
    exact⟨.bl _,H,I.kept (Zig hk),rfl,ans ho M (.bl _)⟩
 |_=>cases eb
end
section
variable{K:Frag}{cm:List Addr}{m:Mem}{H:Hp}{xr:XR}{X:Cx}{call:Nat->List W->Mem->Res W}{gv:List T}
variable{a b c e:Expr}{es:List Expr}{ea eb ec:E}{eas:Es}{pos p p2:Pos}
noncomputable def tyN:Ty->String
 |.int=>"int"
 |.bool=>"bool"
 |.str=>"str"
 |.tuple=>"tuple"
 |.list=>"list"
 |.dict=>"dict"
noncomputable def tyT:T->String
 |.non=>"NoneType"
 |.bl _=>"bool"
 |.int _=>"int"
 |.str _=>"str"
 |.tup _=>"tuple"
 |.lst _=>"list"
 |.dct _ _=>"dict"
 |.scr _=>"list"
theorem ZlU(t:T)(ty:Ty):kitOne K (.type (tyT t)) (.type (tyN ty))=some (isT t ty):=by cases t<;>cases ty<;>rfl
theorem ZlX{pins:List (Addr×Obj)}{σ:L2.St}{s:Shared}{A:Around}{E:Value->Shared->Prop}{Q:Value->Shared->Prop}{w:W}{v:V}{u:Value}{t:T}{ty:Ty}(I:Inv X pins σ H s)(M:MemR X.K cm m H)(rx:RelV v u)(r:RW X.K cm m H w v)(ew:view w m=some t)(h:∀tk,Q (.bool (isT t ty)) { s with toks:=tk }):
  wpAny (model X.prog X.w) A (GD (.builtin "isinstance") [u,.type (tyN ty)]) Q E s:=by
 have k:=ZlU (K:=X.K) t ty
 have onL:∀(a:Addr) (vs:List V),v=.ref a->SqL X.K H a vs->tyT t = "list"->wpAny (model X.prog X.w) A (GD (.builtin "isinstance") [u,.type (tyN ty)]) Q E s:=λa vs e hq et=>by
  subst e
  cases rx
  obtain⟨its,_,pl,_⟩:=I.list hq
  obtain⟨o,n,e,c,_⟩:=pl
  rw[et]at k
  exact Vl Yb9 I.kIn ⟨o,e,c⟩ k (λz=>nomatch z) h
 cases t with
 |non=>cases(Zd r ew (λ_ z=>by cases z)).vnon;exact JT I rx .non k h
 |bl y=>cases(Zd r ew (λ_ z=>by cases z)).vbl;exact JT I rx (.bl y) k h
 |int i=>cases(Zd r ew (λ_ z=>by cases z)).vint;exact JT I rx (.int i) k h
 |str cs=>cases(Zd r ew (λ_ z=>by cases z)).vstr;exact JT I rx (.str _) k h
 |tup ts =>
  obtain⟨a,vs,rfl,h1,_⟩:=(Zd r ew (λ_ z=>by cases z)).itup
  cases rx
  obtain⟨its,_,p,_⟩:=I.tuple h1
  obtain⟨o,h1,h2,_⟩:=p
  exact Vl PySem.W.kitx_tuple I.kIn ⟨o,h1,h2⟩ k (λz=>nomatch z) h
 |lst ts =>
  obtain⟨a,vs,e,h1,_⟩:=Zq M r ew
  exact onL a vs e (.of h1) rfl
 |scr ns =>
  obtain⟨a,e,h1⟩:=(Zd r ew (λ_ z=>by cases z)).vscr
  exact onL a _ e h1.sq rfl
 |dct ks ts =>
  have r':=Zd r ew (λ_ z=>by cases z)
  cases r' with
  |dct q1 q2 q3 q4 q5=>exact JT I rx (.dK q1) k h
noncomputable def fIsi(ty:Ty)(w:W)(m:Mem):Res W:=pur ((view w m).map λx=>.bl (isT x ty)) m
theorem Zkk{ty:Ty}:J1 X (.builtin "isinstance") (λxs H Q=>∃x,xs=[x,.ty (tyN ty)]/\r1 X.K xr (fIsi ty) x H Q):=by
 rintro pins s σ H xs us Q I r ⟨x,e,cm,m,w,M,rw',ho⟩
 subst e
 obtain⟨u1,u2,rfl,ru1,ru2⟩:=vals2 r
 cases(show u2=G7 (tyN ty)from ru2)
 obtain⟨t,et,ho⟩:=Ql ho
 cases q:view w m with
 |none=>rw[q]at et;cases et
 |some tw =>
  rw[q]at et;cases et
  exact ZlX I M ru1 rw' q λtk=>⟨.bl _,H,I.tok _,rfl,ans ho M (.bl _)⟩
theorem Zlv{ty:Ty}{x:Str}(ha:PE X a (tE X.K call gv xr ea))(hg:Gl X "isinstance")(hm:X.mg "isinstance" = none)(hgT:Gl X x)(hmT:X.mg x=none)(hv:Ub x=some (.type (tyN ty)))(hn:x≠"__name__":=by decide)(hd:(x==("__debug__" : Str))=false:=by decide)(hs:notStar a=true:=by rfl):
  PE X (.Call (.Name "isinstance" p) [a,.Name x p2] [] pos) (tE X.K call gv xr (.isi ea ty)):=by
 refine PE.mono (Zbd (Zkk (ty:=ty) (xr:=xr)) hg hm (by decide +kernel) (Jv ha (Jv (ZhO (v:=.ty (tyN ty)) hgT hmT hv rfl hn hd) Zch (ZW rfl)) (ZW hs)) (by decide) (by decide) (ZW hs) (Xo rfl)) ?_
 rintro σ H Q ⟨env,cm,m,hE,M,ho⟩
 rw[ev]at ho
 exact⟨env,cm,m,hE,M,ho.bind.mono λw cm1 m1 H1 x1 M1 o1 v rv=>⟨v,rfl,cm1,m1,w,M1,rv,o1⟩⟩
noncomputable def rM(K:Frag)(xr:XR)(b:Mt):V->List V->Hp->VK->Prop:=λx xs H Q=>∃cm m w ws,MemR K cm m H/\RW K cm m H w x/\RWs K cm m H ws xs/\OkR K (doM b w ws m) xr cm m H λw cm' m' H'=>∀v,RW K cm' m' H' w v->Q v H'
theorem RTs.strs:∀{ts:List T}{vs:List V}{bs:List (List Nat)},RTs K cm m H ts vs->strs? ts=some bs->vs=bs.map λc=>V.str ⟨c.toArray⟩
 |[],_,_,.nil,e=>by cases e;rfl
 |t::ts,_,bs,.cons r rs,e=>by
  cases t with
  |str c =>
   unfold strs? at e
   cases q:strs? ts with
   |none=>rw[q]at e;cases e
   |some cs =>
    rw[q]at e;cases e
    cases RT.vstr r
    rw[RTs.strs rs q]
    rfl
  |_=>cases e
theorem Xm:∀{bs:List (List Nat)}{us:List Value},Vals (bs.map λc=>V.str ⟨c.toArray⟩) us->Yb2 us (bs.map λc=>(⟨c.toArray⟩:Str))
 |[],_,.nil=>.nil
 |b::bs,_,.cons ⟨t,e⟩ rs=>by
  cases e
  exact .cons _ t (Xm rs)
theorem few1{cpos:Pos}(hs:notStar e=true):((backTo cpos (Wq [e] X.env)).all (λx=>!x.1)&&(Yb0 cpos (Ybc [] X.env)).all (λx=>x.1.isSome)
  && decide ([e].length+([]:List Yb1).length+(if([]:List Yb1).isEmpty then 0 else 1)<30))=true:=by
 rw[Zhg (by rw[U8,hs];rfl)]
 rfl
structure At (X:Cx) (call:Nat->List W->Mem->Res W) (gv:List T) (e:Expr) (a:E) (f:L2.St->Option V):Prop where
 pe:PE X e (λσ H Q=>∃v,f σ=some v/\Q v H)
 rd:∀env cm m H σ,EnvR X.K cm m H env σ->(∃w v,ev call gv a env m=.ok w m/\f σ=some v/\RW X.K cm m H w v)∨ev call gv a env m=.stuck
theorem Zgg{tg:Expr}(hg:Gl X "range")(hm:X.mg "range" = none)(ha:PA X [a] (tA X.K call gv xr eas))(hs:notStar a=true:=by rfl):PI X tg (.Call (.Name "range" p) [a] [] pos) (tI X.K call gv xr (.blt .range1 eas)):=by
 refine PI.mono (ZhG hg hm ha (ZW hs)) ?_
 rintro σ H R ⟨env,cm,m,hE,M,ho⟩
 rw[ev]at ho
 refine⟨env,cm,m,hE,M,ho.bind.mono λws cm1 m1 H1 x1 M1 o1 vs rvs=>?_⟩
 obtain⟨w,v,t,rr,rfl,rfl,rv,e,eb,o2⟩:=blt1 (b:=.range1) rvs (JB (by decide)) o1
 cases t with
 |int i =>
  change (if i<2^62/\-(2^62)<=i then some (T.lst (rangeT 0 i.toNat))else none)=some rr at eb
  split at eb<;>cases eb
  rename_i hc
  cases(Zd rv e (λ_ z=>by cases z)).vint
  obtain⟨ts,m2,q1,q2⟩:=OkR.now o2 M1
  cases q1
  exact⟨_,rfl,hc.2,hc.1,q2 _ (.rng 0 _)⟩
 |_=>cases eb
end
section
variable(K:Frag) (call:Nat->List W->Mem->Res W) (gv:List T) (xr:XR)
noncomputable def Zb5(n:Nat)(D:Ends)(fl:Flow)(cm:List Addr)(m:Mem)(H:Hp):Prop:=match fl with
 |.next env=>∀σ:L2.St,σ.length=n->EnvR K cm m H env σ->D.nx σ H
 |.ret w=>∀v,RW K cm m H w v->D.rt v H
 |.brk env=>∀σ:L2.St,σ.length=n->EnvR K cm m H env σ->D.bk σ H
 |.cont env=>∀σ:L2.St,σ.length=n->EnvR K cm m H env σ->D.ct σ H
noncomputable def tS(n:Nat)(s:S):TS:=λD σ H=>σ.length=n/\∃env cm m,EnvR K cm m H env σ/\MemR K cm m H/\OkR K (ex call gv s env m) xr cm m H λfl cm' m' H'=>Zb5 K n D fl cm' m' H'
end
section
variable{K:Frag}{cm:List Addr}{m:Mem}{H:Hp}{xr:XR}{X:Cx}{call:Nat->List W->Mem->Res W}{gv:List T}
variable{a b c e:Expr}{es:List Expr}{ea eb ec:E}{eas:Es}{pos p p2:Pos}{rest:List Stmt}{k:S}{n:Nat}
theorem PSs.mono{sts:List Stmt}{t t':TS}(h:PSs X sts t)(f:∀D σ H,t' D σ H->t D σ H):PSs X sts t':=λpins s σ H D I q=>h pins s σ H D I (f D σ H q)
theorem Zjr:PSs X [] (tS X.K call gv xr n .done):=PSs.mono Zex λD σ H ⟨hl,env,cm,m,hE,M,ho⟩=>by
 rw[ex]at ho
 exact OkR.now ho M σ hl hE
theorem Zjq(h:PE X e (tE X.K call gv xr ea)):PSs X (.Return (some e) pos::rest) (tS X.K call gv xr n (.ret ea k)):=PSs.mono (Q7 (ps_ret h) Zhx) λD σ H ⟨hl,env,cm,m,hE,M,ho⟩=>by
 rw[ex]at ho
 exact⟨env,cm,m,hE,M,ho.bind.mono λw cm1 m1 H1 x1 M1 o1 v rv=>OkR.now o1 M1 v rv⟩
theorem Zhy(h:PE X e (tE X.K call gv xr ea))(hk:PSs X rest (tS X.K call gv xr n k))(hs:V2 e none pos.line X.env=pure false:=by rfl):PSs X (.Expr e pos::rest) (tS X.K call gv xr n (.expr ea k)):=PSs.mono (Q7 (Zlc h hs) hk) λD σ H ⟨hl,env,cm,m,hE,M,ho⟩=>by
 rw[ex]at ho
 exact⟨env,cm,m,hE,M,ho.bind.mono λw cm1 m1 H1 x1 M1 o1 v rv=>⟨hl,env,cm1,m1,hE.ext x1 M M1,M1,o1⟩⟩
theorem Zjt{i:Nat}{x:Str}{px:Pos}(hN:X.N.Nodup)(hn:X.N.length=n)(hi:X.N[i]?=some x)(hx:Loc X.env.scope x)(h:PE X e (tE X.K call gv xr ea))(hk:PSs X rest (tS X.K call gv xr n k))(hs:V2 e (some (.Name x px)) pos.line X.env=pure false:=by rfl)(hf:X.fn x=true∨X.env.scope.names.lookup x=some .local:=by first|exact .inl rfl|exact .inr rfl|assumption):PSs X (.Assign [.Name x px] e pos::rest) (tS X.K call gv xr n (.asg i ea k)):=PSs.mono (Q7 (ps_set hN hi hx h hs hf) hk) λD σ H ⟨hl,env,cm,m,hE,M,ho⟩=>by
 rw[ex]at ho
 have hi':i<σ.length:=by rw[hl,<-hn];exact(Ye.mp hi).1
 exact⟨env,cm,m,hE,M,ho.bind.mono λw cm1 m1 H1 x1 M1 o1 v rv=>⟨by rw[Wt];exact hl,env.set i (some w),cm1,m1,EnvR.set (hE.ext x1 M M1) rv i hi',M1,o1⟩⟩
theorem Zjp{o i v:Expr}{eo ei ev':E}{tp:Pos}(hv:PE X v (tE X.K call gv xr ev'))(ho:PE X o (tE X.K call gv xr eo))(hi:PE X i (tE X.K call gv xr ei))(hk:PSs X rest (tS X.K call gv xr n k))(ha:∀v,assign (.Subscript o i tp) X.env v=(do
   let ov <-Vh [v] (eval o X.env)
   let iv <-Vh [v,ov] (eval i X.env)
   Gb tp
   Vh [v,ov,iv] (setItem ov iv v)
   release [v,ov,iv] []):=by intro _;rfl)(hs:swapsWithSole [.Subscript o i tp] v pos.line X.env=pure false:=by rfl)(hw:swappedStores [.Subscript o i tp] v X.env=pure none:=by rfl)(h1:(Wz [.Subscript o i tp] X.env).map (·.2)=[assign (.Subscript o i tp) X.env]:=by rfl):PSs X (.Assign [.Subscript o i tp] v pos::rest) (tS X.K call gv xr n (.set eo ei ev' k)):=
 PSs.mono (Q7 (ps_asg hv (pg_sub ho hi set_list ha) hs hw h1) hk) λD σ H ⟨hl,env,cm,m,hE,M,hq⟩=>by
  rw[ex]at hq
  refine⟨env,cm,m,hE,M,hq.bind.mono λz cm1 m1 H1 x1 M1 o1 vz rz=>?_⟩
  refine⟨env,cm1,m1,hE.ext x1 M M1,M1,o1.bind.mono λx cm2 m2 H2 x2 M2 o2 vx rx=>?_⟩
  refine⟨env,cm2,m2,(hE.ext x1 M M1).ext x2 M1 M2,M2,o2.bind.mono λy cm3 m3 H3 x3 M3 o3 vy ry=>?_⟩
  unfold setM at o3
  split at o3
  ·rename_i cc kk
   cases q:frz z m3 with
   |stuck=>rw[q]at o3;exact o3.elim
   |exc e' m'=>exact absurd q Zd8
   |ok t m4 =>
    rw[q]at o3
    obtain⟨x4,M4,r4⟩:=Ziu M3 ((rz.ext x2 M1 M2).ext x3 M2 M3) q
    have rx':RW X.K cm3 m4 H3 (.c cc) vx:=(rx.ext x3 M2 M3).ext x4 M3 M4
    cases RT.vint ry
    obtain⟨a,ha1,rfl⟩:=rx'
    have o3:OkR X.K ((match m4[cc]? with
     |some (some (false,xs))=>match ixOf xs.length kk with
      |some j=>Res.ok () (m4.set cc (some (false,xs.set j t)))
      |none=>.stuck
     |_=>.stuck).bind λ_ m=>ex call gv k env m) xr cm3 m3 H3 _:=o3
    split at o3
    ·rename_i xs e1
     split at o3
     ·rename_i j e2
      obtain⟨b,vs,q1,q2,q3,q4⟩:=M4.at' cc _ e1
      rw[ha1]at q1;cases q1
      have l4:=q4.length
      dsimp only at l4
      obtain⟨x5,M5⟩:=ZaM M4 e1 ha1 (Zcf r4 j q4)
      refine⟨a,vs,kk,j,rfl,rfl,q2,by rw[<-l4];exact e2,?_⟩
      have xx:=(x4.trans x5)
      exact⟨hl,env,cm3,_,(((hE.ext x1 M M1).ext x2 M1 M2).ext x3 M2 M3).ext xx M3 M5,M5,OkR.shift (show OkR X.K (ex call gv k env _) xr cm3 m3 H3 _ from o3) xx⟩
     ·exact o3.elim
    ·exact o3.elim
  ·exact o3.elim
theorem bind_assoc{α β γ:Type}(r:Res α)(f:α->Mem->Res β)(g:β->Mem->Res γ):(r.bind f).bind g=r.bind λa m=>(f a m).bind g:=by cases r<;>rfl
theorem Zlb{A B:List Stmt}{sa sb:S}(hc:PT X c (tT X.K call gv xr ec))(ha:PSs X A (tS X.K call gv xr n sa))(hb:PSs X B (tS X.K call gv xr n sb))(hk:PSs X rest (tS X.K call gv xr n k)):PSs X (.If c A B pos::rest) (tS X.K call gv xr n (.ife ec sa sb k)):=
 PSs.mono (Q7 (ps_if hc ha hb) hk) λD σ H ⟨hl,env,cm,m,hE,M,ho⟩=>by
  rw[ex,<-bind_assoc]at ho
  refine⟨env,cm,m,hE,M,ho.bind.mono λt cm1 m1 H1 x1 M1 o1=>?_⟩
  have go:∀s:S,OkR X.K ((ex call gv s env m1).bind λfl m=>match fl with|.next env=>ex call gv k env m|fl=>.ok fl m) xr cm1 m1 H1 (λfl cm' m' H'=>Zb5 X.K n D fl cm' m' H')->tS X.K call gv xr n s { D with nx:=tS X.K call gv xr n k D } σ H1:=λs o=>by
   refine⟨hl,env,cm1,m1,hE.ext x1 M M1,M1,o.bind.mono λfl cm2 m2 H2 x2 M2 o2=>?_⟩
   cases fl with
   |next env'=>exact λσ' hl' hE'=>⟨hl',env',cm2,m2,hE',M2,o2⟩
   |ret w=>exact OkR.now (xr:=xr) (a:=Flow.ret w) o2 M2
   |brk env'=>exact OkR.now (xr:=xr) (a:=Flow.brk env') o2 M2
   |cont env'=>exact OkR.now (xr:=xr) (a:=Flow.cont env') o2 M2
  cases t with
  |true=>exact iteT (go sa o1)
  |false=>exact iteF (go sb o1)
theorem Xp:∀(is:List Nat) (vs:List V) (σ:L2.St),(setAll is vs σ).length=σ.length
 |[],_,_=>by unfold setAll;rfl
 |_::_,[],_=>by unfold setAll;rfl
 |i::is,v::vs,σ=>by unfold setAll;rw[Xp,Wt]
theorem gT_len{tg:Tg}{v:V}{σ:L2.St}{Q:L2.St->Hp->Prop}(h:gT K tg v σ H Q):gT K tg v σ H λσ' H'=>σ'.length=σ.length/\Q σ' H':=by
 cases tg with
 |nm i=>exact⟨Wt,h⟩
 |tp is =>
  obtain⟨a,xs,h1,h2,h3,h4⟩:=h
  exact⟨a,xs,h1,h2,h3,Xp _ _ _,h4⟩
theorem EnvR.same{cm:List Addr}{m m':Mem}{H:Hp}{env:Env}{σ:L2.St}(h:EnvR K cm m H env σ)(f:∀t v,RT K cm m H t v->RT K cm m' H t v):EnvR K cm m' H env σ:=λi w e=>by
 obtain⟨v,h1,h2⟩:=h i w e
 refine⟨v,h1,?_⟩
 cases w with
 |t t=>exact f t v h2
 |f a=>exact h2
 |x _ _ _=>exact XF.wsame f h2
 |o _ _ _=>exact RO.wsame f h2
 |u=>exact Ur
 |c i=>exact h2
theorem Zjs{tgt iter:Expr}{body:List Stmt}{tg:Tg}{it:E}{sb:S}(hc:X.calm=true)(hp:Yb6 (model X.prog X.w) X.A X.env X.xe)(hi:PI X tgt iter (tI X.K call gv xr it))(hg:PG X tgt (gT X.K tg))(ht:∀i∈tgS tg,i<n)(hb:PSs X body (tS X.K call gv xr n sb))(hk:PSs X rest (tS X.K call gv xr n k))(hs:∀x,Wu iter X.env x=pure x:=by intro _;rfl):PSs X (.For tgt iter body [] pos::rest) (tS X.K call gv xr n (.forr tg it sb k)):=
 PSs.mono (Q7 (ps_for hp hc hi hg hb hs) hk) λD σ0 H0 ⟨hl0,env0,cm0,m0,hE0,M0,ho⟩=>by
  rw[ex]at ho
  refine⟨env0,cm0,m0,hE0,M0,ho.bind.mono λx cm1 m1 H1 x1 M1 o1=>?_⟩
  cases hbr:Z4 x m1 with
  |stuck=>rw[hbr]at o1;exact o1.elim
  |exc e' m' =>
   exfalso
   unfold Z4 at hbr
   split at hbr<;>first|(cases hbr;done)|(split at hbr<;>cases hbr)
  |ok ts m2 =>
   rw[hbr]at o1
   obtain⟨xb,Mb⟩:=ZbQ M1 hbr
   let g:Flow->Mem->Res Flow:=λfl m=>match fl with
    |.next env=>ex call gv k env (giveBack x m1 m)
    |.ret w=>.ok (.ret w) (giveBack x m1 m)
    |_=>.stuck
   have o1:OkR X.K ((JN (λenv m=>ex call gv sb env m) tg ts env0 m2).bind g) xr cm1 m1 H1 (λfl cm' m' H'=>Zb5 X.K n D fl cm' m' H'):=o1
   refine⟨ts,m2,rfl,λJ hJ=>?_⟩
   let P:Flow->List Addr->Mem->Hp->Prop:=λfl _ m' _=>OkR X.K (g fl m') xr cm1 m1 H1 (λfl cm' m' H'=>Zb5 X.K n D fl cm' m' H')
   -- behind the walk
   have fin:∀env cm m H σ,σ.length=n->EnvR X.K cm m H env σ->MemR X.K cm m H->Ext cm1 m2 H1 cm m H->P (.next env) cm m H->tS X.K call gv xr n k D σ H:=λenv cm m H σ hl hE M xx hP=>by
    obtain⟨xg,Mg,fg⟩:=XX M1 hbr xx M
    exact⟨hl,env,cm,_,EnvR.same hE fg,Mg,OkR.shift (show OkR X.K (ex call gv k env (giveBack x m1 m)) xr cm1 m1 H1 _ from hP) xg⟩
   refine⟨λi μ σ H=>μ=ts.length-i/\σ.length=n/\∃env cm m,EnvR X.K cm m H env σ/\MemR X.K cm m H/\Ext cm1 m2 H1 cm m H/\OkR X.K (JN (λenv m=>ex call gv sb env m) tg (ts.drop i) env m) xr cm m H P,⟨ts.length-0,rfl,hl0,env0,cm1,m2,(hE0.ext x1 M0 M1).ext xb M1 Mb,Mb,.refl,?_⟩,?_⟩
   ·rw[Yaq]
    exact OkR.shift o1.bind0 xb
   ·rintro i μ σ H ⟨rfl,hl,env,cm,m,hE,M,xx,hq⟩
    have sJ:=hJ.ext xx Mb M
    cases e:ts[i]? with
    |none =>
     have ed:ts.drop i=[]:=List.drop_eq_nil_iff.mpr (GZ.mp e)
     rw[ed,JN]at hq
     exact .inl ⟨sJ.stop M e,fin env cm m H σ hl hE M xx (OkR.now hq M)⟩
    |some t =>
     have hlt:=(Ye.mp e).1
     have ed:ts.drop i=t::ts.drop (i+1):=by
      rw[List.drop_eq_getElem_cons hlt]
      rw[(Ye.mp e).2]
     rw[ed,JN]at hq
     obtain⟨go,hy⟩:=sJ.go M e
     refine .inr ⟨go,λσ' H'=>σ'.length=n/\∃env cm m,EnvR X.K cm m H' env σ'/\MemR X.K cm m H'/\Ext cm1 m2 H1 cm m H'/\OkR X.K (JN (λenv m=>ex call gv sb env m) tg (ts.drop (i+1)) env m) xr cm m H' P,
      λσ' H' hN=>⟨ts.length-(i+1),by omega,rfl,hN⟩,λv H' y=>?_⟩
     obtain⟨xy,My,rt⟩:=hy v H' y
     have hE:=hE.ext xy M My
     have xx:=xx.trans xy
     have hq:=OkR.shift hq xy
     have M:=My
     split at hq
     ·exact hq.elim
     ·rename_i env' eb
      have:=gT_len (gT_ok (Q:=λσ' H2=>H2=H'/\EnvR X.K cm m H' env' σ') hE (λj hj=>by rw[hl];exact ht j hj) rt eb λσ' hE' _=>⟨rfl,hE'⟩)
      have mono:∀{Q Q':L2.St->Hp->Prop},gT X.K tg v σ H' Q->(∀σ' H',Q σ' H'->Q' σ' H')->gT X.K tg v σ H' Q':=λ{Q Q'} h f=>by
       cases tg with
       |nm j=>exact f _ _ h
       |tp is =>
        obtain⟨a1,xs,z1,z2,z3,z4⟩:=h
        exact⟨a1,xs,z1,z2,z3,f _ _ z4⟩
      refine mono this ?_
      rintro σ2 H2 ⟨hl2,e2,hE2⟩
      subst e2
      refine⟨hl2.trans hl,env',cm,m,hE2,M,hq.bind.mono λfl cm3 m3 H3 x3 M3 o3=>?_⟩
      cases fl with
      |next env3=>exact λσ3 hl3 hE3=>⟨hl3,env3,cm3,m3,hE3,M3,xx.trans x3,o3⟩
      |cont env3=>exact λσ3 hl3 hE3=>⟨hl3,env3,cm3,m3,hE3,M3,xx.trans x3,o3⟩
      |brk env3=>exact λσ3 hl3 hE3=>fin env3 cm3 m3 H3 σ3 hl3 hE3 M3 (xx.trans x3) (OkR.now (a:=Flow.next env3) o3 M3)
      |ret w =>
       intro v3 rv3
       have hP:P (.ret w) cm3 m3 H3:=OkR.now (a:=Flow.ret w) o3 M3
       obtain⟨xg,Mg,fg⟩:=XX M1 hbr (xx.trans x3) M3
       refine OkR.to (a:=Flow.ret w) (m':=giveBack x m1 m3) hP xg Mg v3 ?_
       cases w with
       |t t=>exact fg t v3 rv3
       |f a=>exact rv3
       |x _ _ _=>exact XF.wsame fg rv3
       |o _ _ _=>exact RO.wsame fg rv3
       |u=>exact Ur
       |c j=>exact rv3
theorem Zft{elt target iter:Expr}{ifs:List Expr}{gs:List WN}{scope:Scope}{N':List Str}{own:Nat}{keep:List Nat}{it:E}{tg:Tg}{cs:Es}{inner:E}{i:Nat}{x:Str}{px spos:Pos}(hc:X.calm=true)(kk:CompK X xr0 call gv N' scope own keep elt target iter ifs gs it tg cs inner)(hN:X.N.Nodup)(hn:X.N.length=n)(hi:X.N[i]?=some x)(hx:X.env.scope.names.lookup x=some .local)(hk:PSs X rest (tS X.K call gv xr n k))(hsw:V2 (.ListComp elt (⟨target,iter,ifs,0⟩::gs) scope pos) (some (.Name x px)) spos.line X.env=pure true:=by rfl):
  PSs X (.Assign [.Name x px] (.ListComp elt (⟨target,iter,ifs,0⟩::gs) scope pos) spos::rest) (tS X.K call gv xr n (.asg i (.comp own keep it tg cs inner) k)):=by
 have h1:PS X (.Assign [.Name x px] (.ListComp elt (⟨target,iter,ifs,0⟩::gs) scope pos) spos) (λD σ H=>∃env cm m m' out,EnvR X.K cm m H env σ/\MemR X.K cm m H/\ev call gv (.comp own keep it tg cs inner) env m=.ok (.t (.lst out)) m' /\
   ∀(p:Addr) (H3:Hp) (cm3:List Addr) (vs:List V),H3 p=none->X.K.lookup p=none->Ext cm m H cm3 m' H3->MemR X.K cm3 m' H3->RTs X.K cm3 m' H3 out vs->D.nx (σ.set i (some (.ref p))) (upd H3 p (.lst vs))):=
  λpins s σ H D I ⟨env,cm,m,m',out,hE,M,ok,q⟩=>Zkc hc kk hN hi hx hsw I hE M ok q
 refine PSs.mono (Q7 h1 hk) ?_
 rintro D σ H ⟨hl,env,cm,m,hE,M,ho⟩
 rw[ex]at ho
 cases h:ev call gv (.comp own keep it tg cs inner) env m with
 |stuck=>rw[h]at ho;exact ho.elim
 |exc e m'=>exact absurd h (ZaK e m')
 |ok w m' =>
  obtain⟨out,rfl⟩:=ZbL h
  rw[h]at ho
  refine⟨env,cm,m,m',out,hE,M,h,λp H3 cm3 vs hp _ x3 M3 r3=>?_⟩
  have hi':i<σ.length:=by rw[hl,<-hn];exact(Ye.mp hi).1
  have x4:=x3.trans (Ext.new (o:=.lst vs) hp)
  have M4:=M3.new (o:=.lst vs) hp
  exact⟨by rw[Wt];exact hl,_,cm3,m',EnvR.set (w:=.t (.lst out)) (hE.ext x4 M M4) (RT.newLst M3 r3 hp) i hi',M4,OkR.shift (show OkR X.K (ex call gv k (env.set i (some (.t (.lst out)))) m') xr cm m H _ from ho) x4⟩
end
noncomputable def Ahead(h:Heap)(e:Addr)(mk hd:Value):Prop:=hd=.none∨∃T oT ts,hd=.ref T/\T≠e/\h.get? T=some oT/\oT.data=.fields ts/\ts[3]?=some mk
theorem ZaW{o:Obj}{vs:Array Value}(h:o.data=.fields vs)(f:Array Value->Array Value):o.mapFields f={ o with data:=.fields (f vs) }:=by
 obtain⟨c,d,dt,sl⟩:=o
 cases h
 rfl
structure Noted (fr:List Addr) (h:Heap) (e:Addr) (oe:Obj) (mk:Value) (h':Heap):Prop where
 keep:∀b o,b∉fr->b≠e->h.get? b=some o->h'.get? b=some o
 slot:∀b o,b∈fr->h.get? b=some o->∃sl,h'.get? b=some { o with slots:=sl }
 new:∃T oT ts vs,h.get? T=none/\T≠e/\h'.get? T=some oT/\oT.data=.fields ts/\ts[3]?=some mk/\h'.get? e=some { oe with data:=.fields vs }/\vs[1]?=some (.ref T)
section
variable{M:Model}{A:Around}{E:Value->Shared->Prop}{s:Shared}{base:Heap}{env:Wb}{outer:List Wb}{L e:Addr}{oe:Obj}{vs:Array Value}{hd:Value}{Q:Unit->Shared->Prop}
theorem ZiC{before:Bool}(hfr:A.frames=some (env::outer))(hl:s.heap.FunFrames base (env::outer))(hf:env.frame=some L)(he:s.heap.get? e=some oe)(hv:oe.data=.fields vs)(h1:1<vs.size)(k:∀h':Heap,Noted (frs (env::outer)) s.heap e oe (rawInt L) h'->Q () { s with heap:=h' }):
  wpAny M A (do
   let a <-frameOf env
   let pl <-entryPlaceOf L before
   let b <-EntryCells.newEntry hd a .none (rawInt L) .none pl
   setField (.ref e) 1 b) Q E s:=by
 have ne:e∉frs (env::outer):=λhm=>by
  obtain⟨_,o,q,nf⟩:=hl.mem hm
  rw[he]at q;cases q
  exact nf vs hv
 refine Yb (wpAny_frameOf_fun hfr hl hf λh1' so=>?_)
 refine Yb (wpAny_entryPlaceOf λpl hp=>?_)
 unfold EntryCells.newEntry newFields
 refine Yb (YZ ?_ (hp.sizeOk5 _ _ _ _ _))
 have e1:h1'.get? e=some oe:=(so.2.1 e ne).trans he
 generalize hob:({ cls:=.type "traceback",dict:=none,data:=.fields ([hd,.ref L,.none,rawInt L,.none]++(if pl.isEmpty then Yn 6 W2 else pl)).toArray }:Obj)=ob
 have e2:=Yc (h:=h1') ob e1
 have obf:ob.isFreed=false:=by rw[<-hob];rfl
 refine W7 e2 hv h1 (k _ ?_)
 have nT:h1'.objs.size≠e:=Gu (Yp e1)
 have kp:∀b o,b≠e->h1'.get? b=some o->((h1'.push ob).update e (Gm (·.setIfInBounds 1 (Y5 h1'.objs.size)))).get? b=some o:=λb o hb q=>by
  rw[Y6 _ _ (WR hb)]
  exact Yc _ q
 refine⟨λb o hb hbe q=>kp b o hbe ((so.2.1 b hb).trans q),λb o hb q=>?_,?_⟩
 ·obtain⟨sl,z⟩:=so.2.2 b o q
  exact⟨sl,kp b _ (λy=>ne (y▸hb)) z⟩
 ·refine⟨h1'.objs.size,ob,_,vs.setIfInBounds 1 (Y5 h1'.objs.size),VL (by rw[so.1];exact Yj _),nT,?_,by rw[<-hob],?_,?_,?_⟩
  ·rw[Y6 _ _ (WR nT)]
   exact Yl _ obf
  ·simp
  ·rw[Wo _ e2 (Um (Wy hv _)),ZaW hv]
  ·simp[h1]
theorem note_x(hfr:A.frames=some (env::outer))(hl:s.heap.FunFrames base (env::outer))(hf:env.frame=some L)(he:s.heap.get? e=some oe)(hv:oe.data=.fields vs)(h1:vs[1]?=some hd)(ah:Ahead s.heap e .none hd)(k:∀h':Heap,Noted (frs (env::outer)) s.heap e oe (rawInt L) h'->Q () { s with heap:=h' }):wpAny M A (VG (.ref e) env) Q E s:=by
 have hz:1<vs.size:=(Ud.mp h1).1
 unfold VG
 simp only[hf]
 refine Yb (Ge he hv h1 ?_)
 rcases ah with rfl|⟨T,oT,ts,rfl,ne,hT,dT,mT⟩
 ·rw[if_neg (by decide)]
  exact ZiC hfr hl hf he hv hz k
 ·rw[if_pos (show(Y5 T != W2)=true from by simp)]
  refine Yb (Ge hT dT mT ?_)
  rw[if_neg (show ¬((W2==rawInt L)=true)from by simp[rawInt])]
  refine Yb (W7 hT dT (Ud.mp mT).1 ?_)
  rw[Heap.update_setField_same s.heap T oT ts 3 .none hT dT mT]
  exact ZiC hfr hl hf he hv hz k
theorem Zj4{T:Addr}{oT:Obj}{ts:Array Value}{mk:Value}(he:s.heap.get? e=some oe)(hv:oe.data=.fields vs)(h1:vs[1]?=some (.ref T))(hT:s.heap.get? T=some oT)(dT:oT.data=.fields ts)(mT:ts[3]?=some mk)(k:∀h':Heap,(∀b,b≠T->h'.get? b=s.heap.get? b)->h'.get? T=some { oT with data:=.fields (ts.setIfInBounds 3 .none) }->Q () { s with heap:=h' }):wpAny M A (Ybk (.ref e) none) Q E s:=by
 unfold Ybk
 refine Yb (Ge he hv h1 ?_)
 rw[if_pos (show(Y5 T != W2)=true from by simp)]
 refine W7 hT dT (Ud.mp mT).1 (k _ (λb hb=>Y6 _ _ (WR hb)) ?_)
 rw[Wo _ hT (Um (Wy dT _)),ZaW dT]
 rfl
end
noncomputable def xeP(e C:Addr)(dx:Option Addr)(hd:Value)(h:Heap):Prop:=∃oe vs,h.get? e=some oe/\oe.cls=.ref C/\oe.dict=dx/\oe.data=.fields vs/\vs[1]?=some hd
noncomputable def xtP(T:Addr)(h:Heap):Prop:=∃oT ts,h.get? T=some oT/\oT.data=.fields ts/\ts[3]?=some .none
noncomputable def xeO(e C:Addr)(dx:Option Addr)(hd:Value):HO:=.ext (xeP e C dx hd)
theorem xe_ok{P:Yx}{w:World}{H:Hp}{h:Heap}{e C:Addr}{dx:Option Addr}{hd:Value}(x:xeP e C dx hd h):QJ P w H h e (xeO e C dx hd):=by
 refine⟨x,?_,λh1 h2 ⟨oe,vs,q,r⟩ k=>⟨oe,vs,k _ q,r⟩⟩
 obtain⟨oe,vs,q,r⟩:=x
 exact⟨oe,q⟩
theorem ZkF{P:Yx}{w:World}{H:Hp}{h:Heap}(ok:HOk P w H h){b:Addr}{u:HO}(q:H b=some u):∃o,h.get? b=some o:=by
 cases u with
 |lst xs=>obtain⟨_,_,_,_,z⟩:=ok b _ q;exact⟨_,z⟩
 |tup xs=>obtain⟨_,_,_,o,z,_⟩:=ok b _ q;exact⟨_,z⟩
 |dK kvs=>obtain⟨_,_,_,_,o,_,_,z,_⟩:=ok b _ q;exact⟨_,z⟩
 |dT kvs=>obtain⟨_,_,_,_,o,_,_,z,_⟩:=ok b _ q;exact⟨_,z⟩
 |set S n=>obtain⟨o,_,_,_,z,_⟩:=ok b _ q;exact⟨_,z⟩
 |ins C dx fs=>obtain⟨_,_,_,z,_⟩:=ok b _ q;exact⟨_,z⟩
 |own y=>exact ok b _ q
 |xd fs=>obtain⟨_,⟨_,_,_,z,_⟩,_⟩:=ok b _ q;exact⟨_,z⟩
 |rng lo hi=>obtain⟨_,_,_,z⟩:=ok b _ q;exact⟨_,z⟩
 |frz ob u=>obtain⟨z,_⟩:=ok b _ q;exact⟨_,z⟩
 |tbl ps=>exact⟨_,ok b _ q⟩
 |met f y=>exact⟨_,ok b _ q⟩
 |ext φ=>obtain⟨_,z,_⟩:=ok b _ q;exact z
theorem hok_no{P:Yx}{w:World}{H:Hp}{h:Heap}(ok:HOk P w H h){b:Addr}(n:h.get? b=none):H b=none:=by
 cases q:H b with
 |none=>rfl
 |some u =>
  obtain⟨o,z⟩:=ZkF ok q
  rw[n]at z;cases z
structure Air (P:Yx) (w:World) (fr:List Addr) (H:Hp) (s:Shared) (H':Hp) (e C:Addr) (dx:Option Addr) (s':Shared):Prop where
 os:s'.os=s.os
 bare:YaD s'.gens
 un:Un fr [] H H' s.heap s'.heap
 hok:HOk P w H' s'.heap
 no:H' e=none
 new:s.heap.get? e=none
 at':∃hd,xeP e C dx hd s'.heap/\(hd=.none∨∃T,hd=.ref T/\T≠e/\xtP T s'.heap)
section
variable{P:Yx}{w:World}{M:Model}{A:Around}{E:Value->Shared->Prop}{s s':Shared}{H H':Hp}{base:Heap}{env:Wb}{outer:List Wb}{L e C:Addr}{dx:Option Addr}{Q:Unit->Shared->Prop}
theorem land(a:Air P w (frs (env::outer)) H s H' e C dx s')(fre:∀b∈frs (env::outer),H' b=none)(hfr:A.frames=some (env::outer))(hl:s'.heap.FunFrames base (env::outer))(hf:env.frame=some L)(k:∀(h':Heap) (T:Addr),Air P w (frs (env::outer)) H s H' e C dx { s' with heap:=h' }->xeP e C dx (.ref T) h'->xtP T h'->T≠e->Q () { s' with heap:=h' }):
  wpAny M A (VG (.ref e) env) (λ_ s1=>wpAny M A (Ybk (.ref e) none) Q E s1) E s':=by
 obtain⟨hd,⟨oe,vs,q1,q2,q3,q4,q5⟩,ah⟩:=a.at'
 refine note_x hfr hl hf q1 q4 q5 ?_ λh1 N=>?_
 ·rcases ah with rfl|⟨T,rfl,ne,oT,ts,z⟩
  ·exact .inl rfl
  ·exact .inr ⟨T,oT,ts,rfl,ne,z⟩
 obtain⟨T,oT,ts,vs',a1,a2,a3,a4,a5,a6,a7⟩:=N.new
 refine Zj4 (s:={ s' with heap:=h1 }) a6 rfl a7 a3 a4 a5 λh2 k2 hT=>?_
 have neT:∀b o,s'.heap.get? b=some o->b≠T:=λb o q z=>by rw[z,a1]at q;cases q
 have kp:∀b o,b∉frs (env::outer)->b≠e->s'.heap.get? b=some o->h2.get? b=some o:=λb o hb hbe q=>(k2 b (neT b o q)).trans (N.keep b o hb hbe q)
 have sl:∀b o,b∈frs (env::outer)->s'.heap.get? b=some o->∃sl,h2.get? b=some { o with slots:=sl }:=λb o hb q=>by
  obtain⟨sl,z⟩:=N.slot b o hb q
  exact⟨sl,(k2 b (neT b o q)).trans z⟩
 have nb:∀b o,s.heap.get? b=some o->b≠e:=λb o q z=>by rw[z,a.new]at q;cases q
 have xe2:xeP e C dx (.ref T) h2:=⟨_,vs',(k2 e (WR a2)).trans a6,q2,q3,rfl,a7⟩
 have xt2:xtP T h2:=⟨_,_,hT,rfl,by simp[(Ud.mp a5).1]⟩
 refine k h2 T ⟨a.os,a.bare,⟨λb o q n hb hx=>kp b o hb (nb b o q) (a.un.keep b o q n hb hx),λb o q n hb hx=>?_,a.un.free,λb o q hx=>?_,a.un.tups,a.un.frzs,a.un.tbls⟩,λb u q=>?_,a.no,a.new,_,xe2,.inr ⟨T,rfl,a2,xt2⟩⟩ xe2 xt2 a2
 ·obtain⟨s1,e1⟩:=a.un.slot b o q n hb hx
  obtain⟨s2,e2⟩:=sl b _ hb e1
  exact⟨s2,e2⟩
 ·obtain⟨o',e1⟩:=a.un.there b o q hx
  by_cases hb:b∈frs (env::outer)
  ·obtain⟨s2,e2⟩:=sl b _ hb e1
   exact⟨_,e2⟩
  ·exact⟨_,kp b o' hb (nb b o q) e1⟩
 ·refine(a.hok b u q).stay (λc v hc r=>kp c v ?_ ?_ r) (λ_ z=>z) λ_ _ z=>z
  ·intro hm
   rcases hc with rfl|hc
   ·rw[fre _ hm]at q;cases q
   ·rw[fre _ hm]at hc;cases hc
  ·rintro rfl
   rcases hc with rfl|hc
   ·rw[a.no]at q;cases q
   ·rw[a.no]at hc;cases hc
theorem Zic(a:Air P w (frs (env::outer)) H s H' e C dx s')(fre:∀b∈frs (env::outer),H' b=none)(hfr:A.frames=some (env::outer))(hl:s'.heap.FunFrames base (env::outer))(hf:env.frame=some L)(k:∀h':Heap,Air P w (frs (env::outer)) H s H' e C dx { s' with heap:=h' }->Q () { s' with heap:=h' }):wpAny M A (leaving env (.ref e)) Q E s':=by
 unfold leaving
 exact Yb (land a fre hfr hl hf λh' T a' _ _ _=>k h' a')
end
noncomputable def CXF(P:Yx)(w:World):CXT:=λouter H s E ev s'=>∃e C dx H',ev=.ref e/\Air P w (frs outer) H s H' e C dx s'/\E (.ref C) dx H'
noncomputable def Lk(X:Cx)(xr:XR):Prop:=∀(pins:List (Addr×Obj)) (σ:L2.St) (H:Hp) (s:Shared) (H':Hp) (e:Addr) (dx:Option Addr) (s':Shared) (cm:List Addr) (m:Mem) (x:Exc),Inv X pins σ H s ->
 Air X.prog X.w (frs X.stack) H s H' e x.cls dx s'->MemR X.K cm m H'->XF X.K cm m H' x.nms x.flds dx->xr x cm m H'->X.xe (.ref e) s'
theorem lk0{X:Cx}:Lk X xr0:=λ_ _ _ _ _ _ _ _ _ _ _ _ _ _ _ h=>h.elim
noncomputable abbrev asX(X:Cx)(xe:Value->Shared->Prop)(pn:List (Addr×Obj)):Cx:={ X with xe:=xe,pn:=pn }
structure Go (X:Cx) (xr:XR):Prop where
 lk:Lk X xr
 po:Yb6 (model X.prog X.w) X.A X.env X.xe
section
variable{K:Frag}{cm cm':List Addr}{m m':Mem}{H H' H'':Hp}{X:Cx}
variable(K) in
noncomputable def xrE(E:XK):XR:=λx cm m H=>∀dx,XF K cm m H x.nms x.flds dx->E (.ref x.cls) dx H
variable(K) in
noncomputable def EX(xr:XR):XK:=λcls dx H=>∃cm m x,MemR K cm m H/\cls=.ref x.cls/\XF K cm m H x.nms x.flds dx/\xr x cm m H
theorem Lk.passes{xr:XR}(h:Lk X xr):Zcw (CXF X.prog X.w) X (EX X.K xr):=λpins σ H s ev s' I ⟨e,C,dx,H',he,air,cm,m,x,M,hc,hf,q⟩=>by
 subst he
 cases hc
 exact h pins σ H s H' e dx s' cm m x I air M hf q
theorem OkR.monoX{α:Type}{r:Res α}{xr xr':XR}{k:α->List Addr->Mem->Hp->Prop}(h:OkR K r xr cm m H k)(f:∀x cm' m' H',Ext cm m H cm' m' H'->MemR K cm' m' H'->xr x cm' m' H'->xr' x cm' m' H'):OkR K r xr' cm m H k:=by
 cases r with
 |ok a m2=>exact h
 |exc a m2=>exact λc h' e M=>f _ _ _ _ e M (h c h' e M)
 |stuck=>exact h
theorem OkR.toE{α:Type}{r:Res α}{xr:XR}{k:α->List Addr->Mem->Hp->Prop}(h:OkR K r xr cm m H k):OkR K r (xrE K (EX K xr)) cm m H k:=
 h.monoX λx cm' m' H' _ M q dx hf=>⟨cm',m',x,M,rfl,hf,q⟩
theorem ZkT{fs:List Addr}{H0 H1 H2:Hp}{h0 h1 h2:Heap}{L:Addr}(a:Un fs [] H0 H1 h0 h1)(b:Un (L::fs) [] H1 H2 h1 h2)(hL:h0.get? L=none):Un fs [] H0 H2 h0 h2 where
 keep:=λc ob q n hc hx=>b.keep c ob (a.keep c ob q n hc hx) (a.free c ob q n hx) (λz=>(Ys.mp z).elim (λz=>by rw[z,hL]at q;cases q) hc) hx
 slot:=λc ob q n hc hx=>by
  obtain⟨sl,e1⟩:=a.slot c ob q n hc hx
  obtain⟨sl',e2⟩:=b.slot c _ e1 (a.free c ob q n hx) (Yw _ hc) hx
  exact⟨sl',e2⟩
 free:=λc ob q n hx=>by
  obtain⟨o',e1⟩:=a.there c ob q hx
  exact b.free c o' e1 (a.free c ob q n hx) hx
 there:=λc ob q hx=>by
  obtain⟨o',e1⟩:=a.there c ob q hx
  exact b.there c o' e1 hx
 tups:=λc xs q=>b.tups c xs (a.tups c xs q)
 frzs:=λc ob xs q=>b.frzs c ob xs (a.frzs c ob xs q)
 tbls:=λc ps q=>by
  obtain⟨m1,e1⟩:=a.tbls c ps q
  obtain⟨m2,e2⟩:=b.tbls c _ e1
  exact⟨m1++m2,by rw[e2,Array.append_assoc]⟩
end
theorem Inv.air{X:Cx}{pins:List (Addr×Obj)}{σ:L2.St}{H H':Hp}{s s':Shared}{e C:Addr}{dx:Option Addr}(I:Inv X pins σ H s)(a:Air X.prog X.w (frs X.stack) H s H' e C dx s'):Inv X pins σ H' s':=
 I.call' (ch:=[]) a.os a.un a.hok a.bare λb z=>absurd z (by simp)
theorem Zis{P:Yx}{w:World}{K:Frag}{mg:Str->Option Value}{base:Heap}{N:List Str}{qual:Str}{scope:Scope}{f:Addr}{cd:Value}{A:Around}{outer:List Wb}{s:Shared}{H:Hp}{E:XK}:
  Go (cxOf (CXF P w) P w K mg base N qual scope f cd A outer s H E) (xrE K E):=by
 refine⟨λpins σ H1 s1 H' e dx s' cm m x I a M hf q=>?_,PassesOwn.leaving⟩
 have I':=Inv.air I a
 have gone:s.heap.get? e=none:=by
  cases y:s.heap.get? e with
  |none=>rfl
  |some o =>
   obtain⟨o',y'⟩:=I.base.there e o y (by intro z;cases z)
   rw[a.new]at y';cases y'
 refine Zic a I'.stkFree I'.ok.frames I'.stack rfl λh' a'=>?_
 exact⟨e,x.cls,dx,H',rfl,⟨I'.os,a'.bare,ZkT I.base a'.un (VL (Yj _)),a'.hok,a'.no,gone,a'.at'⟩,q dx hf⟩
theorem Zit{P:Yx}{w:World}{K:Frag}{mg:Str->Option Value}{base:Heap}{x qual:Str}{st:Stmt}{f:Addr}{fd:W5}{N ps:List Str}{k:Nat}{sp:Sp}(F:Fun K x qual st f fd)(S:FnScope N ps (Za st))(len:∀vs H Q E,sp vs H Q E->vs.length=ps.length)(hbody:∀(cdv:Value),codeIn K cdv qual=true->∀(A:Around) (outer:List Wb) (s:Shared) (H:Hp) (vs:List V) (Q:VK) (E:XK),Room (k+1) A->HOk P w H s.heap->sp vs H Q E ->
  ∃t,PSs (cxOf (CXF P w) P w K mg base N qual (Za st) f cdv A outer s H E) (Zv st) t/\t { nx:=λ_ H'=>Q .non H',rt:=Q } (start N vs) H):FnOk P w K mg base (CXF P w) (k+1) f fd ps sp:=by
 obtain⟨oc,od,kV,doc,pm,an,cdv,ct,osl,rfl,lk,hcd⟩:=F.ex
 exact fn_of lk hcd S len λA outer s H vs Q E hr hk hsp=>hbody cdv hcd A outer s H vs Q E hr hk hsp
noncomputable def spF(K:Frag)(fns:List Fn)(gv:List T)(k f:Nat):Sp:=λvs H Q E=>∃cm m ws,MemR K cm m H/\RWs K cm m H ws vs/\OkR K (ZV fns gv k f ws m) (xrE K E) cm m H λw cm' m' H'=>∀v,RW K cm' m' H' w v->Q v H'
noncomputable def FOk(P:Yx)(w:World)(K:Frag)(mg:Str->Option Value)(base:Heap)(fns:List Fn)(gv:List T)(k:Nat)(x:Str)(fi:Nat):Prop:=
 ∃f fd ps,mg x=some (.ref f)/\keepIn K (.ref f)=true/\Binds K fd ps []/\FnOk P w K mg base (CXF P w) k f fd ps (spF K fns gv k fi)
section
variable{K:Frag}{cm cm':List Addr}{m m':Mem}{H H':Hp}{X:Cx}{fns:List Fn}{gv:List T}
variable{a b c e:Expr}{es:List Expr}{ea eb ec:E}{eas:Es}{pos p p2:Pos}{k n:Nat}
theorem ZjL{fi:Nat}{x:Str}{xr:XR}(lk:Lk X xr)(F:FOk X.prog X.w X.K X.mg X.base fns gv k x fi)(hr:Room k X.A)(hg:Gl X x)(ha:PA X (e::es) (tA X.K (ZV fns gv k) gv xr eas))(hdb:(x==("__debug__" : Str))=false:=by decide)(he:notStar e=true:=by rfl)(hpl:es.all notStar=true:=by rfl):
  PE X (.Call (.Name x p) (e::es) [] pos) (tE X.K (ZV fns gv k) gv xr (.call fi eas)):=by
 obtain⟨f,fd,ps,hm,hk,hb,F⟩:=F
 refine PE.mono (ZlC F hr hg hm hk hb (dvs:=[]) .nil (E:=EX X.K xr) lk.passes ha hdb (ZW he) (Xo hpl)) ?_
 rintro σ H Q ⟨env,cm,m,hE,M,ho⟩
 rw[ev]at ho
 refine⟨env,cm,m,hE,M,ho.bind.mono λws cm1 m1 H1 x1 M1 o1 vs rvs=>?_⟩
 show spF X.K fns gv k fi (vs++[]) H1 Q (EX X.K xr)
 rw[Ws]
 exact⟨cm1,m1,ws,M1,rvs,o1.toE⟩
theorem Je{i n:Nat}{c:Bool×List T}(h:(m.take n)[i]?=some (some c)):m[i]?=some (some c)/\i<n:=by
 rw[Yan]at h
 split at h
 ·exact⟨h,‹_›⟩
 ·cases h
theorem Qz{i n:Nat}(h:i<n):(cm.take n)[i]?=cm[i]?:=by rw[Yan,if_pos h]
theorem JQ{n:Nat}{a:Addr}(h:Zn cm m a):Zn (cm.take n) (m.take n) a:=λi q e=>by
 obtain⟨e1,hi⟩:=Je e
 rw[Qz hi]
 exact h i q e1
theorem Zfg(M:MemR K cm m H)(n:Nat):MemR K (cm.take n) (m.take n) H/\∀t v,RT K cm m H t v->RT K (cm.take n) (m.take n) H t v:=by
 have sm:∀t v,RT K cm m H t v->RT K (cm.take n) (m.take n) H t v:=λt v r=>r.same (λ_ _ z=>z) λ_ z _=>JQ z
 refine⟨⟨by rw[Wi,Wi,M.len],λi j a q r e1 e2 f1 f2=>?_,λi q e=>?_,M.tab⟩,sm⟩
 ·obtain⟨e1,h1⟩:=Je e1
  obtain⟨e2,h2⟩:=Je e2
  rw[Qz h1]at f1
  rw[Qz h2]at f2
  exact M.inj i j a q r e1 e2 f1 f2
 ·obtain⟨e1,h1⟩:=Je e
  obtain⟨a,vs,q1,q2,q3,q4⟩:=M.at' i q e1
  exact⟨a,vs,by rw[Qz h1];exact q1,q2,q3,Zf (λ_ _ z=>sm _ _ z) q4⟩
theorem Zfh(M:MemR K cm m H)(x:Ext cm m H cm' m' H'):Ext cm m H (cm'.take m.length) (m'.take m.length) H':=by
 refine⟨λi a h=>?_,by rw[Wi];have:=x.len;omega,λi ts h=>?_,λa o h n=>⟨(x.keep a o h n).1,JQ (x.keep a o h n).2⟩⟩
 ·have hi:=(Ye.mp h).1
  rw[M.len]at hi
  rw[Qz hi]
  exact x.pre i a h
 ·have hi:=(Ye.mp h).1
  rw[Yan,if_pos hi]
  exact x.lent i ts h
theorem fin_ok{xr:XR}{cell:Bool}{fl:Flow}{Q:VK}{nn:Nat}(M:MemR K cm m H)(x:Ext cm m H cm' m' H')(M':MemR K cm' m' H')(ho:OkR K (fin m.length cell fl m') xr cm m H λw cm' m' H'=>∀v,RW K cm' m' H' w v->Q v H'):
  Zb5 K nn { nx:=λ_ H'=>Q .non H',rt:=Q } fl cm' m' H':=by
 obtain⟨Mt,st⟩:=Zfg M' m.length
 have xt:=Zfh M x
 cases fl with
 |next env=>exact λσ _ _=>OkR.to (a:=W.t .non) ho xt Mt _ .non
 |brk env=>exact ho.elim
 |cont env=>exact ho.elim
 |ret w =>
  intro v rv
  cases w with
  |t t=>exact OkR.to (a:=W.t t) ho xt Mt v (st t v rv)
  |f a=>exact ho.elim
  |x _ _ _=>exact ho.elim
  |o _ _ _=>exact ho.elim
  |u=>exact ho.elim
  |c i =>
   unfold fin at ho
   dsimp only at ho
   split at ho
   ·rename_i hi
    obtain⟨a,h1,h2⟩:=rv
    exact OkR.to ho xt Mt v ⟨a,by rw[Qz hi];exact h1,h2⟩
   ·rename_i hi
    split at ho
    ·rename_i ts e
     obtain⟨a,h1,h2⟩:=rv
     obtain⟨a',vs,q1,q2,q3,q4⟩:=M'.at' i _ e
     rw[h1]at q1;cases q1
     have na:Zn (cm'.take m.length) (m'.take m.length) a:=λj q ej z=>by
      obtain⟨ej,hj⟩:=Je ej
      rw[Qz hj]at z
      have:=M'.inj j i a _ _ ej e z h1
      omega
     have lt:(cm'.take m.length).length=m.length:=by rw[Wi,M'.len];have:=x.len;omega
     have lm:(m'.take m.length).length=m.length:=by rw[Wi];have:=x.len;omega
     split at ho
     ·-- a list that may change is handed back
      have nl:∀b,Zn cm' m' b->Zn (cm'.take m.length++[a]) (m'.take m.length++[some (false,ts)]) b:=λb n=>by
       refine Zbz (by rw[lt,lm]) (JQ n) λz=>?_
       subst z
       exact n i _ e h1
      have sm:∀t v,RT K cm' m' H' t v->RT K (cm'.take m.length++[a]) (m'.take m.length++[some (false,ts)]) H' t v:=λt v r=>r.same (λ_ _ z=>z) λb z _=>nl b z
      have cs:∀{j:Nat}{c:Bool×List T},(m'.take m.length++[some (false,ts)])[j]?=some (some c)->((m'.take m.length)[j]?=some (some c)/\j<m.length)∨(j=m.length/\c=(false,ts)):=λ{j c} ej=>by
       by_cases hj:j<m.length
       ·rw[Yy (by rw[lm];exact hj)]at ej
        exact .inl ⟨ej,hj⟩
       ·by_cases hj2:j=m.length
        ·subst hj2
         rw[Yu (by rw[lm];exact Yj _),lm,Uw]at ej
         cases ej
         exact .inr ⟨rfl,rfl⟩
        ·rw[Uo (by rw[Yh,lm];simp;omega)]at ej
         cases ej
      have cl:∀{j:Nat},j<m.length->(cm'.take m.length++[a])[j]?=(cm'.take m.length)[j]?:=λ{j} hj=>Yy (by rw[lt];exact hj)
      have cp:(cm'.take m.length++[a])[m.length]?=some a:=by
       rw[Yu (by rw[lt];exact Yj _),lt,Uw]
       rfl
      refine OkR.to (cm':=cm'.take m.length++[a]) ho ⟨λj b h=>?_,by rw[Yh,lm];simp,λj us h=>?_,λb o h nb=>⟨(x.keep b o h nb).1,nl b (x.keep b o h nb).2⟩⟩ ⟨by rw[Yh,Yh,lt,lm];rfl,λj1 j2 b c1 c2 e1 e2 f1 f2=>?_,λj c ej=>?_,M'.tab⟩ v ⟨a,cp,h2⟩
      ·have hj:=(Ye.mp h).1
       rw[M.len]at hj
       rw[cl hj]
       exact xt.pre j b h
      ·have hj:=(Ye.mp h).1
       rw[Yy (by rw[lm];exact hj)]
       exact xt.lent j us h
      ·rcases cs e1 with⟨g1,l1⟩|⟨k1,_⟩
       ·rw[cl l1]at f1
        rcases cs e2 with⟨g2,l2⟩|⟨k2,_⟩
        ·rw[cl l2]at f2
         exact Mt.inj j1 j2 b _ _ g1 g2 f1 f2
        ·rw[k2,cp]at f2;cases f2
         exact absurd f1 (na j1 _ g1)
       ·rw[k1,cp]at f1;cases f1
        rcases cs e2 with⟨g2,l2⟩|⟨k2,_⟩
        ·rw[cl l2]at f2
         exact absurd f2 (na j2 _ g2)
        ·rw[k1,k2]
      ·rcases cs ej with⟨g,l⟩|⟨kk,z⟩
       ·obtain⟨gg,_⟩:=Je g
        obtain⟨b,ws,w1,w2,w3,w4⟩:=M'.at' j c gg
        exact⟨b,ws,by rw[cl l,Qz l];exact w1,w2,w3,Zf (λ_ _ z=>sm _ _ z) w4⟩
       ·rw[kk,z]
        exact⟨a,vs,cp,q2,q3,Zf (λ_ _ z=>sm _ _ z) q4⟩
     ·subst h2
      exact OkR.to (a:=W.t (.lst ts)) ho xt Mt _ (RT.mlst q2 na (Zf (λ_ _ z=>st _ _ z) q4))
    ·exact ho.elim
theorem Zhf{N:List Str}{ws:List W}{vs:List V}{j:Nat}(r:RWs K cm m H ws vs)(hj:j=N.length-vs.length):EnvR K cm m H (ws.map some++Yn j none) (L2.start N vs):=λi w e=>by
 unfold L2.start
 have hl:=r.length
 by_cases hi:i<ws.length
 ·rw[Yy (by simpa using hi),YJ]at e
  cases q:ws[i]? with
  |none=>rw[q]at e;cases e
  |some w' =>
   rw[q]at e;cases e
   obtain⟨v,h1,h2⟩:=Zx r q
   refine⟨v,?_,h2⟩
   rw[Yy (by rw[Yi];omega),YJ,h1]
   rfl
 ·rw[Yu (by simpa using hi),Wr]at e
  split at e<;>cases e
theorem ZdA{N:List Str}{vs:List V}(h:vs.length<=N.length):(L2.start N vs).length=N.length:=by
 unfold L2.start
 rw[Yh,Yi,Wn]
 omega
theorem ZkH{P:Yx}{w:World}{mg:Str->Option Value}{base:Heap}{x qual:Str}{st:Stmt}{f:Addr}{fd:W5}{N ps:List Str}{fi:Nat}{d:Fn}(F:Fun K x qual st f fd)(S:FnScope N ps (Za st))(hd:fns[fi]?=some d)(hps:d.ps=ps.length)(hn:d.n=N.length)(hbody:∀(cdv:Value),codeIn K cdv qual=true->∀(A:Around) (outer:List Wb) (s:Shared) (H:Hp) (E:XK),Room (k+1) A->∀(xe:Value->Shared->Prop) (pn:List (Addr×Obj)) (xr:XR),
   Go (asX (cxOf (CXF P w) P w K mg base N qual (Za st) f cdv A outer s H E) xe pn) xr->PSs (asX (cxOf (CXF P w) P w K mg base N qual (Za st) f cdv A outer s H E) xe pn) (Zv st) (tS K (ZV fns gv k) gv xr N.length d.body)):
  FnOk P w K mg base (CXF P w) (k+1) f fd ps (spF K fns gv (k+1) fi):=by
 have hpl:ps.length<=N.length:=by have:=congrArg YaF S.pre;rw[Wi]at this;omega
 have len:∀{ws:List W}{m:Mem}{cm:List Addr}{H:Hp}{xr:XR}{post:W->List Addr->Mem->Hp->Prop},OkR K (ZV fns gv (k+1) fi ws m) xr cm m H post->ws.length=d.ps/\OkR K ((ex (ZV fns gv k) gv d.body (ws.map some++Yn (d.n-d.ps) none) m).bind λfl m'=>fin m.length d.cell fl m') xr cm m H post:=λ{ws m cm H xr post} h=>by
  rw[ZV,hd]at h
  dsimp only at h
  by_cases hc:ws.length=d.ps
  ·rw[if_pos hc]at h;exact⟨hc,h⟩
  ·rw[if_neg hc]at h;exact h.elim
 refine Zit F S (λvs H Q E ⟨cm,m,ws,M,r,ho⟩=>by rw[<-r.length,(len ho).1,hps]) (λcdv hcd A outer s H vs Q E hr hk ⟨cm,m,ws,M,r,ho⟩=>?_)
 obtain⟨hl,ho⟩:=len ho
 have hv:vs.length=ps.length:=by rw[<-r.length,hl,hps]
 refine⟨_,hbody cdv hcd A outer s H E hr _ _ (xrE K E) Zis,ZdA (by omega),ws.map some++Yn (d.n-d.ps) none,cm,m,Zhf r (by rw[hn,hps,hv]),M,?_⟩
 exact ho.bind0.mono λfl cm1 m1 H1 x1 M1 o1=>fin_ok M x1 M1 o1
theorem fn_okW{P:Yx}{w:World}{mg:Str->Option Value}{base:Heap}{x qual:Str}{st:Stmt}{f:Addr}{fd:W5}{N ps:List Str}{fi:Nat}{d:Fn}(F:Fun K x qual st f fd)(S:FnScope N ps (Za st))(hd:fns[fi]?=some d)(hps:d.ps=ps.length)(hn:d.n=N.length)(hbody:∀(cdv:Value) (A:Around) (outer:List Wb) (s:Shared) (H:Hp) (E:XK),Room k (A.deeper (envOfC qual (Za st) s.heap.objs.size f cdv))->∀(xe:Value->Shared->Prop) (pn:List (Addr×Obj)) (xr:XR),
   Go (asX (cxOf (CXF P w) P w K mg base N qual (Za st) f cdv A outer s H E) xe pn) xr->PSs (asX (cxOf (CXF P w) P w K mg base N qual (Za st) f cdv A outer s H E) xe pn) (Zv st) (tS K (ZV fns gv k) gv xr N.length d.body)):
  FnOk P w K mg base (CXF P w) (k+1) f fd ps (spF K fns gv (k+1) fi):=
 ZkH F S hd hps hn λcdv _ A outer s H E hr=>hbody cdv A outer s H E (hr.deeper _)
theorem Xg{P:Yx}{w:World}{mg:Str->Option Value}{base:Heap}{f:Addr}{fd:W5}{ps:List Str}{fi:Nat}:FnOk P w K mg base (CXF P w) 0 f fd ps (spF K fns gv 0 fi):=by
 have no:∀vs H Q E,¬spF K fns gv 0 fi vs H Q E:=λvs H Q E ⟨cm,m,ws,M,r,ho⟩=>by
  rw[ZV]at ho
  exact ho
 exact⟨λvs H Q E h=>absurd h (no vs H Q E),λA outer s H args us vs Q E _ _ _ _ h=>absurd h (no vs H Q E)⟩
end
end Mi
namespace Mi
open PySem PySem.Spec PyProof.Rows L2 PySem.W
noncomputable def bmV:List Value:=[.type "ValueError",.type "Exception",.type "BaseException",.type "object"]
noncomputable def xcIn(K:Frag)(C:Addr):Bool:=match K.lookup C with
 |some ⟨.type "type",_,.cls cd,sl⟩=>(match cd.mro,sl.toList with
  |.ref C'::bm,[_,_,_,_,some (.builtin n),_]=>C'==C&&n == "ValueError.__new__" && !cd.hasDel&&tailIn K bmV bm
  |_,_=>false)
 |_=>false
theorem xc_of{K:Frag}{h:Heap}{C:Addr}(X:K.In h)(q:xcIn K C=true):∃nm qn N bs bm hdct sn sub ab col dd k0 k1 k2 k3 k5,h.get? C=some (excClassObj nm qn C N bs bm hdct sn sub ab col dd k0 k1 k2 k3 k5 "ValueError.__new__")/\OwnTail h bmV bm:=by
 unfold xcIn at q
 split at q
 ·rename_i dd cd sl ho
  split at q
  ·rename_i C' bm k0 k1 k2 k3 n k5 hm hs
   simp only[Yg,beq_iff_eq,YaC]at q
   obtain⟨⟨⟨rfl,rfl⟩,hdel⟩,ht⟩:=q
   obtain⟨nm,bs,mro,ns,qn,hd,sn,sub,ab,col,del⟩:=cd
   dsimp only at hm hdel
   subst hm hdel
   have hsl:sl=#[k0,k1,k2,k3,some (.builtin "ValueError.__new__"),k5]:=by
    obtain⟨l⟩:=sl
    simp only at hs
    rw[hs]
   subst hsl
   exact⟨nm,qn,ns,bs,bm,hd,sn,sub,ab,col,dd,k0,k1,k2,k3,k5,X _ _ ho,tail_of_in X ht⟩
  ·cases q
 ·cases q
theorem Zk5{M:Model}{A:Around}{E:Value->Shared->Prop}{s:Shared}{env:Wb}{x:Sem Value}{Q:PySem.Flow->Shared->Prop}{K:Frag}{C:Addr}(xc:xcIn K C=true)(hh:A.handled=none)(h:wpAny M A x (λv s1=>∃e oe vs,v=.ref e/\K.In s1.heap/\s1.heap.get? e=some oe/\oe.cls=.ref C/\oe.data=.fields vs/\vs[1]?=some .none/\E (.ref e) s1) E s):wpAny M A (Ycd env (some x) none) Q E s:=by
 unfold Ycd
 refine Yb (Uq h (λv s1 h1=>?_) λ_ _ z=>z)
 obtain⟨e,oe,vs,rfl,X,he,hcls,hd,h1,hE⟩:=h1
 obtain⟨nm,qn,N,bs,bm,hdct,sn,sub,ab,col,dd,k0,k1,k2,k3,k5,hC,T⟩:=xc_of X xc
 have hb:(Y5 C::bm).contains (.type "BaseException")=true:=by rw[List.contains_cons,T.hasType (show bmV.contains (.type "BaseException")=true by decide),Bool.or_true]
 obtain⟨hp,g,d,tk,os⟩:=s1
 repeat (first|(with_reducible refine wpAny_loadPart_at he ?_;rw[hcls])|with_reducible refine wpAny_loadPart_at hC ?_|(with_reducible refine wpAny_isSubtype_exc hC ?_;rw[hb])|with_reducible refine Ge he hd h1 ?_|wp_step)
 exact wpAny_raiseNew_none hh hE
section
variable{X:Cx}{C:Addr}{nm:Str}{xr:XR}{call':Nat->List W->Mem->Res W}{gv:List T}{e:Expr}{ea:E}{x:Str}{np cpos pos:Pos}{rest:List Stmt}{k:S}{n kk:Nat}
structure XPlain (K:Frag) (C:Addr):Prop where
 xc:xcIn K C=true
 kp:keepIn K (.ref C)=true
 no:excIn K C bmV "ValueError.__new__" = true
theorem xp_of{K:Frag}{h:Heap}{C:Addr}(X:K.In h)(q:excIn K C bmV "ValueError.__new__" = true):∃nm qn N bs bm hdct sn sub ab col dd k0 k1 k2 k3 k5 mN,h.get? C=some (excClassObj nm qn C N bs bm hdct sn sub ab col dd k0 k1 k2 k3 k5 "ValueError.__new__")/\OwnTail h bmV bm/\h.Ns N mN/\mN "__init__" = none:=by
 unfold excIn at q
 split at q
 ·rename_i dd cd sl ho
  split at q
  ·rename_i C' bm k0 k1 k2 k3 n k5 hm hs
   simp only[Yg,beq_iff_eq,YaC]at q
   obtain⟨⟨⟨⟨⟨rfl,rfl⟩,hdel⟩,ht⟩,hok⟩,hni⟩:=q
   obtain⟨nm,bs,mro,ns,qn,hd,sn,sub,ab,col,del⟩:=cd
   dsimp only at hm hdel hok hni
   subst hm hdel
   have hsl:sl=#[k0,k1,k2,k3,some (.builtin "ValueError.__new__"),k5]:=by
    obtain⟨l⟩:=sl
    simp only at hs
    rw[hs]
   subst hsl
   exact⟨nm,qn,ns,bs,bm,hd,sn,sub,ab,col,dd,k0,k1,k2,k3,k5,_,X _ _ ho,tail_of_in X ht,.of_isNs (isNs_of_in X hok),nsMap_none_of_in X hok hni⟩
  ·cases q
 ·cases q
theorem Zhw(lk:Lk X xr)(xp:XPlain X.K C)(hm:X.mg x=some (.ref C))(hg:Gl X x)(hc:X.calm=true)(ha:PE X e (tE X.K call' gv xr ea))(he:notStar e=true:=by rfl)(hdb:(x==("__debug__" : Str))=false:=by decide):
  PSs X (.Raise (some (.Call (.Name x np) [e] [] cpos)) none pos::rest) (tS X.K call' gv xr n (.rse C [] (.cons ea .nil) k)):=by
 rintro pins s σ H D I ⟨hl,env,cm,m,hE,M,ho⟩
 have hh:=I.ok.hd hc
 rw[ex]at ho
 refine YaN ?_
 rw[arm_exec_Raise]
 refine Yb (Uj ?_)
 show wpAny _ _ (Ycd X.env (some (do let v <-eval (.Call (.Name x np) [e] [] cpos) X.env;Gb pos;pure v)) none) _ _ _
 refine Zk5 xp.xc hh (Yb ?_)
 refine WQ (ZbB I hg hm ?_ hdb)
 refine YbR (h₀:=X.base) I.ok.mod.kin xp.kp (thn (Zfx ha ZhP he cpos pins s σ H (λvs H1=>∃cm1 m1 ws,MemR X.K cm1 m1 H1/\RWs X.K cm1 m1 H1 ws vs/\OkR X.K _ xr cm1 m1 H1 _) I ⟨env,cm,m,hE,M,ho.bind.mono λws cm1 m1 H1 x1 M1 o1 vs rvs=>⟨cm1,m1,ws,M1,rvs,o1⟩⟩) λus s1 ⟨vs,H1,I1,r,cm1,m1,ws,M1,rvs,o1⟩=>⟨I1.kIn,?_⟩) (ZW he) rfl
 cases q:frzs ws m1 with
 |stuck=>rw[q]at o1;exact o1.elim
 |exc y m2=>exact absurd q ZaH
 |ok ts m2 =>
  rw[q]at o1
  obtain⟨x2,M2,r2⟩:=Xf M1 rvs q
  have o1:OkR X.K (if([]:List Str)=[]then(if ts.length<=1000 then Res.exc (a:=Flow) ⟨C,[],[]⟩ m2 else .stuck)else if ts.length=([]:List Str).length then .exc ⟨C,[],ts⟩ m2 else .stuck) xr cm1 m1 H1 _:=o1
  rw[if_pos rfl]at o1
  split at o1
  ·rename_i hlen
   have hu:us.length<=YC:=by
    have h1:=r.length
    have h2:=r2.length
    have:(1000:Nat)<=YC:=by decide
    omega
   obtain⟨cn,qn,N,bs,bm,hdct,sn,sub,ab,col,dd,k0,k1,k2,k3,k5,mN,hC,T,hn,hni⟩:=xp_of I1.kIn xp.no
   obtain⟨hp,g,dr,tk,os⟩:=s1
   refine wpAny_call_exc_subT (hrest:=hu) PySem.F.excBase_ValueError T hC hn hni λh' e' hx=>?_
   obtain⟨t,ht,_,_⟩:=hx.there
   have nH:=hok_no I1.hok hx.new
   have xp:xeP e' C none .none h':=⟨_,_,ht,rfl,rfl,rfl,rfl⟩
   have air:Air X.prog X.w (frs X.stack) H1 ⟨hp,g,dr,tk,os⟩ H1 e' C none ⟨h',g,dr,tk,os⟩:=⟨rfl,I1.bare,Un.kept hx.keeps,I1.hok.kept hx.keeps,nH,hx.new,_,xp,.inl rfl⟩
   refine Yb (Uj (Yd ?_))
   refine⟨e',_,_,rfl,(Inv.air I1 air).kIn,ht,rfl,rfl,rfl,?_⟩
   exact lk pins σ H1 _ _ e' none _ cm1 m2 ⟨C,[],[]⟩ I1 air M2 ⟨rfl,rfl⟩ (o1 cm1 _ x2 M2)
  ·exact o1.elim
end
noncomputable abbrev hndX(X:Cx)(A:Around)(pn:List (Addr×Obj)):Cx:={ X with A:=A,calm:=false,xe:=λ_ _=>False,pn:=pn }
section
variable{X:Cx}{pins pins':List (Addr×Obj)}{σ:L2.St}{H:Hp}{s:Shared}{xe:Value->Shared->Prop}{e:Option Value}
theorem inv_as(I:Inv X pins σ H s)(xe:Value->Shared->Prop):Inv (asX X xe (X.pn++pins)) [] σ H s:=
 ⟨⟨I.ok.mod,I.ok.kind,I.ok.glob,I.ok.blt,I.ok.above,I.ok.inj,I.ok.has,I.ok.cab,I.ok.hd,I.ok.frames,I.ok.stk,I.ok.exf,I.ok.bs,I.ok.bsz,I.ok.noex,I.ok.exfs,I.ok.funs,I.ok.frf⟩,I.os,I.bare,I.base,I.loc,I.cell,I.free,I.freeC,λp hp=>I.pin p (by rw[Ws]at hp;exact hp),I.hok,I.len⟩
theorem Zd5(I:Inv (asX X xe (X.pn++pins)) pins' σ H s):Inv X pins σ H s:=
 ⟨⟨I.ok.mod,I.ok.kind,I.ok.glob,I.ok.blt,I.ok.above,I.ok.inj,I.ok.has,I.ok.cab,I.ok.hd,I.ok.frames,I.ok.stk,I.ok.exf,I.ok.bs,I.ok.bsz,I.ok.noex,I.ok.exfs,I.ok.funs,I.ok.frf⟩,I.os,I.bare,I.base,I.loc,I.cell,I.free,I.freeC,λp hp=>I.pin p (Wf _ hp),I.hok,I.len⟩
theorem Zil(I:Inv X pins σ H s)(e:Option Value):Inv (hndX X (X.A.mark e) (X.pn++pins)) [] σ H s:=
 ⟨⟨I.ok.mod,I.ok.kind,I.ok.glob,I.ok.blt,I.ok.above,I.ok.inj,I.ok.has,I.ok.cab,(λz=>nomatch z),I.ok.frames,I.ok.stk,I.ok.exf,I.ok.bs,I.ok.bsz,I.ok.noex,I.ok.exfs,I.ok.funs,I.ok.frf⟩,I.os,I.bare,I.base,I.loc,I.cell,I.free,I.freeC,λp hp=>I.pin p (by rw[Ws]at hp;exact hp),I.hok,I.len⟩
theorem Zij{A:Around}(ok:X.Ok)(I:Inv (hndX X A (X.pn++pins)) pins' σ H s):Inv X pins σ H s:=
 ⟨ok,I.os,I.bare,I.base,I.loc,I.cell,I.free,I.freeC,λp hp=>I.pin p (Wf _ hp),I.hok,I.len⟩
theorem Zdw{M:Model}{A:Around}{E:Value->Shared->Prop}{i:Nat}{x:Str}{pos:Pos}{Q:Unit->Shared->Prop}(I:Inv X pins σ H s)(hN:X.N.Nodup)(hi:X.N[i]?=some x)(hk:X.env.scope.names.lookup x=some .local)(h:∀s',Inv X pins (σ.set i none) H s'->Q () s'):wpAny M A (do bindName X.env x .none;unbindBehindTheSuite X.env x pos) Q E s:=by
 obtain⟨m,hn,hl⟩:=id I.loc
 have hcls:(X.env.scope.kind==.class || (X.env.scope.kind==.module&&X.env.locals != X.env.globals))=false:=by rw[I.ok.kind];rfl
 have hiσ:i<σ.length:=by rw[I.len];exact(Ye.mp hi).1
 obtain⟨oL,_,_,hoL,_⟩:=id hn
 have lt:∀b o,X.s₀.heap.get? b=some o->b≠X.env.locals:=λb o e=>Yv (Yq (Yp e) I.ok.above)
 refine wpAny_nameGoes_keeps hk hn hcls λh' v hn' hs=>?_
 refine h _ ⟨I.ok,I.os,I.bare,⟨λb o e n hb hx=>?_,λb o e n hb hx=>?_,I.base.free,λb o e hx=>?_,I.base.tups,I.base.frzs,I.base.tbls⟩,⟨_,hn',λj y v' e1 e2 e3=>?_⟩,λy c e=>?_,I.free,I.freeC,λp hp=>?_,λb ob e=>?_,by simpa using I.len⟩
 ·exact(hs.2 b (lt b o e)).trans (I.base.keep b o e n hb hx)
 ·obtain⟨sl,e1⟩:=I.base.slot b o e n hb hx
  exact⟨sl,(hs.2 b (lt b o e)).trans e1⟩
 ·obtain⟨o',e1⟩:=I.base.there b o e hx
  exact⟨o',(hs.2 b (lt b o e)).trans e1⟩
 ·have hj:j≠i:=λz=>by
   rw[z,YB hiσ]at e2;cases e2
  rw[Yo (WR hj)]at e2
  obtain⟨u',r',q⟩:=hl j y v' e1 e2 e3
  refine⟨u',r',?_⟩
  rcases q with⟨k,e⟩|⟨k,c,e,z⟩
  ·refine .inl ⟨k,?_⟩
   have:y≠x:=λe=>hj (ZcX hN e1 (e▸hi))
   simp[this,e]
  ·exact .inr ⟨k,c,e,z.sameBut hs (I.cne y c e)⟩
 ·obtain⟨w',z⟩:=I.cell y c e
  exact⟨w',z.sameBut hs (I.cne y c e)⟩
 ·obtain⟨e,n,ne,nf,d⟩:=I.pin p hp
  exact⟨(hs.2 p.1 ne).trans e,n,ne,nf,d⟩
 ·refine(I.hok b ob e).stay (λc w' hc q=>(hs.2 c ?_).trans q) (λ_ q=>q) λ_ _ q=>q
  rintro rfl
  rcases hc with rfl|hc
  ·rw[I.free]at e;cases e
  ·rw[I.free]at hc;cases hc
theorem ZlY{e' C:Addr}{dx:Option Addr}{hd:Value}(I:Inv X pins σ H s)(he:H e'=none)(xp:xeP e' C dx hd s.heap)(n0:X.s₀.heap.get? e'=none)(np:∀p∈X.pn++pins,p.1≠e'):
  ∃oe,oe.cls=.ref C/\oe.dict=dx/\(∃fs,oe.data=.fields fs)/\Inv X pins σ (upd H e' (.frz oe (xeO e' C dx hd))) s:=by
 obtain⟨oe,vs,q1,q2,q3,q4,q5⟩:=id xp
 refine⟨oe,q2,q3,⟨_,q4⟩,I.ok,I.os,I.bare,⟨I.base.keep,I.base.slot,λb o q n hx=>?_,I.base.there,λb xs q=>?_,λb o u q=>?_,λb ps q=>?_⟩,I.loc,I.cell,?_,λx c hc=>?_,λp hp=>?_,λb u q=>?_,I.len⟩
 ·rw[Zm (λz=>by rw[z,n0]at q;cases q)];exact I.base.free b o q n hx
 ·exact Z0 he _ _ (I.base.tups b xs q)
 ·exact Z0 he _ _ (I.base.frzs b o u q)
 ·obtain⟨more,z⟩:=I.base.tbls b ps q
  exact⟨more,Z0 he _ _ z⟩
 ·obtain⟨m,⟨o,es,ep,e1,e2,_⟩,_⟩:=I.loc
  rw[Zm (λz=>by rw[z,q1]at e1;cases e1;rw[q4]at e2;cases e2)];exact I.free
 ·obtain⟨w',o,e1,e2⟩:=I.cell x c hc
  rw[Zm (λz=>by rw[z,q1]at e1;cases e1;rw[q4]at e2;cases e2)];exact I.freeC x c hc
 ·obtain⟨a1,a2,a3⟩:=I.pin p hp
  exact⟨a1,by rw[Zm (np p hp)];exact a2,a3⟩
 ·by_cases hb:b=e'
  ·subst hb
   rw[ZL]at q;cases q
   exact⟨q1,xe_ok xp⟩
  ·rw[Zm hb]at q
   exact(I.hok b u q).stay (λ_ _ _ q=>q) (λc r=>Z0 he _ _ r) λc xs r=>Z0 he _ _ r
end
theorem ZfD{M:Model}{A:Around}{E:Value->Shared->Prop}{s:Shared}{e T:Addr}{oe oT:Obj}{vs ts:Array Value}{Q:Unit->Shared->Prop}(he:s.heap.get? e=some oe)(hv:oe.data=.fields vs)(h1:vs[1]?=some (.ref T))(hT:s.heap.get? T=some oT)(dT:oT.data=.fields ts)(mT:ts[3]?=some .none)(k:Q () s):wpAny M A (Ybk (.ref e) none) Q E s:=by
 unfold Ybk
 refine Yb (Ge he hv h1 ?_)
 rw[if_pos (show(Y5 T != W2)=true from by simp)]
 refine W7 hT dT (Ud.mp mT).1 ?_
 show Q () { s with heap:=s.heap.update T (Gm (·.setIfInBounds 3 .none)) }
 rw[Heap.update_setField_same s.heap T oT ts 3 .none hT dT mT]
 exact k
section
variable{X:Cx}{xr:XR}{call:Nat->List W->Mem->Res W}{gv:List T}{n:Nat}
noncomputable def HName(X:Cx)(i:Option Nat)(nmo:Option Str):Prop:=match i,nmo with
 |none,none=>True
 |some j,some x=>X.N[j]?=some x/\X.env.scope.names.lookup x=some .local
 |_,_=>False
noncomputable def unS(i:Option Nat)(σ:L2.St):L2.St:=match i with
 |some j=>σ.set j none
 |none=>σ
theorem ZkV{i:Option Nat}{σ:L2.St}:(unS i σ).length=σ.length:=by
 cases i with
 |none=>rfl
 |some j=>exact Wt
theorem EnvR.unE{K:Frag}{cm:List Addr}{m:Mem}{H:Hp}{env:Env}{σ:L2.St}(h:EnvR K cm m H env σ)(i:Option Nat):EnvR K cm m H (Mi.unE i env) (unS i σ):=by
 cases i with
 |none=>exact h
 |some j =>
  intro l w e
  have e:(env.set j none)[l]?=some (some w):=e
  by_cases hj:l=j
  ·subst hj
   rw[List.getElem?_set]at e
   simp only[if_pos]at e
   split at e<;>cases e
  ·rw[Yo (WR hj)]at e
   obtain⟨v,h1,h2⟩:=h l w e
   refine⟨v,?_,h2⟩
   show(σ.set j none)[l]?=_
   rw[Yo (WR hj)];exact h1
theorem Zjo{body:List Stmt}{y:Str}{yp hpos pos:Pos}{nmo:Option Str}{b0:Stmt}{suite rest:List Stmt}{sb sh k:S}{yes:List Nat}{i:Option Nat}{D:Addr}(hex:X.ex=[])(hst:X.stack=X.env::X.outer)(hfr:X.env.frame=some X.env.locals)(hN:X.N.Nodup)(hn:X.N.length=n)(hi:HName X i nmo)(hg:Gl X y)(hm:X.mg y=some (.ref D))(hy:∀c∈yes,exmOne X.K (.ref c) (.ref D)=some true)(hb:∀xe pn xr',Go (asX X xe pn) xr'->PSs (asX X xe pn) body (tS X.K call gv xr' n sb))(hh:∀A pn,PSs (hndX X A pn) (b0::suite) (tS X.K call gv xr0 n sh))(hk:PSs X rest (tS X.K call gv xr n k))(hdb:(y==("__debug__" : Str))=false:=by decide):
  PSs X (.Try body [.ExceptHandler (some (.Name y yp)) nmo (b0::suite) hpos] [] [] pos::rest) (tS X.K call gv xr n (.tri sb yes i sh k)):=by
 rintro pins s σ H D0 I ⟨hl,env,cm,m,hE,M,ho⟩
 refine YaN (wpAny_Try_except ?_)
 have run:∀xr' xe',Go (asX X xe' (X.pn++pins)) xr'->OkR X.K (ex call gv sb env m) xr' cm m H (λfl cm' m' H'=>Zb5 X.K n { D0 with nx:=tS X.K call gv xr n k D0 } fl cm' m' H') ->
   wpAny (model X.prog X.w) X.A (execs body X.env) (λf s1=>match f with
    |.next=>wpAny (model X.prog X.w) X.A (execs [] X.env) (λf s'=>match f with
     |.next=>wpAny (model X.prog X.w) X.A (execs rest X.env) (SP X pins D0) X.xe s'
     |f=>SP X pins D0 f s') X.xe s1
    |f=>(match f with
     |.next=>wpAny (model X.prog X.w) X.A (execs rest X.env) (SP X pins D0) X.xe s1
     |f=>SP X pins D0 f s1)) xe' s:=λxr' xe' go o=>by
  refine Uq (hb xe' (X.pn++pins) xr' go [] s σ H _ (inv_as I xe') ⟨hl,env,cm,m,hE,M,o⟩) (λf s1 q=>?_) λ_ _ z=>z
  cases f with
  |next =>
   obtain⟨σ',H',I',q⟩:=q
   exact YaW (hk pins s1 σ' H' D0 (Zd5 I') q)
  |ret u=>obtain⟨v,σ',H',I',r,q⟩:=q;exact⟨v,σ',H',Zd5 I',r,q⟩
  |brk=>obtain⟨σ',H',I',q⟩:=q;exact⟨σ',H',Zd5 I',q⟩
  |cont=>obtain⟨σ',H',I',q⟩:=q;exact⟨σ',H',Zd5 I',q⟩
 rw[ex]at ho
 cases r:ex call gv sb env m with
 |stuck=>rw[r]at ho;exact ho.elim
 |ok fl m1 =>
  rw[r]at ho run
  refine run xr0 _ ⟨lk0,PassesOwn.looking⟩ λcm1 H1 x1 M1=>?_
  cases fl with
  |next env'=>exact λσ' hl' hE'=>⟨hl',env',cm1,m1,hE',M1,OkR.shift ho x1⟩
  |ret w=>show Zb5 X.K n D0 (.ret w) cm1 m1 H1;exact OkR.to (xr:=xr) (a:=Flow.ret w) ho x1 M1
  |brk env'=>show Zb5 X.K n D0 (.brk env') cm1 m1 H1;exact OkR.to (xr:=xr) (a:=Flow.brk env') ho x1 M1
  |cont env'=>show Zb5 X.K n D0 (.cont env') cm1 m1 H1;exact OkR.to (xr:=xr) (a:=Flow.cont env') ho x1 M1
 |exc x m1 =>
  rw[r]at ho run
  dsimp only at ho
  by_cases hx:x.cls∈yes
  ·rw[if_pos hx]at ho
   refine run (λx' cm' m' H'=>x'=x/\m'=m1/\Ext cm m H cm' m1 H') _ ⟨?_,PassesOwn.looking⟩ λcm1 H1 x1 M1=>⟨rfl,rfl,x1⟩
   rintro pins1 σ1 H1 s1 H' e dx s' cm' m' x' I1 air M' hf ⟨rfl,rfl,x1⟩
   have I':=Inv.air I1 air
   have st:(asX X (asX X (λ_ _=>False) []).xe []).stack=X.env::X.outer:=hst
   have air2:Air X.prog X.w (frs (X.env::X.outer)) H1 s1 H' e x'.cls dx s':=by rw[<-hst];exact air
   have fre:∀b∈frs (X.env::X.outer),H' b=none:=by rw[<-hst];exact I'.stkFree
   have fun':s'.heap.FunFrames X.base (X.env::X.outer):=by rw[<-hst];exact I'.stack
   have frm:X.A.frames=some (X.env::X.outer):=by rw[<-hst];exact I'.ok.frames
   refine land air2 fre frm fun' hfr λh2 T a2 xp xt neT=>?_
   have I2:=Inv.air I1 (show Air X.prog X.w (frs X.stack) H1 s1 H' e x'.cls dx { s' with heap:=h2 } by rw[hst];exact a2)
   have I3:Inv X pins σ1 H' { s' with heap:=h2 }:=Zd5 I2
   have np:∀p∈X.pn++pins,p.1≠e:=λp hp z=>by
    have q:=(I1.pin p (Wf _ hp)).1
    rw[z,air.new]at q;cases q
   have J:Inv X pins (Yn n none) H' { s' with heap:=h2 }:=I3.weak (by rw[Wn,I3.len,hn]) λj v z=>by
    rw[Wr]at z
    split at z<;>cases z
   obtain⟨oe,vs,y1,y2,y3,y4,y5⟩:=id xp
   obtain⟨oT,ts,z1,z2,z3⟩:=id xt
   refine wpAny_handleBy_cons (codeAny_handlers_test (ZbB (Zil J (some (.ref e))) hg hm ?_ hdb)) (by intro q;cases q)
   have LT:Looks (model X.prog X.w) h2 (typeOf (.ref e)) oe.cls:=(Looks.ld y1).andThen .now
   rw[y2]at LT
   refine(exm_one (M:=model X.prog X.w) J.kIn LT (hy _ hx)).here (s:={ s' with heap:=h2 }) ?_
   rw[if_pos rfl]
   dsimp only
   have go:∀σ2 H2 s2 cm2,Inv X pins σ2 H2 s2->σ2.length=n->EnvR X.K cm2 m' H2 (hEnv env.length i x') σ2->MemR X.K cm2 m' H2->Ext cm m H cm2 m' H2 ->
     wpAny (model X.prog X.w) (X.A.mark (some (.ref e))) (execs (b0::suite) X.env) (SP X pins { nx:=λσ3 H3=>tS X.K call gv xr n k D0 (unS i σ3) H3,rt:=D0.rt }) (λ_ _=>False) s2:=λσ2 H2 s2 cm2 I4 hl2 hE2 M2 x2=>by
    refine Uq (hh (X.A.mark (some (.ref e))) (X.pn++pins) [] s2 σ2 H2 { nx:=λσ3 H3=>tS X.K call gv xr n k D0 (unS i σ3) H3,rt:=D0.rt } (Zil I4 _) ⟨hl2,hEnv env.length i x',cm2,m',hE2,M2,?_⟩) (λf s3 q=>?_) λ_ _ z=>z
    ·cases r2:ex call gv sh (hEnv env.length i x') m' with
     |stuck=>rw[r2]at ho;exact ho.elim
     |exc x3 m3=>rw[r2]at ho;exact ho.elim
     |ok fl m3 =>
      rw[r2]at ho
      intro cm3 H3 x3 M3
      cases fl with
      |next env'=>exact λσ3 hl3 hE3=>⟨ZkV.trans hl3,Mi.unE i env',cm3,m3,hE3.unE i,M3,OkR.shift (show OkR X.K (ex call gv k (Mi.unE i env') m3) xr cm m H _ from ho) (x2.trans x3)⟩
      |ret w=>show Zb5 X.K n D0 (.ret w) cm3 m3 H3;exact OkR.to (xr:=xr) (a:=Flow.ret w) ho (x2.trans x3) M3
      |brk env'=>exact ho.elim
      |cont env'=>exact ho.elim
    ·cases f with
     |next=>obtain⟨σ',H',I',q⟩:=q;exact⟨σ',H',Zij I4.ok I',q⟩
     |ret u=>obtain⟨v,σ',H',I',r,q⟩:=q;exact⟨v,σ',H',Zij I4.ok I',r,q⟩
     |brk=>obtain⟨σ',H',I',q⟩:=q;exact q.elim
     |cont=>obtain⟨σ',H',I',q⟩:=q;exact q.elim
   unfold HName at hi
   split at hi
   ·refine codeAny_handlers_suite (ZfD (s:={ s' with heap:=h2 }) y1 y4 y5 z1 z2 z3 (Uq (go _ _ _ cm' J (Wn) (λl w z=>?_) M' x1) (λf s3 q=>?_) λ_ _ z=>z.elim))
    ·have z:(Yn env.length (none:Option W))[l]?=some (some w):=z
     rw[Wr]at z
     split at z<;>cases z
    ·cases f with
     |next=>obtain⟨σ',H',I',q⟩:=q;exact hk pins s3 σ' H' D0 I' q
     |ret u=>obtain⟨v,σ',H',I',r,q⟩:=q;exact⟨v,σ',H',I',r,q⟩
     |brk=>obtain⟨σ',H',I',q⟩:=q;exact q.elim
     |cont=>obtain⟨σ',H',I',q⟩:=q;exact q.elim
   ·rename_i j xn
    obtain⟨hj,hloc⟩:=hi
    have hjn:j<n:=by rw[<-hn];exact(Ye.mp hj).1
    have gone:X.s₀.heap.get? e=none:=by
     cases y:X.s₀.heap.get? e with
     |none=>rfl
     |some o =>
      obtain⟨o',y'⟩:=I1.base.there e o y (by intro z;have z:e∈X.ex:=z;rw[hex]at z;cases z)
      rw[air.new]at y';cases y'
    obtain⟨oe2,c1,c2,c3,I5⟩:=ZlY J a2.no xp gone np
    refine codeAny_handlers_suite_as (ZfD (s:={ s' with heap:=h2 }) y1 y4 y5 z1 z2 z3 (Zcz I5 hN hj (.inl hloc) (v:=.ref e) rfl (λs4 I6=>?_) (.inr hloc)))
    have keep:∀a o,H' a=some o->upd H' e (.frz oe2 (xeO e x'.cls dx (.ref T))) a=some o:=Z0 a2.no
    have M5:=M'.new (o:=.frz oe2 (xeO e x'.cls dx (.ref T))) a2.no
    refine Uq (go _ _ _ cm' I6 (by rw[Wt,Wn]) (λl w z=>?_) M5 (x1.trans (.new a2.no))) (λf s3 q=>?_) λ_ _ z=>z.elim
    ·have z:((Yn env.length (none:Option W)).set j (some (.x x'.cls x'.nms x'.flds)))[l]?=some (some w):=z
     by_cases hlj:l=j
     ·subst hlj
      refine⟨.ref e,YB (by rw[Wn];exact hjn),?_⟩
      rw[List.getElem?_set]at z
      simp only[if_pos]at z
      split at z
      ·cases z
       refine⟨e,oe2,_,rfl,ZL,c1,c3,?_⟩
       rw[c2]
       exact hf.same keep λt v r=>r.same keep λ_ n _=>n
      ·cases z
     ·rw[Yo (WR hlj),Wr]at z
      split at z<;>cases z
    ·cases f with
     |next=>obtain⟨σ',H',I',q⟩:=q;exact Zdw I' hN hj hloc λs5 I7=>hk pins s5 _ H' D0 I7 q
     |ret u=>obtain⟨v,σ',H',I',r,q⟩:=q;exact Zdw I' hN hj hloc λs5 I7=>⟨v,_,H',I7,r,q⟩
     |brk=>obtain⟨σ',H',I',q⟩:=q;exact q.elim
     |cont=>obtain⟨σ',H',I',q⟩:=q;exact q.elim
   ·exact hi.elim
  ·rw[if_neg hx]at ho
   exact ho.elim
end
noncomputable def inBody(s:Stmt)(i:Nat):Stmt:=match s with
 |.ClassDef _ _ _ b _ _ _ _ _ _ _=>b.getD i (.Pass ⟨0,0,0,0⟩)
 |s=>s
structure XGet (K:Frag) (C:Addr):Prop where
 ga:findIn K (.ref C) "__getattribute__" = some (some (.builtin "BaseException.__getattribute__"))
 gn:findIn K (.ref C) "__getattr__" = some none
 mb:mroIn K C (.type "BaseException")=some true
 hd:YaX K C=true
 ca:findIn K (.ref C) "__class__" = some (some (.builtin "object.__class__"))
 mo:mroIn K C (.type "object")=some true
structure XKit (K:Frag):Prop where
 hn:Ybe K (.builtin "object.__class__") "__get__" = some (some (.builtin "getset_descriptor.__get__"))
 htk:takesIn K (.builtin "object.__class__")=some true
theorem Zc9{K:Frag}{C:Addr}{od:Option Obj}{name:Str}{a g:Value}(hc:(clsIn K C).isSome=true)(ha:findIn K (.ref C) name=some (some a))(hg:Ybe K a "__get__" = some (some g))(ht:takesIn K a=some true):findObj K C od name=some (.bind g a):=by
 obtain⟨cd,hc⟩:=G9.mp hc
 unfold findObj
 rw[hc,YaT,ha,YaT]
 simp[hg,ht]
section
variable{prog:Yx}{w:World}{A:Around}{E:Value->Shared->Prop}{s:Shared}{K:Frag}{x C:Addr}{ox:Obj}{od:Option Obj}{name:Str}
theorem x_by{t:Nat}{expr fill:Bool}{Q:Value->Shared->Prop}(X:K.In s.heap)(I:InstAt s.heap x ox C od)(c:XGet K C)(ht:s.toks=t+1)(h:∀A':Around,wpAny (model prog w) A' (Builtin.«object.__getattribute__» ⟨[.ref x,.str name t],[]⟩) (λfin s'=>match fin with|.done (.ret v)=>wpAny (model prog w) A (handedOut v) Q E s'|_=>False) (λ_ _=>False) s):
  wpAny (model prog w) A (getAttrBy (.ref x) (.str name t) fill expr) Q E s:=by
 obtain⟨hh,g,d,tk,os⟩:=s
 have L0:=I.type (M:=model prog w)
 have L1:=looks_findIn (M:=model prog w) X c.ga
 have L2:=looks_findIn (M:=model prog w) X c.gn
 have LB:Looks (model prog w) hh (isInstance (.ref x) (.type "BaseException")) true:=L0.andThen (looks_mroIn X c.mb)
 have f3:=PySem.F.attrBase_ValueError.ga.bind (.ref x)
 have hx0:(expr&&Yce (Vv "BaseException.__getattribute__"))=false:=by cases expr<;>rfl
 have hx2:(Vv "BaseException.__getattribute__" == Vv "object.__getattribute__")=false:=by decide +kernel
 have hx1:(Yce (Y5 C)&&Vv "BaseException.__getattribute__" == Vv "object.__getattribute__")=false:=by rw[hx2];rfl
 unfold getAttrBy
 refine Wg (Yb (L0.at (Yb (L1.at ?_))))
 dsimp only
 rw[hx1,if_neg Yt]
 unfold getAttrByItsOwn hookBefore
 rw[if_pos (show Yce (Y5 C)=true from rfl)]
 refine Yb (L2.at ?_)
 refine Yb (Vr (Wg ?_))
 unfold callGetattribute
 rw[hx0,if_neg Yt]
 unfold boundAndCalled
 rw[f3]
 refine Yb (Yd (Yar (VM PySem.F.attrBase_ValueError.ga.plain PySem.F.entry_bexc_ga (@check_slot (model prog w) _ _ ⟨hh,g,d,tk,os⟩ "BaseException.__getattribute__" "BaseException" "__getattribute__" (.ref x) [.str name t] [] _ (by decide +kernel) (by decide +kernel) LB (PySem.F.args_bexc_ga (.ref x) (.str name t)) ?_))))
 refine Uq (h _) (λfin s' z=>?_) λ_ _ z=>z.elim
 rcases fin with(_|_|_|_)|_<;>first|exact z|exact z.elim
theorem ZkQ{Q:Option Value->Shared->Prop}(X:K.In s.heap)(I:InstAt s.heap x ox C od)(c:XGet K C)(z:XKit K)(h:Q (some (.ref C)) { s with toks:=s.toks+1 }):
  wpAny (model prog w) A (getAttr? (.ref x) "__class__") Q E s:=by
 have hf:findObj K C od "__class__" = some (.bind (.builtin "getset_descriptor.__get__") (.builtin "object.__class__")):=Zc9 (by obtain⟨cd,hc,_⟩:=any_some c.hd;rw[hc];rfl) c.ca z.hn z.htk
 unfold getAttr? getAttrBy?
 refine Yb (wpAny_mkText ?_)
 refine Yb (Vr ?_)
 refine x_by (s:={ s with toks:=s.toks+1 }) X I c rfl λA'=>?_
 obtain⟨hp,g,d,t,os⟩:=s
 have L0:=I.type (M:=model prog w)
 have L1:=looks_find (M:=model prog w) X I hf
 unfold Builtin.«object.__getattribute__»
 refine Yb (Yd ?_)
 refine Yb (Yd (Yb (L0.at (Yb (L1.at ?_)))))
 show wpAny _ _ (Vh [Vv "object.__class__"] (call (.builtin "getset_descriptor.__get__") [.builtin "object.__class__",.ref x,.ref C]) >>= ret) _ _ _
 refine Yb (Wg (Yar (class_get (s:=⟨hp,g,d,t+1,os⟩) (ox:=ox) (od:=od) X I c.mo ?_)))
 refine Yd ?_
 exact handed_on rfl (Yd h)
end
theorem ZfB{K:Frag}{x D:Addr}{ox:Obj}{odo:Option Obj}(c:XGet K D)(z:XKit K):KitX K (.ref x) (.ref D) (λh=>InstAt h x ox D odo) where
 ty:=λ_ _ _ I=>I.type
 it:=λ_ _ X _=>by
  obtain⟨cdD,hcD,_⟩:=any_some c.hd
  unfold clsIn at hcD
  split at hcD
  ·rename_i c' d' cd' sl' ho
   intro A' Q' E' s' k q
   unfold isType loadHead
   exact Yb (wpAny_loadPart (k _ _ (X _ _ ho)) (Yd q))
  ·cases hcD
 ne:=λh tp dd its n sl X htp=>by
  obtain⟨cdD,hcD,_⟩:=any_some c.hd
  refine Vy.mpr λq=>?_
  have e:D=tp:=Value.ref.inj (beq_iff_eq.mp q)
  subst e
  unfold clsIn at hcD
  split at hcD
  ·rename_i c' d' cd' sl' ho
   have z:=(X _ _ ho).symm.trans htp
   cases z
  ·cases hcD
 ca:=λX I k=>ZkQ X I c z k
section
variable{X:Cx}{xr:XR}{call:Nat->List W->Mem->Res W}{gv:List T}{cm:List Addr}{m:Mem}{H:Hp}{pins:List (Addr×Obj)}{σ:L2.St}{s:Shared}
variable{e:Expr}{ea:E}{pos p p2:Pos}
theorem x_at{c:Nat}{nms:List Str}{ts:List T}{v:V}(I:Inv X pins σ H s)(r:RW X.K cm m H (.x c nms ts) v):
  ∃a o odo,v=.ref a/\InstAt s.heap a o c odo/\XF X.K cm m H nms ts o.dict:=by
 obtain⟨a,o,u,rfl,h1,h2,⟨fs,h3⟩,h4⟩:=r
 obtain⟨z,_⟩:=I.hok a _ h1
 have nc:notCls o=true:=by unfold notCls;rw[h3]
 cases q:o.dict with
 |none=>exact⟨a,o,none,rfl,⟨z,h2,nc,by rw[q];trivial⟩,q▸h4⟩
 |some d =>
  rw[q]at h4
  obtain⟨vs,h5,h6,h7⟩:=id h4
  obtain⟨o',z'⟩:=ZkF I.hok h5
  exact⟨a,o,some o',rfl,⟨z,h2,nc,by rw[q];exact z'⟩,by rw[q];exact h4⟩
theorem Ze8{K:Frag}:∀{nms:List Str}{ts:List T}{vs:List V}{nm:Str}{t:T},Paired (RT K cm m H) ts vs->(nms.zip ts).lookup nm=some t->∃v,(nms.zip vs).lookup nm=some v/\RT K cm m H t v
 |[],_,_,_,_,_,h=>by simp at h
 |n::nms,_,_,nm,t,.nil,h=>by simp at h
 |n::nms,_,_,nm,t,.cons r rs,h=>by
  rw[Vt]at h ⊢
  simp only[Gw]at h ⊢
  cases q:nm==n with
  |true=>rw[q]at h;cases h;exact⟨_,rfl,r⟩
  |false=>rw[q]at h;exact Ze8 rs h
noncomputable def fXis(yes no:List Nat)(w:W)(m:Mem):Res W:=pur (xisT yes no w) m
theorem Zkj{yes no:List Nat}{cv:V}{c:Value}(hcv:∀u,RelV cv u->u=c)(z:XKit X.K)(hy:∀C∈yes,XGet X.K C/\kitOne X.K (.ref C) c=some true)(hn:∀C∈no,XGet X.K C/\kitOne X.K (.ref C) c=some false):
  J1 X (.builtin "isinstance") (λxs H Q=>∃x,xs=[x,cv]/\r1 X.K xr (fXis yes no) x H Q):=by
 rintro pins s σ H xs us Q I r ⟨x,e,cm,m,w,M,rw',ho⟩
 subst e
 obtain⟨u1,u2,rfl,ru1,ru2⟩:=vals2 r
 obtain rfl:=hcv _ ru2
 obtain⟨t,et,ho⟩:=Ql ho
 cases w with
 |t _=>cases et
 |c _=>cases et
 |f _=>cases et
 |o _ _ _=>cases et
 |u=>cases et
 |x C nms ts =>
  obtain⟨a,o,odo,rfl,J,xf⟩:=x_at I rw'
  cases ru1
  have et:(if C∈yes then some (T.bl true)else if C∈no then some (.bl false)else none)=some t:=et
  split at et
  ·rename_i hc
   cases et
   exact Vl (ZfB (hy C hc).1 z) I.kIn J (hy C hc).2 (λz=>nomatch z) λtk=>⟨.bl _,H,I.tok _,rfl,ans ho M (.bl _)⟩
  ·split at et
   ·rename_i hc
    cases et
    exact Vl (ZfB (hn C hc).1 z) I.kIn J (hn C hc).2 (λz=>nomatch z) λtk=>⟨.bl _,H,I.tok _,rfl,ans ho M (.bl _)⟩
   ·cases et
theorem ZcS{yes no:List Nat}{ce:Expr}{cv:V}{c:Value}(ha:PE X e (tE X.K call gv xr ea))(hg:Gl X "isinstance")(hm:X.mg "isinstance" = none)(hc:PE X ce (tC cv))(hcv:∀u,RelV cv u->u=c)(z:XKit X.K)(hy:∀C∈yes,XGet X.K C/\kitOne X.K (.ref C) c=some true)(hn:∀C∈no,XGet X.K C/\kitOne X.K (.ref C) c=some false)(hs:notStar e=true:=by rfl)(hs2:notStar ce=true:=by rfl):
  PE X (.Call (.Name "isinstance" p) [e,ce] [] pos) (tE X.K call gv xr (.xis ea yes no)):=by
 refine PE.mono (Zbd (Zkj (xr:=xr) hcv z hy hn) hg hm (by decide +kernel) (Jv ha (Jv hc Zch (ZW hs2)) (ZW hs)) (by decide) (by decide) (ZW hs) (Xo (by simp[hs2]))) ?_
 rintro σ H Q ⟨env,cm,m,hE,M,ho⟩
 rw[ev]at ho
 exact⟨env,cm,m,hE,M,ho.bind.mono λw cm1 m1 H1 x1 M1 o1 v rv=>⟨v,rfl,cm1,m1,w,M1,rv,o1⟩⟩
theorem Zdu:∀{as:List Addr}{us:List Value},Vals (as.map V.ref) us->us=as.map Y5
 |[],_,.nil=>rfl
 |a::as,_,.cons r rs=>by
  cases r
  rw[Zdu rs]
  rfl
theorem ZiU{yes no:List Nat}{as:List Addr}(z:XKit X.K)(hy:∀C∈yes,XGet X.K C/\kitAny X.K (.ref C) (as.map .ref)=some true)(hn:∀C∈no,XGet X.K C/\kitAny X.K (.ref C) (as.map .ref)=some false):
  J1 X (.builtin "isinstance") (λxs H Q=>∃x q,xs=[x,.ref q]/\SqT X.K H q (as.map .ref)/\r1 X.K xr (fXis yes no) x H Q):=by
 rintro pins s σ H xs us Q I r ⟨x,q,e,sq,cm,m,w,M,rw',ho⟩
 subst e
 obtain⟨u1,u2,rfl,ru1,ru2⟩:=vals2 r
 cases ru2
 obtain⟨t,et,ho⟩:=Ql ho
 obtain⟨its,rv,⟨ot,g1,g2,⟨n,g3⟩,g4⟩,_⟩:=I.tupleP sq
 obtain rfl:=Zdu rv
 obtain⟨oc,od,odt,osl⟩:=ot
 dsimp only at g2 g3 g4
 subst g2 g3 g4
 cases w with
 |t _=>cases et
 |c _=>cases et
 |f _=>cases et
 |o _ _ _=>cases et
 |u=>cases et
 |x C nms ts =>
  obtain⟨a,o,odo,rfl,J,xf⟩:=x_at I rw'
  cases ru1
  have et:(if C∈yes then some (T.bl true)else if C∈no then some (.bl false)else none)=some t:=et
  split at et
  ·rename_i hc
   cases et
   exact kia_tup (ZfB (hy C hc).1 z) I.kIn J g1 (hy C hc).2 (λz=>nomatch z) λtk=>⟨.bl _,H,I.tok _,rfl,ans ho M (.bl _)⟩
  ·split at et
   ·rename_i hc
    cases et
    exact kia_tup (ZfB (hn C hc).1 z) I.kIn J g1 (hn C hc).2 (λz=>nomatch z) λtk=>⟨.bl _,H,I.tok _,rfl,ans ho M (.bl _)⟩
   ·cases et
noncomputable def tCs(as:List Addr):TA:=λ_ H Q=>Q (as.map V.ref) H
theorem pa_cs0:PA X [] (tCs []):=PA.mono Zch λσ H Q h=>h
theorem pa_csS{es:List Expr}{a:Addr}{as:List Addr}(ha:PE X e (tC (.ref a)))(hr:PA X es (tCs as))(hs:notStar e=true:=by rfl):PA X (e::es) (tCs (a::as)):=PA.mono (Jv ha hr (ZW hs)) λσ H Q h=>h
theorem ZjD{yes no:List Nat}{ces:List Expr}{k}{as:List Addr}(ha:PE X e (tE X.K call gv xr ea))(hg:Gl X "isinstance")(hm:X.mg "isinstance" = none)(hc:PA X ces (tCs as))(hl:as.length<=100)(z:XKit X.K)(hy:∀C∈yes,XGet X.K C/\kitAny X.K (.ref C) (as.map .ref)=some true)(hn:∀C∈no,XGet X.K C/\kitAny X.K (.ref C) (as.map .ref)=some false)(hs:notStar e=true:=by rfl):
  PE X (.Call (.Name "isinstance" p) [e,.Tuple ces k p2] [] pos) (tE X.K call gv xr (.xis ea yes no)):=by
 refine PE.mono (Zbd (ZiU (xr:=xr) z hy hn) hg hm (by decide +kernel) (Jv ha (Jv (ZkA hc) Zch (ZW rfl)) (ZW hs)) (by decide) (by decide) (ZW hs) (Xo rfl)) ?_
 rintro σ H Q ⟨env,cm,m,hE,M,ho⟩
 rw[ev]at ho
 refine⟨env,cm,m,hE,M,ho.bind.mono λw cm1 m1 H1 x1 M1 o1 v rv=>⟨?_,λq hq=>⟨v,q,rfl,.inl (.inl ZL),cm1,m1,w,M1.new hq,rv.ext (.new hq) M1 (M1.new hq),o1.shift (.new hq)⟩⟩⟩
 rw[Yi]
 have:(100:Nat)<=YC:=by decide
 omega
end
end Mi
namespace Mi
open PySem PySem.Spec PyProof.Rows L2
section
variable{K:Frag}{xr:XR}{X:Cx}{call:Nat->List W->Mem->Res W}{gv:List T}
variable{e:Expr}{ea:E}{pos:Pos}{rest:List Stmt}{k:S}{n:Nat}
theorem vr(i:Nat){x:Str}{pos:Pos}(hN:X.N[i]?=some x:=by rfl)(hv:Vis X.env.scope x:=by first|exact Or.inl rfl|exact Or.inr (Or.inl rfl)|exact Or.inr (Or.inr rfl))(hd:(x==("__debug__" : Str))=false:=by decide)(hcd:(x==("__classdict__" : Str))=false:=by decide):PE X (.Name x pos) (tE X.K call gv xr (.var i)):=Zlh hN hv hd hcd
theorem sg(i:Nat){x:Str}{px:Pos}(hN:X.N.Nodup)(h:PE X e (tE X.K call gv xr ea))(hk:PSs X rest (tS X.K call gv xr n k))(hn:X.N.length=n:=by rfl)(hi:X.N[i]?=some x:=by rfl)(hx:Loc X.env.scope x:=by first|exact Or.inl rfl|exact Or.inr rfl)(hs:V2 e (some (.Name x px)) pos.line X.env=pure false:=by rfl)(hf:X.fn x=true∨X.env.scope.names.lookup x=some .local:=by first|exact .inl rfl|exact .inr rfl):PSs X (.Assign [.Name x px] e pos::rest) (tS X.K call gv xr n (.asg i ea k)):=Zjt hN hn hi hx h hk hs hf
theorem ZX(i:Nat){x:Str}{pos:Pos}(hN:X.N.Nodup)(hi:X.N[i]?=some x:=by rfl)(hx:Loc X.env.scope x:=by first|exact Or.inl rfl|exact Or.inr rfl)(hf:X.fn x=true∨X.env.scope.names.lookup x=some .local:=by first|exact .inl rfl|exact .inr rfl):PG X (.Name x pos) (gT X.K (.nm i)):=Zau hN hi hx hf
noncomputable def scOk(scope osc:Scope):Bool:=scope.kind==.function&&scope.names.all λp=>scope.names.lookup p.1==some p.2&&(p.2 != .free || osc.names.lookup p.1==some .cell || osc.names.lookup p.1==some .free)
noncomputable def ZbD(N' N:List Str)(own:Nat)(keep:List Nat)(scope:Scope):Bool:=N'.length==own+keep.length&&(YM keep.length).all λi=>match N'[own+i]?,keep[i]? with
 |some x,some j=>N[j]?==some x&&scope.names.any λp=>p.1==x&&p.2==.free
 |_,_=>false
theorem Zkd{N':List Str}{scope:Scope}{own:Nat}{keep:List Nat}{elt target iter:Expr}{ifs:List Expr}{gs:List WN}{it:E}{tg:Tg}{cs:Es}{inner:E}(h1:scOk scope X.env.scope=true)(h2:ZbD N' X.N own keep scope=true)(pi:PI X target iter (tI X.K call gv xr it))(fs:∀x,Wu iter X.env x=pure x)(ins:Zi6 X xr call gv N' scope elt target ifs (⟨target,iter,ifs,0⟩::gs) tg cs inner)(dis:∀i∈tgS tg,i∉innS inner)(slt:∀i∈tgS tg++innS inner,i<own):
  CompK X xr call gv N' scope own keep elt target iter ifs gs it tg cs inner:=by
 unfold scOk at h1
 rw[Yg]at h1
 obtain⟨hk,h1⟩:=h1
 have h1:=YT.mp h1
 unfold ZbD at h2
 rw[Yg]at h2
 obtain⟨hl,h2⟩:=h2
 have h2:=YT.mp h2
 refine⟨⟨eq_of_beq hk,λp hp=>?_,λx hx=>?_⟩,eq_of_beq hl,λi x e=>?_,pi,fs,ins,dis,slt⟩
 ·have:=h1 p hp
  simp only[Yg]at this
  exact eq_of_beq this.1
 ·have:=h1 _ hx
  simp only[Yg,W9]at this
  rcases this.2 with(h|h)|h
  ·cases h
  ·exact .inl (eq_of_beq h)
  ·exact .inr (eq_of_beq h)
 ·have hlen:N'.length=own+keep.length:=eq_of_beq hl
  have hi:i<keep.length:=by
   have:=(Ye.mp e).1
   omega
  have h:=h2 i (W6.mpr hi)
  rw[e]at h
  cases q:keep[i]? with
  |none=>rw[q]at h;cases h
  |some j =>
   rw[q]at h
   have h:(X.N[j]?==some x&&scope.names.any λp=>p.1==x&&p.2==.free)=true:=h
   rw[Yg]at h
   refine⟨j,rfl,eq_of_beq h.1,?_⟩
   obtain⟨p,hp,hq⟩:=G4.mp h.2
   rw[Yg]at hq
   rw[<-eq_of_beq hq.1]
   have:p.2=YX:=eq_of_beq hq.2
   rw[<-this]
   exact hp
theorem law_sp{fns:List Fn}{k fi:Nat}{H:Hp}{a:Addr}{ns:List Int}{E:XK}(hT:TabR K H)(hS:Zb2 K H a ns)(h:∃m,ZV fns gv k fi [.t (.scr ns)] []=.ok (.t (.bl true)) m):spF K fns gv k fi [.ref a] H (λv _=>v=.bl true) E:=by
 obtain⟨m,h⟩:=h
 refine⟨[],[],[.t (.scr ns)],⟨rfl,λi j a p q e=>by simp at e,λi p e=>by simp at e,hT⟩,.cons (.scr ns hS) .nil,?_⟩
 rw[h]
 intro cm' H' x M v rv
 cases RT.vbl rv
 rfl
theorem Zj2{mg:Str->Option Value}{x y:Str}{t:Tok}{cs:List Nat}(h:mg x=some (.str y t))(e:y.cps.toList=cs):JM K mg x (.str cs):=⟨_,.str y,h,⟨t,rfl⟩,λcm m H=>by rw[Zhe e];exact .str cs⟩
theorem XS{mg:Str->Option Value}{x:Str}{i:Int}{t:Tok}(h:mg x=some (.int i t)):JM K mg x (.int i):=⟨_,.int i,h,⟨t,rfl⟩,λcm m H=>.int i⟩
inductive StrsV:List (List Nat)->List Value->Prop where
 |nil:StrsV [] []
 |cons {y:Str}{t:Tok}{cs:List Nat}{r:List (List Nat)}{us:List Value}:y.cps.toList=cs->StrsV r us->StrsV (cs::r) (.str y t::us)
theorem Zd7{mg:Str->Option Value}{x:Str}{a:Addr}{its:Array Value}{nn:Nat}{sl:Array (Option Value)}{css:List (List Nat)}(h:mg x=some (.ref a))(l:K.lookup a=some ⟨.type "tuple",none,.seq its nn,sl⟩)(hz:its.size<=YC)(hs:StrsV css its.toList):JM K mg x (.tup (css.map .str)):=by
 refine⟨_,.ref a,h,rfl,λcm m H=>?_⟩
 have go:∀{css:List (List Nat)}{us:List Value},StrsV css us->Vals (css.map λc=>V.str ⟨c.toArray⟩) us/\RTs K cm m H (css.map .str) (css.map λc=>V.str ⟨c.toArray⟩):=λ{css us} h=>by
  induction h with
  |nil=>exact⟨.nil,.nil⟩
  |@cons y t cs r us e _ ih =>
   refine⟨.cons ?_ ih.1,.cons (.str cs) ih.2⟩
   show ∃t',GQ y t=GQ ⟨cs.toArray⟩ t'
   rw[<-Zhe e]
   exact⟨t,rfl⟩
 exact .mtup (.inr ⟨_,its,nn,l,rfl,rfl,hz,(go hs).1,rfl⟩) (go hs).2
end
section
variable{K:Frag}{cm:List Addr}{m:Mem}{H:Hp}{xr:XR}{X:Cx}{call:Nat->List W->Mem->Res W}{gv:List T}
variable{a b c e:Expr}{es:List Expr}{ea eb ec:E}{eas:Es}{pos p p2:Pos}{rest:List Stmt}{k:S}{n:Nat}
theorem ZcT:PE X (.Dict [] [] pos) (tE X.K call gv xr (.dsp .nil .nil)):=by
 refine PE.mono ZjI ?_
 rintro σ H Q ⟨env,cm,m,hE,M,ho⟩
 have e0:ev call gv (.dsp .nil .nil) env m=.ok (.t (.dct [] [])) m:=by simp only[ev,evs,Res.bind,dspT]
 rw[e0]at ho
 intro p hp
 refine OkR.to ho (.new hp) (M.new (o:=.dK []) hp) (.ref p) ?_
 exact .dct (ks:=[]) (vs:=[]) ZL (Xe M hp) rfl rfl λi t v h1 h2=>by cases h1
theorem blt2{b:B}{ws:List W}{vs:List V}{k:W->List Addr->Mem->Hp->Prop}(r:RWs K cm m H ws vs)(h1:∀ts t,bltT b ts=some t->∃i j,ts=[.int i,.int j])(h:OkR K (fBlt b ws m) xr cm m H k):
  ∃i j r,vs=[.int i,.int j]/\bltT b [.int i,.int j]=some r/\OkR K (.ok (.t r) m) xr cm m H k:=by
 obtain⟨t,e,ho⟩:=Ql h
 cases q:views ws m with
 |none=>rw[q]at e;cases e
 |some ts =>
  rw[q]at e
  have e:bltT b ts=some t:=e
  obtain⟨i,j,rfl⟩:=h1 ts t e
  match ws,vs,r with
  |[],_,_=>cases q
  |[w],_,_ =>
   unfold views at q
   cases q1:view w m with
   |none=>rw[q1]at q;cases q
   |some t1=>rw[q1]at q;cases q
  |[w1,w2],_,.cons r1 (.cons r2 .nil) =>
   unfold views at q
   cases q1:view w1 m with
   |none=>rw[q1]at q;cases q
   |some t1 =>
    rw[q1]at q
    unfold views at q
    cases q2:view w2 m with
    |none=>rw[q2]at q;cases q
    |some t2 =>
     rw[q2]at q
     cases q
     cases(Zd r1 q1 (λ_ z=>by cases z)).vint
     cases(Zd r2 q2 (λ_ z=>by cases z)).vint
     exact⟨i,j,t,rfl,e,ho⟩
  |w1::w2::w3::ws,_,_ =>
   unfold views at q
   cases q1:view w1 m with
   |none=>rw[q1]at q;cases q
   |some t1 =>
    rw[q1]at q
    unfold views at q
    cases q2:view w2 m with
    |none=>rw[q2]at q;cases q
    |some t2 =>
     rw[q2]at q
     unfold views at q
     cases q3:view w3 m with
     |none=>rw[q3]at q;cases q
     |some t3 =>
      rw[q3]at q
      cases q4:views ws m with
      |none=>rw[q4]at q;cases q
      |some t4=>rw[q4]at q;cases q
theorem Zgt:MtR X "list.append" (rM X.K xr .append):=by
 rintro pins s σ H x xs v us Q I rx rs ⟨cm,m,w,ws,M,rw',rws,ho⟩
 cases w with
 |t t=>exact ho.elim
 |f a=>exact ho.elim
 |x _ _ _=>exact ho.elim
 |o _ _ _=>exact ho.elim
 |u=>exact ho.elim
 |c i =>
  have ho:OkR X.K ((frzs ws m).bind λts m=>match m[i]? with
   |some (some (false,xs))=>match mutM .append xs ts with
    |some (t,ys)=>.ok (W.t t) (m.set i (some (false,ys)))
    |none=>.stuck
   |_=>.stuck) xr cm m H _:=ho
  obtain⟨ts,m2,e2,o2⟩:=X4 ho
  obtain⟨x2,M2,r2⟩:=Xf M rws e2
  obtain⟨a,ha,rfl⟩:=rw'
  split at o2
  ·rename_i ys e3
   split at o2
   ·rename_i t zs e4
    obtain⟨b,vs,q1,q2,q3,q4⟩:=M2.at' i _ e3
    rw[ha]at q1;cases q1
    have l4:=q4.length
    dsimp only at l4
    have hz:=ZM
    match ts,r2,e4 with
    |[t1],.cons r3 .nil,e4 =>
     unfold mutM at e4
     dsimp only at e4
     split at e4<;>cases e4
     rename_i hlt
     obtain⟨x5,M5⟩:=ZaM M2 e3 ha (ZF q4 (.cons r3 .nil))
     exact Zh7 pins s σ H _ _ v us Q I rx rs ⟨a,vs,_,rfl,rfl,q2,by omega,OkR.to o2 (x2.trans x5) M5 _ .non⟩
    |[],_,e4=>cases e4
    |_::_::_,_,e4=>cases e4
   ·exact o2.elim
  ·exact o2.elim
theorem Zgk{o:Expr}{apos cpos:Pos}(ho:PE X o (tE X.K call gv xr ea))(ha:PA X [e] (tA X.K call gv xr eas))(hbase:Vk o "append" X.env (eval o X.env)=eval o X.env:=by rfl)(hline:(apos.endLine==cpos.line)=true:=by rfl)(hs:notStar e=true:=by rfl):
  PE X (.Call (.Attribute o "append" apos) [e] [] cpos) (tE X.K call gv xr (.mth .append ea eas)):=by
 refine PE.mono (pe_bm PySem.F.plainAttrs_list PySem.F.slot_list_append PySem.F.type_list_append (Zgt (xr:=xr)) ho ha hbase (few1 hs) hline (ZW hs) (Xo rfl)) ?_
 rintro σ H Q ⟨env,cm,m,hE,M,hq⟩
 rw[ev]at hq
 refine⟨env,cm,m,hE,M,hq.bind.mono λw cm1 m1 H1 x1 M1 o1 v rv=>?_⟩
 obtain⟨ht,o1⟩:=Zd6 o1
 refine⟨?_,env,cm1,m1,hE.ext x1 M M1,M1,o1.bind.mono λws cm2 m2 H2 x2 M2 o2 vs rvs=>?_⟩
 ·cases w with
  |t t=>cases ht
  |f a=>cases ht
  |x _ _ _=>cases ht
  |o _ _ _=>cases ht
  |u=>cases ht
  |c i =>
   obtain⟨a,h1,rfl⟩:=rv
   have ht:(match m1[i]? with
    |some (some _)=>true
    |_=>false)=true:=ht
   split at ht
   ·rename_i c e1
    obtain⟨b,vs,q1,q2,_⟩:=M1.at' i _ e1
    rw[h1]at q1;cases q1
    exact .inl ⟨rfl,vs,.of q2⟩
   ·cases ht
 ·exact⟨cm2,m2,w,ws,M2,rv.ext x2 M1 M2,rvs,o2⟩
theorem Zfw(i j:Nat){x y:Str}{px py:Pos}{kk:Nat}(hc:X.calm=true)(hN:X.N.Nodup)(hi:X.N[i]?=some x:=by rfl)(hj:X.N[j]?=some y:=by rfl)(hx:Loc X.env.scope x:=by first|exact Or.inl rfl|exact Or.inr rfl)(hy:Loc X.env.scope y:=by first|exact Or.inl rfl|exact Or.inr rfl)(hf:X.fn x=true∨X.env.scope.names.lookup x=some .local:=by first|exact .inl rfl|exact .inr rfl)(hg:X.fn y=true∨X.env.scope.names.lookup y=some .local:=by first|exact .inl rfl|exact .inr rfl)(hs:(Wz [.Name x px,.Name y py] X.env).map (·.2)=assign (.Name x px) X.env::(Wz [.Name y py] X.env).map (·.2):=by rfl)(hs2:(Wz [.Name y py] X.env).map (·.2)=assign (.Name y py) X.env::(Wz [] X.env).map (·.2):=by rfl)(hn:(Wz [.Name x px,.Name y py] X.env).length=2:=by rfl)(hst:(Wz [.Name x px,.Name y py] X.env).findIdx? (·.1)=none:=by rfl):PG X (.Tuple [.Name x px,.Name y py] kk pos) (gT X.K (.tp [i,j])):=by
 rintro pins s σ H v u Q I r ⟨a,xs,e1,h1,h2,h3⟩
 refine Zky hc (Xy (Zau hN hi hx hf) (Xy (Zau hN hj hy hg) ZhH hs2) hs) hn hst pins s σ H v u Q I r ⟨a,xs,e1,h1,h2,?_⟩
 match xs,h2 with
 |[v1,v2],_=>exact⟨v1,[v2],rfl,v2,[],rfl,rfl,h3⟩
end
section
variable{xr:XR}{X:Cx}{call:Nat->List W->Mem->Res W}{gv:List T}
variable{e:Expr}{es:List Expr}{eas:Es}{pos p:Pos}
theorem Zlu(hg:Gl X "len")(hm:X.mg "len" = none)(ha:PA X (e::es) (tA X.K call gv xr eas))(he:notStar e=true)(hpl:es.all notStar=true):PE X (.Call (.Name "len" p) (e::es) [] pos) (tE X.K call gv xr (.blt .len eas)):=ZeD ZiV (by decide +kernel) hg hm ha (by decide) (by decide) he hpl
theorem ZjH(hg:Gl X "int")(hm:X.mg "int" = none)(ha:PA X (e::es) (tA X.K call gv xr eas))(he:notStar e=true)(hpl:es.all notStar=true):PE X (.Call (.Name "int" p) (e::es) [] pos) (tE X.K call gv xr (.blt .int eas)):=ZeC ZiW (by decide +kernel) hg hm ha (by decide) (by decide) he hpl
theorem Zgh(hg:Gl X "tuple")(hm:X.mg "tuple" = none)(ha:PA X (e::es) (tA X.K call gv xr eas))(he:notStar e=true)(hpl:es.all notStar=true)(hc:X.calm=true:=by rfl):PE X (.Call (.Name "tuple" p) (e::es) [] pos) (tE X.K call gv xr (.blt .tuple eas)):=ZeC (ZeX hc) (by decide +kernel) hg hm ha (by decide) (by decide) he hpl
theorem ZhL(hg:Gl X "list")(hm:X.mg "list" = none)(ha:PA X (e::es) (tA X.K call gv xr eas))(he:notStar e=true)(hpl:es.all notStar=true):PE X (.Call (.Name "list" p) (e::es) [] pos) (tE X.K call gv xr (.blt .list eas)):=ZeC ZgS (by decide +kernel) hg hm ha (by decide) (by decide) he hpl
theorem ZjM(hg:Gl X "all")(hm:X.mg "all" = none)(ha:PA X (e::es) (tA X.K call gv xr eas))(he:notStar e=true)(hpl:es.all notStar=true)(hc:X.calm=true:=by rfl):PE X (.Call (.Name "all" p) (e::es) [] pos) (tE X.K call gv xr (.blt .all eas)):=ZeD (ZiX hc) (by decide +kernel) hg hm ha (by decide) (by decide) he hpl
end
structure Bd (X:Cx) (st:List Stmt) (t:TS):Prop where
 h:PSs X st t
theorem ZbJ{K:Frag}{fns:List Fn}{gv:List T}{k:Nat}{P:Yx}{w:World}{mg:Str->Option Value}{base:Heap}{x qual:Str}{st:Stmt}{f:Addr}{fd:W5}{N ps:List Str}{fi np n:Nat}{body:S}{cell:Bool}(F:Fun K x qual st f fd)(S:FnScope N ps (Za st))(hd:fns[fi]?=some ⟨np,n,body,cell⟩)(hps:np=ps.length)(hn:N.length=n)(hbody:∀(cdv:Value) (A:Around) (outer:List Wb) (s:Shared) (H:Hp) (E:XK),Room k (A.deeper (envOfC qual (Za st) s.heap.objs.size f cdv)) ->
   ∀(xe:Value->Shared->Prop) (pn:List (Addr×Obj)) (xr:XR),Go (asX (cxOf (CXF P w) P w K mg base N qual (Za st) f cdv A outer s H E) xe pn) xr->Bd (asX (cxOf (CXF P w) P w K mg base N qual (Za st) f cdv A outer s H E) xe pn) (Zv st) (tS K (ZV fns gv k) gv xr n body)):
  FnOk P w K mg base (CXF P w) (k+1) f fd ps (spF K fns gv (k+1) fi):=by
 subst hn
 exact fn_okW F S hd hps rfl λcdv A outer s H E hr xe pn xr go=>(hbody cdv A outer s H E hr xe pn xr go).h
section
variable{K:Frag}{X:Cx}{fns:List Fn}{gv:List T}{xr:XR}{call:Nat->List W->Mem->Res W}
variable{e:Expr}{es:List Expr}{eas:Es}{pos p:Pos}{k:Nat}
inductive TabOk (P:Yx) (w:World) (K:Frag) (mg:Str->Option Value) (base:Heap) (fns:List Fn) (gv:List T) (k:Nat):List (Nat×Nat)->Prop where
 |nil:TabOk P w K mg base fns gv k []
 |cons {j fi a:Nat}{x:Str}{r:List (Nat×Nat)}:FOk P w K mg base fns gv k x fi->mg x=some (.ref a)->gv[j]?=some (.int (a:Int))->TabOk P w K mg base fns gv k r->TabOk P w K mg base fns gv k ((j,fi)::r)
end
section
variable{K:Frag}{cm:List Addr}{m:Mem}{H:Hp}{xr:XR}{X:Cx}{call:Nat->List W->Mem->Res W}{gv:List T}
variable{a b c e:Expr}{es:List Expr}{ea eb ec:E}{eas:Es}{pos p p2:Pos}{rest:List Stmt}{k:S}{n:Nat}
theorem Zgf{tg:Expr}(hg:Gl X "range")(hm:X.mg "range" = none)(ha:PA X [a,b] (tA X.K call gv xr eas))(hs:notStar a=true:=by rfl)(hs2:notStar b=true:=by rfl):PI X tg (.Call (.Name "range" p) [a,b] [] pos) (tI X.K call gv xr (.blt .range2 eas)):=by
 refine PI.mono (ZhF hg hm ha (by rw[ZW hs,ZW hs2];rfl) (ZW hs2)) ?_
 rintro σ H R ⟨env,cm,m,hE,M,ho⟩
 rw[ev]at ho
 refine⟨env,cm,m,hE,M,ho.bind.mono λws cm1 m1 H1 x1 M1 o1 vs rvs=>?_⟩
 have two:∀ts t,bltT .range2 ts=some t->∃i j,ts=[.int i,.int j]:=by
  intro ts t h
  exact(Zg5 h).imp λi hi=>hi.imp λj hj=>hj.1
 obtain⟨i,j,rr,rfl,eb,o2⟩:=blt2 (b:=.range2) rvs two o1
 simp only[bltT,two2]at eb
 split at eb<;>cases eb
 rename_i hc
 obtain⟨ts,m2,q1,q2⟩:=OkR.now o2 M1
 cases q1
 exact⟨_,_,rfl,⟨hc.1.2,hc.1.1,hc.2.2,hc.2.1⟩,q2 _ (.rng _ _)⟩
theorem Zc8{α β:Type}{f g:α->Option β}:∀{l:List α},(∀x∈l,f x=g x)->l.filterMap f=l.filterMap g
 |[],_=>rfl
 |x::l,h=>by
  rw[Ue,Ue,h x (by simp),Zc8 (l:=l) λy hy=>h y (by simp[hy])]
theorem Zf6(n:Nat):WT none none (-1) (n:Int)=((n:Int)-1,-1):=by
 unfold WT
 simp
theorem Zf5(n:Nat):We ((n:Int)-1) (-1) (-1)=n:=by
 unfold We
 simp
 try omega
theorem Zfo(xs:Array Value):((YM xs.size).filterMap λ(k:Nat)=>xs[((xs.size:Int)-1+(k:Int)*-1).toNat]?).toArray=xs.toList.reverse.toArray:=by
 congr 1
 refine Yaz λi=>?_
 have h:(YM xs.size).filterMap (λ(k:Nat)=>xs[((xs.size:Int)-1+(k:Int)*-1).toNat]?)=(YM xs.size).map λk=>xs[xs.size-1-k]!:=by
  rw[<-List.filterMap_eq_map]
  refine Zc8 λk hk=>?_
  have hk:=W6.mp hk
  have e:((xs.size:Int)-1+(k:Int)*-1).toNat=xs.size-1-k:=by omega
  rw[e]
  have hlt:xs.size-1-k<xs.size:=by omega
  simp[hlt]
 rw[h,YJ]
 by_cases hi:i<xs.size
 ·rw[G6 hi,List.getElem?_reverse (by simpa using hi)]
  have hlt:xs.size-1-i<xs.size:=by omega
  simp[hlt]
 ·rw[Uo (by simpa using hi),Uo (by simpa using hi)]
  rfl
theorem Za1{prog:Yx}{w:World}{A:Around}{E:Value->Shared->Prop}{s:Shared}{sl:Addr}{t:Tok}{n:Nat}{Q:Int×Int×Nat->Shared->Prop}(hs:s.heap.IsSliceOf sl .none .none (.int (-1) t))(h:Q ((n:Int)-1,-1,n) s):wpAny (model prog w) A (UW (.ref sl) (pure (n:Int))) Q E s:=by
 obtain⟨os,hos,hcs,hds⟩:=id hs
 unfold UW Builtin.Slice.sliceFields
 refine Yb (Yb (Ge hos hds (x:=.none) rfl (Yb (Ge hos hds (x:=.none) rfl (Yb (Ge hos hds (x:=.int (-1) t) rfl (Yd ?_)))))))
 refine Yb (slicePart_int ?_)
 show wpAny _ _ (if((-1:Int)==0)=true then _ else _) _ _ s
 rw[if_neg (by decide)]
 refine Yb (Yap (Yb (Yap (Yb (Yd ?_)))))
 show wpAny _ _ (match WT none none (-1) (n:Int)with|(lo,hi)=>pure (lo,(-1:Int),We lo hi (-1))) _ _ s
 rw[Zf6 n]
 show wpAny _ _ (pure ((n:Int)-1,(-1:Int),We ((n:Int)-1) (-1) (-1))) _ _ s
 rw[Zf5]
 exact Yd h
theorem ZaF{prog:Yx}{w:World}{A:Around}{E:Value->Shared->Prop}{s:Shared}{t sl:Addr}{items:Array Value}{tk:Tok}{Q:Value->Shared->Prop}(ht:IsTup s.heap t items)(hs:s.heap.IsSliceOf sl .none .none (.int (-1) tk))(h:Q (.ref s.heap.objs.size) { s with heap:=s.heap.push { cls:=.type "tuple",data:=.seq items.toList.reverse.toArray } })(hsz:items.size<=YC):wpAny (model prog w) A (VH (.ref t) (.ref sl)) Q E s:=by
 have htake:sizeOk (.seq items.toList.reverse.toArray):=by
  show items.toList.reverse.toArray.size<=YC
  simpa using hsz
 obtain⟨os,hos,hcs,hds⟩:=id hs
 have hTs:s.TypeIs (.ref sl) "slice":=⟨os,hos,hcs⟩
 unfold VH
 try with_reducible refine Wg ?_
 first|refine Yb (Yd ?_)|skip
 refine Yb (Yas ht.typeIs (by decide) ?_)
 refine Yb (WL (name:=U7 "__getitem__") ht.typeIs Wj
  (WY Wj ht.typeIs V3 ?_ (Yaj _ _)))
 show wpAny _ _ (GK (.ref t) >>= _) _ _ s
 refine Yb (Ybg ht ?_)
 refine Yb (VD hTs ?_)
 rw[if_pos (by decide)]
 refine Yb (Za1 hs ?_)
 have hno:¬((((items.size:Int)-1)==0&&(-1:Int)==1&&items.size==items.size)=true):=by
  intro q
  rw[Yg,Yg]at q
  exact absurd q.1.2 (by decide)
 show wpAny _ _ (if(((items.size:Int)-1)==0&&(-1:Int)==1&&items.size==items.size)=true then _ else _) _ _ s
 rw[if_neg hno,Zfo]
 first
  |exact Yb (m:=Wk _) (YZ (Yd ⟨_,rfl,Yd h⟩) htake)
  |exact Yb (m:=Wk _) (YZ (Yb (Yd (Yd ⟨_,rfl,Yd h⟩))) htake)
  |exact Yb (Yb (m:=Wk _) (YZ (Yd (Yd ⟨_,rfl,Yd h⟩)) htake))
  |exact Yb (Yb (m:=Wk _) (YZ (Yd ⟨_,rfl,Yd h⟩) htake))
theorem ZcJ(its:List Value):YbJ its.toArray none none (some (-1))=its.reverse.toArray:=by
 unfold YbJ
 have e1:Gx none none (some (-1)) its.toArray.size=((its.length:Int)-1,-1,-1):=by
  unfold Gx
  simp
 rw[e1]
 show(List.filterMap (λx=>its.toArray[x]?) (YbX ((its.length:Int)-1) (-1) (-1))).toArray=_
 rw[PySem.W.krv_sliceRange]
 have:=Zfo its.toArray
 rw[Yai]
 have e2:(YM its.toArray.size).filterMap (λ(k:Nat)=>its.toArray[((its.toArray.size:Int)-1+(k:Int)*-1).toNat]?)=(YM its.length).filterMap ((λx=>its.toArray[x]?) ∘ λk=>its.length-1-k):=by
  rw[Yk]
  refine Zc8 λk hk=>?_
  have hk:=W6.mp hk
  have e:((its.length:Int)-1+(k:Int)*-1).toNat=its.length-1-k:=by omega
  rw[e]
  rfl
 rw[e2]at this
 exact this
theorem Zfa:∀{xs:List V}{us:List Value},Vals xs us->Vals xs.reverse us.reverse:=by
 intro xs us h
 induction h with
 |nil=>exact .nil
 |cons r _ ih =>
  rw[Vz,Vz]
  exact ih.append (.cons r .nil)
theorem Zcg{α β:Type}{F:α->β->Prop}{xs:List α}{ys:List β}(h:Paired F xs ys):Paired F xs.reverse ys.reverse:=by
 induction h with
 |nil=>exact .nil
 |cons r _ ih =>
  rw[Vz,Vz]
  exact ZF ih (.cons r .nil)
noncomputable def revT(x:T):Option T:=match x with
 |.tup ts=>some (.tup ts.reverse)
 |.lst ts=>some (.lst ts.reverse)
 |_=>none
noncomputable def fRev(w:W)(m:Mem):Res W:=pur ((view w m).bind λx=>revT x) m
theorem Zll{st:Expr}(he:PE X e (tE X.K call gv xr ea))(hst:PE X st (tE X.K call gv xr (.neg (.con (.int 1)))))(hsub:∀(v:Value) (l:Addr),YbI (.Slice none none (some st) p2) false v (.ref l)=operate [v,.ref l] (VH v (.ref l))):PE X (.Subscript e (.Slice none none (some st) p2) pos) (tE X.K call gv xr (.rev ea)):=by
 rintro pins s σ H Q I ⟨env,cm,m,hE,M,ho⟩
 have e0:ev call gv (.rev ea) env m=(ev call gv ea env m).bind λx m=>fRev x m:=by
  rw[ev];rfl
 rw[e0]at ho
 have hq:tE X.K call gv xr ea σ H λx H1=>∃cm1 m1 w,EnvR X.K cm1 m1 H1 env σ/\MemR X.K cm1 m1 H1/\RW X.K cm1 m1 H1 w x/\OkR X.K (fRev w m1) xr cm1 m1 H1 λw cm' m' H'=>∀v,RW X.K cm' m' H' w v->Q v H':=
  ⟨env,cm,m,hE,M,ho.bind.mono λw cm1 m1 H1 x1 M1 o1 v rv=>⟨cm1,m1,w,hE.ext x1 M M1,M1,rv,o1⟩⟩
 refine YbS (thn (he pins s σ H _ I hq) λv s1 ⟨x,H1,I1,r1,cm1,m1,w,hE1,M1,rw1,o1⟩=>?_)
 refine wpAny_Slice ?_
 rw[Ybh]
 refine Yd (Yd ?_)
 rw[evalPart_some]
 have hst':tE X.K call gv xr (.neg (.con (.int 1))) σ H1 λz H2=>z=.int (-1)/\∃cm2,Ext cm1 m1 H1 cm2 m1 H2/\MemR X.K cm2 m1 H2:=by
  refine⟨env,cm1,m1,hE1,M1,?_⟩
  have e1:ev call gv (.neg (.con (.int 1))) env m1=.ok (.t (.int (-1))) m1:=by
   simp[ev,Res.bind,view,pur]
  rw[e1]
  intro cm2 H2 x2 M2 v rv
  cases RT.vint rv
  exact⟨rfl,cm2,x2,M2⟩
 refine thn (hst pins s1 σ H1 _ I1 hst') ?_
 rintro vs s2 ⟨z,H2,I2,r2,q1,cm2,x2,M2⟩
 subst q1
 obtain⟨tk,rfl⟩:=r2
 have rw2:=RW.ext x2 M1 M2 rw1
 have o2:=OkR.shift o1 x2
 have I4:Inv X pins σ H2 { s2 with heap:=s2.heap.push { cls:=.type "slice",data:=.fields #[.none,.none,.int (-1) tk] } }:=I2.kept (t':=s2.toks) λb ob q=>Yc _ q
 have hs:({ s2 with heap:=s2.heap.push { cls:=.type "slice",data:=.fields #[.none,.none,.int (-1) tk] } }:Shared).heap.IsSliceOf s2.heap.objs.size .none .none (.int (-1) tk):=Heap.IsSliceOf.new ..
 have hg:∃T id,Ybp (.type T) "__getitem__" = pure (some (.builtin id))/\({ s2 with heap:=s2.heap.push { cls:=.type "slice",data:=.fields #[.none,.none,.int (-1) tk] } }:Shared).TypeIs v T /\
   wpAny (model X.prog X.w) X.A (VH v (.ref s2.heap.objs.size)) (EP X pins σ Q) X.xe { s2 with heap:=s2.heap.push { cls:=.type "slice",data:=.fields #[.none,.none,.int (-1) tk] } }:=by
  generalize ({ s2 with heap:=s2.heap.push { cls:=.type "slice",data:=.fields #[.none,.none,.int (-1) tk] } }:Shared)=s3 at *
  obtain⟨t,e,ho⟩:=Ql o2
  cases q:view w m1 with
  |none=>rw[q]at e;cases e
  |some tw =>
   rw[q]at e
   have e:revT tw=some t:=e
   cases tw with
   |tup ts =>
    cases e
    obtain⟨a,vs,rfl,h1,r⟩:=(Zd rw2 q (λ_ z=>by cases z)).itup
    cases r1
    obtain⟨its,rv,ht,hz⟩:=I4.tuple h1
    have hl:=rv.length
    refine⟨"tuple",_,PyProof.Rows.slot_tuple_getitem.lookup,ht.typeIs,?_⟩
    refine ZaF ht hs ?_ (by rw[Yk];omega)
    refine⟨.ref s3.heap.objs.size,_,I4.laid (t':=s3.toks) (o:=.tup vs.reverse) (λb ob q=>Yc _ q) (Yj _) ?_,rfl,Zb1 ho M2 (Zcg r) (I4.hok.fresh (Yj _))⟩
    exact⟨by rw[List.length_reverse];exact hz,_,Zfa rv,TupP.new _ _⟩
   |lst ts =>
    cases e
    obtain⟨a,vs,rfl,h1,r⟩:=Zq M2 rw2 q
    cases r1
    obtain⟨its,rv,ht,hz⟩:=I4.list (.of h1)
    have hl:=rv.length
    refine⟨"list",_,slot_list_getitem.lookup,ht.isList.typeIs,?_⟩
    refine wpAny_getItem_list_slice ht.isList hs .none .none (.int (-1) tk) (by simp) ?_ (by rw[Yk]<;>omega)
    rw[ZcJ]
    refine⟨.ref s3.heap.objs.size,_,I4.laid (t':=s3.toks) (o:=.lst vs.reverse) (λb ob q=>Yc _ q) (Yj _) ?_,rfl,Zai ho M2 (Zcg r) (I4.hok.fresh (Yj _))⟩
    exact⟨by rw[List.length_reverse];exact hz,_,0,Zfa rv,Yl _ rfl⟩
   |_=>cases e
 obtain⟨T,id,hT,ht,hg⟩:=hg
 show wpAny (model X.prog X.w) X.A (Ybi e (.Slice none none (some st) p2) v (.ref s2.heap.objs.size)) (EP X pins σ Q) X.xe { s2 with heap:=s2.heap.push { cls:=.type "slice",data:=.fields #[.none,.none,.int (-1) tk] } }
 exact tail_any (ops:=[v,.ref s2.heap.objs.size]) ht hT hg (hsub v _)
theorem ZjC(i0:Nat)(i1:Nat)(i2:Nat){x0 x1 x2:Str}{p0 p1 p2:Pos}{kk:Nat}(hc:X.calm=true)(hN:X.N.Nodup)(hi0:X.N[i0]?=some x0:=by rfl)(hi1:X.N[i1]?=some x1:=by rfl)(hi2:X.N[i2]?=some x2:=by rfl)(hx0:Loc X.env.scope x0:=by first|exact Or.inl rfl|exact Or.inr rfl)(hx1:Loc X.env.scope x1:=by first|exact Or.inl rfl|exact Or.inr rfl)(hx2:Loc X.env.scope x2:=by first|exact Or.inl rfl|exact Or.inr rfl)(hf0:X.fn x0=true∨X.env.scope.names.lookup x0=some .local:=by first|exact .inl rfl|exact .inr rfl)(hf1:X.fn x1=true∨X.env.scope.names.lookup x1=some .local:=by first|exact .inl rfl|exact .inr rfl)(hf2:X.fn x2=true∨X.env.scope.names.lookup x2=some .local:=by first|exact .inl rfl|exact .inr rfl)(hs0:(Wz [.Name x0 p0,.Name x1 p1,.Name x2 p2] X.env).map (·.2)=assign (.Name x0 p0) X.env::(Wz [.Name x1 p1,.Name x2 p2] X.env).map (·.2):=by rfl)(hs1:(Wz [.Name x1 p1,.Name x2 p2] X.env).map (·.2)=assign (.Name x1 p1) X.env::(Wz [.Name x2 p2] X.env).map (·.2):=by rfl)(hs2:(Wz [.Name x2 p2] X.env).map (·.2)=assign (.Name x2 p2) X.env::(Wz [] X.env).map (·.2):=by rfl)(hn:(Wz [.Name x0 p0,.Name x1 p1,.Name x2 p2] X.env).length=3:=by rfl)(hst:(Wz [.Name x0 p0,.Name x1 p1,.Name x2 p2] X.env).findIdx? (·.1)=none:=by rfl):PG X (.Tuple [.Name x0 p0,.Name x1 p1,.Name x2 p2] kk pos) (gT X.K (.tp [i0,i1,i2])):=by
 rintro pins s σ H v u Q I r ⟨a,xs,e1,h1,h2,h3⟩
 refine Zky hc (Xy (Zau hN hi0 hx0 hf0) (Xy (Zau hN hi1 hx1 hf1) (Xy (Zau hN hi2 hx2 hf2) ZhH hs2) hs1) hs0) hn hst pins s σ H v u Q I r ⟨a,xs,e1,h1,h2,?_⟩
 match xs,h2 with
 |[v0,v1,v2],_=>exact⟨v0,[v1,v2],rfl,v1,[v2],rfl,v2,[],rfl,rfl,h3⟩
end
end Mi
namespace Mi
theorem ZaB{f:Env->Mem->Res (List T)}{tg:Tg}{env:Env}{m:Mem}{g:T->List T}:∀(ts:List T),(∀t∈ts,∃env',JL tg t env=some env'/\f env' m=.ok (g t) m)->Jd f tg ts env m=.ok (ts.flatMap g) m
 |[],_=>rfl
 |t::ts,h=>by
  obtain⟨env',e1,e2⟩:=h t YD
  rw[Jd,e1]
  show(f env' m).bind _=_
  rw[e2]
  show(Jd f tg ts env m).bind _=_
  rw[ZaB ts λt ht=>h t (Yw _ ht)]
  rfl
inductive Turns {α β:Type}(R:α->β->Prop):List α->List β->Prop where
 |nil:Turns R [] []
 |cons {a:α}{b:β}{as:List α}{bs:List β}:R a b->Turns R as bs->Turns R (a::as) (b::bs)
theorem Zcj{f:Env->Mem->Res Flow}{tg:Tg}{P:Env->Mem->Prop}:∀(ts:List T) (env:Env) (m:Mem),P env m->(∀t∈ts,∀env m,P env m->∃env1 env2 m2,JL tg t env=some env1/\f env1 m=.ok (.next env2) m2/\P env2 m2) ->
  ∃env' m',JN f tg ts env m=.ok (.next env') m'/\P env' m'
 |[],env,m,hm,_=>⟨env,m,rfl,hm⟩
 |t::ts,env,m,hm,h=>by
  obtain⟨env1,env2,m2,e1,e2,p2⟩:=h t YD env m hm
  obtain⟨env3,m3,e3,p3⟩:=Zcj ts env2 m2 p2 λt ht=>h t (Yw _ ht)
  refine⟨env3,m3,?_,p3⟩
  rw[JN,e1]
  show(f env1 m).bind _=_
  rw[e2]
  exact e3
theorem Xl{α:Type}{xs:List α}{i:Int}(h0:0<=i)(h1:i<xs.length):∃x,atT xs i=some x/\x∈xs:=by
 have hi:i.toNat<xs.length:=by omega
 refine⟨xs[i.toNat],?_,YaP hi⟩
 unfold atT ixOf
 rw[if_pos h0,if_pos h1]
 exact YH hi
theorem ZbR{α:Type}(f:α->Bool):∀xs:List α,bools? (xs.map λx=>.bl (f x))=some (xs.map f)
 |[]=>rfl
 |x::xs=>by
  rw[Wa,bools?,ZbR f xs]
  rfl
theorem strs_map{α:Type}(f:α->List Nat):∀xs:List α,strs? (xs.map λx=>.str (f x))=some (xs.map f)
 |[]=>rfl
 |x::xs=>by
  rw[Wa,strs?,strs_map f xs]
  rfl
section
variable{call:Nat->List W->Mem->Res W}{gv:List T}
noncomputable def Zcx(call:Nat->List W->Mem->Res W)(gv:List T)(cs:Es)(inner:E)(env:Env)(m:Mem):Res (List T):=(tests call gv cs env m).bind λk m=>if k then(ev call gv inner env m).bind Zdp else .ok [] m
theorem X8{own:Nat}{keep:List Nat}{it:E}{tg:Tg}{cs:Es}{inner:E}{env:Env}{m m0 m1 m2:Mem}{x:W}{ts out:List T}(h1:ev call gv it env m=.ok x m0)(h2:Z4 x m0=.ok ts m1)(h3:Jd (Zcx call gv cs inner) tg ts (Yn own none++keep.map λi=>(env[i]?).join) m1=.ok out m2)(hz:out.length<=lim):ev call gv (.comp own keep it tg cs inner) env m=.ok (.t (.lst out)) (giveBack x m0 m2):=by
 have e:ev call gv (.comp own keep it tg cs inner) env m=(ev call gv it env m).only.bind λx m0=>(Z4 x m0).bind λts m =>
  (Jd (Zcx call gv cs inner) tg ts (Yn own none++keep.map λi=>(env[i]?).join) m).only.bind λout m =>
   if out.length<=lim then .ok (.t (.lst out)) (giveBack x m0 m)else .stuck:=by rw[ev];rfl
 rw[e,h1]
 show(Z4 x m0).bind _=_
 rw[h2]
 show(Jd (Zcx call gv cs inner) tg ts (Yn own none++keep.map λi=>(env[i]?).join) m1).only.bind _=_
 rw[h3]
 exact if_pos hz
theorem X5{tg:Tg}{it:E}{body k:S}{env env':Env}{m m0 m1 m2:Mem}{x:W}{ts:List T}(h1:ev call gv it env m=.ok x m0)(h2:Z4 x m0=.ok ts m1)(h3:JN (ex call gv body) tg ts env m1=.ok (.next env') m2):
  ex call gv (.forr tg it body k) env m=ex call gv k env' (giveBack x m0 m2):=by
 rw[ex,h1]
 show(Z4 x m0).bind _=_
 rw[h2]
 show(JN (ex call gv body) tg ts env m1).bind _=_
 rw[h3]
 rfl
end
section
variable{call:Nat->List W->Mem->Res W}{gv:List T}{env:Env}{m m1 m2:Mem}{k a b:S}{e:E}{w:W}
theorem Zg{α β:Type}(x:α)(m:Mem)(f:α->Mem->Res β):(Res.ok x m).bind f=f x m:=rfl
theorem only_k{α:Type}(x:α)(m:Mem):(Res.ok x m).only=.ok x m:=rfl
theorem view_k(x:T)(m:Mem):view (.t x) m=some x:=rfl
theorem pur_k(x:T)(m:Mem):pur (some x) m=.ok (.t x) m:=rfl
theorem Zmi(x:Bool)(m:Mem):Zel (.t (.bl x)) m=.ok x m:=rfl
theorem Zjd(x:Bool)(m:Mem):QZ (.t (.bl x)) m=.ok x m:=rfl
theorem frz_k(x:T)(m:Mem):frz (.t x) m=.ok x m:=rfl
theorem Zmr(x:List T)(m:Mem):Zdp (.t (.lst x)) m=.ok x m:=rfl
theorem intP_k(x:Int)(m:Mem):intP (.t (.int x)) m=.ok (some x) m:=rfl
theorem c_lt(i j:Int):cmpT .Lt (.int i) (.int j)=some (decide (i<j)):=rfl
theorem c_le(i j:Int):cmpT .LtE (.int i) (.int j)=some (decide (i<=j)):=rfl
theorem c_gt(i j:Int):cmpT .Gt (.int i) (.int j)=some (decide (j<i)):=rfl
theorem c_ge(i j:Int):cmpT .GtE (.int i) (.int j)=some (decide (j<=i)):=rfl
theorem c_eqI(i j:Int):cmpT .Eq (.int i) (.int j)=some (i==j):=rfl
theorem c_neI(i j:Int):cmpT .NotEq (.int i) (.int j)=some (!(i==j)):=rfl
theorem c_eqB(i j:Bool):cmpT .Eq (.bl i) (.bl j)=some (i==j):=rfl
theorem c_neB(i j:Bool):cmpT .NotEq (.bl i) (.bl j)=some (!(i==j)):=rfl
theorem c_eqS(i j:List Nat):cmpT .Eq (.str i) (.str j)=some (i==j):=rfl
theorem c_neS(i j:List Nat):cmpT .NotEq (.str i) (.str j)=some (!(i==j)):=rfl
theorem c_in1(i:Nat)(j:List Nat):cmpT .In (.str [i]) (.str j)=some (decide (i∈j)):=rfl
theorem c_isT(b x:Bool):cmpT .Is (.bl x) (.bl b)=some (x==b):=rfl
theorem Zaf(i j:Int):binT .Add (.int i) (.int j)=some (.int (i+j)):=rfl
theorem b_sub(i j:Int):binT .Sub (.int i) (.int j)=some (.int (i-j)):=rfl
theorem b_addL{a b:List T}(h:a.length+b.length<=lim):binT .Add (.lst a) (.lst b)=some (.lst (a++b)):=if_pos h
theorem ZfN{a b:List T}(h:a.length+b.length<=lim):binT .Add (.tup a) (.tup b)=some (.tup (a++b)):=if_pos h
theorem Ze4{i j:Int}(h:ZaA i j=true):binT .Mult (.int i) (.int j)=some (.int (i*j)):=if_pos h
theorem Zmn{i j:Int}(h:0<j/\j<1073741824):binT .FloorDiv (.int i) (.int j)=some (.int (i / j)):=if_pos h
theorem ZgU{i j:Int}(h:0<j):binT .Mod (.int i) (.int j)=some (.int (i%j)):=if_pos h
theorem b_pow{i j:Int}(h:0<=j/\j<=1000/\i.natAbs<2^64):binT .Pow (.int i) (.int j)=some (.int (i^j.toNat)):=if_pos h
theorem x_tup(ts:List T)(i:Int):ixT (.tup ts) (.int i)=atT ts i:=rfl
theorem x_lst(ts:List T)(i:Int):ixT (.lst ts) (.int i)=atT ts i:=rfl
theorem x_scr(ts:List Int)(i:Int):ixT (.scr ts) (.int i)=(atT ts i).map .int:=rfl
theorem s_lst(ts:List T)(lo hi:Option Int):slT (.lst ts) lo hi=some (.lst (cut ts lo hi)):=rfl
theorem s_scr(ts:List Int)(lo hi:Option Int):slT (.scr ts) lo hi=some (.lst ((cut ts lo hi).map .int)):=rfl
theorem Zif{cs:List Nat}(h:cs.length<=lim):bltT .len [.str cs]=some (.int cs.length):=if_pos h
theorem ZlT(ts:List T):bltT .len [.lst ts]=some (.int ts.length):=rfl
theorem Zgy(ts:List T):bltT .len [.tup ts]=some (.int ts.length):=rfl
theorem l_scr(ts:List Int):bltT .len [.scr ts]=some (.int ts.length):=rfl
theorem l_int(b:Bool):bltT .int [.bl b]=some (.int (b2i b)):=rfl
theorem Zie(ts:List T):bltT .tuple [.lst ts]=some (.tup ts):=rfl
theorem l_all{ts:List T}{bs:List Bool}(h:bools? ts=some bs):bltT .all [.lst ts]=some (.bl (bs.all id)):=by
 show(bools? ts).map _=_
 rw[h];rfl
theorem ZjX{i:Int}(h:i<2^62/\-(2^62)<=i):bltT .range1 [.int i]=some (.lst (rangeT 0 i.toNat)):=if_pos h
theorem ZkR:views [] m=some []:=rfl
theorem ZkS(x:T)(ws:List W):views (.t x::ws) m=(views ws m).map (x::·):=rfl
theorem ZaX:frzs [] m=.ok [] m:=rfl
theorem ZaY(x:T)(ws:List W):frzs (.t x::ws) m=(frzs ws m).bind λts m=>.ok (x::ts) m:=rfl
theorem Zy{i:Nat}(h:ev call gv e env m=.ok w m1):ex call gv (.asg i e k) env m=ex call gv k (env.set i (some w)) m1:=by rw[ex,h];rfl
theorem Zj(h:ev call gv e env m=.ok w m1):ex call gv (.ret e k) env m=.ok (.ret w) m1:=by rw[ex,h];rfl
theorem X6(h:ev call gv e env m=.ok (.t (.bl true)) m1)(h2:ex call gv a env m1=.ok (.ret w) m2):ex call gv (.ife e a b k) env m=.ok (.ret w) m2:=by
 rw[ex,h]
 show(ex call gv a env m1).bind _=_
 rw[h2];rfl
theorem JH(h:ev call gv e env m=.ok (.t (.bl false)) m1):ex call gv (.ife e a .done k) env m=ex call gv k env m1:=by rw[ex,h];rfl
theorem Ziw{c:Nat}{o i v:E}{x:T}{j:Int}{xs:List T}{q:Nat}(h1:ev call gv v env m=.ok (.t x) m1)(h2:ev call gv o env m1=.ok (.c c) m1)(h3:ev call gv i env m1=.ok (.t (.int j)) m1)(h4:m1[c]?=some (some (false,xs)))(h5:ixOf xs.length j=some q):
  ex call gv (.set o i v k) env m=ex call gv k env (m1.set c (some (false,xs.set q x))):=by
 rw[ex,h1]
 show((ev call gv o env m1).bind _)=_
 rw[h2]
 show((ev call gv i env m1).bind _)=_
 rw[h3]
 show(setM (.c c) (.t (.int j)) (.t x) m1).bind _=_
 have:setM (.c c) (.t (.int j)) (.t x) m1=.ok () (m1.set c (some (false,xs.set q x))):=by
  unfold setM
  dsimp only[frz,Res.bind]
  rw[h4]
  dsimp only
  rw[h5]
 rw[this];rfl
theorem Zo{n:Nat}{cell:Bool}{t:T}(h:m1.length=n):fin n cell (.ret (.t t)) m1=.ok (.t t) m1:=by
 show Res.ok (W.t t) (m1.take n)=_
 rw[<-h,YaS]
theorem ZG{c:Prop}[Decidable c]{b:S}{env:Env}{m m1 m2:Mem}{k:Nat}{cell:Bool}{X:Res W}{w w':W}(hX:X=if c then(ex call gv b env m).bind λfl m'=>fin k cell fl m' else .stuck)(hc:c)(key:ex call gv b env m=.ok (.ret w) m1)(hf:fin k cell (.ret w) m1=.ok w' m2):X=.ok w' m2:=by
 rw[hX,if_pos hc,key]
 exact hf
end
noncomputable def EVs:=YK @Zg (YK @only_k (YK @view_k (YK @pur_k (YK @Zmi (YK @Zjd (YK @frz_k (YK @Zmr (YK @intP_k (YK @c_lt (YK @c_le (YK @c_gt (YK @c_ge (YK @c_eqI (YK @c_neI (YK @c_eqB (YK @c_neB (YK @c_eqS (YK @c_neS (YK @c_in1 (YK @c_isT (YK @Zaf (YK @b_sub (YK @x_tup (YK @x_lst (YK @x_scr (YK @s_lst (YK @s_scr (YK @ZlT (YK @Zgy (YK @l_scr (YK @l_int (YK @Zie (YK @ZkR (YK @ZkS (YK @ZaX (@ZaY))))))))))))))))))))))))))))))))))))
end Mi
namespace Mi
open PySem PySem.Spec PyProof.Rows L2
theorem ZcZ:∀{a b:List Nat},nlt a b=false->nlt b a=false->a=b
 |[],[],_,_=>rfl
 |[],_::_,h,_=>by simp[nlt]at h
 |_::_,[],_,h=>by simp[nlt]at h
 |a::x,b::y,h1,h2=>by
  unfold nlt at h1 h2
  by_cases h:a<b
  ·simp[h]at h1
  ·by_cases h':b<a
   ·simp[h']at h2
   ·have e:a=b:=by omega
    subst e
    simp at h1 h2
    rw[ZcZ h1 h2]
theorem Zh4:∀{a b c:List Nat},nlt b a=false->nlt c b=false->nlt c a=false
 |a,b,[],h1,h2=>by
  cases b with
  |nil=>cases a with
   |nil=>rfl
   |cons _ _=>simp[nlt]at h1
  |cons _ _=>simp[nlt]at h2
 |[],_,_::_,_,_=>rfl
 |a::x,[],c::z,h1,h2=>by simp[nlt]at h1
 |a::x,b::y,c::z,h1,h2=>by
  unfold nlt at h1 h2 ⊢
  by_cases p1:b<a
  ·simp[p1]at h1
  ·by_cases p2:c<b
   ·simp[p2]at h2
   ·by_cases p3:a<b
    ·have:¬c<a:=by omega
     have q:a<c:=by omega
     simp[this,q]
    ·have e:a=b:=by omega
     subst e
     by_cases p4:a<c
     ·simp[p4,p2]
     ·have e:c=a:=by omega
      subst e
      simp at h1 h2 ⊢
      exact Zh4 h1 h2
theorem ZbG(x:List Nat):∀l,(insN x l).Perm (x::l)
 |[]=>.refl _
 |y::r=>by
  unfold insN
  split
  ·exact((ZbG x r).cons y).trans (.swap x y r)
  ·exact .refl _
theorem Zan:∀xs,(ZdB xs).Perm xs
 |[]=>.refl _
 |x::xs=>(ZbG x _).trans ((Zan xs).cons x)
theorem Zin(x:List Nat):∀{l:List (List Nat)},l.Pairwise (λa b=>nlt b a=false)->(insN x l).Pairwise (λa b=>nlt b a=false)
 |[],_=>Gn _ _
 |y::r,h=>by
  rw[Wc]at h
  unfold insN
  split
  ·rename_i hy
   refine Wc.mpr ⟨λz hz=>?_,Zin x h.2⟩
   rcases Ys.mp ((ZbG x r).mem_iff.mp hz)with rfl|hz
   ·cases q:nlt z y with
    |false=>rfl
    |true =>
     have:nlt y z=false:=by
      rw[Zd1]at hy q ⊢
      exact decide_eq_false λw=>absurd (List.lt_trans (of_decide_eq_true q) w) (List.lt_irrefl _)
     rw[this]at hy;cases hy
   ·exact h.1 z hz
  ·rename_i hy
   have hy:nlt y x=false:=by simpa using hy
   refine Wc.mpr ⟨λz hz=>?_,Wc.mpr h⟩
   rcases Ys.mp hz with rfl|hz
   ·exact hy
   ·exact Zh4 hy (h.1 z hz)
theorem Zfi:∀xs:List (List Nat),(ZdB xs).Pairwise (λa b=>nlt b a=false)
 |[]=>.nil
 |x::xs=>Zin x (Zfi xs)
theorem ZkD:∀a b:List Nat,ltCps a b=nlt a b
 |[],[]=>by simp[ltCps,nlt]
 |[],_::_=>by simp[ltCps,nlt]
 |_::_,[]=>by simp[ltCps,nlt]
 |a::x,b::y=>by
  unfold ltCps nlt
  rw[ZkD x y]
  by_cases h:a<b
  ·simp[h]
  ·by_cases h2:b<a
   ·have:¬a=b:=by omega
    simp[h,h2,this]
   ·have:a=b:=by omega
    subst this
    simp
theorem Zhu:∀(l:List (List Nat)) (x:List Nat),risingS ⟨x.toArray⟩ (l.map λc=>(⟨c.toArray⟩:Str))=true->(x::l).Pairwise (λa b=>nlt b a=false)
 |[],x,_=>Gn _ _
 |y::l,x,h=>by
  rw[Wa,risingS.eq_2,Yg]at h
  have h1:nlt y x=false:=by
   have:=h.1
   rw[ZkD]at this
   simpa using this
  have ih:=Zhu l y h.2
  refine Wc.mpr ⟨λz hz=>?_,ih⟩
  rcases Ys.mp hz with rfl|hz
  ·exact h1
  ·exact Zh4 h1 ((Wc.mp ih).1 z hz)
theorem Zhi{xs ys:List (List Nat)}(hp:(ys.map λc=>(⟨c.toArray⟩:Str)).Perm (xs.map λc=>(⟨c.toArray⟩:Str)))(hs:sortedS (ys.map λc=>(⟨c.toArray⟩:Str))=true):ys=ZdB xs:=by
 have hp':ys.Perm xs:=by
  have:=hp.map λs:Str=>s.cps.toList
  simpa[Ya0,Function.comp_def]using this
 have hw:ys.Pairwise (λa b=>nlt b a=false):=by
  cases ys with
  |nil=>exact .nil
  |cons y ys=>exact Zhu ys y hs
 exact List.Perm.eq_of_pairwise (λa b _ _ h1 h2=>ZcZ h2 h1) hw (Zfi xs) (hp'.trans (Zan xs).symm)
section
variable{K:Frag}{cm:List Addr}{m:Mem}{H:Hp}{xr:XR}{X:Cx}{call:Nat->List W->Mem->Res W}{gv:List T}
variable{a b c e:Expr}{es:List Expr}{ea eb ec:E}{eas:Es}{pos p p2:Pos}{rest:List Stmt}{k:S}{n:Nat}
theorem Zdy{us:List Value}{ss:List Str}(h:Yb2 us ss):∃ys:List (List Nat),ss=ys.map (λc=>(⟨c.toArray⟩:Str))/\Vals (ys.map λc=>V.str ⟨c.toArray⟩) us:=by
 induction h with
 |nil=>exact⟨[],rfl,.nil⟩
 |cons y t _ ih =>
  obtain⟨ys,rfl,h2⟩:=ih
  exact⟨y.cps.toList::ys,by simp,.cons ⟨t,by simp⟩ h2⟩
theorem ZkY(ys:List (List Nat)):RTs K cm m H (ys.map .str) (ys.map λc=>V.str ⟨c.toArray⟩):=by
 induction ys with
 |nil=>exact .nil
 |cons y ys ih=>exact .cons (.str y) ih
theorem Zej:J1 X (.builtin "sorted") (rN X.K xr (fBlt .sorted)):=by
 rintro pins s σ H xs us Q I r ⟨cm,m,ws,M,rws,ho⟩
 obtain⟨w,v,t,rr,rfl,rfl,rv,e,eb,ho⟩:=blt1 rws (JB (by decide)) ho
 cases t with
 |lst ts =>
  have eb:((strs? ts).bind λxs=>if xs.length<64 then some (T.lst ((ZdB xs).map .str))else none)=some rr:=eb
  cases q:strs? ts with
  |none=>rw[q]at eb;cases eb
  |some bs =>
   rw[q]at eb
   have eb:(if bs.length<64 then some (T.lst ((ZdB bs).map .str))else none)=some rr:=eb
   split at eb<;>cases eb
   rename_i h64
   obtain⟨a,vs,rfl,h1,r1⟩:=Zq M rv e
   obtain⟨u,rfl,ru⟩:=vals1 r
   cases ru
   obtain⟨its,rv',pl,hz⟩:=I.list (.of h1)
   cases RTs.strs r1 q
   have hsa:=Xm rv'
   have hl:=rv'.length
   rw[Yi]at hl
   refine sorted_strs pl.isList hsa (by omega) λout ss' hso hperm hsort=>?_
   obtain⟨ys,rfl,hv⟩:=Zdy hso
   have ey:=Zhi hperm hsort
   subst ey
   obtain⟨ep,hat⟩:=sortedAll_at s.heap its out
   have hlen:=hv.length
   have hsl:=Uh
   have hpl:(ZdB bs).length=bs.length:=(Zan bs).length_eq
   refine⟨.ref (s.heap.objs.size+1),_,I.laid (t':=s.toks) (o:=.lst ((ZdB bs).map λc=>V.str ⟨c.toArray⟩)) (a:=s.heap.objs.size+1) (λb ob q=>sortedAll_old q) (UJ _) ?_,rfl,Zai ho M (ZkY _) (I.hok.fresh (UJ _))⟩
   refine⟨by rw[Yi];omega,out.toList,ep,hv,?_⟩
   simpa[seqObj]using hat
 |_=>cases eb
theorem ZeB(hg:Gl X "sorted")(hm:X.mg "sorted" = none)(ha:PA X (e::es) (tA X.K call gv xr eas))(he:notStar e=true)(hpl:es.all notStar=true):PE X (.Call (.Name "sorted" p) (e::es) [] pos) (tE X.K call gv xr (.blt .sorted eas)):=ZeD Zej (by decide +kernel) hg hm ha (by decide) (by decide) he hpl
theorem ZaU{α β:Type}{F:α->β->Prop}:∀{xs:List α}{ys:List β}(k:Nat),Paired F xs ys->Paired F (xs.eraseIdx k) (ys.eraseIdx k)
 |_,_,_,.nil=>.nil
 |_,_,0,.cons _ t=>t
 |_,_,k+1,.cons r t=>.cons r (ZaU k t)
theorem Zh6:MtR X "list.pop" (rM X.K xr .popat):=by
 rintro pins s σ H x xs v us Q I rx rs ⟨cm,m,w,ws,M,rw',rws,ho⟩
 cases w with
 |t t=>exact ho.elim
 |f a=>exact ho.elim
 |x _ _ _=>exact ho.elim
 |o _ _ _=>exact ho.elim
 |u=>exact ho.elim
 |c i =>
  have ho:OkR X.K ((frzs ws m).bind λts m=>match m[i]? with
   |some (some (false,xs))=>match mutM .popat xs ts with
    |some (t,ys)=>.ok (W.t t) (m.set i (some (false,ys)))
    |none=>.stuck
   |_=>.stuck) xr cm m H _:=ho
  obtain⟨ts,m2,e2,o2⟩:=X4 ho
  obtain⟨x2,M2,r2⟩:=Xf M rws e2
  obtain⟨a,ha,rfl⟩:=rw'
  split at o2
  ·rename_i ys e3
   split at o2
   ·rename_i t zs e4
    obtain⟨b,vs,q1,q2,q3,q4⟩:=M2.at' i _ e3
    rw[ha]at q1;cases q1
    have l4:=q4.length
    dsimp only at l4
    have hz:=ZM
    match ts,r2,e4 with
    |[.int j],.cons r3 .nil,e4 =>
     have e4:(match ixOf ys.length j with
      |some k=>(ys[k]?).map λt=>(t,ys.eraseIdx k)
      |none=>none)=some (t,zs):=e4
     split at e4
     ·rename_i k hk
      cases q5:ys[k]? with
      |none=>rw[q5]at e4;cases e4
      |some y =>
       rw[q5]at e4;cases e4
       cases RT.vint r3
       obtain⟨yv,hy,ry⟩:=Zx q4 q5
       obtain⟨x5,M5⟩:=ZaM M2 e3 ha (ZaU k q4)
       have hk2:ixN vs.length j=some k:=by rw[<-l4];exact hk
       obtain⟨z1,z2,z3,z4⟩:=ZeK hk2
       obtain⟨its,nn,rr,hho,hzz⟩:=I.lst q2
       have hsl:=Uh
       exact ZjT pins s σ H _ _ v us Q I rx rs ⟨a,vs,j,k,yv,rfl,rfl,q2,by omega,by omega,z1,hy,OkR.to o2 (x2.trans x5) M5 _ (RT.ext x5 M2 M5 ry)⟩
     ·cases e4
    |[],_,e4=>cases e4
    |x1::_::_,_,e4=>cases x1<;>cases e4
    |[.non],_,e4=>cases e4
    |[.bl _],_,e4=>cases e4
    |[.str _],_,e4=>cases e4
    |[.tup _],_,e4=>cases e4
    |[.lst _],_,e4=>cases e4
    |[.dct _ _],_,e4=>cases e4
    |[.scr _],_,e4=>cases e4
   ·exact o2.elim
  ·exact o2.elim
theorem ty_cell{b:Mt}{w:W}{v:V}(hb:b=.append∨b=.popat)(M:MemR K cm m H)(r:RW K cm m H w v)(h:tyM b w m=true):tyV K "list" v H:=by
 cases w with
 |t t=>rcases hb with rfl|rfl<;>cases h
 |f a=>rcases hb with rfl|rfl<;>cases h
 |x _ _ _=>rcases hb with rfl|rfl<;>cases h
 |o _ _ _=>rcases hb with rfl|rfl<;>cases h
 |u=>rcases hb with rfl|rfl<;>cases h
 |c i =>
  obtain⟨a,h1,rfl⟩:=r
  have ht:(match m[i]? with
   |some (some _)=>true
   |_=>false)=true:=by rcases hb with rfl|rfl<;>exact h
  split at ht
  ·rename_i c e1
   obtain⟨b,vs,q1,q2,_⟩:=M.at' i _ e1
   rw[h1]at q1;cases q1
   exact .inl ⟨rfl,vs,.of q2⟩
  ·cases ht
theorem Zlm{o:Expr}{apos cpos:Pos}(ho:PE X o (tE X.K call gv xr ea))(ha:PA X [e] (tA X.K call gv xr eas))(hbase:Vk o "pop" X.env (eval o X.env)=eval o X.env:=by rfl)(hline:(apos.endLine==cpos.line)=true:=by rfl)(hs:notStar e=true:=by rfl):
  PE X (.Call (.Attribute o "pop" apos) [e] [] cpos) (tE X.K call gv xr (.mth .popat ea eas)):=by
 refine PE.mono (pe_bm PySem.F.plainAttrs_list PySem.F.slot_list_pop PySem.F.type_list_pop (Zh6 (xr:=xr)) ho ha hbase (few1 hs) hline (ZW hs) (Xo rfl)) ?_
 rintro σ H Q ⟨env,cm,m,hE,M,hq⟩
 rw[ev]at hq
 refine⟨env,cm,m,hE,M,hq.bind.mono λw cm1 m1 H1 x1 M1 o1 v rv=>?_⟩
 obtain⟨ht,o1⟩:=Zd6 o1
 exact⟨ty_cell (.inr rfl) M1 rv ht,env,cm1,m1,hE.ext x1 M M1,M1,o1.bind.mono λws cm2 m2 H2 x2 M2 o2 vs rvs=>⟨cm2,m2,w,ws,M2,rv.ext x2 M1 M2,rvs,o2⟩⟩
theorem ZlL:OpR X (WW .Add) (λx y H Q=>∃l b xs zs,x=.ref l/\y=.ref b/\H l=some (.lst xs)/\H b=some (.lst zs)/\xs.length+zs.length<=YC/\∀p,H p=none->X.K.lookup p=none->Q (.ref p) (upd H p (.lst (xs++zs)))):=by
 intro pins s σ H x y v u Q I rx ry h
 obtain⟨l,b,xs,zs,rfl,rfl,hH,hB,hz,q⟩:=h
 cases rx
 cases ry
 obtain⟨z,its,n,r,hl,e⟩:=I.lstM hH
 obtain⟨z2,its2,n2,r2,hl2,e2⟩:=I.lstM hB
 refine PySem.P.add_list e e2 ?_ (by rw[Yk,Yk];omega)
 have ea:its.toArray++its2.toArray=(its++its2).toArray:=by simp
 rw[ea]
 exact⟨.ref _,_,I.lnew (t':=s.toks) (r.append r2) (by rw[Yh];omega),rfl,q _ I.fresh (Mi.Inv.notK I)⟩
theorem ZlM:OpR X (WW .Add) (r2 X.K xr addC):=by
 rintro pins s σ H x y v u Q I rx ry ⟨cm,m,a,b,M,ra,rb,ho⟩
 unfold addC at ho
 split at ho
 ·rename_i ts e
  obtain⟨ta,tb,ea,eb,e⟩:=Zb9 e
  unfold addT at e
  have hz:=ZM
  split at e
  ·cases e
  ·split at e<;>cases e
  ·split at e<;>cases e
  ·split at e<;>cases e
   obtain⟨p,vs,rfl,h1,r1⟩:=Zq M ra ea
   obtain⟨q,us,rfl,h2,r2⟩:=Zq M rb eb
   have l1:=r1.length
   have l2:=r2.length
   refine ZlL pins s σ H _ _ v u Q I rx ry ⟨p,q,vs,us,rfl,rfl,h1,h2,by omega,λl hl hk=>?_⟩
   obtain⟨x3,M3,r3⟩:=ZfJ M (ZF r1 r2) hl hk
   exact OkR.to ho x3 M3 _ r3
  ·cases e
 ·exact ho.elim
theorem ZjK(ha:PE X a (tE X.K call gv xr ea))(hb:PE X b (tE X.K call gv xr eb)):PE X (.BinOp a .Add b pos) (tE X.K call gv xr (.celA ea eb)):=
 PE.mono (pe_op ZlM ha hb) (Zhb λenv m=>by rw[ev])
end
theorem ZcY(a:List Nat):nlt a a=false:=by rw[Zd1];simp
theorem ZkB{a b c:List Nat}(h1:nlt a b=true)(h2:nlt b c=true):nlt a c=true:=by
 rw[Zd1]at *
 have h1:a<b:=of_decide_eq_true h1
 have h2:b<c:=of_decide_eq_true h2
 exact decide_eq_true (List.lt_trans h1 h2)
theorem Zc3(x y:List Nat):∀l,y∈insT x l↔y=x∨y∈l
 |[]=>by simp[insT]
 |z::l=>by
  unfold insT
  split
  ·simp
  ·split
   ·rw[Ys,Zc3 x y l,Ys]
    constructor
    ·rintro (h|h|h)
     ·exact .inr (.inl h)
     ·exact .inl h
     ·exact .inr (.inr h)
    ·rintro (h|h|h)
     ·exact .inr (.inl h)
     ·exact .inl h
     ·exact .inr (.inr h)
   ·rename_i h1 h2
    have e:x=z:=ZcZ (by simpa using h1) (by simpa using h2)
    subst e
    simp
theorem Zim(x:List Nat):∀l,l.Pairwise (λa b=>nlt a b=true)->(insT x l).Pairwise (λa b=>nlt a b=true)
 |[],_=>Gn _ _
 |z::l,h=>by
  unfold insT
  obtain⟨h1,h2⟩:=Wc.mp h
  split
  ·rename_i hx
   refine Wc.mpr ⟨λy hy=>?_,h⟩
   rcases Ys.mp hy with rfl|hy
   ·exact hx
   ·exact ZkB hx (h1 y hy)
  ·split
   ·rename_i hz
    refine Wc.mpr ⟨λy hy=>?_,Zim x l h2⟩
    rcases(Zc3 x y l).mp hy with rfl|hy
    ·exact hz
    ·exact h1 y hy
   ·exact h
theorem Jk(y:List Nat):∀xs,y∈ZD xs↔y∈xs
 |[]=>by simp[ZD]
 |x::xs=>by
  show y∈insT x (ZD xs)↔_
  rw[Zc3,Jk y xs,Ys]
theorem Zam:∀xs,(ZD xs).Pairwise (λa b=>nlt a b=true)
 |[]=>.nil
 |x::xs=>Zim x _ (Zam xs)
theorem Zcb(xs:List (List Nat)):(ZD xs).Nodup:=(Zam xs).imp λ{a b} h e=>by
 subst e
 rw[ZcY]at h
 cases h
theorem ZiK(val:Nat->Str)(x:Str):∀n,x∈dd val n↔∃i,i<n/\val i=x
 |0=>by simp[dd]
 |n+1=>by
  have ih:=ZiK val x n
  unfold dd
  split
  ·rename_i h
   rw[ih]
   constructor
   ·rintro ⟨i,hi,e⟩
    exact⟨i,by omega,e⟩
   ·rintro ⟨i,hi,e⟩
    by_cases hn:i=n
    ·subst hn
     rw[e]at h
     exact ih.mp h
    ·exact⟨i,by omega,e⟩
  ·rw[Uz,ih,Wl]
   constructor
   ·rintro (⟨i,hi,e⟩|e)
    ·exact⟨i,by omega,e⟩
    ·exact⟨n,by omega,e.symm⟩
   ·rintro ⟨i,hi,e⟩
    by_cases hn:i=n
    ·subst hn;exact .inr e.symm
    ·exact .inl ⟨i,by omega,e⟩
theorem ZlR{a b:List Nat}(h:(⟨a.toArray⟩:Str)=⟨b.toArray⟩):a=b:=by
 injection h with h
 simpa using h
section
variable{K:Frag}{cm:List Addr}{m:Mem}{H:Hp}{xr:XR}{X:Cx}{call:Nat->List W->Mem->Res W}{gv:List T}
variable{a b c e:Expr}{es:List Expr}{ea eb ec:E}{eas:Es}{pos p p2 pos2:Pos}{rest:List Stmt}{k:S}{n:Nat}
theorem Inv.redraw{pins:List (Addr×Obj)}{s:Shared}{σ:L2.St}{d:Drawn}(I:Inv X pins σ H s):Inv X pins σ H { s with drawn:=d }:=
 ⟨I.ok,I.os,I.bare,I.base,I.loc,I.cell,I.free,I.freeC,I.pin,I.hok,I.len⟩
theorem Zks{its:List Value}{xs:List (List Nat)}(h:Yb2 its (xs.map λc=>(⟨c.toArray⟩:Str))):∀(i:Nat) v,its[i]?=some v->∃t,v=.str ((xs.map λc=>(⟨c.toArray⟩:Str)).getD i ⟨#[]⟩) t:=by
 generalize xs.map (λc=>(⟨c.toArray⟩:Str))=ss at h
 induction h with
 |nil=>intro i v e;simp at e
 |cons y t _ ih =>
  intro i v e
  cases i with
  |zero=>simp at e;exact⟨t,by rw[<-e];rfl⟩
  |succ i =>
   obtain⟨t',h'⟩:=ih i v (by simpa using e)
   exact⟨t',by rw[h'];rfl⟩
end
noncomputable abbrev q1(h:Heap)(a:Addr):Heap:=h.push { cls:=.type "list_iterator",data:=.fields #[.ref a,.int 0 0] }
noncomputable abbrev q5(h:Heap)(a b c d:Addr):Heap:=(q1 (q1 (q1 (q1 h a) b) c) d).push { cls:=.type "tuple",data:=.seq #[.ref h.objs.size,.ref (q1 h a).objs.size,.ref (q1 (q1 h a) b).objs.size,.ref (q1 (q1 (q1 h a) b) c).objs.size] }
noncomputable abbrev q6(h:Heap)(a b c d:Addr):Heap:=(q5 h a b c d).push { cls:=.type "tuple",data:=.seq #[.none,.none,.none,.none] }
noncomputable abbrev q7(h:Heap)(a b c d:Addr):Heap:=(q6 h a b c d).push { cls:=.type "zip",data:=.fields #[.none,.bool false,.bool false,.ref (q1 (q1 (q1 (q1 h a) b) c) d).objs.size,.ref (q5 h a b c d).objs.size] }
set_option maxHeartbeats 4000000 in
section
variable{prog:Yx}{w:World}{A:Around}{E:Value->Shared->Prop}{s:Shared}{led:Bool}
set_option maxHeartbeats 3200000 in
theorem Zb7{l:Addr}{items:Array Value}{val:Nat->Str}{Q:Value->Shared->Prop}(hh:A.handled=none)(hl:s.heap.IsTuple l items)(hv:∀(i:Nat) v,items[i]?=some v->∃t,v=.str (val i) t)(hb:items.size+1<Vp)(h:∀(h':Heap) (tk:Nat),SetS prog w (Qi w) h' s.heap.objs.size (dd val items.size)->(∀b o,s.heap.get? b=some o->h'.get? b=some o)->Q (.ref s.heap.objs.size) { s with heap:=h',toks:=tk }):
  wpAny (model prog w) A (GD (.type "set") [.ref l]) Q E s:=by
 obtain⟨c,tl,hmro⟩:=PySem.F.called_set.mro
 have hmade:=PySem.F.called_set.made
 have hsub:=PySem.F.called_set.sub
 refine Yar (Vq ?_)
 show wpAny _ _ (callAny (.type "set") _) _ _ _
 refine Yd ⟨Code.quiet_builtin _ (by decide +kernel),Gh PySem.F.entry_type_call ?_⟩
 rw[Around.under_plain (weight_type_call_type "set" [.ref l] []) rfl]
 have h1:=PySem.F.called_set.notType
 have h2:=PySem.F.called_set.canCreate
 have hct:=PySem.F.typeCall_set_1 (.ref l)
 repeat (any_goals (first|assumption|wp_step))
 refine U6 (Zfj (.ref l) (E:=E) (Q₁:=λobj s₁=>obj=.ref s.heap.objs.size/\s₁={ s with heap:=s.heap.push { cls:=.type "set",dict:=none,data:=.set #[] 0 (.fresh 0 0 (Qi w)) } }) ⟨rfl,rfl⟩) λr s₁ hr=>?_
 cases r with
 |error e=>exact hr
 |ok fl =>
  cases fl with
  |ret obj =>
   obtain⟨rfl,rfl⟩:=hr
   have hS:(s.heap.push { cls:=.type "set",dict:=none,data:=.set #[] 0 (.fresh 0 0 (Qi w)) }).get? s.heap.objs.size=some { cls:=.type "set",dict:=none,data:=.set #[] 0 (.fresh 0 0 (Qi w)) }:=Yl _ rfl
   have hT:YaI { s with heap:=s.heap.push { cls:=.type "set",dict:=none,data:=.set #[] 0 (.fresh 0 0 (Qi w)) } } (.ref s.heap.objs.size) "set":=⟨_,hS,rfl⟩
   have hli:=PySem.F.called_set.init.lookup
   have hbi:=PySem.F.called_set.init.bind (.ref s.heap.objs.size)
   repeat (any_goals (first|assumption|wp_step))
   refine U6 (VM (R:=wants (λr s₂=>r=.none/\∃h' tk,s₂={ s with heap:=h',toks:=tk }/\SetS prog w (Qi w) h' s.heap.objs.size (dd val items.size)/\(∀b o,s.heap.get? b=some o->h'.get? b=some o)) E) PySem.F.called_set.init.plain PySem.F.entry_set_init (check_set_init_1 hT ?_)) λr₂ s₂ hr₂=>?_
   ·obtain⟨ol,hol,hcl,nl,hdl⟩:=hl
    obtain⟨ocls,odict,odata,oslots⟩:=ol
    simp only at hcl hdl
    subst hcl;subst hdl
    have hol':(s.heap.push { cls:=.type "set",dict:=none,data:=.set #[] 0 (.fresh 0 0 (Qi w)) }).get? l=some { cls:=.type "tuple",dict:=odict,data:=.seq items nl,slots:=oslots }:=Yc _ hol
    have hsls:=PySem.F.sub_tuple_set
    have hslf:=PySem.F.sub_tuple_frozenset
    have hne:(G7 "tuple" == G7 "dict")=false:=by decide
    have hl1:(s.heap.push { cls:=.type "set",dict:=none,data:=.set #[] 0 (.fresh 0 0 (Qi w)) }).IsTuple l items:=⟨_,hol',rfl,nl,rfl⟩
    unfold Builtin.«set.__init__» noKeywords Builtin.Frozenset.updateFrom
    generalize hPI:pyIter=PI
    wp_walk
    subst hPI
    refine Yak hl1 ?_
    refine Yb (Ya9 ?_)
    have hlS:l<s.heap.objs.size:=Yp hol
    have hh3:A.in1.in1.in1.handled=none:=by simp[hh]
    have hneI:l≠(s.heap.push { cls:=.type "set",dict:=none,data:=.set #[] 0 (.fresh 0 0 (Qi w)) }).objs.size:=by
     rw[Y4];exact Yv (Y0 hlS)
    have hSf:s.heap.objs.size∉[(s.heap.push { cls:=.type "set",dict:=none,data:=.set #[] 0 (.fresh 0 0 (Qi w)) }).objs.size,l]:=by
     rw[Y4];simp only[Ys,Wl,YF,or_false,not_or]
     exact⟨Yv (WX _),Gu hlS⟩
    refine Zfk (led:=Qi w) ((Walks.tuple hh3 _ l hneI items).toS) s.heap.objs.size hSf val hv hb (items.size-0) 0 _ (by omega) (Wd _)
     ⟨⟨_,Yl _ rfl,rfl,rfl⟩,(hl1.push _)⟩ ?hS0 ?hR
    case hS0 =>
     exact ZbI (led:=Qi w) (Yc _ hS)
    case hR =>
     intro s' hm hS'
     obtain⟨h',g',d',tk',os'⟩:=s'
     have eg:g'=s.gens:=hm.gens
     have ed:d'=s.drawn:=hm.drawn
     have eo:os'=s.os:=hm.os
     subst eg;subst ed;subst eo
     show wpAny _ _ _ _ _ _
     refine Yd ?_
     show wpAny _ _ (ret W2) _ _ _
     refine Yd ⟨rfl,h',tk',rfl,hS',λb o e=>?_⟩
     have hb:=Yp e
     have hb1:b≠s.heap.objs.size:=Yv hb
     have hb2:b≠(s.heap.push { cls:=.type "set",dict:=none,data:=.set #[] 0 (.fresh 0 0 (Qi w)) }).objs.size:=by
      rw[Y4];exact Yv (Y0 hb)
     exact hm.heap b o (by simp only[Ys,Wl,YF,or_false,not_or];exact⟨hb1,hb2⟩) (Yc _ (Yc _ e))
   ·cases r₂ with
    |error e=>exact hr₂
    |ok fl₂ =>
     cases fl₂ with
     |ret r =>
      obtain⟨rfl,h',tk,rfl,hS',hk'⟩:=hr₂
      repeat (any_goals (first|assumption|wp_step))
      exact h _ _ hS' hk'
     |_=>exact hr₂.elim
  |_=>exact hr.elim
end
section
variable{K:Frag}{cm:List Addr}{m:Mem}{H:Hp}{xr:XR}{X:Cx}{call:Nat->List W->Mem->Res W}{gv:List T}
variable{a b c e:Expr}{es:List Expr}{ea eb ec:E}{eas:Es}{pos p p2 pos2:Pos}
noncomputable def iEnum(K:Frag)(ta:TA):TI:=λσ H R=>ta σ H λvs H1=>∃a xs,vs=[.ref a]/\SqL K H1 a xs/\R (Ite K a) H1
theorem Zlg{ts:List Expr}{kk}{tp:Pos}{ta:TA}(hg:Gl X "enumerate")(hm:X.mg "enumerate" = none)(ha:PA X [a] ta)(h1:notStar a=true):
  PI X (.Tuple ts kk tp) (.Call (.Name "enumerate" p) [a] [] pos) (iEnum X.K ta):=by
 intro pins s σ H R I h
 refine Call_ (J9 I hg hm (show Ub "enumerate" = some (.type "enumerate")from by decide +kernel) (W8 (thn (ha pos pins s σ H _ I h) λus s1 ⟨vs,H1,I1,r1,q1⟩=>?_) (ZW h1) rfl))
 obtain⟨x,xs,e,q1,q⟩:=q1
 subst e
 cases r1 with
 |cons r rr =>
  cases rr
  cases r
  obtain⟨its,rv,p,_⟩:=I1.list q1
  refine call_enumerate_list p.isList λg hE hI hsz hk=>wpAny_pyIter_enum hE ?_
  refine⟨_,[s1.heap.objs.size+1,s1.heap.objs.size],_,_,H1,rfl,I1.kept (t':=s1.toks) hk,Zg7 (Nat.succ_ne_self _),⟨⟨_,hE⟩,hI⟩,λb hb=>?_,q⟩
  have hb':s1.heap.objs.size<=b:=by
   simp only[Ys,YF,or_false]at hb
   rcases hb with rfl|rfl<;>omega
  exact I1.fpOk hb' (I1.hok.fresh hb')
theorem PE.tree(h:PE X e (tE X.K call gv xr ea)):PE X e (tE X.K call gv xr (.tr ea)):=by
 refine PE.mono h ?_
 rintro σ H Q ⟨env,cm,m,hE,M,ho⟩
 refine⟨env,cm,m,hE,M,?_⟩
 rw[ev]at ho
 exact ho.bind.mono λw cm1 m1 H1 x1 M1 o1=>by
  cases w with
  |t x=>exact OkR.now o1 M1
  |f a=>exact o1.elim
  |x _ _ _=>exact o1.elim
  |o _ _ _=>exact o1.elim
  |u=>exact o1.elim
  |c i=>exact o1.elim
theorem ZjB{ts:List Expr}{kk}{tp:Pos}(hg:Gl X "enumerate")(hm:X.mg "enumerate" = none)(ha:PA X [a] (tA X.K call gv xr (.cons (.tr ea) .nil)))(hs:notStar a=true:=by rfl):PI X (.Tuple ts kk tp) (.Call (.Name "enumerate" p) [a] [] pos) (tI X.K call gv xr (.blt .enum (.cons (.tr ea) .nil))):=by
 refine PI.mono (Zlg hg hm ha hs) ?_
 rintro σ H R ⟨env,cm,m,hE,M,ho⟩
 rw[ev]at ho
 cases h:evs call gv (.cons (.tr ea) .nil) env m with
 |stuck=>rw[h]at ho;exact ho.elim
 |exc x m' =>
  refine⟨env,cm,m,hE,M,?_⟩
  rw[h]at ho ⊢
  exact ho
 |ok ws m' =>
  refine⟨env,cm,m,hE,M,?_⟩
  rw[h]at ho ⊢
  have hT:∃t,ws=[.t t]:=by
   rw[evs]at h
   obtain⟨w,m1,h1,h2⟩:=Zk h
   obtain⟨ws',m2,h3,h4⟩:=Zk h2
   rw[evs]at h3
   cases h3
   cases h4
   rw[ev]at h1
   obtain⟨w0,m0,h5,h6⟩:=Zk h1
   cases w0 with
   |t x=>cases h6;exact⟨x,rfl⟩
   |f a=>cases h6
   |x _ _ _=>cases h6
   |o _ _ _=>cases h6
   |u=>cases h6
   |c i=>cases h6
  obtain⟨t,rfl⟩:=hT
  have ho1:=OkR.bind ho
  intro cm1 H1 x1 M1 vs rvs
  have o1:OkR X.K (fBlt .enum [W.t t] m') xr cm1 m' H1 _:=ho1 cm1 H1 x1 M1
  obtain⟨w,v,t',rr,e1,rfl,rv,e,eb,ho⟩:=blt1 rvs (JB (by decide)) o1
  cases e1
  cases e
  cases t with
  |lst ts =>
   have eb:(if ts.length<=lim then some (T.lst (ZeP ts))else none)=some rr:=eb
   split at eb<;>cases eb
   obtain⟨ts',m2,q1,q2⟩:=OkR.now ho M1
   cases q1
   obtain⟨a,vs,rfl,h1,h2,h3⟩:=RT.ilst rv
   exact⟨a,vs,rfl,.of h1,q2 _ (.enm h1 h2 h3)⟩
  |_=>cases eb
theorem mkS_nd{xs:List (List Nat)}(h:xs.Nodup):(xs.map λc=>(⟨c.toArray⟩:Str)).Nodup:=by
 refine List.pairwise_map.mpr (h.imp λ{a b} q e=>q (ZlR e))
theorem ZlQ{xs ys:List (List Nat)}(h:∀c,c∈xs↔c∈ys)(x:Str):(x∈xs.map λc=>(⟨c.toArray⟩:Str))↔x∈ys.map λc=>(⟨c.toArray⟩:Str):=by
 constructor
 ·intro q
  obtain⟨c,hc,rfl⟩:=Uc.mp q
  exact Uc.mpr ⟨c,(h c).mp hc,rfl⟩
 ·intro q
  obtain⟨c,hc,rfl⟩:=Uc.mp q
  exact Uc.mpr ⟨c,(h c).mpr hc,rfl⟩
theorem ZkC{D:List Str}{bs:List (List Nat)}(hd:D.Nodup)(hm:∀x,x∈D↔x∈bs.map λc=>(⟨c.toArray⟩:Str)):D.length=(ZD bs).length:=by
 have hp:D.Perm ((ZD bs).map λc=>(⟨c.toArray⟩:Str)):=(List.perm_ext_iff_of_nodup hd (mkS_nd (Zcb bs))).mpr λx=>by
  rw[hm]
  exact ZlQ (λc=>(Jk c bs).symm) x
 have:=hp.length_eq
 rw[Yi]at this
 exact this
theorem ZkI{n:Nat}(h:n<64):(n:Int)<2^63:=Int.lt_of_lt_of_le (b:=64) (by omega) (by decide)
theorem Zgi(hc:X.calm=true)(hg1:Gl X "len")(hm1:X.mg "len" = none)(hg2:Gl X "set")(hm2:X.mg "set" = none)(ha:PA X [e] (tA X.K call gv xr (.cons ea .nil)))(he:notStar e=true:=by rfl):
  PE X (.Call (.Name "len" p) [.Call (.Name "set" p2) [e] [] pos2] [] pos) (tE X.K call gv xr (.blt .lenset (.cons ea .nil))):=by
 rintro pins s σ H Q I ⟨env,cm,m,hE,M,ho⟩
 rw[ev]at ho
 refine WQ (J9 I hg1 hm1 (show Ub "len" = some (.builtin "len")from by decide +kernel) ?_ (by decide) (by decide))
 refine Gj ?_ rfl rfl
 show wpAny _ _ (Ycf ((false,eval (.Call (.Name "set" p2) [e] [] pos2) X.env)::backTo pos [])) _ _ s
 refine Yah ?_
 refine WQ (J9 I hg2 hm2 (show Ub "set" = some (.type "set")from by decide +kernel) ?_ (by decide) (by decide))
 refine W8 (thn (ha pos2 pins s σ H (λvs H1=>∃cm1 m1 ws,MemR X.K cm1 m1 H1/\RWs X.K cm1 m1 H1 ws vs/\OkR X.K (fBlt .lenset ws m1) xr cm1 m1 H1 λw cm' m' H'=>∀v,RW X.K cm' m' H' w v->Q v H') I ⟨env,cm,m,hE,M,ho.bind.mono λws cm1 m1 H1 x1 M1 o1 vs rvs=>⟨cm1,m1,ws,M1,rvs,o1⟩⟩) λus s1 ⟨vs,H1,I1,r1,cm1,m1,ws,M1,rws,o1⟩=>?_) (ZW he) rfl
 obtain⟨w,v,t,rr,rfl,rfl,rv,eq,eb,ho⟩:=blt1 rws (JB (by decide)) o1
 have hA:X.A.handled=none:=I1.ok.hd hc
 cases t with
 |lst ts =>
  have eb:ZeJ ts=some rr:=eb
  unfold ZeJ at eb
  cases q:strs? ts with
  |none=>rw[q]at eb;cases eb
  |some bs =>
   rw[q]at eb
   have eb:(if bs.length<64 then some (T.int ((ZD bs).length:Int))else none)=some rr:=eb
   split at eb<;>cases eb
   rename_i h64
   obtain⟨a,vs,rfl,h1,rr1⟩:=Zq M1 rv eq
   obtain⟨u,rfl,ru⟩:=vals1 r1
   cases ru
   obtain⟨its,rv',pl,hz⟩:=I1.list (.of h1)
   cases RTs.strs rr1 q
   have hsa:=Xm rv'
   have hl:=rv'.length
   rw[Yi]at hl
   refine Zdl hA pl.isList (λi v hv=>Zks hsa i v (by simpa using hv)) (by unfold Vp;simp;omega) λh' tk hS kp=>?_
   have I2:Inv X pins σ H1 { s1 with heap:=h',toks:=tk }:=I1.kept kp
   refine Yd ?_
   rw[show its.toArray.size=bs.length by simp;omega]at hS
   obtain⟨o,es,ep,t,eo,hE⟩:=hS
   have hsz:es.size=(ZD bs).length:=by
    have h1:=hE.txs.length_eq
    rw[Yi,YL]at h1
    rw[h1]
    refine ZkC hE.nd λx=>?_
    rw[ZiK]
    constructor
    ·rintro ⟨i,hi,e⟩
     rw[<-e]
     simp[YbP,hi]
    ·intro h
     obtain⟨c,hc,rfl⟩:=Uc.mp h
     obtain⟨i,hi,rfl⟩:=G5 hc
     exact⟨i,hi,by simp[YbP,hi]⟩
   have hlt:es.size<64:=by
    have h1:=hE.txs.length_eq
    rw[Yi,YL]at h1
    have:=ZfH (λi=>(bs.map λc=>(⟨c.toArray⟩:Str)).getD i ⟨#[]⟩) bs.length
    omega
   refine call_len_set eo hE.ex hE.data hE.fits (ZkI hlt) ?_
   rw[hsz]
   exact⟨.int _,H1,I2.kept (t':=tk+1+1) λb o e=>e,⟨_,rfl⟩,ans ho M1 (.int _)⟩
 |tup ts =>
  have eb:ZeJ ts=some rr:=eb
  unfold ZeJ at eb
  cases q:strs? ts with
  |none=>rw[q]at eb;cases eb
  |some bs =>
   rw[q]at eb
   have eb:(if bs.length<64 then some (T.int ((ZD bs).length:Int))else none)=some rr:=eb
   split at eb<;>cases eb
   rename_i h64
   obtain⟨a,vs,rfl,h1,rr1⟩:=RT.itup (Zd rv eq λ_ z=>by cases z)
   obtain⟨u,rfl,ru⟩:=vals1 r1
   cases ru
   obtain⟨its,rv',pl,hz⟩:=I1.tuple h1
   cases RTs.strs rr1 q
   have hsa:=Xm rv'
   have hl:=rv'.length
   rw[Yi]at hl
   refine Zb7 hA (show s1.heap.IsTuple a its.toArray from pl) (λi v hv=>Zks hsa i v (by simpa using hv)) (by unfold Vp;simp;omega) λh' tk hS kp=>?_
   have I2:Inv X pins σ H1 { s1 with heap:=h',toks:=tk }:=I1.kept kp
   refine Yd ?_
   rw[show its.toArray.size=bs.length by simp;omega]at hS
   obtain⟨o,es,ep,t,eo,hE⟩:=hS
   have hsz:es.size=(ZD bs).length:=by
    have h1:=hE.txs.length_eq
    rw[Yi,YL]at h1
    rw[h1]
    refine ZkC hE.nd λx=>?_
    rw[ZiK]
    constructor
    ·rintro ⟨i,hi,e⟩
     rw[<-e]
     simp[YbP,hi]
    ·intro h
     obtain⟨c,hc,rfl⟩:=Uc.mp h
     obtain⟨i,hi,rfl⟩:=G5 hc
     exact⟨i,hi,by simp[YbP,hi]⟩
   have hlt:es.size<64:=by
    have h1:=hE.txs.length_eq
    rw[Yi,YL]at h1
    have:=ZfH (λi=>(bs.map λc=>(⟨c.toArray⟩:Str)).getD i ⟨#[]⟩) bs.length
    omega
   refine call_len_set eo hE.ex hE.data hE.fits (ZkI hlt) ?_
   rw[hsz]
   exact⟨.int _,H1,I2.kept (t':=tk+1+1) λb o e=>e,⟨_,rfl⟩,ans ho M1 (.int _)⟩
 |_=>cases eb
end
section
variable{K:Frag}{cm cm':List Addr}{m m':Mem}{H H':Hp}{xr:XR}{X:Cx}{call:Nat->List W->Mem->Res W}{gv:List T}
variable{a b c e:Expr}{es:List Expr}{ea eb ec:E}{eas:Es}{pos p p2:Pos}{rest:List Stmt}{k:S}{n:Nat}
theorem Zfs{sts:List Stmt}:PSs X sts (tS X.K call gv xr n .stk):=by
 rintro pins s σ H D I ⟨hl,env,cm,m,hE,M,ho⟩
 rw[ex]at ho
 exact ho.elim
end
section
variable{K:Frag}{cm cm':List Addr}{m m':Mem}{H H':Hp}{xr:XR}{X:Cx}{call:Nat->List W->Mem->Res W}{gv:List T}
variable{a b c e:Expr}{es:List Expr}{ea eb ec:E}{eas:Es}{pos p p2:Pos}{rest:List Stmt}{k:Nat}{n:Nat}
inductive Ents (w:World):List (List Nat)->List Value->List DictEntry->Prop where
 |nil:Ents w [] [] []
 |cons {y:Str}{t:Tok}{cs:List Nat}{h:Int}{u:Value}{css:List (List Nat)}{us:List Value}{es:List DictEntry}:y.cps.toList=cs->h=hashStr w y->Ents w css us es->Ents w (cs::css) (u::us) (⟨h,.str y t,u⟩::es)
noncomputable def VT(K:Frag)(u:Value)(t:T):Prop:=∃v,RelV v u/\∀cm m H,RT K cm m H t v
inductive VTs (K:Frag):List Value->List T->Prop where
 |nil:VTs K [] []
 |cons {u:Value}{t:T}{us:List Value}{ts:List T}:VT K u t->VTs K us ts->VTs K (u::us) (t::ts)
end
end Mi
namespace So
open PySem PySem.W PyProof.Rows
variable{n:Nat}{R:Nat->Nat->Bool}{cmp:Nat->Nat->(Bool->Shared->Prop)->Shared->Prop}{s:Shared}{p:Array Nat}
structure Ord (n:Nat) (R:Nat->Nat->Bool):Prop where
 tr:∀i j k,i<n->j<n->k<n->R i j=true->R j k=true->R i k=true
 tot:∀i j,i<n->j<n->i≠j->R i j=false->R j i=true
 asy:∀i j,i<n->j<n->R i j=true->R j i=false
noncomputable def Pm(n:Nat)(p:Array Nat):Prop:=p.toList.Perm (YM n)
theorem Pm.size(h:Pm n p):p.size=n:=by
 have:=h.length_eq;simpa using this
theorem Pm.lt(h:Pm n p){k:Nat}(hk:k<n):p.getD k 0<n:=by
 have hs:=h.size
 have e:p.getD k 0=p[k]'(by omega):=by simp[YbY,hs,hk]
 rw[e]
 have:p[k]'(by omega)∈p.toList:=by simp
 have:=h.mem_iff.1 this
 simpa using this
theorem Pm.ne(h:Pm n p){i j:Nat}(hi:i<n)(hj:j<n)(hij:i≠j):p.getD i 0≠p.getD j 0:=by
 have hs:=h.size
 have nd:p.toList.Nodup:=h.nodup_iff.2 List.nodup_range
 have ei:p.getD i 0=p.toList[i]'(by simp;omega):=by simp[YbY,hs,hi]
 have ej:p.getD j 0=p.toList[j]'(by simp;omega):=by simp[YbY,hs,hj]
 rw[ei,ej]
 have pw:=List.pairwise_iff_getElem.1 nd
 rcases Nat.lt_or_gt_of_ne hij with c|c
 ·exact pw i j _ _ c
 ·exact λe=>pw j i _ _ c e.symm
theorem Pm.rev(h:Pm n p)(i j:Nat):Pm n (Ych p i j):=(Array.perm_iff_toList_perm.1 (mirror_perm p i j _)).trans h
theorem ZeN(q:Array Nat)(k:Nat):q.getD k 0=(q[k]?).getD 0:=by
 simp[Array.getD_eq_getD_getElem?]
theorem Zku(h:Pm n p){m:Nat}(hm:m<=n)(k:Nat):(Ych p 0 m).getD k 0=if k<m then p.getD (m-1-k) 0 else p.getD k 0:=by
 rw[ZeN,Ych,getElem?_mirror_all (by rw[h.size];exact hm)]
 by_cases hk:k<m
 ·rw[if_pos ⟨Wd _,hk⟩,if_pos hk,ZeN];simp
 ·rw[if_neg (by omega),if_neg hk,ZeN]
noncomputable def Up(R:Nat->Nat->Bool)(p:Array Nat)(m:Nat):Prop:=∀i j,i<j->j<m->R (p.getD i 0) (p.getD j 0)=true
noncomputable def Dn(R:Nat->Nat->Bool)(p:Array Nat)(m:Nat):Prop:=∀i j,i<j->j<m->R (p.getD j 0) (p.getD i 0)=true
theorem Up.succ(O:Ord n R)(P:Pm n p){m:Nat}(h1:1<=m)(hm:m<n)(u:Up R p m)(e:R (p.getD (m-1) 0) (p.getD m 0)=true):Up R p (m+1):=by
 intro i j hij hj
 by_cases c:j<m
 ·exact u i j hij c
 have:j=m:=by omega
 subst this
 by_cases d:i=j-1
 ·subst d;exact e
 have d1:i<j-1:=by omega
 have d2:j-1<j:=by omega
 exact O.tr _ _ _ (P.lt (Vd hij hm)) (P.lt (Vd d2 hm)) (P.lt hm) (u i (j-1) d1 d2) e
theorem Dn.succ(O:Ord n R)(P:Pm n p){m:Nat}(h1:1<=m)(hm:m<n)(u:Dn R p m)(e:R (p.getD m 0) (p.getD (m-1) 0)=true):Dn R p (m+1):=by
 intro i j hij hj
 by_cases c:j<m
 ·exact u i j hij c
 have:j=m:=by omega
 subst this
 by_cases d:i=j-1
 ·subst d;exact e
 have d1:i<j-1:=by omega
 have d2:j-1<j:=by omega
 exact O.tr _ _ _ (P.lt hm) (P.lt (Vd d2 hm)) (P.lt (Vd hij hm)) e (u i (j-1) d1 d2)
theorem Dn.rev(P:Pm n p){m:Nat}(hm:m<=n)(u:Dn R p m):Up R (Ych p 0 m) m:=by
 intro i j hij hj
 rw[Zku P hm,Zku P hm,if_pos (by omega),if_pos hj]
 exact u _ _ (by omega) (by omega)
section
variable(O:Ord n R) (hc:∀i j (C:Bool->Shared->Prop),i<n->j<n->C (R i j) s->cmp i j C s)
include O hc
end
end So
section
set_option maxHeartbeats 1000000
namespace Mi
open PySem PySem.Spec PyProof.Rows L2
section
open PySem.W
variable{prog:Yx}{w:World}{A:Around}{E:Value->Shared->Prop}{s:Shared}
noncomputable def TI(h:Heap)(v:Value)(k:List Int):Prop:=∃a o its n,v=.ref a/\h.get? a=some o/\o.cls=.type "tuple"/\o.data=.seq its n/\Ybr its.toList k
open Classical in
end
section
variable{K:Frag}{cm:List Addr}{m:Mem}{H:Hp}{xr:XR}{X:Cx}{call:Nat->List W->Mem->Res W}{gv:List T}
variable{e:Expr}{es:List Expr}{ea:E}{eas:Es}{pos p p2:Pos}{rest:List Stmt}{k:S}{n:Nat}
noncomputable def iv:Value->Int
 |.int n _=>n
 |_=>0
end
open AutoSeq1 (wpAny_loadPart') in
open MeetsSeq MeetsSeq2 MeetsSeq3 in
open AutoSeq1 (wpAny_loadPart') in
open MeetsSeq MeetsSeq2 MeetsSeq3 in
noncomputable def LI(h:Heap)(v:Value)(k:List Int):Prop:=∃a its n,v=.ref a/\h.get? a=some { cls:=.type "list",data:=.seq its n }/\Ybr its.toList k
theorem ZgV{pos:Pos}{a b:Int}{c v:Value}(l:List Value)(h:Ycc l)(e:Ya1 pos (l++[rawInt a,rawInt b,c])=some v):Ya1 pos l=some v∨v=c:=by
 fun_induction Ycc l with
 |case1 =>
  simp only[Gy,rawInt,Ya1]at e
  split at e
  ·cases e;exact .inr rfl
  ·cases e
 |case2 a' t b' u x rest ih =>
  simp only[YaU,Ya1]at e ⊢
  split at e
  ·rename_i q
   cases e
   rw[if_pos q]
   exact .inl rfl
  ·rename_i q
   rw[if_neg q]
   exact ih h e
 |case3 l h1 h2=>exact h.elim
structure LamK (K:Frag):Prop where
 uniq:∀q q' P,Zi5 K q P->Zi5 K q' P->q=q'
 hd:∀c q,codeIn K (.ref c) q=true->Jw.contains q=true->∃P,Ya7 K c P=true/\K.lookup P=none/\Zi5 K q P
theorem RT.extM{K:Frag}{cm cm':List Addr}{m m':Mem}{H H':Hp}(x:Ext cm m H cm' m' H')(M:MemR K cm m H){t:T}{v:V}(h:RT K cm m H t v):RT K cm' m' H' t v:=by
 induction h with
 |non=>exact .non
 |bl b=>exact .bl b
 |int i=>exact .int i
 |str cs=>exact .str cs
 |tup h1 h2 _ ih=>exact .tup (x.sqT M h1) h2 ih
 |lst h1 h2 h3 _ ih=>exact .lst (x.keep _ _ h1 h2).1 (x.keep _ _ h1 h2).2 h3 ih
 |scr ns h=>exact .scr ns (x.scr M h)
 |dct h1 h2 h3 h4 _ ih=>exact .dct (x.keep _ _ h1 h2).1 (x.keep _ _ h1 h2).2 h3 h4 ih
section
variable{X:Cx}{params:YaZ}{body:Expr}{scope:Scope}{pos:Pos}{q:Str}
noncomputable def CodeF(H:Hp)(cv:Value)(q:Str):Prop:=∃(c:Addr) (o:Obj) (vs:Array Value) (t:Tok) (u:HO),cv=.ref c/\H c=some (.frz o u)/\o.data=.fields vs/\vs[1]?=some (.str q t)
noncomputable abbrev Zcl(q:Str)(params:YaZ)(body:Expr)(scope:Scope)(cl:List (Str×Addr))(pm cv ct:Value):Obj:={ cls:=.type "function",data:=.func (PySem.W.kla_fn "<lambda>" (lamQ q) params body scope cl pm cv ct) }
theorem ZjV{pins:List (Addr×Obj)}{s:Shared}{σ:L2.St}{H:Hp}{cm:List Addr}{m:Mem}{Q:Value->Shared->Prop}{E:Value->Shared->Prop}{A:Around}(I:Inv X pins σ H s)(M:MemR X.K cm m H)(LK:LamK X.K)(hq:X.env.qual=q++".<locals>.")(hn:Jw.contains q=true)(hcd:codeIn X.K X.env.code q=true)(hdef:defaultsOf params X.env=([],[])){cl:List (Str×Addr)}(hcl:YbV scope X.env=pure cl)(h:∀f pm cv ct H' s',Inv X ((f,Zcl q params body scope cl pm cv ct)::pins) σ H' s'->MemR X.K cm m H'->Ext cm m H cm m H'->CodeF H' cv (lamQ q)->Q (.ref f) s'):
  wpAny (model X.prog X.w) A (eval (.Lambda params body scope pos) X.env) Q E s:=by
 obtain⟨c,hc⟩:∃c,X.env.code=.ref c:=by
  cases e:X.env.code with
  |ref c=>exact⟨c,rfl⟩
  |_=>rw[e]at hcd;cases hcd
 rw[hc]at hcd
 obtain⟨P,hP,hPn,hT⟩:=LK.hd c q hcd hn
 obtain⟨ps,hps,ht⟩:=M.tab q P hT
 have CH:PySem.W.CodeHd s.heap c P:=PySem.W.codeHd_of_K I.kIn hP
 have gP:s.heap.get? P=some (tabObj ps):=I.hok P _ hps
 have hg:s.heap.Ns Yr X.mg:=I.mod.glob.keeps I.bk
 have hgP:Yr≠P:=λz=>by
  obtain⟨o,es,ep,e,hd,_⟩:=hg
  rw[z,gP]at e;cases e;cases hd
 obtain⟨bm,ob,b1,b2,b3,b4,b5,b6⟩:=I.mod.bm
 have b3':=I.bk _ _ b3
 have hbP:bm≠P:=λz=>by rw[z,gP]at b3';cases b3';cases b4
 have hbG:bm≠Yr:=λz=>by
  obtain⟨o,es,ep,e,hd,_⟩:=hg
  rw[z,e]at b3';cases b3';rw[hd]at b6;cases b6
 have hb:s.heap.BuiltinsAt X.mg P:=⟨bm,ob,b1,b2,hbG,hbP,b3',b4,b5,b6⟩
 refine PySem.W.kla_eval hdef ?_
 have eq:X.env.qual++"<lambda>" = lamQ q:=by rw[hq];rfl
 rw[eq]
 have pin:∀{h':Heap}{H':Hp}{tk:Nat}{fo:Obj},Inv X pins σ H' { s with heap:=h'.push fo,toks:=tk }->s.heap.objs.size<=h'.objs.size->(∀b u,H' b=some u->b<h'.objs.size)->(∀v,fo.data≠.cell v)->(h'.push fo).get? h'.objs.size=some fo->Inv X ((h'.objs.size,fo)::pins) σ H' { s with heap:=h'.push fo,toks:=tk }:=λ{h' H' tk fo} J hz hu hd hf=>by
  refine J.pins_of λp hp=>?_
  rcases Ys.mp hp with rfl|hp
  ·refine⟨hf,?_,Gu (Yq I.lt hz),I.nofs hz,hd⟩
   cases z:H' h'.objs.size with
   |none=>rfl
   |some u=>exact absurd (hu _ _ z) (Y9 _)
  ·exact J.pin p (Ym _ hp)
 cases hca:Ya1 pos ps.toList with
 |some cv =>
  refine PySem.W.kla_makeFunctionHit hcl I.ok.glob hg hc CH gP ht.1 hca hb λctv h' tk hk hz=>?_
  have J:Inv X pins σ H { s with heap:=h'.push (Zcl q params body scope cl ((X.mg "__name__").getD .none) cv ctv),toks:=tk }:=I.kept λb u e=>Yc _ (hk b u e)
  exact h _ _ _ _ H _ (pin J hz (λb u e=>Yq (I.hok.lt e) hz) (λv z=>by cases z) (Yl _ rfl)) M .refl (ht.2 pos cv hca)
 |none =>
  refine PySem.W.kla_makeFunction hcl I.ok.glob hg hc CH gP ht.1 hca hgP hb λc' ctv h' tk hx hge hlt hrec htb=>?_
  obtain⟨c₂,oc,vs,t,e2,hoc,hd,hv⟩:=hrec
  cases e2
  have hne:c'≠P:=λz=>by
   have:=Yp gP
   rw[<-z]at this
   exact absurd (Yq this hge) (Y9 _)
  have hf:H c'=none:=I.hok.fresh hge
  have hz:s.heap.objs.size<=h'.objs.size:=Wm hge (G8 hlt)
  have nP:∀{b:Addr},H b=none->b≠P:=λe z=>by rw[z,hps]at e;cases e
  have nc:∀{b:Addr}{u:HO},H b=some u->b≠c':=λe z=>by rw[z,hf]at e;cases e
  generalize hH':upd (upd H P (.tbl (ps++#[rawInt pos.line,rawInt pos.col,.ref c']))) c' (.frz oc (.own 0))=H'
  have at_c:H' c'=some (.frz oc (.own 0)):=by rw[<-hH',ZL]
  have at_P:H' P=some (.tbl (ps++#[rawInt pos.line,rawInt pos.col,.ref c'])):=by rw[<-hH',Zm (WR hne),ZL]
  have at_o:∀{b:Addr},b≠P->b≠c'->H' b=H b:=λh1 h2=>by rw[<-hH',Zm h2,Zm h1]
  have kp:∀b o,b≠P->s.heap.get? b=some o->(h'.push (Zcl q params body scope cl ((X.mg "__name__").getD .none) (.ref c') ctv)).get? b=some o:=λb o hb e=>Yc _ (hx b o hb e)
  have kH:∀b u,H b=some u->b≠P->H' b=some u:=λb u e z=>by rw[at_o z (nc e)];exact e
  have nT:∀{b:Addr}{u:HO},H b=some u->(∀qs,u≠.tbl qs)->b≠P:=λe z y=>by rw[y,hps]at e;cases e;exact z _ rfl
  have un:Un X.fs [] H H' s.heap (h'.push (Zcl q params body scope cl ((X.mg "__name__").getD .none) (.ref c') ctv)):=
   ⟨λb o e n _ _=>kp b o (nP n) e,λb o e n _ _=>⟨o.slots,kp b o (nP n) e⟩,λb o e n _=>by
     rw[at_o (nP n) λz=>absurd (Yq (Yp e) hge) (by rw[z];exact Y9 _)];exact n,
    λb o e _=>by
     by_cases hb:b=P
     ·exact⟨_,by rw[hb];exact Yc _ htb⟩
     ·exact⟨o,kp b o hb e⟩,
    λb xs e=>kH _ _ e (nT e λ_ z=>by cases z),λb o u e=>kH _ _ e (nT e λ_ z=>by cases z),λb qs e=>by
     by_cases hb:b=P
     ·rw[hb]at e ⊢
      rw[hps]at e;cases e
      exact⟨_,at_P⟩
     ·exact⟨#[],by rw[kH _ _ e hb];simp⟩⟩
  have hok:HOk X.prog X.w H' (h'.push (Zcl q params body scope cl ((X.mg "__name__").getD .none) (.ref c') ctv)):=λb u e=>by
   by_cases hb:b=P
   · subst hb
     rw[at_P]at e;cases e
     exact Yc _ htb
   · by_cases hbc:b=c'
     ·subst hbc
      rw[at_c]at e;cases e
      exact⟨Yc _ hoc,_,Yc _ hoc⟩
     ·rw[at_o hb hbc]at e
      refine(I.hok b u e).stay (λb' v hb' e'=>kp b' v ?_ e') (λb' e'=>kH _ _ e' (nT e' λ_ z=>by cases z)) λb' xs e'=>kH _ _ e' (nT e' λ_ z=>by cases z)
      rcases hb' with rfl|hb'
      ·exact hb
      ·exact nT hb' λ_ z=>by cases z
  have J:Inv X pins σ H' { s with heap:=h'.push (Zcl q params body scope cl ((X.mg "__name__").getD .none) (.ref c') ctv),toks:=tk }:=I.un un hok
  have x:Ext cm m H cm m H':=⟨λ_ _ e=>e,Yj _,λ_ _ e=>e,λb u e n=>⟨by
   by_cases hb:b=P
   · subst hb
     rw[hps]at e;cases e
     exact⟨_,at_P⟩
   · exact .of (kH _ _ e hb),n⟩⟩
  have frz:∀a o u,H a=some (.frz o u)->H' a=some (.frz o u):=λa o u e=>kH _ _ e (nT e λ_ z=>by cases z)
  have M':MemR X.K cm m H':=⟨M.len,M.inj,λi p e=>by
   obtain⟨a,us,h1,h2,h3,h4⟩:=M.at' i p e
   exact⟨a,us,h1,kH _ _ h2 (nT h2 λ_ z=>by cases z),h3,Zf (λ_ _ z=>z.extM x M) h4⟩,λq' P' hT'=>by
   by_cases hb:P'=P
   · subst hb
     obtain rfl:=LK.uniq _ _ _ hT hT'
     refine⟨_,at_P,?_,λpos' cv e=>?_⟩
     ·simpa using TriplesOk_snoc pos.line pos.col (.ref c') ps.toList ht.1
     ·rcases ZgV _ ht.1 (by simpa using e)with e|e
      ·exact(ht.kept frz).2 pos' cv e
      ·exact⟨c',oc,vs,t,_,e,at_c,hd,hv⟩
   · obtain⟨qs,h1,h2⟩:=M.tab q' P' hT'
     exact⟨qs,kH _ _ h1 hb,h2.kept frz⟩⟩
  refine h _ _ _ _ H' _ (pin J hz (λb u e=>?_) (λv z=>by cases z) (Yl _ rfl)) M' x ⟨c',oc,vs,t,_,rfl,at_c,hd,hv⟩
  by_cases hb:b=P
  ·rw[hb];exact Yp htb
  ·by_cases hbc:b=c'
   · rw[hbc];exact hlt
   · rw[at_o hb hbc]at e
     exact Yq (I.hok.lt e) hz
structure LamSc (X:Cx) (y:Str) (scope:Scope):Prop where
 kind:scope.kind=.function
 co:scope.isCoroutine=false
 gen:scope.isGenerator=false
 nocell:∀x∈scope.names,x.2≠.cell
 par:scope.names.lookup y=some .local
 look:∀p∈scope.names,scope.names.lookup p.1=some p.2
 free:∀x,(x,YX)∈scope.names->X.env.kindOf x=some .cell∨X.env.kindOf x=some .free
end
section
variable{xr:XR}{X:Cx}{call:Nat->List W->Mem->Res W}{gv:List T}{params:YaZ}{body:Expr}{scope:Scope}{q:Str}
noncomputable def lamOk(scope osc:Scope)(y:Str):Bool:=scOk scope osc&&!scope.isCoroutine&&!scope.isGenerator&&(scope.names.all λp=>p.2 != .cell)&&scope.names.lookup y==some .local
theorem ZjW{y:Str}(h:lamOk scope X.env.scope y=true):LamSc X y scope:=by
 unfold lamOk at h
 simp only[Yg]at h
 obtain⟨⟨⟨⟨h1,h2⟩,h3⟩,h4⟩,h5⟩:=h
 unfold scOk at h1
 rw[Yg]at h1
 obtain⟨hk,h1⟩:=h1
 have h1:=YT.mp h1
 have h4:=YT.mp h4
 refine⟨eq_of_beq hk,by simpa using h2,by simpa using h3,λx hx z=>?_,eq_of_beq h5,λp hp=>?_,λx hx=>?_⟩
 ·have:=h4 x hx
  rw[z]at this
  cases this
 ·have:=h1 p hp
  simp only[Yg]at this
  exact eq_of_beq this.1
 ·have:=h1 _ hx
  simp only[Yg,W9]at this
  rcases this.2 with(h|h)|h
  ·cases h
  ·exact .inl (eq_of_beq h)
  ·exact .inr (eq_of_beq h)
theorem ZlV{N' N:List Str}{own:Nat}{keep:List Nat}(h2:ZbD N' N own keep scope=true):N'.length=own+keep.length/\∀(i:Nat) x,N'[own+i]?=some x->∃j,keep[i]?=some j/\N[j]?=some x/\(x,YX)∈scope.names:=by
 unfold ZbD at h2
 rw[Yg]at h2
 obtain⟨hl,h2⟩:=h2
 have h2:=YT.mp h2
 refine⟨eq_of_beq hl,λi x e=>?_⟩
 have hlen:N'.length=own+keep.length:=eq_of_beq hl
 have hi:i<keep.length:=by
  have:=(Ye.mp e).1
  omega
 have h:=h2 i (W6.mpr hi)
 rw[e]at h
 cases q:keep[i]? with
 |none=>rw[q]at h;cases h
 |some j =>
  rw[q]at h
  have h:(N[j]?==some x&&scope.names.any λp=>p.1==x&&p.2==.free)=true:=h
  rw[Yg]at h
  refine⟨j,rfl,eq_of_beq h.1,?_⟩
  obtain⟨p,hp,hq⟩:=G4.mp h.2
  rw[Yg]at hq
  rw[<-eq_of_beq hq.1]
  have:p.2=YX:=eq_of_beq hq.2
  rw[<-this]
  exact hp
end
theorem Zc7{K:Frag}{fns:List Fn}{gv:List T}{k:Nat}{P:Yx}{w:World}{mg:Str->Option Value}{base:Heap}{x qual:Str}{st:Stmt}{f:Addr}{fd:W5}{N ps:List Str}{fi np n:Nat}{body:S}{cell:Bool}(F:Fun K x qual st f fd)(S:FnScope N ps (Za st))(hd:fns[fi]?=some ⟨np,n,body,cell⟩)(hps:np=ps.length)(hn:N.length=n)(hbody:∀(cdv:Value),codeIn K cdv qual=true->∀(A:Around) (outer:List Wb) (s:Shared) (H:Hp) (E:XK),Room (k+1) A ->
   ∀(xe:Value->Shared->Prop) (pn:List (Addr×Obj)) (xr:XR),Go (asX (cxOf (CXF P w) P w K mg base N qual (Za st) f cdv A outer s H E) xe pn) xr->Bd (asX (cxOf (CXF P w) P w K mg base N qual (Za st) f cdv A outer s H E) xe pn) (Zv st) (tS K (ZV fns gv k) gv xr n body)):
  FnOk P w K mg base (CXF P w) (k+1) f fd ps (spF K fns gv (k+1) fi):=by
 subst hn
 exact ZkH F S hd hps rfl λcdv hcd A outer s H E hr xe pn xr go=>(hbody cdv hcd A outer s H E hr xe pn xr go).h
noncomputable def Zh(ps:List Addr)(K:Frag):Frag:=K.filter λp=>!ps.contains p.1
theorem Qd{ps:List Addr}{a:Addr}:∀(K:Frag),(Zh ps K).lookup a=if ps.contains a then none else K.lookup a
 |[]=>by cases ps.contains a<;>rfl
 |(b,o)::K=>by
  have ih:=Qd (ps:=ps) (a:=a) K
  unfold Zh at ih ⊢
  rw[List.filter_cons]
  by_cases hb:a=b
  ·subst hb
   cases hc:ps.contains a with
   |true =>
    simp only[hc,Ul,Yz,if_false,if_true]at ih ⊢
    exact ih
   |false=>simp only[hc,Bool.not_false,if_true,Yz,if_false,Y8,beq_self_eq_true]
  ·have e:(a==b)=false:=beq_eq_false_iff_ne.mpr hb
   rw[Y8,e]
   cases hc:ps.contains b with
   |true =>
    simp only[hc,Ul,Yz,if_false]
    exact ih
   |false =>
    simp only[hc,Bool.not_false,if_true,Y8,e]
    exact ih
theorem Xz{a:Addr}{o:Obj}:∀{K:Frag},K.lookup a=some o->(a,o)∈K
 |[],h=>by cases h
 |(b,u)::K,h=>by
  rw[Y8]at h
  cases e:a==b with
  |true=>rw[e]at h;cases h;rw[eq_of_beq e];exact YD
  |false=>rw[e]at h;exact Yw _ (Xz h)
noncomputable def ZbM(o:Obj):Option Str:=match o.data with
 |.fields vs=>match vs.toList with
  |_::.str n _::_=>some n
  |_=>none
 |_=>none
noncomputable def lamB(ps:List Addr)(K:Frag):Bool:=K.all λp=>match ZbM p.2 with
 |some q=>!Jw.contains q || (match Jz p.2 with
  |some x=>ps.contains x.2&&Ya7 K p.1 x.2&&K.all λp'=>match Jz p'.2 with
   |some x'=>!decide (x'.2=x.2) || decide (x'.1=x.1)
   |none=>true
  |none=>false)
 |none=>true
section
variable{ps:List Addr}{K:Frag}(T:∀P∈ps,K.lookup P=some (tabObj #[]))
include T
theorem Jg{a:Addr}{o:Obj}(l:K.lookup a=some o)(nd:o.data≠.fields #[]):(Zh ps K).lookup a=some o:=by
 rw[Qd,if_neg λz=>?_]
 ·exact l
 ·have:=T a (Ga.mp z)
  rw[l]at this
  cases this
  exact nd rfl
theorem Jy{cd:Value}{x:Str}(e:codeIn K cd x=true):codeIn (Zh ps K) cd x=true:=by
 cases cd with
 |ref c =>
  have:(Zh ps K).lookup c=K.lookup c:=by
   rw[Qd,if_neg λz=>?_]
   have:=T c (Ga.mp z)
   unfold codeIn at e
   dsimp only at e
   rw[this]at e
   cases e
  unfold codeIn at e ⊢
  dsimp only at e ⊢
  rw[this]
  exact e
 |_=>cases e
theorem Jx{f:Addr}{oc:Value}{od:Option Addr}{fd:W5}{sl:Array (Option Value)}(l:K.lookup f=some ⟨oc,od,.func fd,sl⟩):keepIn (Zh ps K) (.ref f)=true:=by
 have:=Jg T l (λz=>by cases z)
 unfold keepIn
 dsimp only
 rw[this]
omit T in
omit T in
theorem QM{o:Obj}{q:Str}{P:Addr}(h:Jz o=some (q,P)):ZbM o=some q/\Jw.contains q=true:=by
 unfold Jz at h
 unfold ZbM
 split at h
 ·rename_i vs hd
  try rw[hd]
  try dsimp only
  split at h
  ·rename_i q' t P' h1 h2
   split at h
   ·rename_i hc
    cases h
    refine⟨?_,hc⟩
    rw[<-U9]at h1
    cases hv:vs.toList with
    |nil=>rw[hv]at h1;cases h1
    |cons a r =>
     rw[hv]at h1
     cases r with
     |nil=>cases h1
     |cons b r =>
      have h1:some b=some (GQ q t):=h1
      cases h1
      rfl
   ·cases h
  ·cases h
 ·cases h
theorem ZkE(B:lamB ps K=true):LamK (Zh ps K):=by
 have B:=YT.mp B
 have at':∀{c:Addr}{o:Obj}{q:Str},(Zh ps K).lookup c=some o->ZbM o=some q->Jw.contains q=true->∃x,Jz o=some x/\ps.contains x.2=true/\Ya7 K c x.2=true/\∀p∈K,∀x',Jz p.2=some x'->x'.2=x.2->x'.1=x.1:=λ{c o q} l hq hn=>by
  rw[Qd]at l
  split at l
  ·cases l
  ·have b:=B (c,o) (Xz l)
   dsimp only at b
   rw[hq]at b
   dsimp only at b
   rw[hn]at b
   cases hx:Jz o with
   |none=>rw[hx]at b;cases b
   |some x =>
    rw[hx]at b
    simp only[Ul,Bool.false_or,Yg]at b
    refine⟨x,rfl,b.1.1,b.1.2,λp hp x' hx' e=>?_⟩
    have:=YT.mp b.2 p hp
    rw[hx']at this
    simp only[W9,YaC,decide_eq_false_iff_not,decide_eq_true_eq]at this
    exact this.resolve_left λz=>z e
 have tb:∀{q:Str}{P:Addr},Zi5 (Zh ps K) q P->∃c o,(c,o)∈K/\(Zh ps K).lookup c=some o/\Jz o=some (q,P):=λ⟨c,o,h1,h2,_⟩=>by
  refine⟨c,o,?_,h1,h2⟩
  rw[Qd]at h1
  split at h1
  ·cases h1
  ·exact Xz h1
 refine⟨λq q' P h1 h2=>?_,λc q hc hn=>?_⟩
 ·obtain⟨c,o,m1,l1,t1⟩:=tb h1
  obtain⟨c',o',m2,l2,t2⟩:=tb h2
  obtain⟨x,e1,_,_,u⟩:=at' l1 (QM t1).1 (QM t1).2
  rw[t1]at e1;cases e1
  exact(u _ m2 _ t2 rfl).symm
 ·have hl:∃o,(Zh ps K).lookup c=some o/\ZbM o=some q:=by
   unfold codeIn at hc
   dsimp only at hc
   split at hc
   ·rename_i vs _ ho
    refine⟨_,ho,?_⟩
    unfold ZbM
    dsimp only
    split at hc
    ·rename_i n t r hv
     rw[hv]
     rw[eq_of_beq hc]
    ·cases hc
   ·cases hc
  obtain⟨o,lo,no⟩:=hl
  obtain⟨x,e1,e2,e3,_⟩:=at' lo no hn
  obtain⟨q',P⟩:=x
  obtain rfl:q'=q:=by
   have:=(QM e1).1
   rw[no]at this
   exact(YQ this).symm
  have hP:(Zh ps K).lookup P=none:=by rw[Qd,if_pos e2]
  refine⟨P,?_,hP,c,o,lo,e1,hP⟩
  have lc:(Zh ps K).lookup c=K.lookup c:=by
   rw[Qd]at lo ⊢
   split at lo
   ·cases lo
   ·rename_i z;rw[if_neg z]
  unfold Ya7 at e3 ⊢
  rw[lc]
  exact e3
end
theorem law_callT{P:Yx}{w:World}{K:Frag}{ps:List Addr}{mg mb:Str->Option Value}{CX:CXT}{k:Nat}{fa a:Addr}{fd:W5}{x:Str}{sp:Sp}{s₁:Shared}{vs:List Value}{ns:List Int}(KX:K.In s₁.heap)(T:∀P∈ps,K.lookup P=some (tabObj #[]))(C:∀P∈ps,∃c,Ya7 K c P=true)(B:lamB ps K=true)(hns:s₁.heap.Ns Yr mg)(hb:s₁.heap.Ns Vx mb)(hbb:∀x:Str,x≠"__name__"->mb x=Ub x)(hlim:s₁.heap.NoLimit)(hbm:∃bm ob,mg "__builtins__" = some (.ref bm)/\bm≠Vx/\s₁.heap.get? bm=some ob/\ob.cls=.type "module"/\ob.dict=some Vx/\ob.data=.plain)(hg:s₁.gens=#[])(ha:s₁.heap.get? a=some { cls:=.type "list",data:=.seq vs.toArray })(hi:Ybr vs ns)(hl:ns.length<=YC)(hr:Room k Ybs)(F:∀base:Heap,(Zh ps K).In base->base.Ns Yr mg->FnOk P w (Zh ps K) mg base CX k fa fd [x] sp)(hbind:∀(s:Shared) (u:Value),Ybo s fd ⟨[u],[]⟩ [(x,u)])(hsp:∀H:Hp,TabR (Zh ps K) H->Zb2 (Zh ps K) H a ns->sp [.ref a] H (λv _=>v=.bl true) λ_ _ _=>False)(hCX:∀H e s',CX [] H s₁ (λ_ _ _=>False) e s'->False):
  Gv (model P w) Ybs (.call (.ref fa) ⟨[.ref a],[]⟩) (λr s'=>r=.ok (.ret (.bool true))/\OldK s₁.heap s'.heap/\s'.os=s₁.os/\YaD s'.gens) s₁:=by
 have rv:=Zdv hi
 have lenV:=hi.length
 have TH:∀P∈ps,s₁.heap.get? P=some (tabObj #[]):=λP hP=>KX P _ (T P hP)
 have aps:a∉ps:=λz=>by have:=TH a z;rw[ha]at this;cases this
 have core:∀(H:Hp),Zb2 (Zh ps K) H a ns->HOk P w H s₁.heap->(∀b u,H b=some u->(b=a/\∃o xs,u=.frz o (.lst xs))∨(b∈ps/\u=.tbl #[]))->(∀b∈ps,H b=some (.tbl #[]))->(H a≠none->K.lookup a=none) ->
   Gv (model P w) Ybs (.call (.ref fa) ⟨[.ref a],[]⟩) (λr s'=>r=.ok (.ret (.bool true))/\OldK s₁.heap s'.heap/\s'.os=s₁.os/\YaD s'.gens) s₁:=by
  intro H hS hok hA hT hK
  have base_of:∀{b:Addr}{o:Obj},s₁.heap.get? b=some o->H b=none->(hidT s₁.heap H).get? b=some o:=λe n=>Zj0 e n
  have noA:∀{b:Addr}{o:Obj},s₁.heap.get? b=some o->o.cls≠.type "list"∨(∀its n,o.data≠.seq its n)->(∀gs,o.data≠.fields gs)->H b=none:=λ{b o} e d1 d2=>by
   cases q:H b with
   |none=>rfl
   |some u =>
    rcases hA b u q with⟨e',_⟩|⟨e',_⟩
    ·subst e'
     rw[ha]at e;cases e
     rcases d1 with d|d
     ·exact absurd rfl d
     ·exact absurd rfl (d _ _)
    ·have:=TH b e'
     rw[this]at e;cases e
     exact absurd rfl (d2 _)
  have nsK:∀{b:Addr}{m:Str->Option Value},s₁.heap.Ns b m->(hidT s₁.heap H).Ns b m:=λ{b m} ⟨o,es,ep,e,d,r⟩=>⟨o,es,ep,base_of e (noA e (.inr λ_ _ z=>by rw[d]at z;cases z) λ_ z=>by rw[d]at z;cases z),d,r⟩
  have hKb:(Zh ps K).In (hidT s₁.heap H):=λb o e=>by
   rw[Qd]at e
   split at e
   ·cases e
   ·rename_i z
    refine base_of (KX b o e) ?_
    cases q:H b with
    |none=>rfl
    |some u =>
     rcases hA b u q with⟨e',_⟩|⟨e',_⟩
     ·subst e'
      rw[hK (by rw[q];simp)]at e;cases e
     ·exact absurd (Ga.mpr e') z
  have hM:Mod (Zh ps K) mg (hidT s₁.heap H):=⟨hKb,nsK hns,⟨mb,nsK hb,hbb⟩,let⟨mc,h1,h2⟩:=hlim;⟨mc,nsK h1,h2⟩,by
   obtain⟨bm,ob,b1,b2,b3,b4,b5,b6⟩:=hbm
   exact⟨bm,ob,b1,b2,base_of b3 (noA b3 (.inr λ_ _ z=>by rw[b6]at z;cases z) λ_ z=>by rw[b6]at z;cases z),b4,b5,b6⟩⟩
  have e0:Env0 P w (Zh ps K) mg (hidT s₁.heap H) Ybs [] s₁ H:=⟨rfl,hM,λb o e=>ZlN e,Ybv (Ziq _ _),trivial,λb hb=>absurd (show b∈([]:List Addr)from hb) (by simp),hok,.of_eq hg⟩
  have tab:TabR (Zh ps K) H:=λq Q ⟨c,o,l,t,n⟩=>by
   have L:=ZkE T B
   refine⟨#[],hT Q ?_,trivial,λpos cv z=>by cases z⟩
   have hc:codeIn (Zh ps K) (.ref c) q=true:=by
    have:=(QM t).1
    unfold ZbM at this
    unfold codeIn
    dsimp only
    rw[l]
    obtain⟨oc,od,da,sl⟩:=o
    cases da with
    |fields gs =>
     dsimp only at this ⊢
     split at this
     ·cases this
      rename_i hv
      rw[hv]
      exact beq_self_eq_true _
     ·cases this
    |_=>cases this
   obtain⟨Q',h1,h2,c',o',l',t',_⟩:=L.hd c q hc (QM t).2
   rw[Qd]at n
   by_cases hq:ps.contains Q=true
   ·exact Ga.mp hq
   ·-- the table of c is Q
    rw[Qd]at l
    split at l
    ·cases l
    ·have b:=YT.mp B (c,o) (Xz l)
     dsimp only at b
     rw[(QM t).1]at b
     dsimp only at b
     rw[(QM t).2,t]at b
     simp only[Ul,Bool.false_or,Yg]at b
     exact Ga.mp b.1.1
  refine U6 ((F _ hKb (nsK hns)).run Ybs [] s₁ H ⟨[.ref a],[]⟩ [.ref a] [.ref a] _ _ hr e0 (hbind s₁ (.ref a)) (.cons rfl .nil) (hsp H tab hS)) λr s' h=>?_
  cases r with
  |error e=>exact(hCX H e s' h).elim
  |ok fl =>
   cases fl with
   |next=>exact U0 h
   |brk=>exact U0 h
   |cont=>exact U0 h
   |ret u =>
    obtain⟨v,H',os,bare,un,hok',r',q⟩:=h
    have q':v=.bl true:=q
    subst q'
    obtain rfl:u=W3 true:=r'
    have all:∀b o,s₁.heap.get? b=some o->s'.heap.get? b=some o∨(b∈ps/\∃more,s'.heap.get? b=some (tabObj more)):=λb o e=>by
     cases q:H b with
     |none=>exact .inl (un.keep b o e q (by intro z;exact absurd (show b∈([]:List Addr)from z) (by simp)) (by simp))
     |some u =>
      rcases hA b u q with⟨_,ob,xs,z⟩|⟨z1,z⟩
      ·subst z
       have z2:=un.frzs b ob _ q
       obtain⟨e1,_⟩:=hok b _ q
       obtain⟨e2,_⟩:=hok' b _ z2
       rw[e]at e1;cases e1
       exact .inl e2
      ·subst z
       obtain⟨more,z2⟩:=un.tbls b _ q
       exact .inr ⟨z1,_,hok' b _ z2⟩
    refine⟨rfl,⟨λb o e=>?_,λb o e=>?_⟩,os,bare⟩
    ·rcases all b o e with z|⟨z1,more,z⟩
     ·exact .inl z
     ·have e':=TH b z1
      rw[e]at e';cases e'
      obtain⟨c,hc⟩:=C b z1
      exact .inr (.inl ⟨((PySem.W.codeHd_of_K KX hc).tab e).isCodeTable,rfl,#[],more,rfl,by rw[z];simp⟩)
    ·rcases all b o e with z|⟨_,more,z⟩
     ·exact⟨_,z⟩
     ·exact⟨_,z⟩
 have tabOk:∀{H:Hp}{b:Addr},b∈ps->QJ P w H s₁.heap b (.tbl #[]):=λhb=>TH _ hb
 cases hk:K.lookup a with
 |some o =>
  have e:=KX a o hk
  rw[ha]at e
  cases e
  refine core (λb=>if b∈ps then some (.tbl #[])else none) (.inr ⟨_,vs.toArray,_,Jg T hk (λz=>by cases z),rfl,rfl,rfl,by rw[Yk,lenV];exact hl,by simpa using rv⟩) (λb u z=>?_) (λb u z=>?_) (λb hb=>if_pos hb) λz=>absurd (if_neg aps) z
  ·by_cases hb:b∈ps
   ·have z:some (HO.tbl #[])=some u:=(if_pos hb).symm.trans z
    cases z
    exact tabOk hb
   ·have z:none=some u:=(if_neg hb).symm.trans z
    cases z
  ·by_cases hb:b∈ps
   ·have z:some (HO.tbl #[])=some u:=(if_pos hb).symm.trans z
    cases z
    exact .inr ⟨hb,rfl⟩
   ·have z:none=some u:=(if_neg hb).symm.trans z
    cases z
 |none =>
  generalize hH:(λb=>if b=a then some (.frz { cls:=.type "list",data:=.seq vs.toArray } (.lst (ns.map V.int)))else if b∈ps then some (.tbl #[])else none:Hp)=H
  have Ha:H a=some (.frz { cls:=.type "list",data:=.seq vs.toArray } (.lst (ns.map V.int))):=by rw[<-hH];exact if_pos rfl
  have Hp':∀b∈ps,H b=some (.tbl #[]):=λb hb=>by
   rw[<-hH]
   exact(if_neg λz=>aps (by rw[<-z];exact hb)).trans (if_pos hb)
  have Hc:∀b u,H b=some u->(b=a/\u=.frz { cls:=.type "list",data:=.seq vs.toArray } (.lst (ns.map V.int)))∨(b∈ps/\u=.tbl #[]):=λb u z=>by
   by_cases hb:b=a
   ·subst hb
    rw[Ha]at z;cases z
    exact .inl ⟨rfl,rfl⟩
   ·by_cases hb':b∈ps
    ·rw[Hp' b hb']at z;cases z
     exact .inr ⟨hb',rfl⟩
    ·rw[<-hH]at z
     have z:none=some u:=((if_neg hb).trans (if_neg hb')).symm.trans z
     cases z
  refine core H (.inl ⟨_,Ha⟩) (λb u z=>?_) (λb u z=>?_) Hp' λ_=>hk
  ·rcases Hc b u z with⟨rfl,rfl⟩|⟨h1,rfl⟩
   ·exact⟨ha,by rw[Yi];exact hl,vs,_,rv,ha⟩
   ·exact tabOk h1
  ·rcases Hc b u z with⟨h1,rfl⟩|h
   ·exact .inl ⟨h1,_,_,rfl⟩
   ·exact .inr h
theorem walk_ofT{l:YbK}{n k:Nat}{q:Yx}{loose:List Str}{XP:(Str->Option Value)->Heap->Prop}{YP:World->Heap->Prop}{d:DefRec}{K:Params->Frag}{ps:List Addr}{CX:World->CXT}{sp:World->Sp}{x:Str}(hn:l.most=some n)(hn2:n<=YC)(hdf:d.params.defaults=[])(hr:Room k Ybs)(hY:∀(w:World) (h:Heap),YP w h->(K w.params).In h)(T:∀(w:World) P,P∈ps->(K w.params).lookup P=some (tabObj #[]))(C:∀(w:World) P,P∈ps->∃c,Ya7 (K w.params) c P=true)(B:∀w:World,lamB ps (K w.params)=true)(F:∀(w:World) (mg:Str->Option Value) (fa:Addr) (h:Heap),(K w.params).In h->h.Ns Yr mg->mg d.name=some (.ref fa) ->
   ∃fd:W5,(∀(s:Shared) (u:Value),Ybo s fd ⟨[u],[]⟩ [(x,u)]) /\
    ∀base:Heap,(Zh ps (K w.params)).In base->base.Ns Yr mg->FnOk l.prog w (Zh ps (K w.params)) mg base (CX w) k fa fd [x] (sp w))(hsp:∀(w:World) (H:Hp) (a:Addr) (ns:List Int),ns.length<=n->TabR (Zh ps (K w.params)) H->Zb2 (Zh ps (K w.params)) H a ns->sp w [.ref a] H (λv _=>v=.bl true) λ_ _ _=>False)(hCX:∀(w:World) (H:Hp) (s:Shared) (e:Value) (s':Shared),CX w [] H s (λ_ _ _=>False) e s'->False):
  PySem.W.WalkO q loose XP YP l.row.toRowW d [] (λf vs=>GD f vs):=by
 refine Att.attach_call hn hdf λw s₀ s₁ mg mb fa o pm cd doc a vs ns G Y ho hd hcd hmg hobj hints hlen hg=>?_
 have KX:=hY w _ Y
 obtain⟨fd,hb,hF⟩:=F w mg fa _ KX G.T.g hmg
 exact law_callT KX (T w) (C w) (B w) G.T.g G.T.b G.T.builtins G.T.nolimit G.T.bmain hg hobj hints (Wm hlen hn2) hr hF hb (λH hO hS=>hsp w H a ns hlen hO hS) λH e s'=>hCX w H s₁ e s'
theorem compTurn_dict{k v:Expr}{gens:List WN}{scope:Scope}{pos:Pos}{d:Nat}{target iter:Expr}{ifs:List Expr}{it:Value}{a:Addr}{env:Wb}(hg:gens[d]?=some ⟨target,iter,ifs,0⟩)(hn:gens[d+1]?=none):
  Vs (.DictComp k v gens scope pos) d it (.ref a) env=(do
   Gb iter.pos
   match <-pyNext it with
   |none=>pure (.done .next)
   |some x =>
    UG target it x
    assign target env x
    let mut ok:=true
    for c in ifs do
     if ok then ok <-isTrue c env (eval c env)
    if ok then
     (do
      let kv <-eval k env
      let vv <-Vh [kv] (eval v env)
      Gb { k.pos with endLine:=v.pos.endLine,endCol:=v.pos.endCol }
      Vh [kv,vv] (dictSet a kv vv))
    again (.compLoop (.DictComp k v gens scope pos) d it (.ref a) env)):=by
 unfold Vs
 simp only[hg,hn]
 rfl
section
variable{xr:XR}{X:Cx}{call:Nat->List W->Mem->Res W}{gv:List T}
theorem ZiM{N':List Str}{scope:Scope}(h1:scOk scope X.env.scope=true):CompSc X N' scope:=by
 unfold scOk at h1
 rw[Yg]at h1
 obtain⟨hk,h1⟩:=h1
 have h1:=YT.mp h1
 refine⟨eq_of_beq hk,λp hp=>?_,λx hx=>?_⟩
 ·have:=h1 p hp
  simp only[Yg]at this
  exact eq_of_beq this.1
 ·have:=h1 _ hx
  simp only[Yg,W9]at this
  rcases this.2 with(h|h)|h
  ·cases h
  ·exact .inl (eq_of_beq h)
  ·exact .inr (eq_of_beq h)
end
section
variable{K:Frag}{cm cm':List Addr}{m m':Mem}{H H':Hp}{x:Addr}{C dx:Addr}{fs:List (Str×V)}{o:HO}
theorem JP(hx:H x=some (.ins C dx fs)){a:Addr}{u:HO}(h:H a=some u)(hn:∀C dx fs,u≠.ins C dx fs):upd H x o a=some u:=by
 rw[Zm]
 ·exact h
 ·rintro rfl
  rw[hx]at h;cases h
  exact hn _ _ _ rfl
theorem RT.ins(hx:H x=some (.ins C dx fs)){t:T}{v:V}(h:RT K cm m H t v):RT K cm m (upd H x o) t v:=by
 induction h with
 |non=>exact .non
 |bl b=>exact .bl b
 |int i=>exact .int i
 |str cs=>exact .str cs
 |tup q1 q2 _ ih =>
  refine .tup ?_ q2 ih
  rcases q1 with(q|⟨o,q⟩)|q
  ·exact .inl (.inl (JP hx q λ_ _ _ z=>by cases z))
  ·exact .inl (.inr ⟨o,JP hx q λ_ _ _ z=>by cases z⟩)
  ·exact .inr q
 |lst q1 q2 q3 _ ih=>exact .lst (JP hx q1 λ_ _ _ z=>by cases z) q2 q3 ih
 |dct q1 q2 q3 q4 _ ih=>exact .dct (JP hx q1 λ_ _ _ z=>by cases z) q2 q3 q4 ih
 |scr ns q =>
  refine .scr ns ?_
  rcases q with⟨o,q⟩|q
  ·exact .inl ⟨o,JP hx q λ_ _ _ z=>by cases z⟩
  ·exact .inr q
theorem MemR.ins(M:MemR K cm m H)(hx:H x=some (.ins C dx fs)):MemR K cm m (upd H x o):=
 ⟨M.len,M.inj,λi p e=>by
  obtain⟨a,us,h1,h2,h3,h4⟩:=M.at' i p e
  exact⟨a,us,h1,JP hx h2 λ_ _ _ z=>(by cases z),h3,Zf (λ_ _ z=>z.ins hx) h4⟩,M.tab.kept (λa ps e=>JP hx e λ_ _ _ z=>by cases z) λa o u e=>JP hx e λ_ _ _ z=>by cases z⟩
theorem Ext.at0(e:Ext cm m H cm' m' H')(hx:H x=none):Ext cm m H cm' m' (upd H' x o):=
 ⟨e.pre,e.len,e.lent,λa u h n=>⟨by rw[Zm (Z9 h hx)];exact(e.keep a u h n).1,(e.keep a u h n).2⟩⟩
end
section
variable{X:Cx}{xr:XR}{call:Nat->List W->Mem->Res W}{gv:List T}{e o:Expr}{es:List Expr}{ea eo:E}{eas:Es}{pos p apos:Pos}{C:Nat}{f nm:Str}{fns:List Fn}{k fi:Nat}
theorem Ze7{κ β:Type}[BEq κ][LawfulBEq κ]{f:κ}:∀{ns:List κ}{vs:List β},f∉ns->(ns.zip vs).lookup f=none
 |[],_,_=>rfl
 |_::_,[],_=>rfl
 |n::ns,v::vs,h=>by
  have hb:(f==n)=false:=beq_false_of_ne (λz=>h (by rw[z];exact YD))
  rw[Vt,Y8,hb]
  exact Ze7 λz=>h (Yw _ z)
theorem Zlx(c:Cls X.K C)(n:QG X.K C f)(ha:PE X e (tE X.K call gv xr ea))(hb:Vk e f X.env (eval e X.env)=eval e X.env:=by rfl):PE X (.Attribute e f pos) (tE X.K call gv xr (.fld ea C f)):=by
 refine PE.mono (pe_fld ha hb) ?_
 rintro σ H Q ⟨env,cm,m,hE,M,ho⟩
 rw[ev]at ho
 refine⟨env,cm,m,hE,M,ho.bind.mono λw cm1 m1 H1 x1 M1 o1 v rv=>?_⟩
 obtain⟨t,et,o2⟩:=Ql o1
 cases w with
 |o D nms ts =>
  by_cases hd:D=C
  ·subst hd
   have et:=(if_pos rfl).symm.trans (show(if D=D then(nms.zip ts).lookup f else none)=some t from et)
   obtain⟨a,dx,vs,rfl,h2,h3,h4⟩:=rv
   obtain⟨u,hu,ru⟩:=Ze8 h4 (show(nms.zip ts).lookup f=some t from et)
   exact⟨a,_,dx,_,u,rfl,h2,c,n,hu,ans o2 M1 ru⟩
  ·cases(if_neg hd).symm.trans (show(if D=C then(nms.zip ts).lookup f else none)=some t from et)
 |_=>cases et
noncomputable def MOk(P:Yx)(w:World)(K:Frag)(mg:Str->Option Value)(base:Heap)(fns:List Fn)(gv:List T)(k:Nat)(C:Nat)(x:Str)(fi:Nat):Prop:=
 ∃f fd ps,Meth K C x f/\Binds K fd ps []/\FnOk P w K mg base (CXF P w) k f fd ps (spF K fns gv k fi)
theorem ZhK{pl:Sem Bool}(lk:Lk X xr)(c:Cls X.K C)(F:MOk X.prog X.w X.K X.mg X.base fns gv k C nm fi)(hr:Room k X.A)(ha:PE X o (tE X.K (ZV fns gv k) gv xr eo))(ht:eval (.Call (.Attribute o nm apos) [] [] pos) X.env=(do
   let ov <-eval o X.env
   Gb apos.atName
   let(f,first) <-Vh [ov] (YbG ov nm pl)
   callWith pos f first (backTo pos (Wq [] X.env)) (Yb0 pos (Ybc [] X.env))):=by rfl):
  PE X (.Call (.Attribute o nm apos) [] [] pos) (tE X.K (ZV fns gv k) gv xr (.mcal fi C nm eo .nil)):=by
 obtain⟨f,fd,ps,hm,hb,F⟩:=F
 refine PE.mono (ZjF ha c hm F hr hb (dvs:=[]) .nil (E:=EX X.K xr) lk.passes ht) ?_
 rintro σ H Q ⟨env,cm,m,hE,M,ho⟩
 rw[ev]at ho
 refine⟨env,cm,m,hE,M,ho.bind.mono λw cm1 m1 H1 x1 M1 o1 v rv=>?_⟩
 split at o1
 ·rename_i hi
  cases w with
  |o D nms ts =>
   have hi:(decide (D=C)&&!decide (nm∈nms))=true:=hi
   obtain⟨rfl,hi2⟩:D=C/\nm∉nms:=by simpa using hi
   obtain⟨a,dx,vs,rfl,h2,h3,h4⟩:=rv
   rw[evs]at o1
   exact⟨a,dx,_,rfl,h2,Ze7 hi2,cm1,m1,[W.o D nms ts],M1,.cons ⟨a,dx,vs,rfl,h2,h3,h4⟩ .nil,o1.toE⟩
  |_=>cases hi
 ·exact o1.elim
theorem Room.new{k:Nat}{A:Around}(r:Room (k+1) A){e:Wb}(us:List Value):Room k ((A.deeper e).under (.builtin "type.__call__" ⟨.ref C::us,[]⟩)):=
 ⟨r.hd,by have:=r.dp;rw[Zgw];show A.depth+1+1+3*k+5<_;omega,by have:=r.un;rw[Zgv];show A.units+3+1+16*k+200<_;omega⟩
noncomputable abbrev nev:E:=.xat .hole [] Yb8
theorem Zlp:PE X e (tE X.K call gv xr nev):=by
 rintro pins s σ H Q I ⟨env,cm,m,hE,M,ho⟩
 rw[ev,ev]at ho
 exact ho.elim
theorem Zhv:PT X e (tT X.K call gv xr nev):=by
 rintro pins s σ H Q I ⟨env,cm,m,hE,M,ho⟩
 rw[ev,ev]at ho
 exact ho.elim
noncomputable def spI(K:Frag)(fns:List Fn)(gv:List T)(k fi:Nat)(C:Addr)(nms:List Str):Sp:=λvs H Q E=>∃H0 cm m ws x dx vs',vs=.ref x::vs'/\H0 x=none/\H0 dx=none/\dx≠x/\H=upd (upd H0 dx (.own x)) x (.ins C dx [])/\MemR K cm m H0/\RWs K cm m H0 ws vs'/\ws.all isTr=true /\
 OkR K (ZV fns gv k fi (.u::ws) m) (xrE K E) cm m H0 λw cm' m' H'=>∀ts vs2,w=.t (.tup ts)->RTs K cm' m' H' ts vs2->H' x=some (.ins C dx (nms.zip vs2))->Q .non H'
noncomputable def IOk(P:Yx)(w:World)(K:Frag)(mg:Str->Option Value)(base:Heap)(fns:List Fn)(gv:List T)(k:Nat)(C:Nat)(nms:List Str)(fi:Nat):Prop:=
 ∃f fd ps,Mk K C f/\Binds K fd ps []/\FnOk P w K mg base (CXF P w) k f fd ps (spI K fns gv k fi C nms)
theorem ZjG{x:Str}{nms:List Str}(lk:Lk X xr)(F:IOk X.prog X.w X.K X.mg X.base fns gv k C nms fi)(hr:∀us,Room k (X.A.under (.builtin "type.__call__" ⟨.ref C::us,[]⟩)))(hm:X.mg x=some (.ref C))(hg:Gl X x)(ha:PA X (e::es) (tA X.K (ZV fns gv k) gv xr eas))(hdb:(x==("__debug__" : Str))=false:=by decide)(he:notStar e=true:=by rfl)(hpl:es.all notStar=true:=by rfl):PE X (.Call (.Name x p) (e::es) [] pos) (tE X.K (ZV fns gv k) gv xr (.make fi C nms eas)):=by
 obtain⟨f,fd,ps,hM,hb,F⟩:=F
 refine PE.mono (Zlr hM F hr hg hm hb (dvs:=[]) .nil (E:=EX X.K xr) lk.passes ha hdb (ZW he) (Xo hpl)) ?_
 rintro σ H Q ⟨env,cm,m,hE,M,ho⟩
 rw[ev]at ho
 refine⟨env,cm,m,hE,M,ho.bind.mono λws cm1 m1 H1 x1 M1 o1 vs rvs=>λx dx hx hdx ne=>?_⟩
 by_cases ha:ws.all isTr=true
 case neg=>rw[if_neg ha]at o1;exact o1.elim
 rw[if_pos ha]at o1
 refine⟨H1,cm1,m1,ws,x,dx,vs,by rw[Ws],hx,hdx,ne,rfl,M1,rvs,ha,OkR.toE (o1.bind.mono λw cm2 m2 H2 x2 M2 o2 ts vs2 ew r2 hx2=>⟨rfl,?_⟩)⟩
 subst ew
 have o2:OkR X.K (if ts.length=nms.length then .ok (W.o C nms ts) m2 else .stuck) xr cm2 m2 H2 _:=o2
 split at o2
 ·rename_i hl
  exact OkR.now o2 M2 _ ⟨x,dx,vs2,rfl,hx2,by rw[<-hl,r2.length],r2⟩
 ·exact o2.elim
end
noncomputable def esT:List (Str×E)->Es
 |[]=>.nil
 |(_,e)::r=>.cons (.tr e) (esT r)
section
variable{X:Cx}{K:Frag}{xr:XR}{call:Nat->List W->Mem->Res W}{gv:List T}
noncomputable def tFs(K:Frag)(call:Nat->List W->Mem->Res W)(gv:List T)(xr:XR):List (Str×E)->TS
 |[]=>Zje
 |(f,e)::r=>tSeq (sFld K (tVar 0) (tE K call gv xr e) f) (tFs K call gv xr r)
theorem Zfr{f:Str}{v:V}:∀{ns:List Str}{vs:List V},ns.length=vs.length->f∉ns->putF f v (ns.zip vs)=(ns++[f]).zip (vs++[v])
 |[],[],_,_=>rfl
 |n::ns,w::vs,hl,hn=>by
  show(if n=f then _ else(n,w)::putF f v (ns.zip vs))=_
  rw[if_neg λz:n=f=>hn (by rw[z];exact YD),Zfr (by simpa using hl) λz=>hn (Yw _ z)]
  rfl
 |[],_::_,hl,_=>by cases hl
 |_::_,[],hl,_=>by cases hl
theorem Zio{D:Ends}{x dx C:Addr}{σ:L2.St}{H0:Hp}{cm0:List Addr}{m0:Mem}{env:Env}{k:List W->List Addr->Mem->Hp->Prop}(c:Cls K C)(hx0:H0 x=none)(hs:σ[0]?=some (some (.ref x)))(hw:∀(i:Nat) w,env[i]?=some (some w)->(∃t,w=.t t)∨w=.u):
  ∀(fes:List (Str×E)) {nms:List Str}{vs:List V}{ts:List T}{cm:List Addr}{m:Mem}{H:Hp},Ext cm0 m0 H0 cm m H->EnvR K cm m H env σ->MemR K cm m H->H x=some (.ins C dx (nms.zip vs))->nms.length=vs.length->RTs K cm m H ts vs->(nms++fes.map (·.1)).Nodup->nms.length+fes.length<1000->(∀q∈fes,QG K C q.1) ->
   OkR K (evs call gv (esT fes) env m) xr cm0 m0 H0 k->(∀ws us vs2 cm' m' H',Ext cm0 m0 H0 cm' m' H'->MemR K cm' m' H'->k ws cm' m' H'->ws=us.map W.t->RTs K cm' m' H' (ts++us) vs2->H' x=some (.ins C dx ((nms++fes.map (·.1)).zip vs2))->D.nx σ H')->tFs K call gv xr fes D σ H
 |[],nms,vs,ts,cm,m,H,x1,hE,M,hx,hl,r,hn,hz,na,ho,q=>by
  have h1:k [] cm m H:=OkR.to (show OkR K (.ok [] m) xr cm0 m0 H0 k from ho) x1 M
  exact q [] [] vs cm m H x1 M h1 rfl (by rw[Ws];exact r) (by rw[List.map_nil,Ws];exact hx)
 |(f,e)::fes,nms,vs,ts,cm,m,H,x1,hE,M,hx,hl,r,hn,hz,na,ho,q=>by
  rw[esT,evs]at ho
  have ho:=ho.bind0
  rw[ev]at ho
  have ho:=ho.bind0
  refine⟨env,cm,m,hE,M,(ho.shift x1).mono λw cm1 m1 H1 x2 M1 o1 v rv=>?_⟩
  have x3:=x1.trans x2
  cases w with
  |t t =>
   have hx1:H1 x=some (.ins C dx (nms.zip vs)):=(x2.keep x _ hx (Z7 M hx λ_ z=>by cases z)).1
   have hfn:f∉nms:=λz=>by
    rw[Wa,Yau]at hn
    exact hn.2.2 f z f YD rfl
   refine⟨.ref x,hs,x,C,dx,_,rfl,hx1,c,na _ YD,by rw[V9];simp at hz;omega,?_⟩
   rw[Zfr hl hfn]
   have o1:OkR K ((evs call gv (esT fes) env m1).bind λws m=>.ok (W.t t::ws) m) xr cm0 m0 H0 k:=OkR.to (a:=W.t t) (m':=m1) (k:=λa _ m' _=>OkR K ((evs call gv (esT fes) env m').bind λws m=>.ok (a::ws) m) xr cm0 m0 H0 k) o1 x3 M1
   have o2:=o1.bind0
   have up:∀{t:T}{v:V},RT K cm1 m1 H1 t v->RT K cm1 m1 (upd H1 x (.ins C dx ((nms++[f]).zip (vs++[v])))) t v:=λr=>r.ins hx1
   refine Zio c hx0 hs hw fes (nms:=nms++[f]) (vs:=vs++[v]) (ts:=ts++[t]) (cm:=cm1) (m:=m1) (x3.at0 hx0) ?_ (M1.ins hx1) ZL (by rw[Yh,Yh,hl];rfl) (Zf (λ_ _ z=>z.ins hx1) (ZF (r.ext x2 M M1) (.cons rv .nil))) (by rw[YW];exact hn) (by simp at hz ⊢;omega) (λz hz=>na z (Yw _ hz)) o2 ?_
   ·intro i w e
    obtain⟨u,h1,h2⟩:=(hE.ext x2 M M1) i w e
    refine⟨u,h1,?_⟩
    rcases hw i w e with⟨t,rfl⟩|rfl
    ·exact RT.ins hx1 h2
    ·exact Ur
   ·intro ws us vs2 cm' m' H' x4 M4 kk ew r2 hx2
    exact q (W.t t::ws) (t::us) vs2 cm' m' H' x4 M4 (OkR.to kk x4 M4) (by rw[ew];rfl) (by rw[YW]at r2;exact r2) (by rw[YW]at hx2;exact hx2)
  |_=>exact U0 o1
end
theorem Zcn:∀(us:List T) {m:Mem},frzs (us.map W.t) m=.ok us m
 |[],_=>rfl
 |u::us,m=>by
  rw[Wa,frzs]
  show(frzs (us.map W.t) m).bind _=_
  rw[Zcn us]
  rfl
theorem Zl4{P:Yx}{w:World}{K:Frag}{mg:Str->Option Value}{base:Heap}{fns:List Fn}{gv:List T}{f:Addr}{fd:W5}{ps:List Str}{fi C:Nat}{nms:List Str}:FnOk P w K mg base (CXF P w) 0 f fd ps (spI K fns gv 0 fi C nms):=by
 have no:∀vs H Q E,¬spI K fns gv 0 fi C nms vs H Q E:=λvs H Q E ⟨_,_,_,_,_,_,_,_,_,_,_,_,_,_,_,ho⟩=>by
  rw[ZV]at ho
  exact ho
 exact⟨λvs H Q E h=>absurd h (no vs H Q E),λA outer s H args us vs Q E _ _ _ _ h=>absurd h (no vs H Q E)⟩
theorem rse_no{call:Nat->List W->Mem->Res W}{gv:List T}{c:Nat}{nms:List Str}{es:Es}{k:S}(env:Env)(m:Mem)(fl:Mi.Flow)(m':Mem):ex call gv (.rse c nms es k) env m≠.ok fl m':=λh=>by
 rw[ex]at h
 obtain⟨ws,m1,_,h⟩:=Zk h
 obtain⟨ts,m2,_,h⟩:=Zk h
 split at h
 ·split at h<;>cases h
 ·split at h<;>cases h
theorem Zl3{K:Frag}{fns:List Fn}{gv:List T}{k:Nat}{P:Yx}{w:World}{mg:Str->Option Value}{base:Heap}{x qual:Str}{st:Stmt}{f:Addr}{fd:W5}{N ps:List Str}{fi n C:Nat}{sa:S}{ec:E}{fes:List (Str×E)}(F:Fun K x qual st f fd)(S:FnScope N ps (Za st))(hd:fns[fi]?=some ⟨n,n,.ife ec sa .done (.ret (.tup (esT fes)) .done),false⟩)(hps:n=ps.length)(hn:N.length=n)(cl:Cls K C)(nd:(fes.map (·.1)).Nodup)(hz:fes.length<1000)(na:∀q∈fes,QG K C q.1)(hA:∀env m fl m',ex (ZV fns gv k) gv sa env m≠.ok fl m')(hbody:∀(cdv:Value) (A:Around) (outer:List Wb) (s:Shared) (H:Hp) (E:XK),Room k (A.deeper (envOfC qual (Za st) s.heap.objs.size f cdv)) ->
   ∀(xe:Value->Shared->Prop) (pn:List (Addr×Obj)) (xr:XR),Go (asX (cxOf (CXF P w) P w K mg base N qual (Za st) f cdv A outer s H E) xe pn) xr->Bd (asX (cxOf (CXF P w) P w K mg base N qual (Za st) f cdv A outer s H E) xe pn) (Zv st) (tSeq (tIfS (tT K (ZV fns gv k) gv xr ec) (tS K (ZV fns gv k) gv xr n sa) Zje) (tFs K (ZV fns gv k) gv xr fes))):
  FnOk P w K mg base (CXF P w) (k+1) f fd ps (spI K fns gv (k+1) fi C (fes.map (·.1))):=by
 have len:∀{ws:List W}{m:Mem}{cm:List Addr}{H:Hp}{xr:XR}{post:W->List Addr->Mem->Hp->Prop},OkR K (ZV fns gv (k+1) fi ws m) xr cm m H post->ws.length=n/\OkR K ((ex (ZV fns gv k) gv (.ife ec sa .done (.ret (.tup (esT fes)) .done)) (ws.map some++Yn (n-n) none) m).bind λfl m'=>fin m.length false fl m') xr cm m H post:=λ{ws m cm H xr post} h=>by
  rw[ZV,hd]at h
  dsimp only at h
  by_cases hc:ws.length=n
  ·rw[if_pos hc]at h;exact⟨hc,h⟩
  ·rw[if_neg hc]at h;exact h.elim
 refine Zit F S (λvs H Q E ⟨H0,cm,m,ws,x,dx,vs',e,_,_,_,_,M,r,_,ho⟩=>by rw[e,Wh,<-r.length,<-hps,<-(len ho).1];rfl) (λcdv hcd A outer s H vs Q E hr hk ⟨H0,cm,m,ws,x,dx,vs',e,hx,hdx,ne,eH,M,r,ha,ho⟩=>?_)
 obtain⟨hl,ho⟩:=len ho
 rw[Uw]at ho
 refine⟨_,(hbody cdv A outer s H E (hr.deeper _) _ _ (xrE K E) Zis).h,?_⟩
 subst e eH
 have h1:upd H0 dx (.own x) x=none:=by rw[Zm (WR ne)];exact hx
 have x0:Ext cm m H0 cm m (upd (upd H0 dx (.own x)) x (.ins C dx [])):=(Ext.new hdx).trans (Ext.new h1)
 have M0:MemR K cm m (upd (upd H0 dx (.own x)) x (.ins C dx [])):=(M.new hdx).new h1
 have r0:RWs K cm m (upd (upd H0 dx (.own x)) x (.ins C dx [])) (.u::ws) (.ref x::vs'):=.cons Ur (r.ext x0 M M0)
 have hv:(V.ref x::vs').length=N.length:=by rw[<-r0.length,hl,hn]
 have hE:=Zhf (N:=N) r0 (j:=0) (by rw[hv,Uw])
 have hs:(L2.start N (.ref x::vs'))[0]?=some (some (.ref x)):=rfl
 have hw:∀(i:Nat) w,(((W.u::ws).map some++Yn 0 none):Env)[i]?=some (some w)->(∃t,w=.t t)∨w=.u:=λi w e=>by
  cases i with
  |zero=>cases e;exact .inr rfl
  |succ i =>
   have e:(ws.map some++[])[i]?=some (some w):=e
   rw[Ws,YJ]at e
   cases q:ws[i]? with
   |none=>rw[q]at e;cases e
   |some z =>
    rw[q]at e;cases e
    have:=YT.mp ha w (WP q)
    cases w with
    |t t=>exact .inl ⟨t,rfl⟩
    |_=>cases this
 have o1:=ho.bind0
 rw[ex,<-bind_assoc]at o1
 refine⟨_,cm,m,hE,M0,(o1.bind0.shift x0).mono λt cm1 m1 H1 x1 M1 o2=>?_⟩
 have x2:=x0.trans x1
 cases t with
 |true =>
  refine iteT ⟨by rw[ZdA (Ybv hv),hn],_,cm1,m1,hE.ext x1 M0 M1,M1,?_⟩
  have o3:=o2.bind0.shift x2
  cases q:ex (ZV fns gv k) gv sa ((W.u::ws).map some++Yn 0 none) m1 with
  |ok fl m'=>exact absurd q (hA _ _ _ _)
  |exc e m' =>
   have o3:OkR K (ex (ZV fns gv k) gv sa ((W.u::ws).map some++Yn 0 none) m1) (xrE K E) cm1 m1 H1 _:=o3
   rw[q]at o3
   exact o3
  |stuck =>
   have o3:OkR K (ex (ZV fns gv k) gv sa ((W.u::ws).map some++Yn 0 none) m1) (xrE K E) cm1 m1 H1 _:=o3
   rw[q]at o3
   exact o3
 |false =>
  refine iteF ?_
  have o3:OkR K (ex (ZV fns gv k) gv (.ret (.tup (esT fes)) .done) ((W.u::ws).map some++Yn 0 none) m1) (xrE K E) cm m H0 λfl _ m' _=>OkR K (fin m.length false fl m') (xrE K E) cm m H0 λw cm' m' H'=>∀ts vs2,w=.t (.tup ts)->RTs K cm' m' H' ts vs2->H' x=some (.ins C dx ((fes.map (·.1)).zip vs2))->Q .non H':=by
   have o2:OkR K ((ex (ZV fns gv k) gv .done ((W.u::ws).map some++Yn 0 none) m1).bind _) (xrE K E) cm m H0 _:=o2
   rw[ex]at o2
   exact o2
  rw[ex]at o3
  have o4:=o3.bind0
  rw[ev]at o4
  refine Zio cl hx hs hw fes (nms:=[]) (vs:=[]) (ts:=[]) x2 (hE.ext x1 M0 M1) M1 ((x1.keep x _ ZL (Z7 M0 ZL λ_ z=>by cases z)).1) rfl .nil nd (by simpa using hz) na o4.bind0 ?_
  intro ws' us vs2 cm' m' H' x4 M4 kk ew r2 hx2
  subst ew
  have kk:=kk.bind0
  rw[Zcn]at kk
  have kk:=OkR.to kk x4 M4
  split at kk
  ·have kk:=OkR.to kk x4 M4
   have kk:=OkR.to kk x4 M4
   obtain⟨Mt,st⟩:=Zfg M4 m.length
   exact OkR.to (a:=W.t (.tup us)) kk (Zfh M x4) Mt us vs2 rfl (Zf (λ_ _ z=>st _ _ z) r2) hx2
  ·exact kk.elim
end Mi
namespace Mi
open PySem PySem.Spec PyProof.Rows L2 PySem.W PySem.Calls
section
variable{prog:Yx}{w:World}{A:Around}{E:Value->Shared->Prop}{s:Shared}
theorem sk0{l q:Addr}{Q:Value->Shared->Prop}(hl:s.heap.IsList l #[])(h:∀D n h',s.heap.objs.size<=D->h'.get? D=some (seqObj "list" #[] n)->(∀b o,s.heap.get? b=some o->h'.get? b=some o)->Q (.ref D) { s with heap:=h' }):
  wpAny (model prog w) A (call (.builtin "sorted") [.ref l] [(U7 "key",.ref q)]) Q E s:=by
 refine call_function_entry_kw kind_sorted plain_sorted entry_sorted (ksk_s1 _ _) ?_
 unfold Builtin.«sorted»
 refine Yb (m:=checkCount "sorted" 1 1 _) (Yd (Yb (collect_list (vs:=[]) hl (Yb (Ybj ?_ (by simp))) (by simp))))
 generalize hh:((s.heap.push (seqObj "list" #[] 0)).update s.heap.objs.size (Ui (·++#[])))=h1
 have hsz:h1.objs.size=s.heap.objs.size+1:=by rw[<-hh,Heap.size_update,size_push']
 have kp:∀b o,s.heap.get? b=some o->h1.get? b=some o:=λb o e=>by
  rw[<-hh,Gp _ _ _ _ (Yv (Yp e))]
  exact Yc _ e
 have ho:(h1.push (seqObj "list" #[] 0)).get? (s.heap.objs.size+1)=some (seqObj "list" #[] 0):=by rw[<-hsz];exact Yl _ rfl
 show wpAny _ _ _ _ _ { s with heap:=h1.push (seqObj "list" #[] 0) }
 rw[hsz]
 refine Yb (Wg (wpAny_call_entry_kw slot_list_sort ⟨_,ho,rfl⟩ entry_list_sort ?_ (ksk_l1 _ _)))
 show wpAny (model prog w) A.in1.in1 (Builtin.«list.sort» ⟨[.ref (s.heap.objs.size+1)],[(U7 "key",.ref q)]⟩) _ _ _
 rw[ksk_t1]
 unfold ksk_tree
 refine Yb (listItems_at ho rfl ?_)
 refine Yb (VR ho rfl ?_ (Wd _) (Wd _))
 obtain⟨e1,ho1⟩:∃e1,((h1.push (seqObj "list" #[] 0)).update (s.heap.objs.size+1) (Ui λ_=>(#[]:Array Value))).get? (s.heap.objs.size+1)=some (seqObj "list" #[] e1):=⟨_,V8 ho λ_=>#[]⟩
 refine Yb (seqEpoch_at ho1 rfl ?_)
 refine Yb (wpAny_newTuple ?_ (Wd _))
 refine Yb (Ybj ?_ (Wd _))
 refine Wg ?_
 have kp2:∀b o,s.heap.get? b=some o->((h1.push (seqObj "list" #[] 0)).update (s.heap.objs.size+1) (Ui λ_=>(#[]:Array Value))).get? b=some o:=λb o e=>by
  rw[Gp _ _ _ _ (Yv (Y0 (Yp e)))]
  exact Yc _ (kp b o e)
 generalize ((h1.push (seqObj "list" #[] 0)).update (s.heap.objs.size+1) (Ui λ_=>(#[]:Array Value)))=h2 at ho1 kp2 ⊢
 show wpAny _ _ (ksk_rest _ _ false #[] e1 (.ref (h2.push (seqObj "tuple" #[] 0)).objs.size)) _ _ { s with heap:=(h2.push (seqObj "tuple" #[] 0)).push (seqObj "list" #[] 0) }
 have hk:=Yl (h2.push (seqObj "tuple" #[] 0)) (o:=seqObj "list" #[] 0) rfl
 have ho2:=Yc (seqObj "list" #[] 0) (Yc (seqObj "tuple" #[] 0) ho1)
 have hne:=Yv (Yp (Yc (seqObj "tuple" #[] 0) ho1))
 have kp3:∀b o,s.heap.get? b=some o->((h2.push (seqObj "tuple" #[] 0)).push (seqObj "list" #[] 0)).get? b=some o:=λb o e=>Yc _ (Yc _ (kp2 b o e))
 have kp4:∀b o,s.heap.get? b=some o->b<(h2.push (seqObj "tuple" #[] 0)).objs.size:=λb o e=>Yp (Yc (seqObj "tuple" #[] 0) (kp2 b o e))
 generalize (h2.push (seqObj "tuple" #[] 0)).objs.size=kS at hk hne kp4 ⊢
 generalize (h2.push (seqObj "tuple" #[] 0)).push (seqObj "list" #[] 0)=h3 at hk ho2 kp3 ⊢
 unfold ksk_rest
 refine Yb (Ve (Yb (Yd (Yb (listItems_at hk rfl ?_)))))
 unfold ksk_end
 refine Yb (Yd (Yb (Yd ?_)))
 have em:arrOf (Ybt Yb4 (if false=true then((#[]:Array Value).zip (#[]:Array Value)).reverse else(#[]:Array Value).zip (#[]:Array Value)) #[] 7 none)=#[]:=by
  show(if false=true then((#[]:Array Value).zip (#[]:Array Value)).reverse else(#[]:Array Value).zip (#[]:Array Value))=#[]
  simp
 have ef:failedOf (Ybt Yb4 (if false=true then((#[]:Array Value).zip (#[]:Array Value)).reverse else(#[]:Array Value).zip (#[]:Array Value)) #[] 7 none)=none:=rfl
 show wpAny _ _ (ksk_tail (s.heap.objs.size+1) false e1 (.ref kS) (Ybt Yb4 (if false=true then((#[]:Array Value).zip (#[]:Array Value)).reverse else(#[]:Array Value).zip (#[]:Array Value)) #[] 7 none)) _ _ _
 generalize Ybt Yb4 _ _ _ _=st at em ef ⊢
 unfold ksk_tail
 simp only[em,ef,Yz,if_false,Array.map_empty]
 refine Yb (VR hk rfl ?_ (Wd _) (Wd _))
 refine Yb (wpAny_letGo ?_)
 have na:(h3.update kS (Ui λ_=>(#[]:Array Value))).get? (s.heap.objs.size+1)=some (seqObj "list" #[] e1):=by rw[Gp _ _ _ _ hne];exact ho2
 refine Yb (seqEpoch_at na rfl ?_)
 refine Yb (VR na rfl ?_ (Wd _) (Wd _))
 simp only[bne_self_eq_false,Yz,if_false]
 refine Yd ?_
 refine⟨_,rfl,Yd ⟨_,rfl,h (s.heap.objs.size+1) _ _ (UJ _) (V8 na λ_=>#[]) λb o e=>?_⟩⟩
 rw[Gp _ _ _ _ (Yv (Y0 (Yp e))),Gp _ _ _ _ (Yv (kp4 b o e))]
 exact kp3 b o e
end
section
variable{X:Cx}{xr:XR}{call:Nat->List W->Mem->Res W}{gv:List T}{e:Expr}{ea:E}{p pl kp pos:Pos}{params:YaZ}{body:Expr}{scope:Scope}{q y:Str}
theorem Zmb{k:Nat}{cm:List Addr}{m:Mem}{H:Hp}{x:W}{v:V}{P:W->List Addr->Mem->Hp->Prop}(hk:k<2)(M:MemR X.K cm m H)(r:RW X.K cm m H x v)(o:OkR X.K (pur ((view x m).bind (empT k)) m) xr cm m H P):
  ∃a,v=.ref a/\H a=some (.lst [])/\OkR X.K (.ok (.t (if k=0 then .lst []else .dct [] [])) m) xr cm m H P:=by
 obtain⟨t,et,o⟩:=Ql o
 cases qv:view x m with
 |none=>rw[qv]at et;cases et
 |some u =>
  rw[qv]at et
  have et:empT k u=some t:=et
  unfold empT at et
  split at et
  ·obtain⟨a,us,rfl,g1,g2⟩:=Zq M r qv
   cases g2
   refine⟨a,rfl,g1,?_⟩
   rcases k with _|_|k
   ·cases et;exact o
   ·cases et;exact o
   ·omega
  ·rw[if_neg (by omega)]at et;cases et
  ·cases et
theorem ZhJ(LK:LamK X.K)(hq:X.env.qual=q++".<locals>.")(hn:Jw.contains q=true)(hcd:codeIn X.K X.env.code q=true)(hg:Gl X "sorted")(hm:X.mg "sorted" = none)(S:LamSc X y scope)(hdef:defaultsOf params X.env=([],[]))(ha:PE X e (tE X.K call gv xr ea))(he:notStar e=true):PE X (.Call (.Name "sorted" p) [e] [⟨some "key",.Lambda params body scope pl,kp⟩] pos) (tE X.K call gv xr (.emp 0 ea)):=by
 rintro pins s σ H Q I ⟨env,cm,m,hE,M,ho⟩
 rw[ev]at ho
 obtain⟨cl,hclos,hcl1,hcl2⟩:=Zct (scope:=scope) (env:=X.env) λx hx=>I.ok.has x (S.free x hx)
 refine WQ (J9 (u:=.builtin "sorted") I hg hm (by decide +kernel) ?_ (by decide) (by decide))
 have st:=ZW (env:=X.env) (es:=[]) he
 refine callWith_kw (thn ((Jv ha Zch st) pos pins s σ H (λus H1=>∃v cm1 m1 x,us=[v]/\MemR X.K cm1 m1 H1/\RW X.K cm1 m1 H1 x v/\OkR X.K (pur ((view x m1).bind (empT 0)) m1) xr cm1 m1 H1 (λw cm' m' H'=>∀v,RW X.K cm' m' H' w v->Q v H')) I ⟨env,cm,m,hE,M,ho.bind.mono λx cm1 m1 H1 x1 M1 o1 v rv=>⟨v,cm1,m1,x,rfl,M1,rv,o1⟩⟩) λus s1 h1=>?_) (by rw[st];rfl) (by rw[st];rfl) rfl rfl
 obtain⟨vs,H1,I1,r,v,cm1,m1,x,rfl,M1,rv,o1⟩:=h1
 obtain⟨u,rfl,ru⟩:=vals1 r
 show wpAny _ _ (evalAll [do let v <-eval (.Lambda params body scope pl) X.env;Gb pos;pure v]) _ _ s1
 refine wpAny_evalAll_cons (Yb (ZjV I1 M1 LK hq hn hcd hdef hclos λf pm cv ct H2 s2 I2 M2 x2 cf=>Yb (Uj (Yd (wpAny_evalAll_nil ?_)))))
 obtain⟨a,rfl,g1,o2⟩:=Zmb (by decide) M2 (rv.ext x2 M1 M2) (o1.shift x2)
 cases ru
 obtain⟨its,rv,pl,hz⟩:=I2.list (.of g1)
 cases rv
 refine sk0 pl.isList λD n h' hD gD kp=>?_
 have nD:H2 D=none:=I2.hok.fresh hD
 have J:=I2.laid (a:=D) (o:=.lst []) (t':=s2.toks) kp hD ⟨Wd _,[],n,.nil,gD⟩
 exact⟨.ref D,_,J.pins_of λp hp=>J.pin p (Ym _ (Yw _ hp)),rfl,OkR.to o2 (Ext.new nD) (M2.new nD) _ (RT.newLst M2 .nil nD)⟩
theorem nil_of{tg:Tg}{env:Env}{m m':Mem}{out:List T}:∀{ts:List T},Jd (turnF call gv .nil (.con .non)) tg ts env m=.ok out m'->ts=[]/\out=[]
 |[],h=>by cases h;exact⟨rfl,rfl⟩
 |t::ts,h=>by
  rw[Jd]at h
  split at h
  ·cases h
  ·obtain⟨xs,m1,h1,_⟩:=Zk h
   cases h1
theorem Zcs{node target iter:Expr}{pos':Pos}{N':List Str}{own:Nat}{keep:List Nat}{it:E}{tg:Tg}{use:Option (Value->Sem Unit)}{nw:Sem Value}{oN:Obj}{br:Addr->Addr->Wb->Sem YbN}(hc:X.calm=true)(h1:scOk scope X.env.scope=true)(h2:ZbD N' X.N own keep scope=true)(pi:PI X target iter (tI X.K call gv xr0 it))(hfs:∀x,Wu iter X.env x=pure x)(hcl:YbO node=[⟨target,iter,[],0⟩])(hal:oN.isFreed=false)(hcd:∀v,oN.data≠.cell v)(hd:∀it acc env,(model X.prog X.w).den (.compStart node 0 it acc env)=(Ya3 node 0 it acc env).onRaise (λx=>do VG x env;Gb Yab))(hA:∀it acc env,X.A.under (.compStart node 0 it acc env)=X.A)(hnw:∀{A:Around}{E:Value->Shared->Prop}{s:Shared}{Q:Value->Shared->Prop},Q (.ref s.heap.objs.size) { s with heap:=s.heap.push oN }->wpAny (model X.prog X.w) A nw Q E s)(hu2:∀it acc env,X.A.under (.compLoop node 0 it acc env)=X.A)(hd2:∀it acc env,(model X.prog X.w).den (.compLoop node 0 it acc env)=(Vs node 0 it acc env).onRaise (λx=>do VG x env;theTreesLotGoes x))(code:∀it D env,Vs node 0 (.ref it) (.ref D) env=Zfc target iter [] env (.ref it) (.compLoop node 0 (.ref it) (.ref D) env) (br it D env))(pg:∀cl C s2 H2 fp,PG (Qs X N' scope cl C s2 H2 fp) target (gT X.K tg))(hsl:∀i∈tgS tg,i<own){pins:List (Addr×Obj)}{s:Shared}{σ:L2.St}{H:Hp}{cm:List Addr}{m m':Mem}{env:Env}{out:List T}{Q:Value->Shared->Prop}(I:Inv X pins σ H s)(hE:EnvR X.K cm m H env σ)(M:MemR X.K cm m H)(ok:ev call gv (.comp own keep it tg .nil (.con .non)) env m=.ok (.t (.lst out)) m')(fin:∀(D C:Addr) (s3:Shared) (H3:Hp) (cm3:List Addr),Inv X pins σ H3 s3->s3.heap.get? D=some oN->FpOk X pins H3 D->X.s₀.heap.objs.size<=D->Ext cm m H cm3 m' H3->MemR X.K cm3 m' H3->(∃mm,s3.heap.Ns C mm)->FpOk X pins H3 C->D≠C ->
   Yb3 (model X.prog X.w) X.A X.xe use Q (.ref D) C (.ok .next) s3):
  wpAny (model X.prog X.w) X.A (YaK node scope X.env pos' nw false (eval iter X.env) use) Q X.xe s:=by
 have S:CompSc X N' scope:=ZiM h1
 have h2:=ZlV h2
 have hin:∀i∈tgS tg++innS (.con .non),i<own:=λi hi=>hsl i (by simpa[innS]using hi)
 have aK:∀D,AccK D (λh vs=>vs=([]:List V)/\h.get? D=some oN):=λD=>⟨λ⟨_,e⟩=>⟨oN,e,hcd⟩,λ⟨e,e2⟩ k=>⟨e,k _ e2⟩⟩
 refine Zcr (gs:=[]) (inner:=.con .non) (cs:=.nil) (Acc:=λD h vs=>vs=[]/\h.get? D=some oN) hc S h2.1 h2.2 (λx hx e=>by rw[S.look x hx,e]) pi hfs hcl hal hd hA hnw (λh=>⟨rfl,h⟩) (λ_ _ z=>by cases z) hin I hE M
  (λcl C s2 H2 fp D pins s σ H cm m m' env ts J it fp' tn J0 fD h0 hT ht hf hDf hE hn M hs ok hz=>?_) ok λD C s3 H3 cm3 vs I3 a3 f3 z3 k3 x3 M3 r3 n3 c3 ne=>fin D C s3 H3 cm3 I3 a3.2 f3 z3 x3 M3 n3 c3 ne
 have eo:=(nil_of ok).2
 subst eo
 exact Zc0 (Y:=Qs X N' scope cl C s2 H2 fp) (xr:=xr0) (call:=call) (gv:=gv) (cs:=.nil) (inner:=.con .non) (L:=0) (Pt:=λ_=>True) hc (λ_ _ z=>z) (aK D) (hu2 _ _ _) (hd2 _ _ _) (code _ _ _) (pg cl C s2 H2 fp) Ur (λ_ _ z=>by cases z) (λi hi=>by
  show i<N'.length
  rw[h2.1]
  have:=hin i hi
  omega) (λ_ _ _ _ _ _ ok _ _=>by cases ok) J0 fD h0 hT ht hf hDf hE hn M hs ok (Yj _) λ_ _=>Ur
theorem ZfG{k own:Nat}{keep:List Nat}{it:E}{tg:Tg}{cm:List Addr}{m:Mem}{H:Hp}{env:Env}{P:W->List Addr->Mem->Hp->Prop}(hk:k<2)(ho:OkR X.K (ev call gv (.emp k (.comp own keep it tg .nil (.con .non))) env m) xr cm m H P):
  ∃m',ev call gv (.comp own keep it tg .nil (.con .non)) env m=.ok (.t (.lst [])) m'/\OkR X.K (.ok (.t (if k=0 then .lst []else .dct [] [])) m') xr cm m H P:=by
 rw[ev]at ho
 cases h:ev call gv (.comp own keep it tg .nil (.con .non)) env m with
 |stuck=>rw[h]at ho;exact ho.elim
 |exc e m'=>exact absurd h (ZaK e m')
 |ok w m' =>
  obtain⟨out,rfl⟩:=ZbL h
  rw[h]at ho
  have ho:OkR X.K (pur (empT k (.lst out)) m') xr cm m H P:=ho
  cases out with
  |cons=>exact ho.elim
  |nil =>
   refine⟨m',rfl,?_⟩
   rcases k with _|_|k
   ·exact ho
   ·exact ho
   ·omega
theorem Zgj{k v target iter:Expr}{N':List Str}{own:Nat}{keep:List Nat}{it:E}{tg:Tg}(hc:X.calm=true)(h1:scOk scope X.env.scope=true)(h2:ZbD N' X.N own keep scope=true)(pi:PI X target iter (tI X.K call gv xr0 it))(fs:∀x,Wu iter X.env x=pure x)(pg:∀cl C s2 H2 fp,PG (Qs X N' scope cl C s2 H2 fp) target (gT X.K tg))(hsl:∀i∈tgS tg,i<own):PE X (.DictComp k v [⟨target,iter,[],0⟩] scope pos) (tE X.K call gv xr (.emp 1 (.comp own keep it tg .nil (.con .non)))):=by
 rintro pins s σ H Q I ⟨env,cm,m,hE,M,ho⟩
 obtain⟨m',h,ho⟩:=ZfG (by decide) ho
 rw[arm_eval_DictComp]
 refine Zcs (node:=.DictComp k v [⟨target,iter,[],0⟩] scope pos) (use:=none) (oN:={ cls:=.type "dict",data:=.dict #[] }) hc h1 h2 pi fs rfl rfl (λ_ z=>by cases z) (λ_ _ _=>rfl) (λ_ _ _=>rfl) (λh=>YZ h) (λ_ _ _=>rfl) (λ_ _ _=>rfl) (λ_ _ _=>compTurn_dict rfl rfl) pg hsl I hE M h λD C s3 H3 cm3 I3 a3 f3 z3 x3 M3 ⟨mm,hm⟩ c3 ne=>⟨mm,hm,λh' hs'=>?_⟩
 have hsys:(D==V0)=false:=by
  refine beq_eq_false_iff_ne.mpr λz=>?_
  obtain⟨o,es,ep,ho',_⟩:=I.mod.glob
  have h1:Yr<X.s₀.heap.objs.size:=Yp (I.ok.bs _ _ ho').1
  have h2:V0<Yr:=by decide
  rw[z]at z3
  exact absurd (Vd h2 h1) (YbW.mpr z3)
 have A:=Inv.adopt (ho:=.dK []) I3 f3 ⟨Wd _,hsys,[],.nil,_,#[],0,a3,⟨rfl,rfl,rfl⟩,rfl,YK (λ_ he=>by simp at he) ⟨Pairs.nil,List.nodup_nil⟩⟩
 have A2:Inv X pins σ (upd H3 D (.dK [])) { s3 with heap:=h' }:=A.turned (t':=s3.toks) (it:=C) (λb o hb e=>(hs'.2 b hb).trans e) (by rw[Zm (WR ne)];exact c3.1) c3.2.1 c3.2.2.2.1 c3.2.2.2.2.1 c3.2.2.2.2.2
 exact⟨.ref D,_,A2,rfl,OkR.to ho (x3.trans (.new f3.1)) (M3.new f3.1) _ (RT.dct (vs:=[]) ZL (Xe M3 f3.1) rfl rfl λi t u g1 g2=>by cases g2)⟩
theorem ZhI{elt target iter:Expr}{N':List Str}{own:Nat}{keep:List Nat}{it:E}{tg:Tg}{p2:Pos}(hc:X.calm=true)(hg1:Gl X "sorted")(hm1:X.mg "sorted" = none)(h1:scOk scope X.env.scope=true)(h2:ZbD N' X.N own keep scope=true)(pi:PI X target iter (tI X.K call gv xr0 it))(fs:∀x,Wu iter X.env x=pure x)(pg:∀cl C s2 H2 fp,PG (Qs X N' scope cl C s2 H2 fp) target (gT X.K tg))(hsl:∀i∈tgS tg,i<own):PE X (.Call (.Name "sorted" p) [.SetComp elt [⟨target,iter,[],0⟩] scope p2] [] pos) (tE X.K call gv xr (.emp 0 (.comp own keep it tg .nil (.con .non)))):=by
 rintro pins s σ H Q I ⟨env,cm,m,hE,M,ho⟩
 obtain⟨m',h,ho⟩:=ZfG (by decide) ho
 refine WQ (J9 I hg1 hm1 (show Ub "sorted" = some (.builtin "sorted")from by decide +kernel) ?_ (by decide) (by decide))
 refine Gj ?_ rfl rfl
 show wpAny _ _ (Ycf ((false,eval (.SetComp elt [⟨target,iter,[],0⟩] scope p2) X.env)::backTo pos [])) _ _ s
 refine Yah ?_
 rw[arm_eval_SetComp]
 refine Zcs (node:=.SetComp elt [⟨target,iter,[],0⟩] scope p2) (oN:={ cls:=.type "set",dict:=none,data:=.set #[] 0 (.fresh 0 0 (ledS X.w)) }) hc h1 h2 pi fs rfl rfl (λ_ z=>by cases z) (λ_ _ _=>rfl) (λ_ _ _=>rfl) Zdt (λ_ _ _=>rfl) (λ_ _ _=>rfl) (λ_ _ _=>Zec rfl rfl) pg hsl I hE M h λD C s3 H3 cm3 I3 a3 f3 z3 x3 M3 ⟨mm,hm⟩ fC ne=>⟨mm,hm,λh' hs'=>?_⟩
 have I4:Inv X pins σ H3 { s3 with heap:=h' }:=I3.turned (t':=s3.toks) (it:=C) (λb o hb e=>(hs'.2 b hb).trans e) fC.1 fC.2.1 fC.2.2.2.1 fC.2.2.2.2.1 fC.2.2.2.2.2
 refine Yd ?_
 refine ZfW (s:={ s3 with heap:=h' }) (D:=[]) (I4.ok.hd hc) (ZbI ((hs'.2 D ne).trans a3)) (by decide) λh2 tk2 d l out ss' ep hso hperm hsort hat hle kp2 ht=>?_
 obtain⟨ys,rfl,hv⟩:=Zdy hso
 have ey:ys=[]:=by
  have:=hperm.length_eq
  rw[Yi]at this
  exact Vu.mp this
 subst ey
 have I5:=I4.laid (t':=tk2) (o:=.lst []) kp2 hle ⟨Wd _,out,ep,hv,by simpa[seqObj]using hat⟩
 have hp:=I4.hok.fresh hle
 exact⟨.ref l,_,Inv.redraw I5,rfl,OkR.to ho (x3.trans (.new hp)) (M3.new hp) _ (RT.newLst M3 .nil hp)⟩
theorem op_eq0(hu:X.A.units+64<cLine):OpR X (Y7 .Eq) (λx y H Q=>∃a b,x=.ref a/\y=.ref b/\H a=some (.dK [])/\H b=some (.dK [])/\Q (.bl true) H):=by
 rintro pins s σ H x y v u Q I rx ry ⟨a,b,rfl,rfl,ha,hb,q⟩
 cases rx
 cases ry
 obtain⟨_,a1,ka,a2,a3⟩:=I.hok a _ ha
 obtain⟨_,b1,kb,b2,b3⟩:=I.hok b _ hb
 cases a2
 cases b2
 exact PySem.W.keq_eq (r:=true) a1 b1 a3 b3 (by omega) (λ_=>.nil) ⟨.bl true,H,I,rfl,q⟩
theorem Zhs{K:Frag}{cm:List Addr}{m:Mem}{H:Hp}{v:V}(h:RT K cm m H (.dct [] []) v):∃a,v=.ref a/\H a=some (.dK [])/\Zn cm m a:=by
 cases h with
 |dct h1 h2 h3 h4 h5=>exact⟨_,rfl,h1,h2⟩
theorem Zly{pd:Pos}(ha:PE X e (tE X.K call gv xr ea))(hu:X.A.units+64<cLine):PE X (.Compare e [.Eq] [.Dict [] [] pd] pos) (tE X.K call gv xr (.emp 2 ea)):=by
 refine PE.mono (ZhM (op_eq0 hu) ha (ZcT (call:=call) (gv:=gv) (xr:=xr0)) rfl) ?_
 rintro σ H Q ⟨env,cm,m,hE,M,ho⟩
 rw[ev]at ho
 refine⟨env,cm,m,hE,M,ho.bind.mono λw cm1 m1 H1 x1 M1 o1 v rv=>?_⟩
 obtain⟨t,et,o2⟩:=Ql o1
 obtain⟨rfl,rfl⟩:w=.t (.dct [] [])/\t=.bl true:=by
  cases w with
  |t u =>
   have et:empT 2 u=some t:=et
   unfold empT at et
   split at et
   ·cases et
   ·cases et;exact⟨rfl,rfl⟩
   ·cases et
  |c i =>
   exfalso
   unfold view at et
   dsimp only at et
   split at et
   ·rename_i ts _
    cases ts<;>cases et
   ·cases et
  |_=>cases et
 obtain⟨a,rfl,h1,h2⟩:=Zhs rv
 refine⟨env,cm1,m1,hE.ext x1 M M1,M1,?_⟩
 have e0:ev call gv (.dsp .nil .nil) env m1=.ok (.t (.dct [] [])) m1:=by simp only[ev,evs,Res.bind,dspT]
 rw[e0]
 intro cm2 H2 x2 M2 v2 rv2
 obtain⟨b,rfl,g1,g2⟩:=Zhs rv2
 exact⟨a,b,rfl,rfl,(x2.keep a _ h1 h2).1,g1,OkR.to o2 x2 M2 _ (.bl true)⟩
end
end Mi
end
namespace My
open Mi
noncomputable def QH:E:=(.emit (.cmp .In (.var 0) (.gl 0)))
noncomputable def JK:E:=(.comp 1 [] (.var 0) (.nm 0) .nil QH)
noncomputable def Qe:S:=(.ret (.and (.cmp .Gt (.blt .len (.cons (.var 0) .nil)) (.con (.int 0))) (.and (.cmp .NotIn (.var 0) (.gl 2)) (.blt .all (.cons JK .nil)))) .done)
noncomputable def QT:S:=(.ret (.and (.isi (.var 0) .str) (.and (.cmp .LtE (.blt .len (.cons (.var 0) .nil)) (.gl 1)) (.call 0 (.cons (.var 0) .nil)))) .done)
noncomputable def ZaP:S:=(.ret (.and (.isi (.var 0) .int) (.not (.isi (.var 0) .bool))) .done)
noncomputable def Xi:S:=(.ret (.and (.call 2 (.cons (.var 0) .nil)) (.chn .LtE .LtE (.con (.int 0)) (.var 0) (.gl 3))) .done)
noncomputable def ZbT:S:=(.ret (.call 3 (.cons (.var 0) .nil)) .done)
noncomputable def QV:S:=(.ret (.and (.isi (.var 0) .str) (.cmp .In (.var 0) (.var 1))) .done)
noncomputable def QD:S:=(.ret (.cmp .Eq (.blt .lenset (.cons (.var 0) .nil)) (.blt .len (.cons (.var 0) .nil))) .done)
noncomputable def ZeM:E:=(.emit (.call 5 (.cons (.var 0) (.cons (.gl 4) .nil))))
noncomputable def Ze0:E:=(.comp 1 [] (.var 0) (.nm 0) .nil ZeM)
noncomputable def ZbU:S:=(.ife (.or (.not (.isi (.var 0) .tuple)) (.cmp .Gt (.blt .len (.cons (.var 0) .nil)) (.gl 5))) (.ret (.con (.bl false)) .done) .done (.ret (.and (.blt .all (.cons Ze0 .nil)) (.call 6 (.cons (.var 0) .nil))) .done))
noncomputable def Zc5:E:=(.emit (.call 1 (.cons (.var 0) .nil)))
noncomputable def Zdm:E:=(.comp 1 [] (.var 0) (.nm 0) .nil Zc5)
noncomputable def Xj:S:=(.ife (.or (.not (.isi (.var 0) .tuple)) (.cmp .Gt (.blt .len (.cons (.var 0) .nil)) (.gl 6))) (.ret (.con (.bl false)) .done) .done (.ret (.and (.blt .all (.cons Zdm .nil)) (.call 6 (.cons (.var 0) .nil))) .done))
noncomputable def ZgF:E:=(.emit nev)
noncomputable def ZgT:E:=(.comp 3 [] (.var 2) (.tp [0,1,2]) .nil ZgF)
noncomputable def Zbi:S:=(.asg 2 (.emp 0 (.var 1)) (.ret ZgT .done))
noncomputable def ZeZ:E:=(.comp 1 [] (.var 1) (.nm 0) .nil (.con .non))
noncomputable def ZbS:S:=(.asg 2 (.lst .nil) (.forr (.nm 3) (.emp 0 ZeZ) .stk (.ret (.blt .sorted (.cons (.var 2) .nil)) .done)))
noncomputable def Zb8:E:=(.comp 3 [] (.var 0) (.tp [0,1,2]) .nil (.con .non))
noncomputable def JZ:S:=(.ret (.emp 1 Zb8) .done)
noncomputable def JX:S:=(.asg 2 (.call 11 (.cons (.var 1) .nil)) (.asg 3 (.dsp .nil .nil) (.forr (.nm 4) (.call 10 (.cons (.var 0) (.cons (.var 1) .nil))) .stk (.ret (.var 3) .done))))
noncomputable def ZS:S:=(.ife (.or (.not (.isi (.var 0) .tuple)) (.cmp .NotEq (.blt .len (.cons (.var 0) .nil)) (.con (.int 2)))) (.ret (.con (.bl false)) .done) .done (.ret (.and (.call 4 (.cons (.ix (.var 0) (.con (.int 0))) .nil)) (.and (.call 4 (.cons (.ix (.var 0) (.con (.int 1))) .nil)) (.cmp .Lt (.ix (.var 0) (.con (.int 0))) (.ix (.var 0) (.con (.int 1)))))) .done))
noncomputable def XJ:E:=(.emit (.cmp .Lt (.ix (.ix (.var 1) (.bin .Sub (.var 0) (.con (.int 1)))) (.con (.int 1))) (.ix (.ix (.var 1) (.var 0)) (.con (.int 0)))))
noncomputable def Zad:E:=(.comp 1 [0] (.blt .range2 (.cons (.con (.int 1)) (.cons (.blt .len (.cons (.var 0) .nil)) .nil))) (.nm 0) .nil XJ)
noncomputable def Zc4:E:=(.emit (.call 13 (.cons (.var 0) .nil)))
noncomputable def Zac:E:=(.comp 1 [] (.var 0) (.nm 0) .nil Zc4)
noncomputable def QW:S:=(.ife (.or (.not (.isi (.var 0) .tuple)) (.or (.cmp .Gt (.blt .len (.cons (.var 0) .nil)) (.gl 7)) (.not (.blt .all (.cons Zac .nil))))) (.ret (.con (.bl false)) .done) .done (.ret (.blt .all (.cons Zad .nil)) .done))
noncomputable def ZQ:E:=(.or (.not (.call 7 (.cons (.var 1) .nil))) (.or (.not (.call 8 (.cons (.var 2) .nil))) (.not (.call 14 (.cons (.var 3) .nil)))))
noncomputable def Qn:List (Gz×E):=[(("rule" : Gz),(.var 1)),(("borne" : Gz),(.var 2)),(("quiet" : Gz),(.var 3)),(("time" : Gz),(.con .non)),(("offers" : Gz),(.lst .nil)),(("lefts" : Gz),(.lst .nil)),(("ends" : Gz),(.lst .nil)),(("rows" : Gz),(.lst .nil))]
noncomputable def Z1:S:=(.ife ZQ (.rse 140 [] (.cons (.con (.str [110,111,32,114,117,108,101,44,32,110,111,32,107,105,110,100,115,32,98,111,114,110,101,44,32,111,114,32,110,111,32,113,117,105,101,116,32,116,105,109,101,115])) .nil) .done) .done (.ret (.tup (esT Qn)) .done))
noncomputable def JD:S:=(.ret (.fld (.var 0) 710 "time") .done)
noncomputable def JC:S:=(.ret (.call 9 (.cons (.fld (.var 0) 710 "rule") (.cons (.mcal 19 710 "waiters" (.var 0) .nil) .nil))) .done)
noncomputable def XM:E:=(.emit nev)
noncomputable def Zae:E:=(.comp 1 [] (.fld (.var 0) 710 "rows") (.nm 0) (.cons nev .nil) XM)
noncomputable def Qf:S:=(.ret Zae .done)
noncomputable def ZaE:E:=(.emit nev)
noncomputable def ZaO:E:=(.comp 1 [] (.var 1) (.nm 0) .nil ZaE)
noncomputable def ZaD:E:=(.emit nev)
noncomputable def ZaN:E:=(.comp 2 [] (.blt .enum (.cons (.tr (.fld (.var 0) 710 "ends")) .nil)) (.tp [0,1]) (.cons nev .nil) ZaD)
noncomputable def Qo:S:=(.asg 1 ZaN (.ret ZaO .done))
noncomputable def Q9:S:=(.ret (.call 12 (.cons (.fld (.var 0) 710 "borne") (.cons (.mcal 19 710 "waiters" (.var 0) .nil) .nil))) .done)
noncomputable def Ja:S:=(.ret (.blt .list (.cons (.fld (.var 0) 710 "rows") .nil)) .done)
noncomputable def Jj:S:=(.ife (.cmp .Lt (.var 1) (.blt .len (.cons (.var 0) .nil))) (.ret (.ix (.var 0) (.var 1)) .done) .done (.ret (.con (.int 0)) .done))
noncomputable def ZbW:S:=(.ret (.cel (.cons (.bin .Mult (.var 0) (.blt .int (.cons (.cmp .GtE (.var 0) (.bin .Pow (.con (.int 10)) (.con (.int 18)))) .nil))) (.cons (.bin .Mod (.var 0) (.con (.int 2147483647))) (.cons (.con (.int 0)) .nil)))) .done)
noncomputable def ZbY:S:=(.ife (.cmp .Gt (.ix (.var 0) (.con (.int 0))) (.con (.int 0))) (.asg 2 (.bin .Mod (.ix (.var 0) (.con (.int 0))) (.var 1)) (.set (.var 0) (.con (.int 0)) (.bin .FloorDiv (.ix (.var 0) (.con (.int 0))) (.var 1)) (.ret (.var 2) .done))) .done (.set (.var 0) (.con (.int 2)) (.bin .Add (.ix (.var 0) (.con (.int 2))) (.con (.int 1))) (.asg 3 (.bin .Mod (.bin .Mult (.bin .Add (.bin .Add (.ix (.var 0) (.con (.int 1))) (.bin .Mult (.con (.int 7919)) (.ix (.var 0) (.con (.int 2))))) (.con (.int 1))) (.con (.int 48271))) (.con (.int 2147483647))) (.asg 3 (.bin .Mod (.bin .Mult (.var 3) (.bin .Add (.bin .FloorDiv (.var 3) (.con (.int 1009))) (.con (.int 69621)))) (.con (.int 2147483647))) (.ret (.bin .Mod (.bin .Mod (.bin .Mult (.var 3) (.bin .Add (.bin .FloorDiv (.var 3) (.con (.int 2003))) (.con (.int 40692)))) (.con (.int 2147483399))) (.var 1)) .done)))))
noncomputable def Xk:S:=(.ret (.ix (.var 1) (.call 24 (.cons (.var 0) (.cons (.blt .len (.cons (.var 1) .nil)) .nil)))) .done)
noncomputable def Zd4:S:=(.expr (.mth .append (.var 2) (.cons (.mth .popat (.var 1) (.cons (.call 24 (.cons (.var 0) (.cons (.blt .len (.cons (.var 1) .nil)) .nil))) .nil)) .nil)) .done)
noncomputable def ZbX:S:=(.asg 1 (.cel (.cons (.con (.str [104,101,97,118,121])) (.cons (.con (.str [103,114,101,97,116])) (.cons (.con (.str [115,109,97,108,108])) (.cons (.con (.str [115,111,111,110])) .nil))))) (.asg 2 (.cel .nil) (.forr (.nm 3) (.blt .range1 (.cons (.ix (.lst (.cons (.con (.int 0)) (.cons (.con (.int 1)) (.cons (.con (.int 1)) (.cons (.con (.int 2)) (.cons (.con (.int 3)) .nil)))))) (.call 24 (.cons (.var 0) (.cons (.con (.int 5)) .nil)))) .nil)) Zd4 (.ret (.blt .tuple (.cons (.var 2) .nil)) .done))))
noncomputable def Zah:S:=(.ret (.ix (.lst (.cons (.tup .nil) (.cons (.tup .nil) (.cons (.tup (.cons (.con (.str [114,121,101])) .nil)) (.cons (.tup (.cons (.con (.str [111])) (.cons (.con (.str [114,121,101])) .nil))) (.cons (.tup (.cons (.con (.str [111,97,116])) (.cons (.con (.str [114,121,101])) (.cons (.con (.str [111])) (.cons (.con (.str [119,104,101,97,116])) .nil))))) .nil)))))) (.call 24 (.cons (.var 0) (.cons (.con (.int 5)) .nil)))) .done)
noncomputable def Jf:S:=(.asg 4 (.bin .Add (.bin .Add (.var 2) (.con (.int 1))) (.ix (.lst (.cons (.call 24 (.cons (.var 0) (.cons (.con (.int 3)) .nil))) (.cons (.call 24 (.cons (.var 0) (.cons (.bin .Mult (.con (.int 5)) (.bin .Pow (.con (.int 10)) (.con (.int 7)))) .nil))) .nil))) (.call 24 (.cons (.var 0) (.cons (.con (.int 2)) .nil))))) (.asg 2 (.bin .Add (.bin .Add (.var 4) (.con (.int 1))) (.ix (.lst (.cons (.call 24 (.cons (.var 0) (.cons (.con (.int 3)) .nil))) (.cons (.call 24 (.cons (.var 0) (.cons (.bin .Mult (.con (.int 5)) (.bin .Pow (.con (.int 10)) (.con (.int 7)))) .nil))) .nil))) (.call 24 (.cons (.var 0) (.cons (.con (.int 2)) .nil))))) (.expr (.mth .append (.var 1) (.cons (.tup (.cons (.var 4) (.cons (.var 2) .nil))) .nil)) .done)))
noncomputable def Zag:S:=(.asg 1 (.cel .nil) (.asg 2 (.neg (.con (.int 1))) (.forr (.nm 3) (.blt .range1 (.cons (.ix (.lst (.cons (.call 24 (.cons (.var 0) (.cons (.con (.int 4)) .nil))) (.cons (.con (.int 8)) (.cons (.call 24 (.cons (.var 0) (.cons (.con (.int 9)) .nil))) .nil)))) (.call 24 (.cons (.var 0) (.cons (.con (.int 3)) .nil)))) .nil)) Jf (.ret (.blt .tuple (.cons (.var 1) .nil)) .done))))
noncomputable def Xa:E:=(.emit (.tup (.cons (.bin .Mult (.con (.int 10)) (.var 0)) (.cons (.bin .Add (.bin .Mult (.con (.int 10)) (.var 0)) (.con (.int 5))) .nil))))
noncomputable def Qx:E:=(.comp 1 [] (.blt .range1 (.cons (.con (.int 9)) .nil)) (.nm 0) .nil Xa)
noncomputable def Qw:S:=(.asg 2 (.var 4) .done)
noncomputable def QF:S:=(.asg 2 (.con (.int 0)) (.forr (.tp [3,4]) (.var 1) Qw (.asg 5 (.cel (.cons (.tup (.cons (.bin .Add (.var 2) (.con (.int 5))) (.cons (.bin .Add (.var 2) (.con (.int 5))) .nil))) (.cons (.tup (.cons (.bin .Add (.var 2) (.con (.int 9))) (.cons (.bin .Add (.var 2) (.con (.int 5))) .nil))) (.cons (.tup (.cons (.bin .Add (.var 2) (.con (.int 1))) (.cons (.bin .Add (.bin .Pow (.con (.int 10)) (.con (.int 9))) (.con (.int 1))) .nil))) (.cons (.tup (.cons (.neg (.con (.int 1))) (.cons (.con (.int 3)) .nil))) (.cons (.tup (.cons (.bin .Add (.var 2) (.con (.int 1))) (.cons (.con (.bl true)) .nil))) .nil)))))) (.expr (.mth .append (.var 5) (.cons (.tup (.cons (.con .non) (.cons (.bin .Add (.var 2) (.con (.int 3))) .nil))) .nil)) (.asg 5 (.celA (.var 5) (.lst (.cons (.tup (.cons (.con (.str [49])) (.cons (.con (.str [50])) .nil))) (.cons (.tup (.cons (.bin .Add (.var 2) (.con (.int 1))) .nil)) (.cons (.tup (.cons (.bin .Add (.var 2) (.con (.int 1))) (.cons (.bin .Add (.var 2) (.con (.int 2))) (.cons (.bin .Add (.var 2) (.con (.int 3))) .nil)))) (.cons (.lst (.cons (.bin .Add (.var 2) (.con (.int 1))) (.cons (.bin .Add (.var 2) (.con (.int 2))) .nil))) (.cons (.con .non) (.cons (.con (.int 7)) (.cons (.con (.str [51,45,55])) .nil))))))))) (.asg 5 (.celA (.var 5) (.lst (.cons (.tup (.cons (.bin .Add (.var 2) (.con (.int 2))) (.cons (.lst (.cons (.bin .Add (.var 2) (.con (.int 5))) .nil)) .nil))) .nil))) (.asg 6 (.cel (.cons (.blt .list (.cons (.var 1) .nil)) (.cons (.con .non) (.cons (.con (.str [])) (.cons (.con (.int 5)) (.cons (.con (.bl true)) (.cons (.dsp .nil .nil) (.cons (.con (.str [51,45,55])) (.cons (.bin .Add (.var 1) (.tup (.cons (.call 25 (.cons (.var 0) (.cons (.var 5) .nil))) .nil))) .nil))))))))) (.expr (.mth .append (.var 6) (.cons (.bin .Add (.tup (.cons (.call 25 (.cons (.var 0) (.cons (.var 5) .nil))) .nil)) (.var 1)) .nil)) (.ife (.cmp .NotEq (.var 1) (.tup .nil)) (.asg 7 (.tup (.cons (.ix (.ix (.var 1) (.neg (.con (.int 1)))) (.con (.int 1))) (.cons (.bin .Add (.ix (.ix (.var 1) (.neg (.con (.int 1)))) (.con (.int 1))) (.con (.int 4))) .nil))) (.asg 6 (.celA (.var 6) (.lst (.cons (.bin .Add (.var 1) (.tup (.cons (.var 7) .nil))) (.cons (.bin .Add (.var 1) (.slc (.var 1) .hole (.con (.int 1)))) (.cons (.bin .Add (.var 1) (.tup (.cons (.tup (.cons (.ix (.ix (.var 1) (.neg (.con (.int 1)))) (.con (.int 0))) (.cons (.bin .Add (.ix (.ix (.var 1) (.neg (.con (.int 1)))) (.con (.int 1))) (.con (.int 1))) .nil))) .nil))) .nil))))) (.expr (.mth .append (.var 6) (.cons (.bin .Add (.slc (.var 1) .hole (.neg (.con (.int 1)))) (.tup (.cons (.rev (.ix (.var 1) (.neg (.con (.int 1))))) .nil))) .nil)) .done))) .done (.asg 8 (.blt .tuple (.cons Qx .nil)) (.ret (.call 25 (.cons (.var 0) (.cons (.bin .Add (.var 6) (.lst (.cons (.var 8) .nil))) .nil))) .done)))))))))))
noncomputable def ZbH:S:=(.asg 5 (.xis (.var 4) [] [140]) (.asg 3 (.tup (.cons (.xis (.var 4) [140] []) (.cons (.xis (.var 4) [140] []) (.cons (.or (.var 5) (.xis (.var 4) [] [140])) .nil)))) .done))
noncomputable def XD:S:=(.expr (.make 15 710 ["rule","borne","quiet","time","offers","lefts","ends","rows"] (.cons (.var 0) (.cons (.var 1) (.cons (.var 2) .nil)))) .done)
noncomputable def ZbV:S:=(.asg 3 (.con .non) (.tri XD [140] (some 4) ZbH (.ret (.var 3) .done)))
noncomputable def ZbZ:S:=(.ife (.or (.cmp .IsNot (.mcal 16 710 "now" (.var 0) .nil) (.con .non)) (.or (.cmp .NotEq (.mcal 17 710 "row" (.var 0) .nil) (.lst .nil)) (.or (.cmp .NotEq (.mcal 21 710 "book" (.var 0) .nil) (.lst .nil)) (.cmp .NotEq (.mcal 18 710 "meetings" (.var 0) .nil) (.lst .nil))))) (.ret (.con (.bl false)) .done) .done (.ret (.and (.cmp .Eq (.mcal 19 710 "waiters" (.var 0) .nil) (.lst .nil)) (.emp 2 (.mcal 20 710 "rest" (.var 0) .nil))) .done))
noncomputable def Zip:E:=(.emit (.ix (.lst (.cons (.ix (.var 1) (.var 0)) (.cons (.ix (.var 2) (.var 0)) .nil))) (.blt .int (.cons (.cmp .In (.var 0) (.tup (.cons (.var 3) (.cons (.var 4) .nil)))) .nil))))
noncomputable def ZiY:E:=(.comp 1 [3,6,7,8] (.blt .range1 (.cons (.con (.int 3)) .nil)) (.nm 0) .nil Zip)
noncomputable def Zc1:S:=(.asg 2 (.call 23 (.cons (.var 1) .nil)) (.asg 3 (.lst (.cons (.call 26 (.cons (.var 2) .nil)) (.cons (.call 27 (.cons (.var 2) .nil)) (.cons (.call 28 (.cons (.var 2) .nil)) .nil)))) (.ife (.or (.cmp .IsNot (.call 14 (.cons (.ix (.var 3) (.con (.int 2))) .nil)) (.con (.bl true))) (.cmp .IsNot (.call 30 (.cons (.ix (.var 3) (.con (.int 0))) (.cons (.ix (.var 3) (.con (.int 1))) (.cons (.ix (.var 3) (.con (.int 2))) .nil)))) (.con .non))) (.ret (.con (.bl false)) .done) .done (.ife (.not (.call 31 (.cons (.make 15 710 ["rule","borne","quiet","time","offers","lefts","ends","rows"] (.cons (.ix (.var 3) (.con (.int 0))) (.cons (.ix (.var 3) (.con (.int 1))) (.cons (.ix (.var 3) (.con (.int 2))) .nil)))) .nil))) (.ret (.con (.bl false)) .done) .done (.asg 4 (.lst (.cons (.tup (.cons (.con (.str [104,101,97,118,121])) (.cons (.con (.str [104,101,97,118,121])) .nil))) (.cons (.tup (.cons (.con (.str [108,105,103,104,116])) .nil)) (.cons (.lst (.cons (.con (.str [104,101,97,118,121])) .nil)) (.cons (.con .non) (.cons (.tup (.cons (.con (.str [104,101,97,118,121])) (.cons (.con (.str [103,114,101,97,116])) (.cons (.con (.str [115,109,97,108,108])) (.cons (.con (.str [115,111,111,110])) .nil))))) (.cons (.con (.str [104,101,97,118,121])) .nil))))))) (.asg 5 (.lst (.cons (.tup (.cons (.con (.str [114,121,101])) (.cons (.con (.str [114,121,101])) .nil))) (.cons (.tup (.cons (.con (.str [97,110,121])) .nil)) (.cons (.lst (.cons (.con (.str [114,121,101])) .nil)) (.cons (.con .non) (.cons (.tup (.cons (.con (.str [97])) (.cons (.con (.str [98])) (.cons (.con (.str [99])) (.cons (.con (.str [100])) (.cons (.con (.str [101])) .nil)))))) (.cons (.con (.str [114,121,101])) (.cons (.tup (.cons (.con (.int 7)) .nil)) (.cons (.tup (.cons (.con (.str [82,121,101])) .nil)) .nil))))))))) (.asg 6 (.lst (.cons (.call 25 (.cons (.var 2) (.cons (.var 4) .nil))) (.cons (.call 25 (.cons (.var 2) (.cons (.var 5) .nil))) (.cons (.call 29 (.cons (.var 2) (.cons (.ix (.var 3) (.con (.int 2))) .nil))) .nil)))) (.ife (.cmp .IsNot (.call 14 (.cons (.ix (.var 6) (.con (.int 2))) .nil)) (.con (.bl false))) (.ret (.con (.bl false)) .done) .done (.asg 7 (.call 24 (.cons (.var 2) (.cons (.con (.int 3)) .nil))) (.asg 8 (.call 24 (.cons (.var 2) (.cons (.con (.int 3)) .nil))) (.asg 9 ZiY (.ife (.cmp .NotEq (.call 30 (.cons (.ix (.var 9) (.con (.int 0))) (.cons (.ix (.var 9) (.con (.int 1))) (.cons (.ix (.var 9) (.con (.int 2))) .nil)))) (.tup (.cons (.con (.bl true)) (.cons (.con (.bl true)) (.cons (.con (.bl false)) .nil))))) (.ret (.con (.bl false)) .done) .done .done))))))))))))
noncomputable def Ze5:S:=(.forr (.nm 1) (.bin .Add (.lst (.cons (.call 22 (.cons (.var 0) (.cons (.con (.int 0)) .nil))) .nil)) (.slc (.var 0) (.con (.int 1)) (.con (.int 12)))) Zc1 (.ret (.con (.bl true)) .done))
noncomputable def fns:List Fn:=[⟨1,1,Qe,false⟩,⟨1,1,QT,false⟩,⟨1,1,ZaP,false⟩,⟨1,1,Xi,false⟩,⟨1,1,ZbT,false⟩,⟨2,2,QV,false⟩,⟨1,1,QD,false⟩,⟨1,1,ZbU,false⟩,⟨1,1,Xj,false⟩,⟨2,3,Zbi,false⟩,⟨2,8,ZbS,false⟩,⟨1,1,JZ,false⟩,⟨2,6,JX,false⟩,⟨1,1,ZS,false⟩,⟨1,1,QW,false⟩,⟨4,4,Z1,false⟩,⟨1,1,JD,false⟩,⟨1,1,JC,false⟩,⟨1,1,Qf,false⟩,⟨1,2,Qo,false⟩,⟨1,1,Q9,false⟩,⟨1,1,Ja,false⟩,⟨2,2,Jj,false⟩,⟨1,1,ZbW,true⟩,⟨2,4,ZbY,false⟩,⟨2,2,Xk,false⟩,⟨1,4,ZbX,false⟩,⟨1,1,Zah,false⟩,⟨1,5,Zag,false⟩,⟨2,9,QF,false⟩,⟨3,6,ZbV,false⟩,⟨1,1,ZbZ,false⟩,⟨1,10,Ze5,false⟩]
noncomputable def gv:List T:=[(.str [97,98,99,100,101,102,103,104,105,106,107,108,109,110,111,112,113,114,115,116,117,118,119,120,121,122]),(.int 8),(.tup [(.str [97,110,121]),(.str [105,115]),(.str [98,121]),(.str [110,111,116]),(.str [97,110,100]),(.str [111,114])]),(.int 1000000000),(.tup [(.str [104,101,97,118,121]),(.str [103,114,101,97,116]),(.str [115,109,97,108,108]),(.str [115,111,111,110])]),(.int 3),(.int 4),(.int 8)]
noncomputable abbrev cf:=ZV fns gv
noncomputable abbrev CF(k:Nat)(b:S)(p q:Nat)(c:Bool):Prop:=∀(n:Nat) (ws:List W) (m:Mem),cf (n+1) k ws m=if ws.length=p then(ex (cf n) gv b (ws.map some++Yn (q-p) none) m).bind λfl m'=>fin m.length c fl m' else .stuck
theorem ZbN:CF 0 Qe 1 1 false:=λ_ _ _=>rfl
theorem Zcv:CF 1 QT 1 1 false:=λ_ _ _=>rfl
theorem ZeU:CF 2 ZaP 1 1 false:=λ_ _ _=>rfl
theorem Zee:CF 3 Xi 1 1 false:=λ_ _ _=>rfl
theorem ZgP:CF 4 ZbT 1 1 false:=λ_ _ _=>rfl
theorem Zed:CF 5 QV 2 2 false:=λ_ _ _=>rfl
theorem Zdh:CF 6 QD 1 1 false:=λ_ _ _=>rfl
theorem ZgQ:CF 7 ZbU 1 1 false:=λ_ _ _=>rfl
theorem Zeg:CF 8 Xj 1 1 false:=λ_ _ _=>rfl
theorem ZiP:CF 9 Zbi 2 3 false:=λ_ _ _=>rfl
theorem ZgO:CF 10 ZbS 2 8 false:=λ_ _ _=>rfl
theorem Zdg:CF 11 JZ 1 1 false:=λ_ _ _=>rfl
theorem Zdf:CF 12 JX 2 6 false:=λ_ _ _=>rfl
theorem Za8:CF 13 ZS 1 1 false:=λ_ _ _=>rfl
theorem Zef:CF 14 QW 1 1 false:=λ_ _ _=>rfl
theorem Ji:CF 15 Z1 4 4 false:=λ_ _ _=>rfl
theorem Zei:CF 16 JD 1 1 false:=λ_ _ _=>rfl
theorem Zeh:CF 17 JC 1 1 false:=λ_ _ _=>rfl
theorem ZaL:CF 18 Qf 1 1 false:=λ_ _ _=>rfl
theorem Za9:CF 19 Qo 1 2 false:=λ_ _ _=>rfl
theorem Zdj:CF 20 Q9 1 1 false:=λ_ _ _=>rfl
theorem Zdk:CF 21 Ja 1 1 false:=λ_ _ _=>rfl
theorem ZeV:CF 22 Jj 2 2 false:=λ_ _ _=>rfl
theorem Zkg:CF 23 ZbW 1 1 true:=λ_ _ _=>rfl
theorem Zki:CF 24 ZbY 2 4 false:=λ_ _ _=>rfl
theorem ZfI:CF 25 Xk 2 2 false:=λ_ _ _=>rfl
theorem Zkh:CF 26 ZbX 1 4 false:=λ_ _ _=>rfl
theorem ZiR:CF 27 Zah 1 1 false:=λ_ _ _=>rfl
theorem ZiQ:CF 28 Zag 1 5 false:=λ_ _ _=>rfl
theorem Zdi:CF 29 QF 2 9 false:=λ_ _ _=>rfl
theorem Zkf:CF 30 ZbV 3 6 false:=λ_ _ _=>rfl
theorem ZgR:CF 31 ZbZ 1 1 false:=λ_ _ _=>rfl
theorem cf_law:CF 32 Ze5 1 10 false:=λ_ _ _=>rfl
theorem ZgG:gv[0]?=some (.str [97,98,99,100,101,102,103,104,105,106,107,108,109,110,111,112,113,114,115,116,117,118,119,120,121,122]):=rfl
theorem JV:gv[1]?=some (.int 8):=rfl
theorem XN:gv[2]?=some (.tup [(.str [97,110,121]),(.str [105,115]),(.str [98,121]),(.str [110,111,116]),(.str [97,110,100]),(.str [111,114])]):=rfl
theorem XQ:gv[3]?=some (.int 1000000000):=rfl
theorem Zc6:gv[7]?=some (.int 8):=rfl
end My
section
set_option maxRecDepth 20000
namespace My
open Mi
noncomputable def IsSt(s:List T):Prop:=∃a b c:Int,s=[.int a,.int b,.int c]
noncomputable def put(m:Mem)(i:Nat)(s:List T):Mem:=m.set i (some (false,s))
theorem Zkw{m:Mem}{i:Nat}{s:List T}(h:i<m.length):(put m i s)[i]?=some (some (false,s)):=YB h
theorem Z3{m:Mem}{i:Nat}{s:List T}:(put m i s).length=m.length:=Wt
theorem Zhn{m:Mem}{i:Nat}{s s':List T}:(put m i s).set i (some (false,s'))=put m i s':=List.set_set _
theorem mulL{i j:Int}(h:0<=i)(h':i<4294967296):ZaA i j=true:=by
 have:i.natAbs<2^64:=by omega
 simp[ZaA,small,this]
theorem mulR{i j:Int}(h:0<=j)(h':j<4294967296):ZaA i j=true:=by
 have:j.natAbs<2^64:=by omega
 simp[ZaA,small,this]
section
variable{call:Nat->List W->Mem->Res W}{gv:List T}{env:Env}{m m1 m2 m3:Mem}{a b c e o v i:E}{x y z r:T}{w w1 w2:W}{f:Nat}{bb:B}{k:Bool}
theorem Zr{op:PySem.Operator}(h1:ev call gv a env m=.ok (.t x) m1)(h2:ev call gv b env m1=.ok (.t y) m2)(h3:binT op x y=some r):ev call gv (.bin op a b) env m=.ok (.t r) m2:=by
 rw[ev,h1,Zg,h2,Zg]
 show pur (binT op x y) m2=_
 rw[h3];rfl
theorem Qq{op:PySem.CmpOp}(h1:ev call gv a env m=.ok (.t x) m1)(h2:ev call gv b env m1=.ok (.t y) m2)(h3:cmpT op x y=some k):ev call gv (.cmp op a b) env m=.ok (.t (.bl k)) m2:=by
 rw[ev,h1,Zg,h2,Zg]
 show pur ((cmpT op x y).map .bl) m2=_
 rw[h3];rfl
theorem Zc(t:T):ev call gv (.con t) env m=.ok (.t t) m:=by rw[ev]
theorem Zb{i:Nat}{w:W}(h:env[i]?=some (some w)):ev call gv (.var i) env m=.ok w m:=by rw[ev,h]
theorem Zcq{c j:Nat}{k:Int}{xs:List T}(h:env[c]?=some (some (.c j)))(hm:m[j]?=some (some (false,xs)))(hx:atT xs k=some r):ev call gv (.ix (.var c) (.con (.int k))) env m=.ok (.t r) m:=by
 rw[ev,Zb h,Zg,Zc,Zg]
 simp only[view,hm,YaT,ixT,hx]
 rfl
theorem J7(h1:ev call gv a env m=.ok (.t x) m1)(h2:ev call gv b env m1=.ok (.t y) m2)(h3:ixT x y=some r):ev call gv (.ix a b) env m=.ok (.t r) m2:=by
 rw[ev,h1,Zg,h2,Zg]
 show pur (ixT x y) m2=_
 rw[h3];rfl
theorem ZR(h:ev call gv e env m=.ok (.t x) m1)(hb:bltT bb [x]=some r):ev call gv (.blt bb (.cons e .nil)) env m=.ok (.t r) m1:=by
 rw[ev,evs,h]
 show pur (bltT bb [x]) m1=_
 rw[hb];rfl
theorem ZP(h:ev call gv e env m=.ok w m1):ev call gv (.call f (.cons e .nil)) env m=call f [w] m1:=by
 rw[ev,evs,h]
 rfl
theorem Zt(h1:ev call gv a env m=.ok w m1)(h2:ev call gv b env m1=.ok w1 m2):ev call gv (.call f (.cons a (.cons b .nil))) env m=call f [w,w1] m2:=by
 simp only[ev,evs,h1,h2,Zg]
theorem ZfE(h1:ev call gv a env m=.ok w m1)(h2:ev call gv b env m1=.ok w1 m2)(h3:ev call gv c env m2=.ok w2 m3):ev call gv (.call f (.cons a (.cons b (.cons c .nil)))) env m=call f [w,w1,w2] m3:=by
 simp only[ev,evs,h1,h2,h3,Zg]
theorem QQ(h1:ev call gv a env m=.ok (.t x) m1):ev call gv (.tup (.cons a .nil)) env m=.ok (.t (.tup [x])) m1:=by
 simp only[ev,evs,h1,Zg,ZaY,ZaX]
 exact if_pos (by simp[lim])
theorem Qc(h1:ev call gv a env m=.ok (.t x) m1)(h2:ev call gv b env m1=.ok (.t y) m2):ev call gv (.tup (.cons a (.cons b .nil))) env m=.ok (.t (.tup [x,y])) m2:=by
 simp only[ev,evs,h1,h2,Zg,ZaY,ZaX]
 exact if_pos (by simp[lim])
theorem Zix(h1:ev call gv a env m=.ok (.t x) m1)(h2:ev call gv b env m1=.ok (.t y) m2)(h3:ev call gv c env m2=.ok (.t z) m3):ev call gv (.tup (.cons a (.cons b (.cons c .nil)))) env m=.ok (.t (.tup [x,y,z])) m3:=by
 simp only[ev,evs,h1,h2,h3,Zg,ZaY,ZaX]
 exact if_pos (by simp[lim])
theorem Ziz(h1:ev call gv a env m=.ok (.t x) m1)(h2:ev call gv b env m1=.ok (.t y) m2):ev call gv (.lst (.cons a (.cons b .nil))) env m=.ok (.t (.lst [x,y])) m2:=by
 simp only[ev,evs,h1,h2,Zg,ZaY,ZaX]
 exact if_pos (by simp[lim])
theorem JW(h:ev call gv a env m=.ok (.t (.bl true)) m1):ev call gv (.and a b) env m=ev call gv b env m1:=by rw[ev,h];rfl
theorem ZaJ(h:ev call gv a env m=.ok (.t (.bl false)) m1):ev call gv (.and a b) env m=.ok (.t (.bl false)) m1:=by rw[ev,h];rfl
theorem QC(h:ev call gv a env m=.ok (.t (.bl k)) m1):ev call gv (.not a) env m=.ok (.t (.bl (!k))) m1:=by rw[ev,h];rfl
theorem Zcp(h:ev call gv a env m=.ok (.t (.bl true)) m1):ev call gv (.or a b) env m=.ok (.t (.bl true)) m1:=by rw[ev,h];rfl
theorem QR(h:ev call gv a env m=.ok (.t (.bl false)) m1):ev call gv (.or a b) env m=ev call gv b env m1:=by rw[ev,h];rfl
theorem Q8{ty:Ty}(h:ev call gv a env m=.ok (.t x) m1)(hk:isT x ty=k):ev call gv (.isi a ty) env m=.ok (.t (.bl k)) m1:=by rw[ev,h,<-hk];rfl
end
section
variable{call:Nat->List W->Mem->Res W}{gv:List T}{env:Env}{m m1 m2 m3:Mem}{a lo hi:E}{es:Es}{x y z r:T}{w:W}{ws:List W}{ts:List T}{f:Nat}{bb:B}
theorem ZC{ts:List T}(h:ts.length<=1000:=by exact YS rfl):ts.length<=lim:=Wm h (by decide)
theorem ZK:evs call gv .nil env m=.ok [] m:=by rw[evs]
theorem Ze(h1:ev call gv a env m=.ok w m1)(h2:evs call gv es env m1=.ok ws m2):evs call gv (.cons a es) env m=.ok (w::ws) m2:=by rw[evs,h1,Zg,h2];rfl
theorem Qa(h:evs call gv es env m=.ok ws m1)(h2:frzs ws m1=.ok ts m1)(hl:ts.length<=lim):ev call gv (.lst es) env m=.ok (.t (.lst ts)) m1:=by rw[ev,h,Zg,h2,Zg,if_pos hl]
theorem X7(h:evs call gv es env m=.ok ws m1)(h2:frzs ws m1=.ok ts m1)(hl:ts.length<=lim):ev call gv (.tup es) env m=.ok (.t (.tup ts)) m1:=by rw[ev,h,Zg,h2,Zg,if_pos hl]
theorem ZfF(h:evs call gv es env m=.ok ws m1)(h2:views ws m1=some ts)(h3:bltT bb ts=some r):ev call gv (.blt bb es) env m=.ok (.t r) m1:=by
 rw[ev,h,Zg,h2]
 show pur (bltT bb ts) m1=_
 rw[h3];rfl
theorem Zj5{k:Nat}(h:gv[k]?=some x):ev call gv (.gl k) env m=.ok (.t x) m:=by rw[ev,h];rfl
theorem Ziy{k:Int}(h1:ev call gv a env m=.ok (.t x) m1)(h2:ev call gv hi env m1=.ok (.t (.int k)) m2)(h3:slT x none (some k)=some r)(hh:Qp hi=false:=by rfl):ev call gv (.slc a .hole hi) env m=.ok (.t r) m2:=by
 rw[ev,h1,Zg,show Qp .hole=true from rfl,if_pos rfl,Zg,hh,if_neg Yt,h2]
 show pur (slT x none (some k)) m2=_
 rw[h3];rfl
end
section
variable{call:Nat->List W->Mem->Res W}{gv:List T}{env env':Env}{m m1 m2:Mem}{k a b:S}{e:E}{w:W}
theorem ex_ifA(h:ev call gv e env m=.ok (.t (.bl true)) m1)(h2:ex call gv a env m1=.ok (.next env') m2):ex call gv (.ife e a b k) env m=ex call gv k env' m2:=by
 rw[ex,h]
 show(ex call gv a env m1).bind _=_
 rw[h2];rfl
theorem ZaI(h:ev call gv e env m=.ok w m1):ex call gv (.expr e k) env m=ex call gv k env m1:=by rw[ex,h];rfl
end
section
variable{call:Nat->List W->Mem->Res W}{gv:List T}{env:Env}{m m1 m2:Mem}{a c inner:E}{x:T}{xs:List T}
theorem Zdb(h:ev call gv a env m=.ok (.t x) m1):ev call gv (.emit a) env m=.ok (.t (.lst [x])) m1:=by rw[ev,h];rfl
theorem Zjc(h2:ev call gv inner env m=.ok (.t (.lst xs)) m2):Zcx call gv .nil inner env m=.ok xs m2:=by
 unfold Zcx
 rw[tests,Zg,if_pos rfl,h2]
 rfl
end
theorem at0{α:Type}(a:α)(r:List α):atT (a::r) 0=some a:=by simp[atT,ixOf]
theorem at1{α:Type}(a b:α)(r:List α):atT (a::b::r) 1=some b:=by
 have:(1:Int)<(r.length:Int)+1+1:=by omega
 simp[atT,ixOf,this]
theorem ZkM{α:Type}{xs:List α}{i:Int}(h0:0<=i)(h1:i<xs.length):atT xs i=xs[i.toNat]?:=by
 unfold atT ixOf
 rw[if_pos h0,if_pos h1]
 rfl
theorem Qj{α β:Type}(f:α->β)(xs:List α):xs.flatMap (λx=>[f x])=xs.map f:=by
 induction xs with
 |nil=>rfl
 |cons x xs ih=>simp[ih]
theorem Qu{n:Nat}{m:Mem}{i:Nat}{s:List T}{many:Int}(hi:i<m.length)(hs:IsSt s)(h1:0<many)(h2:many<1073741824):
  ∃r s',cf (n+1) 24 [.c i,.t (.int many)] (put m i s)=.ok (.t (.int r)) (put m i s')/\IsSt s'/\0<=r/\r<many:=by
 obtain⟨a,b,c,rfl⟩:=hs
 have key:∃r s',ex (cf n) gv ZbY [some (.c i),some (.t (.int many)),none,none] (put m i [.int a,.int b,.int c])=.ok (.ret (.t (.int r))) (put m i s')/\IsSt s'/\0<=r/\r<many:=by
  have h:=Zkw (s:=[.int a,.int b,.int c]) hi
  unfold ZbY
  have hg:ev (cf n) gv (.cmp .Gt (.ix (.var 0) (.con (.int 0))) (.con (.int 0))) [some (.c i),some (.t (.int many)),none,none] (put m i [.int a,.int b,.int c])=.ok (.t (.bl (decide (0<a)))) (put m i [.int a,.int b,.int c]):=by
   rw[ev,Zcq rfl h rfl,Zg,Zc,Zg]
   rfl
  by_cases ha:0<a
  ·rw[decide_eq_true ha]at hg
   refine⟨a%many,[.int (a / many),.int b,.int c],X6 hg ?_,⟨_,_,_,rfl⟩,Ya4 _ (by omega),Yao _ h1⟩
   rw[Zy (Zr (Zcq rfl h rfl) (Zb rfl) (ZgU h1))]
   rw[Ziw (Zr (Zcq rfl h rfl) (Zb rfl) (Zmn ⟨h1,h2⟩)) (Zb rfl) (Zc _) h rfl]
   rw[Zhn]
   exact Zj (Zb rfl)
  ·rw[decide_eq_false ha]at hg
   rw[JH hg]
   have h4:ZaA 7919 (c+1)=true:=mulL (by decide) (by decide)
   have h5:∀x,ZaA x 48271=true:=λx=>mulR (by decide) (by decide)
   have h6:∀x y,ZaA (x%2147483647) y=true:=λx y=>mulL (Ya4 _ (by decide)) (by have:=Yao x (b:=2147483647) (by decide);omega)
   have hp:=Zkw (s:=[.int a,.int b,.int (c+1)]) hi
   obtain⟨z,hz⟩:∃z:Int,ex (cf n) gv (.set (.var 0) (.con (.int 2)) (.bin .Add (.ix (.var 0) (.con (.int 2))) (.con (.int 1))) (.asg 3 (.bin .Mod (.bin .Mult (.bin .Add (.bin .Add (.ix (.var 0) (.con (.int 1))) (.bin .Mult (.con (.int 7919)) (.ix (.var 0) (.con (.int 2))))) (.con (.int 1))) (.con (.int 48271))) (.con (.int 2147483647))) (.asg 3 (.bin .Mod (.bin .Mult (.var 3) (.bin .Add (.bin .FloorDiv (.var 3) (.con (.int 1009))) (.con (.int 69621)))) (.con (.int 2147483647))) (.ret (.bin .Mod (.bin .Mod (.bin .Mult (.var 3) (.bin .Add (.bin .FloorDiv (.var 3) (.con (.int 2003))) (.con (.int 40692)))) (.con (.int 2147483399))) (.var 1)) .done)))) [some (.c i),some (.t (.int many)),none,none] (put m i [.int a,.int b,.int c])=.ok (.ret (.t (.int (z%many)))) (put m i [.int a,.int b,.int (c+1)]):=by
    refine⟨(((b+7919*(c+1)+1)*48271%2147483647)*(((b+7919*(c+1)+1)*48271%2147483647) / 1009+69621)%2147483647)*((((b+7919*(c+1)+1)*48271%2147483647)*(((b+7919*(c+1)+1)*48271%2147483647) / 1009+69621)%2147483647) / 2003+40692)%2147483399,?_⟩
    rw[Ziw (Zr (Zcq rfl h rfl) (Zc _) (Zaf _ _)) (Zb rfl) (Zc _) h rfl]
    show ex (cf n) gv _ _ (put m i [.int a,.int b,.int c] |>.set i (some (false,[.int a,.int b,.int (c+1)])))=_
    rw[Zhn]
    rw[Zy (Zr (Zr (Zr (Zr (Zcq rfl hp rfl) (Zr (Zc _) (Zcq rfl hp rfl) (Ze4 h4)) (Zaf _ _)) (Zc _) (Zaf _ _)) (Zc _) (Ze4 (h5 _))) (Zc _) (ZgU (by decide)))]
    rw[Zy (Zr (Zr (Zb rfl) (Zr (Zr (Zb rfl) (Zc _) (Zmn (by decide))) (Zc _) (Zaf _ _)) (Ze4 (h6 _ _))) (Zc _) (ZgU (by decide)))]
    exact Zj (Zr (Zr (Zr (Zb rfl) (Zr (Zr (Zb rfl) (Zc _) (Zmn (by decide))) (Zc _) (Zaf _ _)) (Ze4 (h6 _ _))) (Zc _) (ZgU (by decide))) (Zb rfl) (ZgU h1))
   exact⟨z%many,_,hz,⟨_,_,_,rfl⟩,Ya4 _ (Int.ne_of_gt h1),Yao _ h1⟩
 obtain⟨r,s',e,h⟩:=key
 refine⟨r,s',?_,h⟩
 exact ZG (Zki _ _ _) rfl e (Zo (cell:=false) (by rw[Z3,Z3]))
theorem ZkW{n:Nat}{m:Mem}{x:Int}:∃s,cf (n+1) 23 [.t (.int x)] m=.ok (.c m.length) (put (m++[none]) m.length s)/\IsSt s:=by
 have hb:∀y:Int,∀k:Bool,ZaA y (b2i k)=true:=λy k=>mulR (by cases k<;>decide) (by cases k<;>decide)
 refine⟨[.int (x*b2i (decide (1000000000000000000<=x))),.int (x%2147483647),.int 0],?_,⟨_,_,_,rfl⟩⟩
 have key:ex (cf n) gv ZbW [some (.t (.int x))] m=.ok (.ret (.c m.length)) (m++[some (false,[.int (x*b2i (decide (1000000000000000000<=x))),.int (x%2147483647),.int 0])]):=by
  unfold ZbW
  exact Zj (by simp[ev,evs,isT,Qp,EVs,b_pow,Ze4 (hb _ _),ZgU,lim])
 rw[Zkg]
 simp[key,Zg,fin,put]
theorem Zmg{n:Nat}{m:Mem}{ns:List Int}:∃v:Int,cf (n+1) 22 [.t (.scr ns),.t (.int 0)] m=.ok (.t (.int v)) m:=by
 have key:∃v:Int,ex (cf n) gv Jj [some (.t (.scr ns)),some (.t (.int 0))] m=.ok (.ret (.t (.int v))) m:=by
  unfold Jj
  by_cases h:(0:Int)<ns.length
  ·obtain⟨v,hv,_⟩:=Xl (xs:=ns) (i:=0) (by decide) h
   exact⟨v,X6 (m1:=m) (by simp[ev,evs,isT,Qp,EVs];omega) (Zj (by simp[ev,evs,isT,Qp,EVs,hv]))⟩
  ·have h':ns=[]:=Vu.mp (by omega)
   subst h'
   refine⟨0,?_⟩
   rw[JH (m1:=m) (by simp[ev,evs,isT,Qp,EVs])]
   exact Zj (by simp[ev,evs,isT,Qp,EVs])
 obtain⟨v,e⟩:=key
 refine⟨v,?_⟩
 rw[ZeV]
 simp[e,Zg,Zo]
noncomputable def lett:List Nat:=[97,98,99,100,101,102,103,104,105,106,107,108,109,110,111,112,113,114,115,116,117,118,119,120,121,122]
noncomputable def six:List (List Nat):=[[97,110,121],[105,115],[98,121],[110,111,116],[97,110,100],[111,114]]
noncomputable def ZgD(cs:List Nat):Bool:=six.any λa=>a==cs
noncomputable def ZfS(cs:List Nat):Bool:=decide (1<=cs.length)&&decide (cs.length<=8)&&!ZgD cs&&cs.all λc=>decide (c∈lett)
theorem Zg1{n:Nat}{cs:List Nat}{m:Mem}(hl:cs.length<=lim):ev (cf n) gv JK [some (.t (.str cs))] m=.ok (.t (.lst (cs.map λc=>.bl (decide (c∈lett))))) m:=by
 have h:=ZaB (f:=Zcx (cf n) gv .nil QH) (tg:=.nm 0) (env:=[none]) (m:=m)
  (g:=λt=>match t with|.str [c]=>[.bl (decide (c∈lett))]|_=>[]) (cs.map λc=>.str [c]) (λt ht=>by
   obtain⟨c,_,rfl⟩:=Uc.mp ht
   exact⟨[some (.t (.str [c]))],rfl,by simp[Zcx,tests,QH,ev,Res.bind,view,pur,ZgG,cmpT,ZgE,ltT,inT,Zdp,frz,lett]⟩)
 have e:(cs.map λc=>T.str [c]).flatMap (λt=>match t with|.str [c]=>[T.bl (decide (c∈lett))]|_=>[])=cs.map λc=>.bl (decide (c∈lett)):=by
  rw[List.flatMap_map]
  exact Qj _ _
 rw[e]at h
 exact X8 (x:=.t (.str cs)) (m0:=m) (by simp[ev]) (by simp[Z4,Zii,hl]) h (by simpa using hl)
theorem Zl0(cs:List Nat):hasT (.str cs) (.tup [.str [97,110,121],.str [105,115],.str [98,121],.str [110,111,116],.str [97,110,100],.str [111,114]])=some (ZgD cs):=by
 simp[hasT,flat,eqT,six,ZgD]
noncomputable def ZeI(cs:List Nat):Bool:=decide (1<=cs.length)&&!ZgD cs&&cs.all λc=>decide (c∈lett)
theorem ZgA{n:Nat}{m:Mem}{cs:List Nat}(hl:cs.length<=lim):cf (n+1) 0 [.t (.str cs)] m=.ok (.t (.bl (ZeI cs))) m:=by
 have e:ex (cf n) gv Qe [some (.t (.str cs))] m=.ok (.ret (.t (.bl (ZeI cs)))) m:=by
  unfold Qe
  refine Zj ?_
  by_cases h1:0<cs.length
  ·have h1':(0:Int)<cs.length:=by omega
   have h1'':(decide (1<=cs.length))=true:=decide_eq_true h1
   have hin:cmpT .NotIn (.str cs) (.tup [.str [97,110,121],.str [105,115],.str [98,121],.str [110,111,116],.str [97,110,100],.str [111,114]])=some (!ZgD cs):=by
    rcases cs with _|⟨c,_|⟨d,r⟩⟩<;>simp[cmpT,ZgE,ltT,inT,Zl0]
   cases h6:ZgD cs
   ·simp only[ZeI,h1'',h6]
    simp[ev,evs,isT,Qp,EVs,Zif hl,h1,h1',hin,h6,XN,Zg1 hl,l_all (ZbR _ cs)]
   ·simp[ev,evs,isT,Qp,EVs,Zif hl,h1,h1',hin,h6,XN,ZeI]
  ·have h1':¬(0:Int)<cs.length:=by omega
   have h1'':(decide (1<=cs.length))=false:=decide_eq_false h1
   simp only[ZeI,h1'']
   simp[ev,evs,isT,Qp,EVs,Zif hl,h1,h1']
 exact ZG (ZbN _ _ _) rfl e (Zo (cell:=false) rfl)
theorem ZeL{n:Nat}{m:Mem}{cs:List Nat}(hl:cs.length<=lim):cf (n+2) 1 [.t (.str cs)] m=.ok (.t (.bl (ZfS cs))) m:=by
 have e:ex (cf (n+1)) gv QT [some (.t (.str cs))] m=.ok (.ret (.t (.bl (ZfS cs)))) m:=by
  unfold QT
  refine Zj ?_
  by_cases h8:cs.length<=8
  ·have h8':(cs.length:Int)<=8:=by omega
   have hw:ZfS cs=ZeI cs:=by simp[ZfS,ZeI,h8]
   simp[ev,evs,isT,Qp,EVs,Zif hl,h8',JV,ZgA (n:=n) hl,hw]
  ·have h8':¬(cs.length:Int)<=8:=by omega
   simp[ev,evs,isT,Qp,EVs,Zif hl,h8',JV,ZfS,h8]
 exact ZG (Zcv _ _ _) rfl e (Zo (cell:=false) rfl)
theorem Zgz{n:Nat}{m:Mem}{x:T}(h:isT x .str=false):cf (n+2) 1 [.t x] m=.ok (.t (.bl false)) m:=by
 have e:ex (cf (n+1)) gv QT [some (.t x)] m=.ok (.ret (.t (.bl false))) m:=by
  unfold QT
  refine Zj ?_
  cases x with
  |str cs=>cases h
  |_=>simp[ev,evs,isT,Qp,EVs]
 exact ZG (Zcv _ _ _) rfl e (Zo (cell:=false) rfl)
theorem ZeA{n:Nat}{m:Mem}{i:Nat}{s xs:List T}(hi:i<m.length)(hs:IsSt s)(h0:0<xs.length)(h1:xs.length<1000):
  ∃x s',cf (n+2) 25 [.c i,.t (.lst xs)] (put m i s)=.ok (.t x) (put m i s')/\IsSt s'/\x∈xs:=by
 obtain⟨r,s1,g1,hs1,r0,r1⟩:=Qu (n:=n) (many:=(xs.length:Int)) hi hs (by omega) (by omega)
 obtain⟨x,hx,hm⟩:=Xl r0 r1
 refine⟨x,s1,?_,hs1,hm⟩
 have key:ex (cf (n+1)) gv Xk [some (.c i),some (.t (.lst xs))] (put m i s)=.ok (.ret (.t x)) (put m i s1):=by
  unfold Xk
  exact Zj (by simp[ev,evs,isT,Qp,EVs,g1,hx])
 exact ZG (ZfI _ _ _) rfl key (Zo (cell:=false) (by rw[Z3,Z3]))
theorem in_words(w:List Nat)(mk:List (List Nat)):cmpT .In (.str w) (.tup (mk.map .str))=some (mk.any λa=>a==w):=by
 have h1:hasT (.str w) (.tup (mk.map .str))=some (mk.any λa=>a==w):=by
  have ha:(mk.map T.str).all flat=true:=by simp[flat]
  have hb:((mk.map T.str).any λt=>eqT t (.str w))=mk.any λa=>a==w:=by
   induction mk with
   |nil=>rfl
   |cons a mk ih=>simp only[Wa,VP,eqT];rw[ih (by simp[flat])]
  unfold hasT
  dsimp only
  rw[ha,hb]
  rfl
 rw[<-h1]
 rcases w with _|⟨c,_|⟨d,r⟩⟩<;>rfl
theorem Xh{call:Nat->List W->Mem->Res W}{gv:List T}{env:Env}{m:Mem}:ex call gv .done env m=.ok (.next env) m:=by rw[ex]
noncomputable def four:List (List Nat):=[[104,101,97,118,121],[103,114,101,97,116],[115,109,97,108,108],[115,111,111,110]]
noncomputable def oneB:T->Bool
 |.str c=>four.any λa=>a==c
 |_=>false
noncomputable def wdB:T->Bool
 |.str c=>ZfS c
 |_=>false
theorem Zjg{xs:List (List Nat)}(h:xs.Nodup):(ZD xs).length=xs.length:=
 ((List.perm_ext_iff_of_nodup (Zcb xs) h).mpr λc=>Jk c xs).length_eq
theorem Zhj{xs:List (List Nat)}(h:¬xs.Nodup):(ZD xs).length≠xs.length:=λe=>by
 apply h
 have:∀xs:List (List Nat),(ZD xs).length=xs.length->xs.Nodup:=by
  intro xs
  induction xs with
  |nil=>intro _;exact .nil
  |cons x xs ih =>
   intro e
   have ins:∀(x:List Nat) (l:List (List Nat)),(insT x l).length<=l.length+1/\(x∈l->l.Pairwise (λa b=>nlt a b=true)->(insT x l).length=l.length):=by
    intro x l
    induction l with
    |nil=>exact⟨Yj _,λh=>by cases h⟩
    |cons y l ih =>
     unfold insT
     by_cases h1:nlt x y=true
     ·rw[if_pos h1]
      refine⟨Yj _,λhm hp=>?_⟩
      rcases Ys.mp hm with rfl|hm
      ·rw[ZcY]at h1;cases h1
      ·have:=ZkB h1 ((Wc.mp hp).1 x hm)
       rw[ZcY]at this;cases this
     ·rw[if_neg h1]
      by_cases h2:nlt y x=true
      ·rw[if_pos h2,Wh,Wh]
       refine⟨by have:=ih.1;omega,λhm hp=>?_⟩
       rcases Ys.mp hm with rfl|hm
       ·rw[ZcY]at h2;cases h2
       ·rw[ih.2 hm (Wc.mp hp).2]
      ·rw[if_neg h2]
       exact⟨UJ _,λ_ _=>rfl⟩
   have le:∀l:List (List Nat),(ZD l).length<=l.length:=by
    intro l
    induction l with
    |nil=>exact Yj _
    |cons y l ih2 =>
     show(insT y (ZD l)).length<=_
     have:=(ins y (ZD l)).1
     rw[Wh]
     omega
   have e:(insT x (ZD xs)).length=xs.length+1:=e
   have h1:=(ins x (ZD xs)).1
   have h2:=le xs
   refine Vm.mpr ⟨λhm=>?_,ih (by omega)⟩
   have:=(ins x (ZD xs)).2 ((Jk x xs).mpr hm) (Zam xs)
   omega
 exact this xs e
section
variable{n:Nat}{m:Mem}
theorem one_ok{x:T}:cf (n+1) 5 [.t x,.t (.tup (four.map .str))] m=.ok (.t (.bl (oneB x))) m:=by
 have key:ex (cf n) gv QV [some (.t x),some (.t (.tup (four.map .str)))] m=.ok (.ret (.t (.bl (oneB x)))) m:=by
  unfold QV
  refine Zj ?_
  cases x with
  |str c=>exact(JW (Q8 (k:=true) (Zb rfl) rfl)).trans (Qq (Zb rfl) (Zb rfl) (in_words c four))
  |_=>exact ZaJ (Q8 (Zb rfl) rfl)
 exact ZG (Zed _ _ _) rfl key (Zo (cell:=false) rfl)
theorem wd_ok{x:T}(h:fitT x=true):cf (n+2) 1 [.t x] m=.ok (.t (.bl (wdB x))) m:=by
 cases x with
 |str c=>exact ZeL (of_decide_eq_true h)
 |_=>exact Zgz rfl
theorem Zhc{B:T->Bool}(hB:∀t,B t=true->∃c,t=.str c):∀{ts:List T},ts.all B=true->∃ws:List (List Nat),ts=ws.map .str
 |[],_=>⟨[],rfl⟩
 |t::ts,h=>by
  rw[U8,Yg]at h
  obtain⟨c,rfl⟩:=hB t h.1
  obtain⟨ws,rfl⟩:=Zhc hB h.2
  exact⟨c::ws,rfl⟩
theorem Zg4{ws:List (List Nat)}(hl:ws.length<64):cf (n+1) 6 [.t (.tup (ws.map .str))] m=.ok (.t (.bl (decide ws.Nodup))) m:=by
 have key:ex (cf n) gv QD [some (.t (.tup (ws.map .str)))] m=.ok (.ret (.t (.bl (decide ws.Nodup)))) m:=by
  unfold QD
  have h1:bltT .lenset [.tup (ws.map T.str)]=some (.int ((ZD ws).length:Int)):=by
   show ZeJ (ws.map T.str)=_
   unfold ZeJ
   have:=strs_map (λx:List Nat=>x) ws
   rw[List.map_id']at this
   rw[this]
   exact if_pos hl
  have h2:bltT .len [.tup (ws.map T.str)]=some (.int (ws.length:Int)):=by
   show some (T.int ((ws.map T.str).length:Int))=_
   rw[Yi]
  have h3:(((ZD ws).length:Int)==(ws.length:Int))=decide ws.Nodup:=by
   by_cases h:ws.Nodup
   ·rw[Zjg h,decide_eq_true h];simp
   ·have:=Zhj h
    rw[decide_eq_false h]
    exact beq_eq_false_iff_ne.mpr (by omega)
  rw[<-h3]
  exact Zj (Qq (ZR (Zb rfl) h1) (ZR (Zb rfl) h2) (c_eqI _ _))
 exact ZG (Zdh _ _ _) rfl key (Zo (cell:=false) rfl)
noncomputable def ndB(ts:List T):Bool:=match strs? ts with
 |some ws=>decide ws.Nodup
 |none=>false
theorem Zhd(ws:List (List Nat)):strs? (ws.map T.str)=some ws:=by
 have:=strs_map (λx:List Nat=>x) ws
 rw[List.map_id']at this
 exact this
noncomputable def okB(B:T->Bool)(k:Nat):T->Bool
 |.tup ts=>decide (ts.length<=k)&&(ts.all B&&ndB ts)
 |_=>false
theorem ZfM(bs:List Bool):bools? (bs.map T.bl)=some bs:=by
 induction bs with
 |nil=>rfl
 |cons b bs ih=>rw[Wa,bools?,ih];rfl
theorem Zhr{N g k:Nat}{C:E}{B:T->Bool}{x:T}(hg:gv[g]?=some (.int (k:Int)))(hk:k<60)(hB:∀t,B t=true->∃c,t=.str c)(hC:∀ts,x=.tup ts->ts.length<=k->ev (cf (N+1)) gv C [some (.t x)] m=.ok (.t (.lst ((ts.map B).map .bl))) m):
  ex (cf (N+1)) gv (.ife (.or (.not (.isi (.var 0) .tuple)) (.cmp .Gt (.blt .len (.cons (.var 0) .nil)) (.gl g))) (.ret (.con (.bl false)) .done) .done (.ret (.and (.blt .all (.cons C .nil)) (.call 6 (.cons (.var 0) .nil))) .done)) [some (.t x)] m=.ok (.ret (.t (.bl (okB B k x)))) m:=by
 cases x with
 |tup ts =>
  have h0:ev (cf (N+1)) gv (.or (.not (.isi (.var 0) .tuple)) (.cmp .Gt (.blt .len (.cons (.var 0) .nil)) (.gl g))) [some (.t (.tup ts))] m=.ok (.t (.bl (decide ((k:Int)<(ts.length:Int))))) m:=(QR (QC (Q8 (k:=true) (Zb rfl) rfl))).trans (Qq (ZR (Zb rfl) (Zgy ts)) (Zj5 hg) (c_gt _ _))
  rw[show okB B k (.tup ts)=(decide (ts.length<=k)&&(ts.all B&&ndB ts))from rfl]
  by_cases hl:ts.length<=k
  ·rw[decide_eq_false (show ¬(k:Int)<(ts.length:Int) by omega)]at h0
   rw[decide_eq_true hl,YaL]
   refine(JH h0).trans (Zj ?_)
   have h1:ev (cf (N+1)) gv (.blt .all (.cons C .nil)) [some (.t (.tup ts))] m=.ok (.t (.bl (ts.all B))) m:=ZR (hC ts rfl hl) (by
    show(bools? ((ts.map B).map T.bl)).map _=_
    rw[ZfM]
    show some (T.bl ((ts.map B).all id))=_
    rw[Yam]
    rfl)
   cases q:ts.all B with
   |false =>
    rw[q]at h1
    exact ZaJ h1
   |true =>
    rw[q]at h1
    obtain⟨ws,rfl⟩:=Zhc hB q
    rw[Yi]at hl
    refine(JW h1).trans ?_
    unfold ndB
    rw[Zhd]
    exact(ZP (Zb rfl)).trans (Zg4 (by omega))
  ·rw[decide_eq_true (show(k:Int)<(ts.length:Int) by omega)]at h0
   rw[decide_eq_false hl,Gd]
   exact X6 h0 (Zj (Zc _))
 |_=>exact X6 (Zcp (QC (k:=false) (Q8 (Zb rfl) rfl))) (Zj (Zc _))
theorem Zh8{N:Nat}{C a:E}{B:T->Bool}{ts:List T}(hC:C=.comp 1 [] (.var 0) (.nm 0) .nil (.emit a))(hl:ts.length<=100)(ha:∀t∈ts,ev (cf N) gv a [some (.t t)] m=.ok (.t (.bl (B t))) m):ev (cf N) gv C [some (.t (.tup ts))] m=.ok (.t (.lst ((ts.map B).map .bl))) m:=by
 subst hC
 have h:=ZaB (f:=Zcx (cf N) gv .nil (.emit a)) (tg:=.nm 0) (env:=[none]) (m:=m) (g:=λt=>[T.bl (B t)]) ts (λt ht=>⟨[some (.t t)],rfl,Zjc (Zdb (ha t ht))⟩)
 rw[Qj]at h
 rw[Ya0]
 exact X8 (x:=.t (.tup ts)) (m0:=m) (m1:=m) (Zb rfl) rfl h (by rw[Yi];unfold lim;omega)
theorem Zk3{x:T}:cf (n+3) 7 [.t x] m=.ok (.t (.bl (okB oneB 3 x))) m:=
 ZG (ZgQ _ _ _) rfl (Zhr (N:=n+1) (k:=3) (B:=oneB) rfl (by decide) (λt h=>by cases t<;>first|exact⟨_,rfl⟩|cases h) λts e hl=>by
  subst e
  exact Zh8 rfl (by omega) λt _=>(Zt (Zb rfl) (Zj5 rfl)).trans one_ok) (Zo (cell:=false) rfl)
noncomputable def fitA:T->Bool
 |.tup ts=>ts.all fitT
 |_=>true
theorem Zkm{x:T}(hf:fitA x=true):cf (n+3) 8 [.t x] m=.ok (.t (.bl (okB wdB 4 x))) m:=
 ZG (Zeg _ _ _) rfl (Zhr (N:=n+1) (k:=4) (B:=wdB) rfl (by decide) (λt h=>by cases t<;>first|exact⟨_,rfl⟩|cases h) λts e hl=>by
  subst e
  exact Zh8 rfl (by omega) λt ht=>(ZP (Zb rfl)).trans (wd_ok (YT.mp hf t ht))) (Zo (cell:=false) rfl)
end
theorem Zbx{α:Type}{f:Env->Mem->Res (List T)}{tg:Tg}{env:Env}{m:Mem}{emb:α->T}{g:α->List T}:∀(as:List α),(∀a∈as,∃env',JL tg (emb a) env=some env'/\f env' m=.ok (g a) m)->Jd f tg (as.map emb) env m=.ok (as.flatMap g) m
 |[],_=>rfl
 |a::as,h=>by
  obtain⟨env',h1,h2⟩:=h a YD
  rw[Wa,Jd,h1]
  show(f env' m).bind _=_
  rw[h2,Zg,Zbx as λx hx=>h x (Yw _ hx)]
  rfl
section
variable{call:Nat->List W->Mem->Res W}{gv:List T}{env:Env}{m m1:Mem}
theorem Zmd{α:Type}{own:Nat}{keep:List Nat}{it:E}{tg:Tg}{cs:Es}{inner:E}{x:T}{emb:α->T}{g:α->List T}(as:List α)(hit:ev call gv it env m=.ok (.t x) m)(hb:Z4 (.t x) m=.ok (as.map emb) m)(h:∀a∈as,∃env',JL tg (emb a) (Yn own none++keep.map λi=>(env[i]?).join)=some env'/\Zcx call gv cs inner env' m=.ok (g a) m)(hz:(as.flatMap g).length<=lim):ev call gv (.comp own keep it tg cs inner) env m=.ok (.t (.lst (as.flatMap g))) m:=
 X8 hit hb (Zbx as h) hz
theorem ZkJ{b:Mt}{i j:Nat}{a:E}{c:Bool×List T}{xs ys:List T}{x t:T}(hb:b=.append∨b=.popat∨b=.extend)(hv:env[i]?=some (some (.c j)))(h0:m[j]?=some (some c))(ha:ev call gv a env m=.ok (.t x) m1)(hm:m1[j]?=some (some (false,xs)))(hu:mutM b xs [x]=some (t,ys)):
  ev call gv (.mth b (.var i) (.cons a .nil)) env m=.ok (.t t) (m1.set j (some (false,ys))):=by
 rw[ev,Zb hv,Zg]
 have ht:tyM b (.c j) m=true:=by
  rcases hb with rfl|rfl|rfl<;>· unfold tyM;dsimp only;rw[h0]
 rw[if_pos ht,evs,ha,Zg,evs,Zg,Zg]
 rcases hb with rfl|rfl|rfl<;>simp[doM,ZaY,ZaX,Zg,hm,hu]
theorem Zk1{c d:Option (Bool×List T)}:(m++[c]).set m.length d=m++[d]:=by
 rw[List.set_append_right _ _ (Yj _),Uw]
 rfl
end
theorem l_rng2{i j:Int}(h:(i<2^62/\-(2^62)<=i)/\j<2^62/\-(2^62)<=j):bltT .range2 [.int i,.int j]=some (.lst (rangeT i (j-i).toNat)):=if_pos h
section
variable{n:Nat}{m:Mem}
noncomputable def isW:T->Bool
 |.int _=>true
 |_=>false
noncomputable def tmB:T->Bool
 |.int i=>decide (0<=i)&&decide (i<=1000000000)
 |_=>false
theorem Zja(x:T):cf (n+1) 2 [.t x] m=.ok (.t (.bl (isW x))) m:=by
 refine ZG (ZeU _ _ _) rfl (Zj ?_) (Zo (cell:=false) rfl)
 cases x with
 |int i=>exact(JW (Q8 (k:=true) (Zb rfl) rfl)).trans (QC (Q8 (k:=false) (Zb rfl) rfl))
 |bl b=>exact(JW (Q8 (k:=true) (Zb rfl) rfl)).trans (QC (Q8 (k:=true) (Zb rfl) rfl))
 |_=>exact ZaJ (Q8 (Zb rfl) rfl)
theorem Zh3(x:T):cf (n+2) 3 [.t x] m=.ok (.t (.bl (tmB x))) m:=by
 refine ZG (Zee _ _ _) rfl (Zj ?_) (Zo (cell:=false) rfl)
 have hw:=(ZP (f:=2) (Zb (call:=cf (n+1)) (gv:=gv) (env:=[some (.t x)]) (m:=m) (i:=0) rfl)).trans (Zja x)
 cases x with
 |int i =>
  refine(JW hw).trans ?_
  rw[ev,Zc,Zg,Zb rfl,Zg]
  show(match some (decide (0<=i))with|some true=>_|some false=>_|none=>_)=Res.ok (W.t (.bl (decide (0<=i)&&decide (i<=1000000000)))) m
  cases h:decide (0<=i)with
  |true =>
   dsimp only
   rw[Zj5 XQ]
   rfl
  |false=>rfl
 |_=>exact ZaJ hw
theorem Zg9(x:T):cf (n+3) 4 [.t x] m=.ok (.t (.bl (tmB x))) m:=
 ZG (ZgP _ _ _) rfl (Zj ((ZP (Zb rfl)).trans (Zh3 x))) (Zo (cell:=false) rfl)
noncomputable def ltI:T->T->Bool
 |.int a,.int b=>decide (a<b)
 |_,_=>false
noncomputable def qtB:T->Bool
 |.tup [a,b]=>tmB a&&(tmB b&&ltI a b)
 |_=>false
theorem Zff{x:T}(h:tmB x=true):∃i:Int,x=.int i/\0<=i/\i<=1000000000:=by
 cases x with
 |int i =>
  unfold tmB at h
  rw[Yg,decide_eq_true_eq,decide_eq_true_eq]at h
  exact⟨i,rfl,h⟩
 |_=>cases h
theorem qt_is(x:T):cf (n+4) 13 [.t x] m=.ok (.t (.bl (qtB x))) m:=by
 have no:∀{ts:List T},ts.length≠2->ex (cf (n+3)) gv ZS [some (.t (.tup ts))] m=.ok (.ret (.t (.bl false))) m:=λ{ts} h=>by
  refine X6 (m1:=m) ((QR (QC (Q8 (k:=true) (Zb rfl) rfl))).trans (Qq (ZR (Zb rfl) (Zgy ts)) (Zc _) ?_)) (Zj (Zc _))
  rw[c_neI,beq_false_of_ne (by omega)]
  rfl
 have key:ex (cf (n+3)) gv ZS [some (.t x)] m=.ok (.ret (.t (.bl (qtB x)))) m:=by
  cases x with
  |tup ts =>
   rcases ts with _|⟨a,_|⟨b,_|⟨c,r⟩⟩⟩
   ·exact no (by decide)
   ·exact no (by simp)
   ·unfold ZS
    refine(JH ((QR (QC (Q8 (k:=true) (Zb rfl) rfl))).trans (Qq (ZR (Zb rfl) (Zgy _)) (Zc _) rfl))).trans (Zj ?_)
    have h0:∀{k:Int}{y:T},atT [a,b] k=some y->ev (cf (n+3)) gv (.ix (.var 0) (.con (.int k))) [some (.t (.tup [a,b]))] m=.ok (.t y) m:=λ{k y} h=>J7 (Zb rfl) (Zc _) h
    have ha:=(ZP (f:=4) (h0 (k:=0) (y:=a) rfl)).trans (Zg9 (n:=n) a)
    have hb:=(ZP (f:=4) (h0 (k:=1) (y:=b) rfl)).trans (Zg9 (n:=n) b)
    show _=Res.ok (W.t (.bl (tmB a&&(tmB b&&ltI a b)))) m
    cases qa:tmB a with
    |false=>rw[qa]at ha;exact ZaJ ha
    |true =>
     rw[qa]at ha
     refine(JW ha).trans ?_
     cases qb:tmB b with
     |false=>rw[qb]at hb;exact ZaJ hb
     |true =>
      rw[qb]at hb
      refine(JW hb).trans ?_
      obtain⟨i,rfl,_⟩:=Zff qa
      obtain⟨j,rfl,_⟩:=Zff qb
      exact Qq (h0 rfl) (h0 rfl) (c_lt _ _)
   ·exact no (by simp)
  |_=>exact X6 (Zcp (QC (k:=false) (Q8 (Zb rfl) rfl))) (Zj (Zc _))
 exact ZG (Za8 _ _ _) rfl key (Zo (cell:=false) rfl)
noncomputable def pq(q:Int×Int):T:=.tup [.int q.1,.int q.2]
noncomputable def ZaG(ts:List T)(k:Nat):Bool:=match ts[k]?,ts[k+1]? with
 |some (.tup [_,b]),some (.tup [c,_])=>ltI b c
 |_,_=>false
noncomputable def QK:T->Bool
 |.tup ts=>decide (ts.length<=8)&&(ts.all qtB&&(YM (ts.length-1)).all (ZaG ts))
 |_=>false
theorem qt_pq{t:T}(h:qtB t=true):∃q:Int×Int,t=pq q/\0<=q.1/\q.1<q.2/\q.2<=1000000000:=by
 unfold qtB at h
 split at h
 ·rw[Yg,Yg]at h
  obtain⟨i,rfl,i0,_⟩:=Zff h.1
  obtain⟨j,rfl,_,j1⟩:=Zff h.2.1
  exact⟨(i,j),rfl,i0,by have:=h.2.2;unfold ltI at this;simpa using this,j1⟩
 ·cases h
theorem ZkN:∀{ts:List T},ts.all qtB=true->∃qs:List (Int×Int),ts=qs.map pq
 |[],_=>⟨[],rfl⟩
 |t::ts,h=>by
  rw[U8,Yg]at h
  obtain⟨q,rfl,_⟩:=qt_pq h.1
  obtain⟨qs,rfl⟩:=ZkN h.2
  exact⟨q::qs,rfl⟩
theorem ZcL(x:T):cf (n+5) 14 [.t x] m=.ok (.t (.bl (QK x))) m:=by
 have key:ex (cf (n+4)) gv QW [some (.t x)] m=.ok (.ret (.t (.bl (QK x)))) m:=by
  unfold QW
  cases x with
  |tup ts =>
   have h0:ev (cf (n+4)) gv (.not (.isi (.var 0) .tuple)) [some (.t (.tup ts))] m=.ok (.t (.bl false)) m:=QC (Q8 (k:=true) (Zb rfl) rfl)
   have h1:ev (cf (n+4)) gv (.cmp .Gt (.blt .len (.cons (.var 0) .nil)) (.gl 7)) [some (.t (.tup ts))] m=.ok (.t (.bl (decide ((8:Int)<(ts.length:Int))))) m:=Qq (ZR (Zb rfl) (Zgy ts)) (Zj5 Zc6) (c_gt _ _)
   show _=Res.ok (Flow.ret (.t (.bl (decide (ts.length<=8)&&(ts.all qtB&&(YM (ts.length-1)).all (ZaG ts)))))) m
   by_cases hl:ts.length<=8
   ·rw[decide_eq_false (show ¬(8:Int)<(ts.length:Int) by omega)]at h1
    rw[decide_eq_true hl,YaL]
    have h2:ev (cf (n+4)) gv (.blt .all (.cons Zac .nil)) [some (.t (.tup ts))] m=.ok (.t (.bl (ts.all qtB))) m:=ZR (Zh8 (B:=qtB) rfl (by omega) λt _=>(ZP (Zb rfl)).trans (qt_is t)) (by
     show(bools? ((ts.map qtB).map T.bl)).map _=_
     rw[ZfM]
     show some (T.bl ((ts.map qtB).all id))=_
     rw[Yam]
     rfl)
    cases q:ts.all qtB with
    |false =>
     rw[q]at h2
     exact X6 ((QR h0).trans ((QR h1).trans (QC h2))) (Zj (Zc _))
    |true =>
     rw[q]at h2
     refine(JH ((QR h0).trans ((QR h1).trans (QC h2)))).trans (Zj ?_)
     rw[YaL]
     obtain⟨qs,rfl⟩:=ZkN q
     rw[Yi]at hl ⊢
     have hit:ev (cf (n+4)) gv (.blt .range2 (.cons (.con (.int 1)) (.cons (.blt .len (.cons (.var 0) .nil)) .nil))) [some (.t (.tup (qs.map pq)))] m=.ok (.t (.lst ((YM (qs.length-1)).map λk:Nat=>T.int (1+(k:Int))))) m:=by
      refine ZfF (Ze (Zc _) (Ze (ZR (Zb rfl) (Zgy _)) ZK)) rfl ?_
      rw[Yi]
      have e:((qs.length:Int)-1).toNat=qs.length-1:=by omega
      rw[l_rng2 ⟨⟨by decide,by decide⟩,Int.lt_of_le_of_lt (b:=8) (by omega) (by decide),Int.le_trans (b:=0) (by decide) (by omega)⟩,e]
      rfl
     have hc:ev (cf (n+4)) gv Zad [some (.t (.tup (qs.map pq)))] m=.ok (.t (.lst ((YM (qs.length-1)).map λk=>T.bl (ZaG (qs.map pq) k)))) m:=by
      have:=Zmd (own:=1) (keep:=[0]) (tg:=.nm 0) (cs:=.nil) (inner:=XJ) (emb:=λk:Nat=>T.int (1+(k:Int))) (g:=λk=>[T.bl (ZaG (qs.map pq) k)]) (YM (qs.length-1)) hit rfl (λk hk=>⟨[some (.t (.int (1+(k:Int)))),some (.t (.tup (qs.map pq)))],rfl,Zjc (Zdb ?_)⟩) (by rw[Qj,Yi,WM];unfold lim;omega)
      ·rw[Qj]at this;exact this
      ·have hk:k<qs.length-1:=W6.mp hk
       have h1:k<qs.length:=by omega
       have h2:k+1<qs.length:=by omega
       have g1:(qs.map pq)[k]?=some (pq qs[k]):=by rw[YJ,YH h1];rfl
       have g2:(qs.map pq)[k+1]?=some (pq qs[k+1]):=by rw[YJ,YH h2];rfl
       have e1:(1+(k:Int))-1=((k:Nat):Int):=by omega
       have e2:1+(k:Int)=((k+1:Nat):Int):=by omega
       have a1:atT (qs.map pq) ((1+(k:Int))-1)=some (pq qs[k]):=by rw[e1,ZkM (by omega) (by rw[Yi];omega)];exact g1
       have a2:atT (qs.map pq) (1+(k:Int))=some (pq qs[k+1]):=by rw[e2,ZkM (by omega) (by rw[Yi];omega)];exact g2
       have e:ZaG (qs.map pq) k=decide (qs[k].2<qs[k+1].1):=by unfold ZaG;rw[g1,g2];rfl
       rw[e]
       exact Qq (J7 (J7 (Zb rfl) (Zr (Zb rfl) (Zc _) (b_sub _ _)) a1) (Zc _) rfl) (J7 (J7 (Zb rfl) (Zb rfl) a2) (Zc _) rfl) (c_lt _ _)
     refine ZR hc ?_
     rw[l_all (ZbR _ _),Yam]
     rfl
   ·rw[decide_eq_true (show(8:Int)<(ts.length:Int) by omega)]at h1
    rw[decide_eq_false hl,Gd]
    exact X6 ((QR h0).trans (Zcp h1)) (Zj (Zc _))
  |_=>exact X6 (Zcp (QC (k:=false) (Q8 (Zb rfl) rfl))) (Zj (Zc _))
 exact ZG (Zef _ _ _) rfl key (Zo (cell:=false) rfl)
end
noncomputable abbrev HN:List Gz:=["rule","borne","quiet","time","offers","lefts","ends","rows"]
noncomputable def hT(r b q:T):List T:=[r,b,q,.non,.lst [],.lst [],.lst [],.lst []]
noncomputable def okH(r b q:T):Bool:=okB oneB 3 r&&(okB wdB 4 b&&QK q)
section
variable{n:Nat}{m m1:Mem}{r b q:T}{env:Env}{es:Es}
section
variable{call:Nat->List W->Mem->Res W}{gv:List T}{env':Env}{m2:Mem}{e:E}{a bb k:S}{x:Exc}{yes:List Nat}{nm:Option Nat}
theorem ex_ifX(h:ev call gv e env m=.ok (.t (.bl true)) m1)(h2:ex call gv a env m1=.exc x m2):ex call gv (.ife e a bb k) env m=.exc x m2:=by
 rw[ex,h]
 show(ex call gv a env m1).bind _=_
 rw[h2];rfl
theorem Zl7(h:ex call gv a env m=.ok (.next env') m1):ex call gv (.tri a yes nm bb k) env m=ex call gv k env' m1:=by
 rw[ex,h]
theorem Zl6(h:ex call gv a env m=.exc x m1)(hy:x.cls∈yes)(h2:ex call gv bb (hEnv env.length nm x) m1=.ok (.next env') m2):ex call gv (.tri a yes nm bb k) env m=ex call gv k (unE nm env') m2:=by
 rw[ex,h]
 dsimp only
 rw[if_pos hy,h2]
 rfl
end
theorem Zda{call:Nat->List W->Mem->Res W}{gv:List T}{a:E}{x:T}(h:ev call gv a env m=.ok (.t x) m1):ev call gv (.tr a) env m=.ok (.t x) m1:=by rw[ev,h];rfl
theorem init_c(hf:fitA b=true):ev (cf (n+5)) gv ZQ [some .u,some (.t r),some (.t b),some (.t q)] m=.ok (.t (.bl (!okH r b q))) m:=by
 unfold ZQ okH
 have h1:=(ZP (f:=7) (Zb (call:=cf (n+5)) (gv:=gv) (env:=[some .u,some (.t r),some (.t b),some (.t q)]) (m:=m) (i:=1) rfl)).trans (Zk3 (n:=n+2))
 have h2:=(ZP (f:=8) (Zb (call:=cf (n+5)) (gv:=gv) (env:=[some .u,some (.t r),some (.t b),some (.t q)]) (m:=m) (i:=2) rfl)).trans (Zkm (n:=n+2) hf)
 have h3:=(ZP (f:=14) (Zb (call:=cf (n+5)) (gv:=gv) (env:=[some .u,some (.t r),some (.t b),some (.t q)]) (m:=m) (i:=3) rfl)).trans (ZcL (n:=n) q)
 cases q1:okB oneB 3 r with
 |false=>rw[q1]at h1;exact Zcp (QC h1)
 |true =>
  rw[q1]at h1
  refine(QR (QC h1)).trans ?_
  cases q2:okB wdB 4 b with
  |false=>rw[q2]at h2;exact Zcp (QC h2)
  |true=>rw[q2]at h2;exact(QR (QC h2)).trans (QC h3)
theorem ZlZ(hf:fitA b=true):cf (n+6) 15 [.u,.t r,.t b,.t q] m=if okH r b q=true then .ok (.t (.tup (hT r b q))) m else .exc ⟨140,[],[]⟩ m:=by
 have hc:=init_c (n:=n) (m:=m) (r:=r) (q:=q) hf
 cases h:okH r b q with
 |true =>
  rw[h]at hc
  rw[if_pos rfl]
  refine ZG (Ji _ _ _) rfl ((JH hc).trans (Zj (X7 (ts:=hT r b q) (ws:=(hT r b q).map .t) (m1:=m) ?_ rfl ZC))) (Zo (cell:=false) rfl)
  exact Ze (Zda (Zb rfl)) (Ze (Zda (Zb rfl)) (Ze (Zda (Zb rfl)) (Ze (Zda (Zc _)) (Ze (Zda (Qa ZK rfl ZC)) (Ze (Zda (Qa ZK rfl ZC)) (Ze (Zda (Qa ZK rfl ZC)) (Ze (Zda (Qa ZK rfl ZC)) ZK)))))))
 |false =>
  rw[h]at hc
  rw[if_neg (by decide),Ji]
  have:ex (cf (n+5)) gv Z1 [some .u,some (.t r),some (.t b),some (.t q)] m=.exc ⟨140,[],[]⟩ m:=by
   unfold Z1
   refine ex_ifX hc ?_
   rw[ex,Ze (Zc _) ZK]
   rfl
  refine(if_pos rfl).trans ?_
  show(ex (cf (n+5)) gv Z1 [some .u,some (.t r),some (.t b),some (.t q)] m).bind _=_
  rw[this]
  rfl
theorem Zh9(he:evs (cf (n+6)) gv es env m=.ok [.t r,.t b,.t q] m1)(hf:fitA b=true):ev (cf (n+6)) gv (.make 15 710 HN es) env m=if okH r b q=true then .ok (.o 710 HN (hT r b q)) m1 else .exc ⟨140,[],[]⟩ m1:=by
 rw[ev,he,Zg]
 show((cf (n+6)) 15 [.u,.t r,.t b,.t q] m1).bind _=_
 rw[ZlZ hf]
 cases okH r b q<;>rfl
theorem ZgL{call:Nat->List W->Mem->Res W}{own:Nat}{keep:List Nat}{it:E}{tg:Tg}{cs:Es}{inner:E}(h:ev call gv it env m=.ok (.t (.lst [])) m):ev call gv (.comp own keep it tg cs inner) env m=.ok (.t (.lst [])) m:=by
 exact X8 (x:=.t (.lst [])) (ts:=[]) (m1:=m) (m2:=m) h rfl rfl (Wd _)
theorem emp0{call:Nat->List W->Mem->Res W}{k:Nat}{a:E}{x t:T}(h:ev call gv a env m=.ok (.t x) m)(hk:empT k x=some t):ev call gv (.emp k a) env m=.ok (.t t) m:=by
 rw[ev,h,Zg]
 show pur (empT k x) m=_
 rw[hk];rfl
theorem for0{call:Nat->List W->Mem->Res W}{tg:Tg}{it:E}{body k:S}(h:ev call gv it env m=.ok (.t (.lst [])) m):ex call gv (.forr tg it body k) env m=ex call gv k env m:=by
 exact X5 (x:=.t (.lst [])) (ts:=[]) (m1:=m) (m2:=m) h rfl rfl
noncomputable def hW(r b q:T):W:=.o 710 HN (hT r b q)
theorem Zco{call:Nat->List W->Mem->Res W}{f:Gz}{t:T}(h0:env[0]?=some (some (hW r b q)))(h:(HN.zip (hT r b q)).lookup f=some t):ev call gv (.fld (.var 0) 710 f) env m=.ok (.t t) m:=by
 rw[ev,Zb h0,Zg]
 show pur (if 710=710 then(HN.zip (hT r b q)).lookup f else none) m=_
 rw[if_pos rfl,h];rfl
theorem JR{call:Nat->List W->Mem->Res W}{f:Nat}{nm:Gz}(h0:env[0]?=some (some (hW r b q)))(h:decide (nm∈HN)=false):ev call gv (.mcal f 710 nm (.var 0) .nil) env m=call f [hW r b q] m:=by
 rw[ev,Zb h0,Zg]
 have:isO 710 nm (hW r b q)=true:=by
  show(decide (710=710)&&!decide (nm∈HN))=true
  rw[h];rfl
 rw[if_pos this,ZK]
 rfl
theorem now_ok:cf (n+1) 16 [hW r b q] m=.ok (.t .non) m:=ZG (Zei _ _ _) rfl (Zj (Zco rfl rfl)) (Zo (cell:=false) rfl)
theorem Zaj:cf (n+1) 19 [hW r b q] m=.ok (.t (.lst [])) m:=by
 refine ZG (Za9 _ _ _) rfl ((Zy (ZgL (ZR (Zda (Zco rfl rfl)) rfl))).trans (Zj (ZgL (Zb rfl)))) (Zo (cell:=false) rfl)
theorem ZeG:cf (n+1) 18 [hW r b q] m=.ok (.t (.lst [])) m:=ZG (ZaL _ _ _) rfl (Zj (ZgL (Zco rfl rfl))) (Zo (cell:=false) rfl)
theorem Zmj:cf (n+1) 21 [hW r b q] m=.ok (.t (.lst [])) m:=ZG (Zdk _ _ _) rfl (Zj (ZR (Zco rfl rfl) rfl)) (Zo (cell:=false) rfl)
theorem Zht:cf (n+1) 9 [.t r,.t (.lst [])] m=.ok (.t (.lst [])) m:=ZG (ZiP _ _ _) rfl ((Zy (emp0 (Zb rfl) rfl)).trans (Zj (ZgL (Zb rfl)))) (Zo (cell:=false) rfl)
theorem row_ok:cf (n+2) 17 [hW r b q] m=.ok (.t (.lst [])) m:=ZG (Zeh _ _ _) rfl (Zj ((Zt (Zco rfl rfl) ((JR rfl (by decide +kernel)).trans Zaj)).trans Zht)) (Zo (cell:=false) rfl)
theorem ZfX:cf (n+1) 10 [.t b,.t (.lst [])] m=.ok (.t (.lst [])) m:=ZG (ZgO _ _ _) rfl ((Zy (Qa ZK rfl ZC)).trans ((for0 (emp0 (ZgL (Zb rfl)) rfl)).trans (Zj (ZR (Zb rfl) rfl)))) (Zo (cell:=false) rfl)
theorem Zdn:cf (n+1) 11 [.t (.lst [])] m=.ok (.t (.dct [] [])) m:=ZG (Zdg _ _ _) rfl (Zj (emp0 (ZgL (Zb rfl)) rfl)) (Zo (cell:=false) rfl)
theorem ZiA{call:Nat->List W->Mem->Res W}:ev call gv (.dsp .nil .nil) env m=.ok (.t (.dct [] [])) m:=by rw[ev,ZK];rfl
theorem ZcK:cf (n+2) 12 [.t b,.t (.lst [])] m=.ok (.t (.dct [] [])) m:=ZG (Zdf _ _ _) rfl ((Zy ((ZP (Zb rfl)).trans Zdn)).trans ((Zy ZiA).trans ((for0 ((Zt (Zb rfl) (Zb rfl)).trans ZfX)).trans (Zj (Zb rfl))))) (Zo (cell:=false) rfl)
theorem Zk4:cf (n+3) 20 [hW r b q] m=.ok (.t (.dct [] [])) m:=ZG (Zdj _ _ _) rfl (Zj ((Zt (Zco rfl rfl) ((JR rfl (by decide +kernel)).trans Zaj)).trans ZcK)) (Zo (cell:=false) rfl)
theorem Zi0:cf (n+4) 31 [hW r b q] m=.ok (.t (.bl true)) m:=by
 refine ZG (ZgR _ _ _) rfl ((JH (m1:=m) ?_).trans (Zj ?_)) (Zo (cell:=false) rfl)
 ·have nl:∀{a:E},ev (cf (n+3)) gv a [some (hW r b q)] m=.ok (.t (.lst [])) m->ev (cf (n+3)) gv (.cmp .NotEq a (.lst .nil)) [some (hW r b q)] m=.ok (.t (.bl false)) m:=λh=>Qq h (Qa ZK rfl ZC) rfl
  refine(QR (Qq (y:=.non) ((JR rfl (by decide +kernel)).trans now_ok) (Zc _) rfl)).trans ?_
  refine(QR (nl ((JR rfl (by decide +kernel)).trans row_ok))).trans ?_
  refine(QR (nl ((JR rfl (by decide +kernel)).trans Zmj))).trans ?_
  exact nl ((JR rfl (by decide +kernel)).trans ZeG)
 ·refine(JW (Qq (y:=.lst []) ((JR rfl (by decide +kernel)).trans Zaj) (Qa ZK rfl ZC) rfl)).trans ?_
  exact emp0 ((JR rfl (by decide +kernel)).trans Zk4) rfl
noncomputable def Zi9(ok:Bool):T:=if ok then .non else .tup [.bl true,.bl true,.bl false]
theorem Zg0(hf:fitA b=true):cf (n+7) 30 [.t r,.t b,.t q] m=.ok (.t (Zi9 (okH r b q))) m:=by
 refine ZG (w:=.t (Zi9 (okH r b q))) (m1:=m) (Zkf _ _ _) rfl ?_ (Zo (cell:=false) rfl)
 unfold ZbV
 refine(Zy (Zc _)).trans ?_
 show ex (cf (n+6)) gv _ [some (.t r),some (.t b),some (.t q),some (.t .non),none,none] m=_
 have hm:=Zh9 (n:=n) (m:=m) (env:=[some (.t r),some (.t b),some (.t q),some (.t .non),none,none]) (es:=.cons (.var 0) (.cons (.var 1) (.cons (.var 2) .nil))) (Ze (Zb rfl) (Ze (Zb rfl) (Ze (Zb rfl) ZK))) hf
 cases h:okH r b q with
 |true =>
  rw[h,if_pos rfl]at hm
  have hb:ex (cf (n+6)) gv XD [some (.t r),some (.t b),some (.t q),some (.t .non),none,none] m=.ok (.next [some (.t r),some (.t b),some (.t q),some (.t .non),none,none]) m:=(ZaI hm).trans Xh
  exact(Zl7 hb).trans (Zj (Zb rfl))
 |false =>
  rw[h,if_neg (by decide)]at hm
  have hb:ex (cf (n+6)) gv XD [some (.t r),some (.t b),some (.t q),some (.t .non),none,none] m=.exc ⟨140,[],[]⟩ m:=by
   unfold XD
   rw[ex,hm]
   rfl
  have hx:∀{env:Env}{yes no:List Nat}{k:Bool},env[4]?=some (some (.x 140 [] []))->xisT yes no (.x 140 [] [])=some (.bl k)->ev (cf (n+6)) gv (.xis (.var 4) yes no) env m=.ok (.t (.bl k)) m:=λ{env yes no k} h0 h=>by
   rw[ev,Zb h0,Zg,h]
   rfl
  have hh:ex (cf (n+6)) gv ZbH (hEnv 6 (some 4) ⟨140,[],[]⟩) m=.ok (.next [none,none,none,some (.t (Zi9 false)),some (.x 140 [] []),some (.t (.bl false))]) m:=by
   unfold ZbH
   refine(Zy (hx rfl rfl)).trans ((Zy (X7 (Ze (hx rfl rfl) (Ze (hx rfl rfl) (Ze ((QR (Zb rfl)).trans (hx rfl rfl)) ZK))) rfl ZC)).trans Xh)
  exact(Zl6 hb (by decide) hh).trans (Zj (Zb rfl))
end
theorem Zd9{α β:Type}(f:α->β):∀(A:List α) (k:Nat),(A.map f).eraseIdx k=(A.eraseIdx k).map f
 |[],_=>rfl
 |_::_,0=>rfl
 |a::A,k+1=>by
  show f a::(A.map f).eraseIdx k=f a::(A.eraseIdx k).map f
  rw[Zd9 f A k]
theorem Zbq{α:Type}:∀{A:List α}{k:Nat}{w:α},A[k]?=some w->A.Perm (w::A.eraseIdx k)
 |[],_,_,h=>by simp at h
 |a::A,0,w,h=>by
  have:a=w:=by simpa using h
  subst this
  exact List.Perm.refl _
 |a::A,k+1,w,h=>by
  have h':A[k]?=some w:=by simpa using h
  exact((Zbq h').cons a).trans (List.Perm.swap w a _)
structure MI (m:Mem) (i c1 c2:Nat) (A F:List (List Nat)) (M:Mem):Prop where
 tk:M.take m.length=m
 i:i<m.length
 l1:m.length<=c1
 l2:m.length<=c2
 ne:c1≠c2
 g1:M[c1]?=some (some (false,A.map .str))
 g2:M[c2]?=some (some (false,F.map .str))
theorem MI.at1{m:Mem}{i c1 c2:Nat}{A F:List (List Nat)}{M:Mem}(h:MI m i c1 c2 A F M)(s:List T):(put M i s)[c1]?=some (some (false,A.map .str)):=by
 unfold put
 rw[Yo (by have:=h.i;have:=h.l1;omega)]
 exact h.g1
theorem MI.at2{m:Mem}{i c1 c2:Nat}{A F:List (List Nat)}{M:Mem}(h:MI m i c1 c2 A F M)(s:List T):(put M i s)[c2]?=some (some (false,F.map .str)):=by
 unfold put
 rw[Yo (by have:=h.i;have:=h.l2;omega)]
 exact h.g2
theorem MI.hi{m:Mem}{i c1 c2:Nat}{A F:List (List Nat)}{M:Mem}(h:MI m i c1 c2 A F M):i<M.length:=by
 have h1:=h.i
 have h2:=congrArg YaF h.tk
 rw[Wi]at h2
 omega
theorem MI.fin{m:Mem}{i c1 c2:Nat}{A F:List (List Nat)}{M:Mem}(h:MI m i c1 c2 A F M)(s:List T):(put M i s).take m.length=put m i s:=by
 unfold put
 rw[Ybl,h.tk]
theorem pop_ok{n:Nat}{m:Mem}{i c1 c2 f:Nat}{A F:List (List Nat)}{M:Mem}{s:List T}{env:Env}(h:MI m i c1 c2 A F M)(hs:IsSt s)(hA:0<A.length)(hA':A.length<100)(hF:F.length<100)(e0:env[0]?=some (some (.c i)))(e1:env[1]?=some (some (.c c1)))(ef:env[f]?=some (some (.c c2))):
  ∃(w:List Nat) (k:Nat) (s':List T) (M':Mem),ev (cf (n+1)) gv (.mth .append (.var f) (.cons (.mth .popat (.var 1) (.cons (.call 24 (.cons (.var 0) (.cons (.blt .len (.cons (.var 1) .nil)) .nil))) .nil)) .nil)) env (put M i s)=.ok (.t .non) (put M' i s')/\IsSt s'/\A[k]?=some w/\MI m i c1 c2 (A.eraseIdx k) (F++[w]) M':=by
 obtain⟨r,s1,g,hs1,r0,r1⟩:=Qu (n:=n) (many:=(A.length:Int)) h.hi hs (by omega) (by omega)
 have hr:r.toNat<A.length:=by omega
 have hw:=YH hr
 generalize A[r.toNat]=w at hw
 have i1:i≠c1:=by have:=h.i;have:=h.l1;omega
 have i2:i≠c2:=by have:=h.i;have:=h.l2;omega
 have b1:c1<M.length:=(Ye.mp h.g1).1
 have b2:c2<M.length:=(Ye.mp h.g2).1
 refine⟨w,r.toNat,s1,(M.set c1 (some (false,(A.eraseIdx r.toNat).map .str))).set c2 (some (false,(F++[w]).map .str)),?_,hs1,hw,⟨?_,h.i,h.l1,h.l2,h.ne,?_,?_⟩⟩
 ·have hlen:ev (cf (n+1)) gv (.blt .len (.cons (.var 1) .nil)) env (put M i s)=.ok (.t (.int (A.length:Int))) (put M i s):=by
   have hv:views [W.c c1] (put M i s)=some [.lst (A.map T.str)]:=by
    show(view (.c c1) (put M i s)).bind _=_
    unfold view
    dsimp only
    rw[h.at1 s]
    rfl
   refine ZfF (Ze (Zb e1) ZK) hv ?_
   rw[ZlT,Yi]
  have hD:ev (cf (n+1)) gv (.call 24 (.cons (.var 0) (.cons (.blt .len (.cons (.var 1) .nil)) .nil))) env (put M i s)=.ok (.t (.int r)) (put M i s1):=(Zt (Zb e0) hlen).trans g
  have t1:tyM .popat (.c c1) (put M i s)=true:=by
   show(match(put M i s)[c1]? with
    |some (some _)=>true
    |_=>false)=true
   rw[h.at1 s]
  have t2:tyM .append (.c c2) (put M i s)=true:=by
   show(match(put M i s)[c2]? with
    |some (some _)=>true
    |_=>false)=true
   rw[h.at2 s]
  have mp:mutM .popat (A.map T.str) [.int r]=some (.str w,(A.eraseIdx r.toNat).map T.str):=by
   show(match ixOf (A.map T.str).length r with
    |some k=>((A.map T.str)[k]?).map λt=>(t,(A.map T.str).eraseIdx k)
    |none=>none)=_
   have:ixOf (A.map T.str).length r=some r.toNat:=by
    unfold ixOf
    rw[if_pos r0,Yi,if_pos r1]
   rw[this]
   dsimp only
   rw[YJ,hw,Zd9]
   rfl
  have hP:ev (cf (n+1)) gv (.mth .popat (.var 1) (.cons (.call 24 (.cons (.var 0) (.cons (.blt .len (.cons (.var 1) .nil)) .nil))) .nil)) env (put M i s)=.ok (.t (.str w)) ((put M i s1).set c1 (some (false,(A.eraseIdx r.toNat).map T.str))):=by
   rw[ev,Zb e1,Zg,if_pos t1,Ze hD ZK,Zg]
   show doM .popat (.c c1) [.t (.int r)] (put M i s1)=_
   simp[doM,ZaY,ZaX,Zg,h.at1 s1,mp]
  rw[ev,Zb ef,Zg,if_pos t2,Ze hP ZK,Zg]
  have h2:((put M i s1).set c1 (some (false,(A.eraseIdx r.toNat).map T.str)))[c2]?=some (some (false,F.map T.str)):=by
   rw[Yo h.ne]
   exact h.at2 s1
  have ma:mutM .append (F.map T.str) [.str w]=some (.non,F.map T.str++[.str w]):=if_pos (by rw[Yi];unfold lim;omega)
  show doM .append (.c c2) [.t (.str w)] _=_
  simp only[doM,ZaY,ZaX,Zg,h2,ma]
  unfold put
  rw[V6,YaM _ _ i1,YaM _ _ i2]
  rfl
 ·rw[Yae h.l2,Yae h.l1]
  exact h.tk
 ·rw[Yo h.ne.symm,YB b1]
 ·rw[YB (by rw[Wt];exact b2)]
theorem ZhD{n:Nat}{m:Mem}{i c1 c2 f v:Nat}{body:S}(hb:body=.expr (.mth .append (.var f) (.cons (.mth .popat (.var 1) (.cons (.call 24 (.cons (.var 0) (.cons (.blt .len (.cons (.var 1) .nil)) .nil))) .nil)) .nil)) .done)(hv0:v≠0)(hv1:v≠1)(hvf:v≠f):∀(ts:List T) (A F:List (List Nat)) (M:Mem) (s:List T) (env:Env),MI m i c1 c2 A F M->IsSt s->ts.length<=A.length->A.length<50->F.length+ts.length<50->env[0]?=some (some (.c i))->env[1]?=some (some (.c c1))->env[f]?=some (some (.c c2)) ->
  ∃(A' F':List (List Nat)) (M':Mem) (s':List T) (env':Env),JN (ex (cf (n+1)) gv body) (.nm v) ts env (put M i s)=.ok (.next env') (put M' i s')/\IsSt s'/\MI m i c1 c2 A' F' M'/\(A'++F').Perm (A++F)/\F'.length=F.length+ts.length/\env'[f]?=some (some (.c c2))
 |[],A,F,M,s,env,h,hs,_,_,_,_,_,ef=>⟨A,F,M,s,env,rfl,hs,h,List.Perm.refl _,rfl,ef⟩
 |t::ts,A,F,M,s,env,h,hs,hl,hA,hF,e0,e1,ef=>by
  rw[Wh]at hl hF
  have q0:(env.set v (some (.t t)))[0]?=some (some (.c i)):=by rw[Yo hv0];exact e0
  have q1:(env.set v (some (.t t)))[1]?=some (some (.c c1)):=by rw[Yo hv1];exact e1
  have qf:(env.set v (some (.t t)))[f]?=some (some (.c c2)):=by rw[Yo hvf];exact ef
  obtain⟨w,k,s1,M1,g,hs1,hw,h1⟩:=pop_ok (n:=n) h hs (by omega) (by omega) (by omega) q0 q1 qf
  have hk:=(Ye.mp hw).1
  have hlen:(A.eraseIdx k).length=A.length-1:=GP hk
  obtain⟨A',F',M',s',env',g2,hs2,h2,hp,hf,he⟩:=ZhD hb hv0 hv1 hvf ts (A.eraseIdx k) (F++[w]) M1 s1 _ h1 hs1 (by omega) (by omega) (by rw[Yh,WF];omega) q0 q1 qf
  refine⟨A',F',M',s',env',?_,hs2,h2,hp.trans ?_,by rw[hf,Yh,WF,Wh];omega,he⟩
  ·rw[JN]
   show(ex (cf (n+1)) gv body (env.set v (some (.t t))) (put M i s)).bind _=_
   have:ex (cf (n+1)) gv body (env.set v (some (.t t))) (put M i s)=.ok (.next (env.set v (some (.t t)))) (put M1 i s1):=by
    rw[hb]
    exact(ZaI g).trans Xh
   rw[this]
   exact g2
  ·have h3:=Zbq hw
   have h4:(A.eraseIdx k++(F++[w])).Perm (w::(A.eraseIdx k++F)):=by
    rw[<-YW]
    exact List.perm_append_comm
   exact h4.trans (h3.symm.append_right F)
theorem Zfd{n:Nat}{f c:Nat}{env:Env}{m:Mem}{xs:List T}(ef:env[f]?=some (some (.c c)))(hc:m[c]?=some (some (false,xs))):ev (cf n) gv (.blt .tuple (.cons (.var f) .nil)) env m=.ok (.t (.tup xs)) m:=by
 have hv:views [W.c c] m=some [.lst xs]:=by
  show(view (.c c) m).bind _=_
  unfold view
  dsimp only
  rw[hc]
  rfl
 exact ZfF (Ze (Zb ef) ZK) hv (Zie _)
theorem Zk2{n:Nat}{m:Mem}{i:Nat}{s:List T}(hi:i<m.length)(hs:IsSt s):∃(ws:List (List Nat)) (s':List T),cf (n+2) 26 [.c i] (put m i s)=.ok (.t (.tup (ws.map .str))) (put m i s')/\IsSt s'/\ws.Nodup/\ws.length<=3/\∀w∈ws,w∈four:=by
 have hM:MI m i m.length (m.length+1) four [] (m++[some (false,four.map .str),some (false,[])]):=by
  refine⟨Yaf rfl,hi,Yj _,UJ _,by omega,?_,?_⟩
  ·rw[Yu (Yj _),Uw];rfl
  ·rw[Yu (by omega),Nat.add_sub_cancel_left];rfl
 generalize hMM:m++[some (false,four.map T.str),some (false,[])]=M at hM
 obtain⟨r,s1,g1,hs1,r0,r1⟩:=Qu (n:=n) (many:=5) hM.hi hs (by decide) (by decide)
 obtain⟨z,hz,hzm⟩:=Xl (xs:=[T.int 0,.int 1,.int 1,.int 2,.int 3]) r0 (by simpa using r1)
 have hz':∃v:Nat,z=.int (v:Int)/\v<=3:=by
  simp only[Ys,YF,or_false]at hzm
  rcases hzm with rfl|rfl|rfl|rfl|rfl
  ·exact⟨0,rfl,by decide⟩
  ·exact⟨1,rfl,by decide⟩
  ·exact⟨1,rfl,by decide⟩
  ·exact⟨2,rfl,by decide⟩
  ·exact⟨3,rfl,by decide⟩
 obtain⟨v,rfl,hv⟩:=hz'
 have hrl:(rangeT 0 v).length=v:=by simp[rangeT]
 obtain⟨A',F',M',s2,env',g2,hs2,h2,hp,hf,he⟩:=ZhD (n:=n) (f:=2) (v:=3) (body:=Zd4) rfl (by decide) (by decide) (by decide) (rangeT 0 v) four [] M s1 [some (.c i),some (.c m.length),some (.c (m.length+1)),none] hM hs1 (by rw[hrl];show v<=4;omega) (by decide) (by rw[hrl];simp;omega) rfl rfl rfl
 rw[Ws]at hp
 refine⟨F',s2,?_,hs2,?_,by rw[hf,hrl];simpa using hv,λw hw=>hp.mem_iff.mp (Ym _ hw)⟩
 ·have key:ex (cf (n+1)) gv ZbX [some (.c i),none,none,none] (put m i s)=.ok (.ret (.t (.tup (F'.map .str)))) (put M' i s2):=by
   unfold ZbX
   have p1:put M i s=put m i s++[some (false,four.map .str),some (false,[])]:=by
    rw[<-hMM]
    unfold put
    rw[VN _ _ hi]
   have w1:ev (cf (n+1)) gv (.cel (.cons (.con (.str [104,101,97,118,121])) (.cons (.con (.str [103,114,101,97,116])) (.cons (.con (.str [115,109,97,108,108])) (.cons (.con (.str [115,111,111,110])) .nil))))) [some (.c i),none,none,none] (put m i s)=.ok (.c m.length) (put m i s++[some (false,four.map .str)]):=by
    rw[ev,Ze (Zc _) (Ze (Zc _) (Ze (Zc _) (Ze (Zc _) ZK)))]
    show Res.ok (W.c (put m i s).length) _=_
    rw[Z3]
    rfl
   have w2:ev (cf (n+1)) gv (.cel .nil) [some (.c i),some (.c m.length),none,none] (put m i s++[some (false,four.map .str)])=.ok (.c (m.length+1)) (put M i s):=by
    rw[ev,ZK]
    show Res.ok (W.c (put m i s++[some (false,four.map T.str)]).length) _=_
    rw[Yh,Z3,p1,YW]
    rfl
   refine(Zy w1).trans ?_
   dsimp only[List.set_cons_succ,List.set_cons_zero]
   refine(Zy w2).trans ?_
   dsimp only[List.set_cons_succ,List.set_cons_zero]
   have hr:=ZjX (i:=(v:Int)) (by omega)
   rw[GJ]at hr
   refine(X5 (ZR (J7 (Qa (Ze (Zc _) (Ze (Zc _) (Ze (Zc _) (Ze (Zc _) (Ze (Zc _) ZK))))) rfl ZC) ((Zt (Zb rfl) (Zc _)).trans g1) hz) hr) rfl g2).trans ?_
   exact Zj (Zfd he (h2.at2 s2))
  refine ZG (Zkh _ _ _) rfl key ?_
  show Res.ok _ ((put M' i s2).take (put m i s).length)=_
  rw[Z3,h2.fin]
 ·have:=hp.nodup_iff.mpr (show four.Nodup by decide)
  exact(Yau.mp this).2.1
structure QI (m:Mem) (i c:Nat) (F:List (Int×Int)) (M:Mem):Prop where
 tk:M.take m.length=m
 i:i<m.length
 l:m.length<=c
 g:M[c]?=some (some (false,F.map pq))
theorem QI.at'{m:Mem}{i c:Nat}{F:List (Int×Int)}{M:Mem}(h:QI m i c F M)(s:List T):(put M i s)[c]?=some (some (false,F.map pq)):=by
 unfold put
 rw[Yo (by have:=h.i;have:=h.l;omega)]
 exact h.g
theorem QI.hi{m:Mem}{i c:Nat}{F:List (Int×Int)}{M:Mem}(h:QI m i c F M):i<M.length:=by
 have h1:=h.i
 have h2:=congrArg YaF h.tk
 rw[Wi]at h2
 omega
noncomputable def GF(F:List (Int×Int))(t:Int):Prop:=(∀q∈F,0<=q.1/\q.1<q.2/\q.2<=t)/\F.Pairwise (λa b=>a.2<b.1)/\-1<=t/\t<=100000000*(F.length:Int)-1
theorem GF.snoc{F:List (Int×Int)}{t b e:Int}(h:GF F t)(h1:t<b)(h2:b<e)(h3:e<=t+100000000):GF (F++[(b,e)]) e:=by
 obtain⟨a1,a2,a3,a4⟩:=h
 refine⟨λq hq=>?_,?_,by omega,by rw[Yh,WF];omega⟩
 ·rcases Uz.mp hq with hq|hq
  ·have:=a1 q hq;omega
  ·cases Wl.mp hq;exact⟨by omega,h2,Int.le_refl _⟩
 ·refine List.pairwise_append.mpr ⟨a2,Gn _ _,λq hq r hr=>?_⟩
  cases Wl.mp hr
  have:=a1 q hq
  show q.2<b
  omega
section
variable{n:Nat}{m:Mem}{i:Nat}
theorem Zkp{s:List T}{M:Mem}{env:Env}(hi:i<M.length)(hs:IsSt s)(h0:env[0]?=some (some (.c i))):∃(d:Int) (s':List T),ev (cf (n+1)) gv (.ix (.lst (.cons (.call 24 (.cons (.var 0) (.cons (.con (.int 3)) .nil))) (.cons (.call 24 (.cons (.var 0) (.cons (.bin .Mult (.con (.int 5)) (.bin .Pow (.con (.int 10)) (.con (.int 7)))) .nil))) .nil))) (.call 24 (.cons (.var 0) (.cons (.con (.int 2)) .nil)))) env (put M i s)=.ok (.t (.int d)) (put M i s')/\IsSt s'/\0<=d/\d<50000000:=by
 obtain⟨a,s1,g1,hs1,a0,a1⟩:=Qu (n:=n) (many:=3) hi hs (by decide) (by decide)
 obtain⟨b,s2,g2,hs2,b0,b1⟩:=Qu (n:=n) (many:=50000000) hi hs1 (by decide) (by decide)
 obtain⟨c,s3,g3,hs3,c0,c1⟩:=Qu (n:=n) (many:=2) hi hs2 (by decide) (by decide)
 obtain⟨z,hz,hzm⟩:=Xl (xs:=[T.int a,.int b]) c0 (by simpa using c1)
 have:∃d,z=.int d/\0<=d/\d<50000000:=by
  simp only[Ys,YF,or_false]at hzm
  rcases hzm with rfl|rfl
  ·exact⟨a,rfl,a0,by omega⟩
  ·exact⟨b,rfl,b0,b1⟩
 obtain⟨d,rfl,d0,d1⟩:=this
 exact⟨d,s3,J7 (Qa (Ze ((Zt (Zb h0) (Zc _)).trans g1) (Ze ((Zt (Zb h0) (Zr (Zc _) (Zr (Zc _) (Zc _) rfl) rfl)).trans g2) ZK)) rfl ZC) ((Zt (Zb h0) (Zc _)).trans g3) hz,hs3,d0,d1⟩
theorem Zce{c:Nat}:∀(ts:List T) {F:List (Int×Int)}{t:Int}{M:Mem}{s:List T}{e3 e4:Option W},QI m i c F M->IsSt s->GF F t->F.length+ts.length<=8 ->
  ∃F' t' M' s' f3 f4,JN (ex (cf (n+1)) gv Jf) (.nm 3) ts [some (.c i),some (.c c),some (.t (.int t)),e3,e4] (put M i s)=.ok (.next [some (.c i),some (.c c),some (.t (.int t')),f3,f4]) (put M' i s')/\IsSt s'/\QI m i c F' M'/\GF F' t'/\F'.length<=8
 |[],F,t,M,s,e3,e4,h,hs,g,hl=>⟨F,t,M,s,e3,e4,rfl,hs,h,g,hl⟩
 |x::ts,F,t,M,s,e3,e4,h,hs,g,hl=>by
  rw[Wh]at hl
  obtain⟨d1,s1,g1,hs1,p1,p2⟩:=Zkp (n:=n) (env:=[some (.c i),some (.c c),some (.t (.int t)),some (.t x),e4]) h.hi hs rfl
  obtain⟨d2,s2,g2,hs2,p3,p4⟩:=Zkp (n:=n) (env:=[some (.c i),some (.c c),some (.t (.int t)),some (.t x),some (.t (.int (t+1+d1)))]) h.hi hs1 rfl
  have G:=g.snoc (b:=t+1+d1) (e:=t+1+d1+1+d2) (by omega) (by omega) (by omega)
  have i1:i≠c:=by have:=h.i;have:=h.l;omega
  have bl:c<M.length:=(Ye.mp h.g).1
  have Q:QI m i c (F++[(t+1+d1,t+1+d1+1+d2)]) (M.set c (some (false,(F++[(t+1+d1,t+1+d1+1+d2)]).map pq))):=by
   refine⟨?_,h.i,h.l,YB bl⟩
   rw[Yae h.l]
   exact h.tk
  obtain⟨F',t',M',s',f3,f4,g3,hs3,h3,G3,l3⟩:=Zce ts (e3:=some (.t x)) (e4:=some (.t (.int (t+1+d1)))) Q hs2 G (by rw[Yh,WF];omega)
  refine⟨F',t',M',s',f3,f4,?_,hs3,h3,G3,l3⟩
  rw[JN]
  show(ex (cf (n+1)) gv Jf [some (.c i),some (.c c),some (.t (.int t)),some (.t x),e4] (put M i s)).bind _=_
  have:ex (cf (n+1)) gv Jf [some (.c i),some (.c c),some (.t (.int t)),some (.t x),e4] (put M i s)=.ok (.next [some (.c i),some (.c c),some (.t (.int (t+1+d1+1+d2))),some (.t x),some (.t (.int (t+1+d1)))]) (put (M.set c (some (false,(F++[(t+1+d1,t+1+d1+1+d2)]).map pq))) i s2):=by
   unfold Jf
   refine(Zy (Zr (Zr (Zb rfl) (Zc _) (Zaf _ _)) g1 (Zaf _ _))).trans ?_
   refine(Zy (Zr (Zr (Zb rfl) (Zc _) (Zaf _ _)) g2 (Zaf _ _))).trans ?_
   refine(ZaI (ZkJ (.inl rfl) rfl (h.at' s2) (Qc (Zb rfl) (Zb rfl)) (h.at' s2) (show mutM .append (F.map pq) [.tup [.int (t+1+d1),.int (t+1+d1+1+d2)]]=some (.non,(F++[(t+1+d1,t+1+d1+1+d2)]).map pq)from ?_))).trans ?_
   ·rw[V6]
    exact if_pos (by rw[Yi];unfold lim;omega)
   ·refine Xh.trans ?_
    unfold put
    rw[YaM _ _ i1]
    rfl
  rw[this]
  exact g3
theorem Zf8{F:List (Int×Int)}{t:Int}(g:GF F t)(hl:F.length<=8):QK (.tup (F.map pq))=true:=by
 obtain⟨a1,a2,a3,a4⟩:=g
 show(decide ((F.map pq).length<=8)&&((F.map pq).all qtB&&(YM ((F.map pq).length-1)).all (ZaG (F.map pq))))=true
 rw[Yi,decide_eq_true hl,YaL,Yg]
 refine⟨YT.mpr λx hx=>?_,YT.mpr λk hk=>?_⟩
 ·obtain⟨q,hq,rfl⟩:=Uc.mp hx
  obtain⟨q1,q2,q3⟩:=a1 q hq
  show((decide (0<=q.1)&&decide (q.1<=1000000000))&&((decide (0<=q.2)&&decide (q.2<=1000000000))&&decide (q.1<q.2)))=true
  rw[decide_eq_true q2,decide_eq_true q1,decide_eq_true (show q.1<=1000000000 by omega),decide_eq_true (show 0<=q.2 by omega),decide_eq_true (show q.2<=1000000000 by omega)]
  rfl
 ·have hk:k<F.length-1:=W6.mp hk
  have h1:k<F.length:=by omega
  have h2:k+1<F.length:=by omega
  unfold ZaG
  rw[YJ,YJ,YH h1,YH h2]
  exact decide_eq_true (List.pairwise_iff_getElem.mp a2 k (k+1) h1 h2 (WX _))
theorem Zjm{s:List T}(hi:i<m.length)(hs:IsSt s):∃(F:List (Int×Int)) (t:Int) (s':List T),cf (n+2) 28 [.c i] (put m i s)=.ok (.t (.tup (F.map pq))) (put m i s')/\IsSt s'/\GF F t/\F.length<=8:=by
 have Q0:QI m i m.length [] (m++[some (false,[])]):=⟨Yaf rfl,hi,Yj _,by rw[Yu (Yj _),Uw];rfl⟩
 have p1:put (m++[some (false,[])]) i s=put m i s++[some (false,[])]:=by unfold put;rw[VN _ _ hi]
 obtain⟨a,s1,g1,hs1,a0,a1⟩:=Qu (n:=n) (many:=4) Q0.hi hs (by decide) (by decide)
 obtain⟨b,s2,g2,hs2,b0,b1⟩:=Qu (n:=n) (many:=9) Q0.hi hs1 (by decide) (by decide)
 obtain⟨c,s3,g3,hs3,c0,c1⟩:=Qu (n:=n) (many:=3) Q0.hi hs2 (by decide) (by decide)
 obtain⟨z,hz,hzm⟩:=Xl (xs:=[T.int a,.int 8,.int b]) c0 (by simpa using c1)
 have:∃v:Nat,z=.int (v:Int)/\v<=8:=by
  simp only[Ys,YF,or_false]at hzm
  rcases hzm with rfl|rfl|rfl
  ·exact⟨a.toNat,by rw[Int.toNat_of_nonneg a0],by omega⟩
  ·exact⟨8,rfl,Yj _⟩
  ·exact⟨b.toNat,by rw[Int.toNat_of_nonneg b0],by omega⟩
 obtain⟨v,rfl,hv⟩:=this
 have hrl:(rangeT 0 v).length=v:=by simp[rangeT]
 obtain⟨F,t,M',s4,f3,f4,g4,hs4,h4,G,hl⟩:=Zce (n:=n) (rangeT 0 v) (t:=-1) (e3:=none) (e4:=none) Q0 hs3 (show GF [] (-1)from⟨λq hq=>(by cases hq),List.Pairwise.nil,by decide,by decide⟩) (by rw[hrl];simpa using hv)
 refine⟨F,t,s4,?_,hs4,G,hl⟩
 have key:ex (cf (n+1)) gv Zag [some (.c i),none,none,none,none] (put m i s)=.ok (.ret (.t (.tup (F.map pq)))) (put M' i s4):=by
  unfold Zag
  have w1:ev (cf (n+1)) gv (.cel .nil) [some (.c i),none,none,none,none] (put m i s)=.ok (.c m.length) (put (m++[some (false,[])]) i s):=by
   rw[ev,ZK,p1]
   show Res.ok (W.c (put m i s).length) _=_
   rw[Z3]
  refine(Zy w1).trans ?_
  refine(Zy (w:=.t (.int (-1))) (by rw[ev,Zc];rfl)).trans ?_
  refine(X5 (ZR (J7 (Qa (Ze ((Zt (Zb rfl) (Zc _)).trans g1) (Ze (Zc _) (Ze ((Zt (Zb rfl) (Zc _)).trans g2) ZK))) rfl ZC) ((Zt (Zb rfl) (Zc _)).trans g3) hz) (ZjX ⟨Int.lt_of_le_of_lt (b:=8) (by omega) (by decide),Int.le_trans (b:=0) (by decide) (by omega)⟩)) rfl (by rw[show((v:Int)).toNat=v from rfl];exact g4)).trans ?_
  exact Zj (Zfd rfl (h4.at' s4))
 refine ZG (ZiQ _ _ _) rfl key ?_
 show Res.ok (W.t (.tup (F.map pq))) ((put M' i s4).take (put m i s).length)=_
 rw[Z3]
 unfold put
 rw[Ybl,h4.tk]
end
theorem Ze2{ts:List T}{x:T}(hx:x∈ts)(h:qtB x=false):QK (.tup ts)=false:=by
 have:ts.all qtB=false:=by
  cases q:ts.all qtB with
  |false=>rfl
  |true=>rw[YT.mp q x hx]at h;cases h
 show(_&&(ts.all qtB&&_))=false
 rw[this,Gd,Ww]
theorem Ze3{xs:List T}{q p:Int×Int}(h:¬q.2<p.1):QK (.tup (xs++[pq q,pq p]))=false:=by
 have hg:ZaG (xs++[pq q,pq p]) xs.length=false:=by
  unfold ZaG
  rw[Yu (Yj _),Yu (Nat.le_add_right _ 1),Uw,Nat.add_sub_cancel_left]
  exact decide_eq_false h
 have:(YM ((xs++[pq q,pq p]).length-1)).all (ZaG (xs++[pq q,pq p]))=false:=by
  cases z:(YM ((xs++[pq q,pq p]).length-1)).all (ZaG (xs++[pq q,pq p]))with
  |false=>rfl
  |true =>
   rw[YT.mp z xs.length (W6.mpr (by rw[Yh];show _<xs.length+2-1;omega))]at hg
   cases hg
 show(_&&(_&&(YM ((xs++[pq q,pq p]).length-1)).all (ZaG (xs++[pq q,pq p]))))=false
 rw[this,Ww,Ww]
theorem Ze9{m:Mem}{j:Nat}{xs:List T}(h:m[j]?=some (some (false,xs))):view (.c j) m=some (.lst xs):=by
 unfold view
 dsimp only
 rw[h]
section
variable{n:Nat}{M:Mem}{i:Nat}{s s':List T}{env:Env}{ts xs ys:List T}{ws:List W}{es:Es}{a b:E}{k j:Nat}{x:T}
theorem Zew{c:Option (Bool×List T)}(hi:i<M.length):put M i s++[c]=put (M++[c]) i s:=by unfold put;rw[VN _ _ hi]
theorem Xd(hi:i<M.length):(put (M++[some (false,xs)]) i s)[M.length]?=some (some (false,xs)):=by
 rw[<-Zew hi,Yu (by rw[Z3];exact Yj _),Z3,Uw]
 rfl
theorem ZkL(hi:i<M.length)(h:evs (cf n) gv es env (put M i s)=.ok ws (put M i s'))(h2:frzs ws (put M i s')=.ok ts (put M i s'))(hl:ts.length<=lim):ev (cf n) gv (.cel es) env (put M i s)=.ok (.c M.length) (put (M++[some (false,ts)]) i s'):=by
 rw[ev,h,Zg,h2,Zg,if_pos hl,Z3,Zew hi]
theorem Zi1(hi:i<M.length)(hv:env[k]?=some (some (.c M.length)))(ha:ev (cf n) gv a env (put (M++[some (false,xs)]) i s)=.ok (.t x) (put (M++[some (false,xs)]) i s'))(hl:xs.length<lim):
  ev (cf n) gv (.mth .append (.var k) (.cons a .nil)) env (put (M++[some (false,xs)]) i s)=.ok (.t .non) (put (M++[some (false,xs++[x])]) i s'):=by
 rw[ZkJ (.inl rfl) hv (Xd hi) ha (Xd hi) (show mutM .append xs [x]=some (.non,xs++[x])from if_pos hl)]
 unfold put
 rw[YaM _ _ (Yv hi),Zk1]
theorem ZeW(hv:env[k]?=some (some (.c j)))(hi:i<M.length)(hj:(put M i s)[j]?=some (some (false,xs)))(hb:ev (cf n) gv b env (put M i s)=.ok (.t (.lst ys)) (put M i s))(hl:xs.length+ys.length<=lim):ev (cf n) gv (.celA (.var k) b) env (put M i s)=.ok (.c M.length) (put (M++[some (false,xs++ys)]) i s):=by
 rw[ev,Zb hv,Zg,hb,Zg]
 unfold addC
 rw[Ze9 hj]
 show(match addT (.lst xs) (.lst ys)with|some (.lst ts)=>_|_=>_)=_
 rw[show addT (.lst xs) (.lst ys)=some (.lst (xs++ys))from if_pos hl]
 dsimp only
 rw[Z3,Zew hi]
theorem Zfv(hi:i<M.length)(hs:IsSt s)(hij:i≠j)(hj:M[j]?=some (some (false,xs)))(h0:0<xs.length)(h1:xs.length<1000):∃x s',cf (n+2) 25 [.c i,.c j] (put M i s)=.ok (.t x) (put M i s')/\IsSt s'/\x∈xs:=by
 obtain⟨r,s1,g1,hs1,r0,r1⟩:=Qu (n:=n) (many:=(xs.length:Int)) hi hs (by omega) (by omega)
 obtain⟨x,hx,hm⟩:=Xl r0 r1
 have at':∀s,(put M i s)[j]?=some (some (false,xs)):=λs=>by unfold put;rw[Yo hij];exact hj
 refine⟨x,s1,?_,hs1,hm⟩
 have hlen:ev (cf (n+1)) gv (.blt .len (.cons (.var 1) .nil)) [some (.c i),some (.c j)] (put M i s)=.ok (.t (.int (xs.length:Int))) (put M i s):=ZfF (Ze (Zb rfl) ZK) (show(view (.c j) (put M i s)).bind _=some [.lst xs]from by rw[Ze9 (at' s)];rfl) (ZlT xs)
 have key:ex (cf (n+1)) gv Xk [some (.c i),some (.c j)] (put M i s)=.ok (.ret (.t x)) (put M i s1):=by
  unfold Xk
  refine Zj ?_
  rw[ev,Zb rfl,Zg,(Zt (Zb rfl) hlen).trans g1,Zg]
  show pur ((view (.c j) (put M i s1)).bind _) _=_
  rw[Ze9 (at' s1)]
  show pur (atT xs r) _=_
  rw[hx]
  rfl
 exact ZG (ZfI _ _ _) rfl key (Zo (cell:=false) (by rw[Z3,Z3]))
end
noncomputable def odd(l:Int):List T:=[pq (l+5,l+5),pq (l+9,l+5),pq (l+1,1000000001),pq (-1,3),.tup [.int (l+1),.bl true],.tup [.non,.int (l+3)],.tup [.str [49],.str [50]],.tup [.int (l+1)],.tup [.int (l+1),.int (l+2),.int (l+3)],.lst [.int (l+1),.int (l+2)],.non,.int 7,.str [51,45,55],.tup [.int (l+2),.lst [.int (l+5)]]]
theorem Zh2{l:Int}{x:T}(h:x∈odd l):qtB x=false:=by
 have e:∀{a b:Int},(a<b->b<=1000000000->a<0)->qtB (pq (a,b))=false:=λ{a b} h=>by
  show((decide (0<=a)&&decide (a<=1000000000))&&((decide (0<=b)&&decide (b<=1000000000))&&decide (a<b)))=false
  by_cases h1:a<b
  ·by_cases h2:b<=1000000000
   ·rw[decide_eq_false (show ¬0<=a by have:=h h1 h2;omega)];rfl
   ·rw[decide_eq_false h2,Ww,Gd,Ww]
  ·rw[decide_eq_false h1,Ww,Ww]
 unfold odd at h
 simp only[Ys,YF,or_false]at h
 rcases h with rfl|rfl|rfl|rfl|rfl|rfl|rfl|rfl|rfl|rfl|rfl|rfl|rfl|rfl
 ·exact e λh=>by omega
 ·exact e λh=>by omega
 ·exact e λh h2=>absurd h2 (by decide)
 ·exact e λh h2=>by decide
 ·show(_&&(tmB (.bl true)&&_))=false;rw[show tmB (.bl true)=false from rfl,Gd,Ww]
 ·rfl
 ·rfl
 ·rfl
 ·rfl
 ·rfl
 ·rfl
 ·rfl
 ·rfl
 ·show(_&&(tmB (.lst _)&&_))=false;rw[show ∀ts,tmB (.lst ts)=false from λ_=>rfl,Gd,Ww]
noncomputable def nine:T:=.tup ((YM 9).map λk:Nat=>.tup [.int (10*(k:Int)),.int (10*(k:Int)+5)])
theorem ZjP:QK nine=false:=rfl
section
variable{n:Nat}{m:Mem}{i:Nat}
theorem Zmk{N:Mem}{s xs:List T}{j:Nat}{e1 e2 e3 e4 e5 e7 e8:Option W}(hi:i<N.length)(hs:IsSt s)(hj:(put N i s)[j]?=some (some (false,xs)))(hl:xs.length<900):∃x s',ex (cf (n+2)) gv (.asg 8 (.blt .tuple (.cons Qx .nil)) (.ret (.call 25 (.cons (.var 0) (.cons (.bin .Add (.var 6) (.lst (.cons (.var 8) .nil))) .nil))) .done)) [some (.c i),e1,e2,e3,e4,e5,some (.c j),e7,e8] (put N i s)=.ok (.ret (.t x)) (put N i s')/\IsSt s'/\x∈xs++[nine]:=by
 obtain⟨x,s1,g,hs1,hx⟩:=ZeA (n:=n) (xs:=xs++[nine]) hi hs (by rw[Yh];exact Nat.succ_pos _) (by rw[Yh];show _+1<_;omega)
 refine⟨x,s1,?_,hs1,hx⟩
 have hc:ev (cf (n+2)) gv Qx [some (.c i),e1,e2,e3,e4,e5,some (.c j),e7,e8] (put N i s)=.ok (.t (.lst ((YM 9).map λk:Nat=>.tup [.int (10*(k:Int)),.int (10*(k:Int)+5)]))) (put N i s):=by
  have:=Zmd (own:=1) (keep:=[]) (tg:=.nm 0) (cs:=.nil) (inner:=Xa) (env:=[some (.c i),e1,e2,e3,e4,e5,some (.c j),e7,e8]) (m:=put N i s) (call:=cf (n+2)) (gv:=gv) (emb:=λk:Nat=>T.int (0+(k:Int))) (g:=λk=>[T.tup [.int (10*(k:Int)),.int (10*(k:Int)+5)]]) (YM 9) (ZR (Zc _) (ZjX (i:=9) (by decide))) rfl (λk hk=>⟨[some (.t (.int (0+(k:Int))))],rfl,Zjc (Zdb ?_)⟩) (by rw[Qj,Yi,WM];decide)
  ·rw[Qj]at this;exact this
  ·have hk:k<9:=W6.mp hk
   have e:(0:Int)+(k:Int)=(k:Int):=Int.zero_add _
   rw[e]
   exact Qc (Zr (Zc _) (Zb rfl) (Ze4 (mulL (by decide) (by decide)))) (Zr (Zr (Zc _) (Zb rfl) (Ze4 (mulL (by decide) (by decide)))) (Zc _) (Zaf _ _))
 refine(Zy (ZR hc (Zie _))).trans (Zj ?_)
 have ha:ev (cf (n+2)) gv (.bin .Add (.var 6) (.lst (.cons (.var 8) .nil))) [some (.c i),e1,e2,e3,e4,e5,some (.c j),e7,some (.t nine)] (put N i s)=.ok (.t (.lst (xs++[nine]))) (put N i s):=by
  rw[ev,Zb rfl,Zg,Qa (Ze (Zb rfl) ZK) rfl ZC,Zg]
  show pur ((view (.c j) (put N i s)).bind _) _=_
  rw[Ze9 hj]
  show pur (addT (.lst xs) (.lst [nine])) _=_
  rw[show addT (.lst xs) (.lst [nine])=some (.lst (xs++[nine]))from if_pos (by show _+1<=lim;unfold lim;omega)]
  rfl
 exact(Zt (Zb rfl) ha).trans g
theorem Zid:∀(F:List (Int×Int)) {l:Int}{e1 e3 e4 e5 e6 e7 e8:Option W}{M:Mem},∃l' f3 f4,JN (ex (cf n) gv Qw) (.tp [3,4]) (F.map pq) [some (.c i),e1,some (.t (.int l)),e3,e4,e5,e6,e7,e8] M=.ok (.next [some (.c i),e1,some (.t (.int l')),f3,f4,e5,e6,e7,e8]) M
 |[],l,e1,e3,e4,e5,e6,e7,e8,M=>⟨l,e3,e4,rfl⟩
 |q::F,l,e1,e3,e4,e5,e6,e7,e8,M=>by
  obtain⟨l',f3,f4,h⟩:=Zid F (l:=q.2) (e1:=e1) (e3:=some (.t (.int q.1))) (e4:=some (.t (.int q.2))) (e5:=e5) (e6:=e6) (e7:=e7) (e8:=e8) (M:=M)
  refine⟨l',f3,f4,?_⟩
  rw[Wa,JN]
  show(ex (cf n) gv Qw [some (.c i),e1,some (.t (.int l)),some (.t (.int q.1)),some (.t (.int q.2)),e5,e6,e7,e8] M).bind _=_
  unfold Qw
  rw[(Zy (Zb rfl)).trans Xh]
  exact h
end
theorem ZiF:∀F:List (Int×Int),Z8 59 (F.map pq)=true
 |[]=>rfl
 |q::F=>by
  rw[Wa,Z8,ZiF F]
  rfl
theorem Zmp{α:Type}(xs:List α)(x:α):atT (xs++[x]) (-1)=some x:=by
 unfold atT ixOf
 rw[if_neg (by decide),if_pos (by rw[Yh];show -((xs.length+1:Nat):Int)<=-1;omega)]
 show(xs++[x])[(-1+((xs++[x]).length:Int)).toNat]?=_
 have:(-1+((xs++[x]).length:Int)).toNat=xs.length:=by rw[Yh];show(-1+((xs.length+1:Nat):Int)).toNat=_;omega
 rw[this,Yu (Yj _),Uw]
 rfl
theorem ZeR{α:Type}(x:α)(r:List α):cut (x::r) none (some 1)=[x]:=by
 show((x::r).drop 0).take (min 1 (r.length+1)-0)=_
 rw[Nat.min_eq_left (by omega)]
 rfl
theorem Zkb{α:Type}(xs:List α)(x:α):cut (xs++[x]) none (some (-1))=xs:=by
 show((xs++[x]).drop 0).take ((-1+((xs++[x]).length:Int)).toNat-0)=_
 have:(-1+((xs++[x]).length:Int)).toNat=xs.length:=by rw[Yh];show(-1+((xs.length+1:Nat):Int)).toNat=_;omega
 rw[this]
 exact Yaf rfl
theorem qt_no{a b:Int}(h:¬a<b):qtB (.tup [.int a,.int b])=false:=by
 show(_&&(_&&decide (a<b)))=false
 rw[decide_eq_false h,Ww,Ww]
theorem Zl8{call:Nat->List W->Mem->Res W}{gv:List T}{env:Env}{m:Mem}:ev call gv (.neg (.con (.int 1))) env m=.ok (.t (.int (-1))) m:=by rw[ev,Zc];rfl
section
variable{n:Nat}{m:Mem}{i:Nat}
theorem bad_if{M:Mem}{s f:List T}{F:List (Int×Int)}{t:Int}{e2 e3 e4 e5 e7 e8:Option W}{k:S}(hi:i<M.length)(G:GF F t)(hl:F.length<=8)(hf:∀x∈f,QK x=false)(hfl:f.length<=20)(hm:M.take m.length=m)(hml:m.length<=M.length):
  ∃M' j f' e7',i<M'.length/\M'.take m.length=m/\(put M' i s)[j]?=some (some (false,f'))/\f'.length<900/\(∀x∈f',QK x=false) /\
   ex (cf (n+2)) gv (.ife (.cmp .NotEq (.var 1) (.tup .nil)) (.asg 7 (.tup (.cons (.ix (.ix (.var 1) (.neg (.con (.int 1)))) (.con (.int 1))) (.cons (.bin .Add (.ix (.ix (.var 1) (.neg (.con (.int 1)))) (.con (.int 1))) (.con (.int 4))) .nil))) (.asg 6 (.celA (.var 6) (.lst (.cons (.bin .Add (.var 1) (.tup (.cons (.var 7) .nil))) (.cons (.bin .Add (.var 1) (.slc (.var 1) .hole (.con (.int 1)))) (.cons (.bin .Add (.var 1) (.tup (.cons (.tup (.cons (.ix (.ix (.var 1) (.neg (.con (.int 1)))) (.con (.int 0))) (.cons (.bin .Add (.ix (.ix (.var 1) (.neg (.con (.int 1)))) (.con (.int 1))) (.con (.int 1))) .nil))) .nil))) .nil))))) (.expr (.mth .append (.var 6) (.cons (.bin .Add (.slc (.var 1) .hole (.neg (.con (.int 1)))) (.tup (.cons (.rev (.ix (.var 1) (.neg (.con (.int 1))))) .nil))) .nil)) .done))) .done k) [some (.c i),some (.t (.tup (F.map pq))),e2,e3,e4,e5,some (.c M.length),e7,e8] (put (M++[some (false,f)]) i s)=ex (cf (n+2)) gv k [some (.c i),some (.t (.tup (F.map pq))),e2,e3,e4,e5,some (.c j),e7',e8] (put M' i s):=by
 have hi1:i<(M++[some (false,f)]).length:=by rw[Yh];exact Y0 hi
 have tk1:(M++[some (false,f)]).take m.length=m:=by rw[List.take_append_of_le_length hml];exact hm
 rcases List.eq_nil_or_concat F with rfl|⟨A,q,eF⟩
 ·refine⟨_,M.length,f,e7,hi1,tk1,Xd hi,by omega,hf,?_⟩
  exact JH (Qq (Zb rfl) (X7 ZK rfl ZC) rfl)
 ·rw[List.concat_eq_append]at eF
  subst eF
  have eP:(A++[q]).map pq=A.map pq++[pq q]:=by rw[V6];rfl
  rw[Yh,WF]at hl
  have lP:(A.map pq++[pq q]).length<=8:=by rw[Yh,Yi];exact hl
  obtain⟨q0,q1,q2⟩:=G.1 q (Ym _ YD)
  have hc:cmpT .NotEq (.tup ((A++[q]).map pq)) (.tup [])=some true:=by
   show(if(ZfZ (.tup ((A++[q]).map pq)) (.tup []) || (Z8 59 ((A++[q]).map pq)&&true))=true then some (!eqTs ((A++[q]).map pq) [])else none)=_
   rw[ZiF,eP]
   cases A<;>rfl
  have x2b:QK (.tup (A.map pq++[pq q]++cut (A.map pq++[pq q]) none (some 1)))=false:=by
   have:∃p:Int×Int,cut (A.map pq++[pq q]) none (some 1)=[pq p]/\¬q.2<p.1:=by
    cases A with
    |nil=>exact⟨q,ZeR _ _,by omega⟩
    |cons p A =>
     refine⟨p,ZeR _ _,?_⟩
     have h1:=G.1 p YD
     have h2:p.2<q.1:=(Wc.mp G.2.1).1 q (Ym _ YD)
     omega
   obtain⟨p,e,hp⟩:=this
   rw[e,YW]
   exact Ze3 hp
  have x1b:QK (.tup (A.map pq++[pq q]++[pq (q.2,q.2+4)]))=false:=by rw[YW];exact Ze3 (Int.lt_irrefl _)
  have x3b:QK (.tup (A.map pq++[pq q]++[pq (q.1,q.2+1)]))=false:=by
   rw[YW]
   exact Ze3 (by show ¬q.2<q.1;omega)
  have x4b:QK (.tup (A.map pq++[.tup [.int q.2,.int q.1]]))=false:=Ze2 (Ym _ YD) (qt_no (by omega))
  have hlast:∀{env:Env}{M:Mem},env[1]?=some (some (.t (.tup (A.map pq++[pq q]))))->ev (cf (n+2)) gv (.ix (.var 1) (.neg (.con (.int 1)))) env M=.ok (.t (pq q)) M:=λh=>J7 (Zb h) Zl8 (Zmp _ _)
  have hl0:∀{env:Env}{M:Mem},env[1]?=some (some (.t (.tup (A.map pq++[pq q]))))->ev (cf (n+2)) gv (.ix (.ix (.var 1) (.neg (.con (.int 1)))) (.con (.int 0))) env M=.ok (.t (.int q.1)) M:=λh=>J7 (hlast h) (Zc _) rfl
  have hl1:∀{env:Env}{M:Mem},env[1]?=some (some (.t (.tup (A.map pq++[pq q]))))->ev (cf (n+2)) gv (.ix (.ix (.var 1) (.neg (.con (.int 1)))) (.con (.int 1))) env M=.ok (.t (.int q.2)) M:=λh=>J7 (hlast h) (Zc _) rfl
  have hadd:∀{xs:List T},xs.length<=8->binT .Add (.tup (A.map pq++[pq q])) (.tup xs)=some (.tup (A.map pq++[pq q]++xs)):=λh=>ZfN (by unfold lim;omega)
  have hcl:(cut (A.map pq++[pq q]) none (some 1)).length<=8:=by
   cases A with
   |nil=>exact YS rfl
   |cons p A=>rw[Wa,YaU,ZeR];exact YS rfl
  refine⟨M++[some (false,f)]++[some (false,f++[.tup (A.map pq++[pq q]++[pq (q.2,q.2+4)]),.tup (A.map pq++[pq q]++cut (A.map pq++[pq q]) none (some 1)),.tup (A.map pq++[pq q]++[pq (q.1,q.2+1)])]++[.tup (A.map pq++[.tup [.int q.2,.int q.1]])])],(M++[some (false,f)]).length,_,some (.t (pq (q.2,q.2+4))),by rw[Yh];exact Y0 hi1,by rw[List.take_append_of_le_length (by rw[Yh];omega)];exact tk1,Xd hi1,by rw[Yh,Yh];show f.length+3+1<900;omega,λx hx=>?_,?_⟩
  ·rcases Uz.mp hx with hx|hx
   ·rcases Uz.mp hx with hx|hx
    ·exact hf x hx
    ·simp only[Ys,YF,or_false]at hx
     rcases hx with rfl|rfl|rfl
     ·exact x1b
     ·exact x2b
     ·exact x3b
   ·cases Wl.mp hx;exact x4b
  ·rw[eP]at hc ⊢
   refine ex_ifA (Qq (Zb rfl) (X7 ZK rfl ZC) hc) ?_
   refine(Zy (Qc (hl1 rfl) (Zr (hl1 rfl) (Zc _) (Zaf _ _)))).trans ?_
   refine(Zy (ZeW rfl hi1 (Xd hi) (ys:=[.tup (A.map pq++[pq q]++[pq (q.2,q.2+4)]),.tup (A.map pq++[pq q]++cut (A.map pq++[pq q]) none (some 1)),.tup (A.map pq++[pq q]++[pq (q.1,q.2+1)])]) (Qa (Ze (Zr (Zb rfl) (QQ (Zb rfl)) (hadd (YS rfl))) (Ze (Zr (Zb rfl) (Ziy (Zb rfl) (Zc _) rfl) (hadd hcl)) (Ze (Zr (Zb rfl) (QQ (Qc (hl0 rfl) (Zr (hl1 rfl) (Zc _) (Zaf _ _)))) (hadd (xs:=[pq (q.1,q.2+1)]) (YS rfl))) ZK))) rfl ZC) (by show _+3<=lim;unfold lim;omega))).trans ?_
   refine(ZaI (Zi1 (k:=6) hi1 rfl (x:=.tup (A.map pq++[.tup [.int q.2,.int q.1]])) (s':=s) (Zr (Ziy (Zb rfl) Zl8 (show slT (.tup (A.map pq++[pq q])) none (some (-1))=some (.tup (A.map pq))from by rw[slT,Zkb])) (QQ (by rw[ev,hlast rfl];rfl)) (ZfN (by show(A.map pq).length+1<=lim;rw[Yi];unfold lim;omega))) (by rw[Yh];show f.length+3<lim;unfold lim;omega))).trans Xh
theorem bad_ok{s:List T}{F:List (Int×Int)}{t:Int}(hi:i<m.length)(hs:IsSt s)(G:GF F t)(hl:F.length<=8):∃x s',cf (n+3) 29 [.c i,.t (.tup (F.map pq))] (put m i s)=.ok (.t x) (put m i s')/\IsSt s'/\QK x=false:=by
 obtain⟨l,f3,f4,g0⟩:=Zid (n:=n+2) (i:=i) F (l:=0) (e1:=some (.t (.tup (F.map pq)))) (e3:=none) (e4:=none) (e5:=none) (e6:=none) (e7:=none) (e8:=none) (M:=put m i s)
 have L:∀{N:Mem}{c:Option (Bool×List T)},i<N.length->i<(N++[c]).length:=λh=>by rw[Yh];exact Y0 h
 generalize hM1:m++[some (false,(odd l).take 6)]=M1
 have i1:i<M1.length:=by rw[<-hM1];exact L hi
 generalize hM2:M1++[some (false,(odd l).take 13)]=M2
 have i2:i<M2.length:=by rw[<-hM2];exact L i1
 generalize hM3:M2++[some (false,odd l)]=M3
 have i3:i<M3.length:=by rw[<-hM3];exact L i2
 have p5:M3[M2.length]?=some (some (false,odd l)):=by rw[<-hM3,Yu (Yj _),Uw];rfl
 obtain⟨y1,s1,g1,hs1,hy1⟩:=Zfv (n:=n) (j:=M2.length) i3 hs (Yv i2) p5 (YS rfl) (YS rfl)
 have p6:(M3++[some (false,[T.lst (F.map pq),.non,.str [],.int 5,.bl true,.dct [] [],.str [51,45,55],.tup (F.map pq++[y1])])])[M2.length]?=some (some (false,odd l)):=by rw[Yy (by rw[<-hM3,Yh];exact WX _)];exact p5
 obtain⟨y2,s2,g2,hs2,hy2⟩:=Zfv (n:=n) (j:=M2.length) (L i3) hs1 (Yv i2) p6 (YS rfl) (YS rfl)
 have lF:(F.map pq).length<=8:=by rw[Yi];exact hl
 have tk:M3.take m.length=m:=by
  rw[<-hM3,<-hM2,<-hM1,YW,YW]
  exact Yaf rfl
 have ml:m.length<=M3.length:=by
  rw[<-hM3,<-hM2,<-hM1,Yh,Yh,Yh]
  omega
 obtain⟨M',j,f',e7,q1,q2,q3,q4,q5,q6⟩:=bad_if (n:=n) (m:=m) (s:=s2) (f:=[T.lst (F.map pq),.non,.str [],.int 5,.bl true,.dct [] [],.str [51,45,55],.tup (F.map pq++[y1])]++[.tup ([y2]++F.map pq)]) (e2:=some (.t (.int l))) (e3:=f3) (e4:=f4) (e5:=some (.c M2.length)) (e7:=none) (e8:=none) (k:=.asg 8 (.blt .tuple (.cons Qx .nil)) (.ret (.call 25 (.cons (.var 0) (.cons (.bin .Add (.var 6) (.lst (.cons (.var 8) .nil))) .nil))) .done)) i3 G hl (λx hx=>by
  simp only[YaU,Gy,Ys,YF,or_false]at hx
  rcases hx with rfl|rfl|rfl|rfl|rfl|rfl|rfl|rfl|rfl
  ·rfl
  ·rfl
  ·rfl
  ·rfl
  ·rfl
  ·rfl
  ·rfl
  ·exact Ze2 (Ym _ YD) (Zh2 hy1)
  ·exact Ze2 YD (Zh2 hy2)) (YS rfl) tk ml
 obtain⟨x,s3,g3,hs3,hx⟩:=Zmk (n:=n) (s:=s2) (e1:=some (.t (.tup (F.map pq)))) (e2:=some (.t (.int l))) (e3:=f3) (e4:=f4) (e5:=some (.c M2.length)) (e7:=e7) (e8:=none) q1 hs2 q3 q4
 refine⟨x,s3,?_,hs3,?_⟩
 ·have key:ex (cf (n+2)) gv QF [some (.c i),some (.t (.tup (F.map pq))),none,none,none,none,none,none,none] (put m i s)=.ok (.ret (.t x)) (put M' i s3):=by
   unfold QF
   refine(Zy (Zc _)).trans ?_
   refine(X5 (Zb rfl) rfl g0).trans ?_
   have ad:∀{env:Env}{M:Mem}{k:Int},env[2]?=some (some (.t (.int l)))->ev (cf (n+2)) gv (.bin .Add (.var 2) (.con (.int k))) env M=.ok (.t (.int (l+k))) M:=λh=>Zr (Zb h) (Zc _) (Zaf _ _)
   have big:∀{env:Env}{M:Mem},ev (cf (n+2)) gv (.bin .Add (.bin .Pow (.con (.int 10)) (.con (.int 9))) (.con (.int 1))) env M=.ok (.t (.int 1000000001)) M:=Zr (Zr (Zc _) (Zc _) rfl) (Zc _) rfl
   refine(Zy (ZkL (ts:=(odd l).take 5) hi (Ze (Qc (ad rfl) (ad rfl)) (Ze (Qc (ad rfl) (ad rfl)) (Ze (Qc (ad rfl) big) (Ze (Qc Zl8 (Zc _)) (Ze (Qc (ad rfl) (Zc _)) ZK))))) rfl ZC)).trans ?_
   refine(ZaI (Zi1 (k:=5) hi rfl (Qc (Zc _) (ad rfl)) (Yq (m:=6) (YS rfl) (by decide)))).trans ?_
   show ex (cf (n+2)) gv _ _ (put (m++[some (false,(odd l).take 6)]) i s)=_
   rw[hM1]
   have j1:(put M1 i s)[m.length]?=some (some (false,(odd l).take 6)):=by rw[<-hM1];exact Xd hi
   refine(Zy (ZeW (k:=5) rfl i1 j1 (ys:=((odd l).drop 6).take 7) (Qa (Ze (Qc (Zc _) (Zc _)) (Ze (QQ (ad rfl)) (Ze (Zix (ad rfl) (ad rfl) (ad rfl)) (Ze (Ziz (ad rfl) (ad rfl)) (Ze (Zc _) (Ze (Zc _) (Ze (Zc _) ZK))))))) rfl ZC) (Wm (m:=13) (YS rfl) (by decide)))).trans ?_
   show ex (cf (n+2)) gv _ _ (put (M1++[some (false,(odd l).take 13)]) i s)=_
   rw[hM2]
   have j2:(put M2 i s)[M1.length]?=some (some (false,(odd l).take 13)):=by rw[<-hM2];exact Xd i1
   refine(Zy (ZeW (k:=5) rfl i2 j2 (ys:=(odd l).drop 13) (Qa (Ze (Qc (ad rfl) (Qa (Ze (ad rfl) ZK) rfl ZC)) ZK) rfl ZC) (Wm (m:=14) (YS rfl) (by decide)))).trans ?_
   show ex (cf (n+2)) gv _ _ (put (M2++[some (false,odd l)]) i s)=_
   rw[hM3]
   have cat1:binT .Add (.tup (F.map pq)) (.tup [y1])=some (.tup (F.map pq++[y1])):=ZfN (by show _+1<=lim;unfold lim;omega)
   have cat2:binT .Add (.tup [y2]) (.tup (F.map pq))=some (.tup ([y2]++F.map pq)):=ZfN (by show 1+_<=lim;unfold lim;omega)
   refine(Zy (ZkL (ts:=[T.lst (F.map pq),.non,.str [],.int 5,.bl true,.dct [] [],.str [51,45,55],.tup (F.map pq++[y1])]) i3 (Ze (ZR (Zb rfl) rfl) (Ze (Zc _) (Ze (Zc _) (Ze (Zc _) (Ze (Zc _) (Ze ZiA (Ze (Zc _) (Ze (Zr (Zb rfl) (QQ ((Zt (Zb rfl) (Zb rfl)).trans g1)) cat1) ZK)))))))) rfl ZC)).trans ?_
   refine(ZaI (Zi1 (k:=6) i3 rfl (Zr (QQ ((Zt (Zb rfl) (Zb rfl)).trans g2)) (Zb rfl) cat2) (Yq (m:=9) (YS rfl) (by decide)))).trans ?_
   exact q6.trans g3
  refine ZG (Zdi _ _ _) rfl key ?_
  show Res.ok (W.t x) ((put M' i s3).take (put m i s).length)=_
  rw[Z3]
  unfold put
  rw[Ybl,q2]
 ·rcases Uz.mp hx with hx|hx
  ·exact q5 x hx
  ·cases Wl.mp hx;exact ZjP
end
theorem ok_yes{B:T->Bool}{k:Nat}{ws:List (List Nat)}(hl:ws.length<=k)(hb:∀w∈ws,B (.str w)=true)(hn:ws.Nodup):okB B k (.tup (ws.map .str))=true:=by
 rw[show okB B k (.tup (ws.map .str))=(decide ((ws.map T.str).length<=k)&&((ws.map T.str).all B&&ndB (ws.map T.str)))from rfl]
 have h1:(ws.map T.str).all B=true:=by
  rw[YT]
  intro t ht
  obtain⟨w,hw,rfl⟩:=Uc.mp ht
  exact hb w hw
 unfold ndB
 rw[Zhd,h1,Yi,decide_eq_true hl]
 dsimp only
 rw[decide_eq_true hn]
 rfl
noncomputable def ZfL:List T:=[.tup [],.tup [],.tup [.str [114,121,101]],.tup [.str [111],.str [114,121,101]],.tup [.str [111,97,116],.str [114,121,101],.str [111],.str [119,104,101,97,116]]]
theorem ZiZ:∀b∈ZfL,okB wdB 4 b=true/\fitA b=true:=by decide +kernel
noncomputable def badR:List T:=[.tup [.str [104,101,97,118,121],.str [104,101,97,118,121]],.tup [.str [108,105,103,104,116]],.lst [.str [104,101,97,118,121]],.non,.tup [.str [104,101,97,118,121],.str [103,114,101,97,116],.str [115,109,97,108,108],.str [115,111,111,110]],.str [104,101,97,118,121]]
theorem Zml:∀b∈badR,okB oneB 3 b=false:=by decide +kernel
noncomputable def badK:List T:=[.tup [.str [114,121,101],.str [114,121,101]],.tup [.str [97,110,121]],.lst [.str [114,121,101]],.non,.tup [.str [97],.str [98],.str [99],.str [100],.str [101]],.str [114,121,101],.tup [.int 7],.tup [.str [82,121,101]]]
theorem Zmm:∀b∈badK,okB wdB 4 b=false/\fitA b=true:=by decide +kernel
section
variable{n:Nat}{m:Mem}{i:Nat}
theorem Zkl{s:List T}(hi:i<m.length)(hs:IsSt s):∃b s',cf (n+2) 27 [.c i] (put m i s)=.ok (.t b) (put m i s')/\IsSt s'/\b∈ZfL:=by
 obtain⟨r,s1,g1,hs1,r0,r1⟩:=Qu (n:=n) (many:=5) hi hs (by decide) (by decide)
 obtain⟨z,hz,hm⟩:=Xl (xs:=ZfL) r0 r1
 refine⟨z,s1,?_,hs1,hm⟩
 have key:ex (cf (n+1)) gv Zah [some (.c i)] (put m i s)=.ok (.ret (.t z)) (put m i s1):=by
  unfold Zah
  exact Zj (J7 (Qa (ts:=ZfL) (Ze (X7 ZK rfl ZC) (Ze (X7 ZK rfl ZC) (Ze (QQ (Zc _)) (Ze (Qc (Zc _) (Zc _)) (Ze (X7 (Ze (Zc _) (Ze (Zc _) (Ze (Zc _) (Ze (Zc _) ZK)))) rfl ZC) ZK))))) rfl ZC) ((Zt (Zb rfl) (Zc _)).trans g1) hz)
 exact ZG (ZiR _ _ _) rfl key (Zo (cell:=false) (by rw[Z3,Z3]))
noncomputable def sel(a o:Int)(k:Nat):Bool:=(a==(k:Int)) || ((o==(k:Int)) || false)
theorem Zkn{M:Mem}{r1 r2 r3 b1 b2 b3:T}{a o:Int}{e0 e1 e2 e4 e5 e9:Option W}:ev (cf n) gv ZiY [e0,e1,e2,some (.t (.lst [r1,r2,r3])),e4,e5,some (.t (.lst [b1,b2,b3])),some (.t (.int a)),some (.t (.int o)),e9] M=.ok (.t (.lst [if sel a o 0 then b1 else r1,if sel a o 1 then b2 else r2,if sel a o 2 then b3 else r3])) M:=by
 have h:=Zmd (own:=1) (keep:=[3,6,7,8]) (tg:=.nm 0) (cs:=.nil) (inner:=Zip) (env:=[e0,e1,e2,some (.t (.lst [r1,r2,r3])),e4,e5,some (.t (.lst [b1,b2,b3])),some (.t (.int a)),some (.t (.int o)),e9]) (m:=M) (call:=cf n) (gv:=gv) (emb:=λk:Nat=>T.int (0+(k:Int))) (g:=λk=>[if sel a o k then([b1,b2,b3]:List T).getD k .non else([r1,r2,r3]:List T).getD k .non]) (YM 3) (ZR (Zc _) (ZjX (i:=3) (by decide))) rfl (λk hk=>⟨[some (.t (.int (0+(k:Int)))),some (.t (.lst [r1,r2,r3])),some (.t (.lst [b1,b2,b3])),some (.t (.int a)),some (.t (.int o))],rfl,Zjc (Zdb ?_)⟩) (by rw[Qj,Yi,WM];decide)
 ·exact h
 ·have hk:k<3:=W6.mp hk
  rw[Int.zero_add]
  have hx:∀{x1 x2 x3:T},atT [x1,x2,x3] (k:Int)=some (([x1,x2,x3]:List T).getD k .non):=λ{x1 x2 x3}=>by
   rcases k with _|_|_|k
   ·rfl
   ·rfl
   ·rfl
   ·omega
  refine J7 (y:=.int (b2i (sel a o k))) (Ziz (J7 (Zb rfl) (Zb rfl) hx) (J7 (Zb rfl) (Zb rfl) hx)) (ZR (Qq (Zb rfl) (Qc (Zb rfl) (Zb rfl)) rfl) (l_int _)) ?_
  cases sel a o k<;>rfl
theorem Zlf{a o:Int}(h0:0<=a)(h1:a<3){r1 r2 r3 b1 b2 b3:T}(n1:okB oneB 3 b1=false)(n2:okB wdB 4 b2=false)(n3:QK b3=false):okH (if sel a o 0 then b1 else r1) (if sel a o 1 then b2 else r2) (if sel a o 2 then b3 else r3)=false:=by
 unfold okH
 have:a=0∨a=1∨a=2:=by omega
 rcases this with rfl|rfl|rfl
 ·rw[show sel 0 o 0=true from rfl,if_pos rfl,n1];rfl
 ·rw[show sel 1 o 1=true from rfl,if_pos rfl,n2,Gd,Ww]
 ·rw[show sel 2 o 2=true from rfl,if_pos rfl,n3,Ww,Ww]
theorem law_turn{ns:List Int}{x:Int}{e2 e3 e4 e5 e6 e7 e8 e9:Option W}:∃m' f2 f3 f4 f5 f6 f7 f8 f9,ex (cf (n+10)) gv Zc1 [some (.t (.scr ns)),some (.t (.int x)),e2,e3,e4,e5,e6,e7,e8,e9] m=.ok (.next [some (.t (.scr ns)),some (.t (.int x)),f2,f3,f4,f5,f6,f7,f8,f9]) m':=by
 obtain⟨s0,g0,hs0⟩:=ZkW (n:=n+9) (m:=m) (x:=x)
 have hi:m.length<(m++[none]).length:=by simp
 generalize hM:m++[none]=M at g0 hi
 generalize hI:m.length=i at g0 hi
 obtain⟨rs,s1,g1,hs1,rn,rl,rm⟩:=Zk2 (n:=n+8) hi hs0
 obtain⟨b,s2,g2,hs2,hb⟩:=Zkl (n:=n+8) hi hs1
 obtain⟨F,t,s3,g3,hs3,G,hl⟩:=Zjm (n:=n+8) hi hs2
 obtain⟨x1,s4,g4,hs4,h4⟩:=ZeA (n:=n+8) (xs:=badR) hi hs3 (by decide) (by decide)
 obtain⟨x2,s5,g5,hs5,h5⟩:=ZeA (n:=n+8) (xs:=badK) hi hs4 (by decide) (by decide)
 obtain⟨x3,s6,g6,hs6,h6⟩:=bad_ok (n:=n+7) hi hs5 G hl
 obtain⟨a,s7,g7,hs7,a0,a1⟩:=Qu (n:=n+9) (many:=3) hi hs6 (by decide) (by decide)
 obtain⟨o,s8,g8,hs8,o0,o1⟩:=Qu (n:=n+9) (many:=3) hi hs7 (by decide) (by decide)
 have y1:okB oneB 3 (.tup (rs.map .str))=true:=ok_yes rl (λw hw=>G4.mpr ⟨w,rm w hw,beq_self_eq_true w⟩) rn
 obtain⟨y2,y2f⟩:=ZiZ b hb
 have y3:=Zf8 G hl
 obtain⟨z2,z2f⟩:=Zmm x2 h5
 have yes:okH (.tup (rs.map .str)) b (.tup (F.map pq))=true:=by unfold okH;rw[y1,y2,y3];rfl
 have no:=Zlf (o:=o) (r1:=.tup (rs.map .str)) (r2:=b) (r3:=.tup (F.map pq)) a0 a1 (Zml x1 h4) z2 h6
 have fa:fitA (if sel a o 1 then x2 else b)=true:=by cases sel a o 1<;>assumption
 refine⟨put M i s8,some (.c i),some (.t (.lst [.tup (rs.map .str),b,.tup (F.map pq)])),some (.t (.lst badR)),some (.t (.lst badK)),some (.t (.lst [x1,x2,x3])),some (.t (.int a)),some (.t (.int o)),some (.t (.lst [if sel a o 0 then x1 else .tup (rs.map .str),if sel a o 1 then x2 else b,if sel a o 2 then x3 else .tup (F.map pq)])),?_⟩
 have ix3:∀{k:Int}{env:Env}{N:Mem}{c:Nat}{u1 u2 u3 y:T},env[c]?=some (some (.t (.lst [u1,u2,u3])))->atT [u1,u2,u3] k=some y->ev (cf (n+10)) gv (.ix (.var c) (.con (.int k))) env N=.ok (.t y) N:=λh h2=>J7 (Zb h) (Zc _) h2
 unfold Zc1
 refine(Zy ((ZP (Zb rfl)).trans g0)).trans ?_
 refine(Zy (Qa (ts:=[.tup (rs.map .str),b,.tup (F.map pq)]) (Ze ((ZP (Zb rfl)).trans g1) (Ze ((ZP (Zb rfl)).trans g2) (Ze ((ZP (Zb rfl)).trans g3) ZK))) rfl ZC)).trans ?_
 refine(JH ((QR (Qq (k:=false) (x:=.bl true) ((ZP (ix3 rfl rfl)).trans (by rw[ZcL (n:=n+5),y3])) (Zc _) rfl)).trans (Qq (k:=false) (x:=.non) ((ZfE (ix3 rfl rfl) (ix3 rfl rfl) (ix3 rfl rfl)).trans (by rw[Zg0 (n:=n+3) y2f,yes];rfl)) (Zc _) rfl))).trans ?_
 refine(JH (QC (k:=true) ((ZP (w:=hW (.tup (rs.map .str)) b (.tup (F.map pq))) ((Zh9 (n:=n+4) (Ze (ix3 rfl rfl) (Ze (ix3 rfl rfl) (Ze (ix3 rfl rfl) ZK))) y2f).trans (by rw[yes];rfl))).trans (Zi0 (n:=n+6))))).trans ?_
 refine(Zy (Qa (ts:=badR) (Ze (Qc (Zc _) (Zc _)) (Ze (QQ (Zc _)) (Ze (Qa (Ze (Zc _) ZK) rfl ZC) (Ze (Zc _) (Ze (X7 (Ze (Zc _) (Ze (Zc _) (Ze (Zc _) (Ze (Zc _) ZK)))) rfl ZC) (Ze (Zc _) ZK)))))) rfl ZC)).trans ?_
 refine(Zy (Qa (ts:=badK) (Ze (Qc (Zc _) (Zc _)) (Ze (QQ (Zc _)) (Ze (Qa (Ze (Zc _) ZK) rfl ZC) (Ze (Zc _) (Ze (X7 (Ze (Zc _) (Ze (Zc _) (Ze (Zc _) (Ze (Zc _) (Ze (Zc _) ZK))))) rfl ZC) (Ze (Zc _) (Ze (QQ (Zc _)) (Ze (QQ (Zc _)) ZK)))))))) rfl ZC)).trans ?_
 refine(Zy (Qa (ts:=[x1,x2,x3]) (Ze ((Zt (Zb rfl) (Zb rfl)).trans g4) (Ze ((Zt (Zb rfl) (Zb rfl)).trans g5) (Ze ((Zt (Zb rfl) (ix3 rfl rfl)).trans g6) ZK))) rfl ZC)).trans ?_
 refine(JH (Qq (k:=false) (x:=.bl false) ((ZP (ix3 rfl rfl)).trans (by rw[ZcL (n:=n+5),h6])) (Zc _) rfl)).trans ?_
 refine(Zy ((Zt (Zb rfl) (Zc _)).trans g7)).trans ?_
 refine(Zy ((Zt (Zb rfl) (Zc _)).trans g8)).trans ?_
 refine(Zy Zkn).trans ?_
 refine(JH (Qq (k:=false) (x:=Zi9 false) ((ZfE (ix3 rfl rfl) (ix3 rfl rfl) (ix3 rfl rfl)).trans (by rw[Zg0 (n:=n+3) fa,no])) (Zix (Zc _) (Zc _) (Zc _)) rfl)).trans Xh
end
theorem Zmc{α:Type}(xs:List α)(lo hi:Option Int):(cut xs lo hi).length<=xs.length:=by
 unfold cut
 rw[Wi,VJ]
 omega
theorem law_true(ns:List Int)(hl:ns.length<=63):∃m,ZV fns gv 31 32 [.t (.scr ns)] []=.ok (.t (.bl true)) m:=by
 obtain⟨v,hv⟩:=Zmg (n:=29) (m:=[]) (ns:=ns)
 obtain⟨env1,m1,e1,a1,a2,a3,a4,a5,a6,a7,a8,a9,rfl⟩:=Zcj (f:=ex (cf 30) gv Zc1) (tg:=.nm 1) (P:=λenv m=>∃a b c d e f g h j,env=[some (.t (.scr ns)),a,b,c,d,e,f,g,h,j]) (.int v::(cut ns (some 1) (some 12)).map .int) [some (.t (.scr ns)),none,none,none,none,none,none,none,none,none] [] ⟨_,_,_,_,_,_,_,_,_,rfl⟩ (by
  rintro t ht env m ⟨a,b,c,d,e,f,g,h,j,rfl⟩
  have:∃x:Int,t=.int x:=by
   rcases Ys.mp ht with rfl|ht
   ·exact⟨v,rfl⟩
   ·obtain⟨x,_,rfl⟩:=Uc.mp ht
    exact⟨x,rfl⟩
  obtain⟨x,rfl⟩:=this
  obtain⟨m',f2,f3,f4,f5,f6,f7,f8,f9,h1⟩:=law_turn (n:=20) (ns:=ns) (x:=x) (m:=m) (e2:=b) (e3:=c) (e4:=d) (e5:=e) (e6:=f) (e7:=g) (e8:=h) (e9:=j)
  exact⟨_,_,m',rfl,h1,_,_,_,_,_,_,_,_,_,rfl⟩)
 refine⟨[],?_⟩
 have key:ex (cf 30) gv Ze5 [some (.t (.scr ns)),none,none,none,none,none,none,none,none,none] []=.ok (.ret (.t (.bl true))) m1:=by
  unfold Ze5
  have hcl:=Zmc ns (some 1) (some 12)
  have hit:ev (cf 30) gv (.bin .Add (.lst (.cons (.call 22 (.cons (.var 0) (.cons (.con (.int 0)) .nil))) .nil)) (.slc (.var 0) (.con (.int 1)) (.con (.int 12)))) [some (.t (.scr ns)),none,none,none,none,none,none,none,none,none] []=.ok (.t (.lst (.int v::(cut ns (some 1) (some 12)).map .int))) []:=by
   simp[ev,evs,isT,Qp,EVs,hv,lim]
   rw[b_addL (by simp[lim];omega)]
   rfl
  exact(X5 hit rfl e1).trans (Zj (Zc _))
 show cf 31 32 [.t (.scr ns)] []=_
 rw[cf_law]
 simp[key,Zg,fin]
end My
end
section
set_option maxHeartbeats 1000000
namespace My
open PySem PySem.Spec PyProof.Rows L2 Mi
noncomputable def top(i:Nat):Stmt:=PySem.Challenge.pw_matepoint_k51_houses_that_are_none.main.body.getD i (.Pass ⟨0,0,0,0⟩)
noncomputable abbrev Qv:Stmt:=top 8
noncomputable abbrev Xr:Stmt:=top 9
noncomputable abbrev J4:Stmt:=top 10
noncomputable abbrev Jr:Stmt:=top 11
noncomputable abbrev Xu:Stmt:=top 12
noncomputable abbrev Jq:Stmt:=top 39
noncomputable abbrev Q5:Stmt:=top 72
noncomputable abbrev Xv:Stmt:=top 73
noncomputable abbrev Jt:Stmt:=top 74
noncomputable abbrev Jp:Stmt:=top 77
noncomputable abbrev Xq:Stmt:=top 79
noncomputable abbrev Q4:Stmt:=top 80
noncomputable abbrev Q3:Stmt:=top 82
noncomputable abbrev Qm:Stmt:=top 86
noncomputable abbrev Js:Stmt:=top 87
noncomputable abbrev Zi:Stmt:=inBody (top 91) 0
noncomputable abbrev Qh:Stmt:=inBody (top 91) 7
noncomputable abbrev Qg:Stmt:=inBody (top 91) 8
noncomputable abbrev Zz:Stmt:=inBody (top 91) 12
noncomputable abbrev ZJ:Stmt:=inBody (top 91) 13
noncomputable abbrev Z5:Stmt:=inBody (top 91) 14
noncomputable abbrev Z6:Stmt:=inBody (top 91) 15
noncomputable abbrev J5:Stmt:=top 93
noncomputable abbrev ZcF:Stmt:=top 94
noncomputable abbrev ZcI:Stmt:=top 95
noncomputable abbrev ZcH:Stmt:=top 96
noncomputable abbrev ZcG:Stmt:=top 97
noncomputable abbrev Zbc:Stmt:=top 98
noncomputable abbrev Zbb:Stmt:=top 99
noncomputable abbrev Q6:Stmt:=top 100
noncomputable abbrev Xc:Stmt:=top 101
noncomputable abbrev Xw:Stmt:=top 102
noncomputable abbrev Zbn:Stmt:=top 103
set_option hygiene false
local macro_rules
 | `(tactic| wtm_at $s:str)=>do
  let mut r:Array (Lean.TSyntax `tactic):=#[]
  for c in s.getString.toList do
   let t ← match c with
    | '0'=>`(tactic| exact rfl)
    | '1'=>`(tactic| refine Zfx ?_ ?_ ?_)
    | '2'=>`(tactic| exact ZhP)
    | '3'=>`(tactic| exact Zlw)
    | '4'=>`(tactic| exact (vr 0))
    | '5'=>`(tactic| exact hr)
    | '6'=>`(tactic| refine ZlD ?_ ?_)
    | '7'=>`(tactic| exact go.lk)
    | '8'=>`(tactic| refine ZjL ?_ ?_ ?_ ?_ ?_)
    | '9'=>`(tactic| refine pe_ixW ?_ ?_ ?_)
    | 'a'=>`(tactic| exact (fun _ _=>rfl))
    | 'b'=>`(tactic| refine Zjq ?_)
    | 'c'=>`(tactic| exact (vr 1))
    | 'd'=>`(tactic| exact (Zlj (by decide +kernel)))
    | 'e'=>`(tactic| refine Zli ?_)
    | 'f'=>`(tactic| exact (vr 2))
    | 'g'=>`(tactic| exact ⟨rfl,rfl,rfl,by decide +kernel,rfl,by decide +kernel,by decide +kernel⟩)
    | 'h'=>`(tactic| refine ⟨?_⟩)
    | 'i'=>`(tactic| exact (by decide))
    | 'j'=>`(tactic| intro P w K mg base k f cdv A outer s H E T0 T1 hr xe pn xr go)
    | 'k'=>`(tactic| exact hr.units)
    | 'l'=>`(tactic| refine Zls ?_)
    | 'm'=>`(tactic| exact (by with_unfolding_all rfl))
    | 'n'=>`(tactic| exact (by kernel_rfl))
    | 'o'=>`(tactic| exact (fun _=>rfl))
    | 'p'=>`(tactic| exact Zjr)
    | 'q'=>`(tactic| exact pe_blW)
    | 'r'=>`(tactic| exact (vr 3))
    | 's'=>`(tactic| refine Zk8 ?_ ?_ ?_ ?_)
    | 't'=>`(tactic| exact T0.cl_House)
    | 'u'=>`(tactic| exact T1.f_Ldraw)
    | 'v'=>`(tactic| refine pi_of ?_)
    | 'w'=>`(tactic| intro _ _ _ _ _)
    | 'x'=>`(tactic| refine ⟨?_,?_⟩)
    | 'y'=>`(tactic| refine ZlE ?_ ?_)
    | 'z'=>`(tactic| exact T0.b_len)
    | 'A'=>`(tactic| exact T0.b_isinstance)
    | 'B'=>`(tactic| refine Zlb ?_ ?_ ?_ ?_)
    | 'C'=>`(tactic| refine Zlz ?_ ?_ ?_ ?_)
    | 'D'=>`(tactic| refine Zlu ?_ ?_ ?_ ?_ ?_)
    | 'E'=>`(tactic| refine Zkd ?_ ?_ ?_ ?_ ?_ ?_ ?_)
    | 'F'=>`(tactic| refine ⟨?_,?_,?_⟩)
    | 'G'=>`(tactic| exact Ur)
    | 'H'=>`(tactic| refine pw_orW ?_ ?_)
    | 'I'=>`(tactic| refine pe_one ?_)
    | 'J'=>`(tactic| exact (by decide +kernel))
    | 'K'=>`(tactic| refine sg (i:=2) ?_ ?_ ?_)
    | 'L'=>`(tactic| refine pa_csS ?_ ?_)
    | 'M'=>`(tactic| exact T0)
    | 'N'=>`(tactic| exact ih)
    | 'O'=>`(tactic| exact go)
    | 'P'=>`(tactic| refine Zk7 ?_)
    | 'Q'=>`(tactic| refine pt_of ?_ ?_)
    | 'R'=>`(tactic| refine Q7 ?_ ?_)
    | 'S'=>`(tactic| exact Zlo)
    | 'T'=>`(tactic| refine Zlq ?_)
    | 'U'=>`(tactic| exact (vr 4))
    | 'V'=>`(tactic| exact Jm.nd)
    | 'W'=>`(tactic| refine Zlv ?_ ?_ ?_ ?_ ?_ ?_)
    | 'X'=>`(tactic| refine ps_fld ?_ ?_ ?_)
    | 'Y'=>`(tactic| exact (Zkz (i:=0) rfl (by first | exact Or.inl rfl | exact Or.inr (Or.inl rfl) | exact Or.inr (Or.inr rfl))))
    | 'Z'=>`(tactic| refine ZhK ?_ ?_ ?_ ?_ ?_)
    | '!'=>`(tactic| exact Zfl.nd)
    | '#'=>`(tactic| refine PW.pt ?_)
    | '$'=>`(tactic| exact T0.b_tuple)
    | '%'=>`(tactic| refine pw_or1 ?_)
    | '&'=>`(tactic| exact (vr 5))
    | '('=>`(tactic| refine ⟨f,fd,_,m,b,?_⟩)
    | ')'=>`(tactic| intro _ _ _ _ _ _ hr _ _ _ go)
    | '*'=>`(tactic| refine Zjs ?_ ?_ ?_ ?_ ?_ ?_ ?_)
    | '+'=>`(tactic| exact go.po)
    | ','=>`(tactic| refine sg (i:=3) ?_ ?_ ?_)
    | '-'=>`(tactic| refine Zlx ?_ ?_ ?_)
    | '.'=>`(tactic| refine ZlB ?_)
    | '/'=>`(tactic| refine Zhy ?_ ?_)
    | ':'=>`(tactic| refine ZjM ?_ ?_ ?_ ?_ ?_)
    | ';'=>`(tactic| exact T0.b_all)
    | '<'=>`(tactic| exact T0.b_range)
    | '='=>`(tactic| refine Zgk ?_ ?_)
    | '>'=>`(tactic| refine sg (i:=5) ?_ ?_ ?_)
    | '?'=>`(tactic| exact T1.f_Lpick)
    | '@'=>`(tactic| exact (vr 6))
    | '['=>`(tactic| exact hcd)
    | ']'=>`(tactic| exact Zlp)
    | '^'=>`(tactic| refine Zgg ?_ ?_ ?_)
    | '_'=>`(tactic| exact Zbm.nd)
    | '`'=>`(tactic| refine Zjz ?_ ?_)
    | '{'=>`(tactic| exact Zfm.nd)
    | '|'=>`(tactic| exact T0.xk)
    | '}'=>`(tactic| exact (fun _ h=>absurd h YF))
    | '~'=>`(tactic| exact T0.b_int)
    | 'À'=>`(tactic| exact T0.b_sorted)
    | 'Á'=>`(tactic| exact T1.f_are_quiet)
    | 'Â'=>`(tactic| exact T1.f_House_waiters)
    | 'Ã'=>`(tactic| exact Zfn.nd)
    | 'Ä'=>`(tactic| refine Zgh ?_ ?_ ?_ ?_ ?_)
    | 'Å'=>`(tactic| refine ZjK ?_ ?_)
    | 'Æ'=>`(tactic| refine sg (i:=6) ?_ ?_ ?_)
    | 'Ç'=>`(tactic| refine Zlk ?_ ?_ ?_)
    | 'È'=>`(tactic| exact (fun _ h=>h))
    | 'É'=>`(tactic| exact (vr 9))
    | 'Ê'=>`(tactic| refine ⟨f,fd,_,m,F.kp,b,?_⟩)
    | 'Ë'=>`(tactic| intro _ hcd _ _ _ _ _ hr _ _ _ go)
    | 'Ì'=>`(tactic| exact hr.deeper _)
    | 'Í'=>`(tactic| exact (ZjC 0 1 2 rfl (show Gi (["number","offer","left"]:List Str) from by decide +kernel)))
    | 'Î'=>`(tactic| exact Jl.nd)
    | 'Ï'=>`(tactic| exact T0.na_House_rows)
    | 'Ð'=>`(tactic| refine ZhL ?_ ?_ ?_ ?_ ?_)
    | 'Ñ'=>`(tactic| refine ZjH ?_ ?_ ?_ ?_ ?_)
    | 'Ò'=>`(tactic| refine Zjp ?_ ?_ ?_ ?_)
    | 'Ó'=>`(tactic| refine sg (i:=1) ?_ ?_ ?_)
    | 'Ô'=>`(tactic| refine sg (i:=4) ?_ ?_ ?_)
    | 'Õ'=>`(tactic| refine sg (i:=7) ?_ ?_ ?_)
    | 'Ö'=>`(tactic| refine sg (i:=8) ?_ ?_ ?_)
    | 'Ø'=>`(tactic| refine ZjG ?_ ?_ ?_ ?_ ?_ ?_)
    | 'Ù'=>`(tactic| exact T1.f_House___init__)
    | 'Ú'=>`(tactic| exact (fun us=>Room.new hr2 us))
    | _=>Lean.Macro.throwUnsupported
   r:=r.push t
  `(tactic| ($[$r:tactic];*))
theorem Zbl:FnScope ["text"] ["text"] (Za Qv):=by
 wtm_at "g"
theorem Zf0:FnScope ["thing"] ["thing"] (Za Xr):=by
 wtm_at "g"
theorem Zes:FnScope ["thing"] ["thing"] (Za J4):=by
 wtm_at "g"
theorem ZdG:FnScope ["thing"] ["thing"] (Za Jr):=by
 wtm_at "g"
theorem Zf1:FnScope ["thing"] ["thing"] (Za Xu):=by
 wtm_at "g"
theorem ZdF:FnScope ["thing","texts"] ["thing","texts"] (Za Jq):=by
 wtm_at "g"
theorem ZcC:FnScope ["words"] ["words"] (Za Q5):=by
 wtm_at "g"
theorem Zf2:FnScope ["thing"] ["thing"] (Za Xv):=by
 wtm_at "g"
theorem ZdI:FnScope ["thing"] ["thing"] (Za Jt):=by
 wtm_at "g"
theorem ZdE:FnScope ["rule","waiters","by_rule"] ["rule","waiters"] (Za Jp):=by
 wtm_at "g"
theorem Zap:FnScope ["borne","waiters","told","kind","givers","takers","bearers","pairs"] ["borne","waiters"] (Za Xq):=by
 wtm_at "g"
theorem ZcB:FnScope ["waiters"] ["waiters"] (Za Q4):=by
 wtm_at "g"
theorem Jl:FnScope ["borne","waiters","known","paper","numbers","why"] ["borne","waiters"] (Za Q3):=by
 wtm_at "g"
theorem Za2:FnScope ["thing"] ["thing"] (Za Qm):=by
 wtm_at "g"
theorem ZdH:FnScope ["thing"] ["thing"] (Za Js):=by
 wtm_at "g"
theorem Zar:FnScope ["self","rule","borne","quiet"] ["self","rule","borne","quiet"] (Za Zi):=by
 wtm_at "g"
theorem ZdK:FnScope ["self"] ["self"] (Za Qh):=by
 wtm_at "g"
theorem ZdJ:FnScope ["self"] ["self"] (Za Qg):=by
 wtm_at "g"
theorem Zaq:FnScope ["self"] ["self"] (Za Zz):=by
 wtm_at "g"
theorem JF:FnScope ["self","waiting"] ["self"] (Za ZJ):=by
 wtm_at "g"
theorem ZcD:FnScope ["self"] ["self"] (Za Z5):=by
 wtm_at "g"
theorem ZcE:FnScope ["self"] ["self"] (Za Z6):=by
 wtm_at "g"
theorem Zet:FnScope ["_law_script","_law_k"] ["_law_script","_law_k"] (Za J5):=by
 wtm_at "g"
theorem Zji:FnScope ["_law_cell"] ["_law_cell"] (Za ZcF):=by
 wtm_at "g"
theorem Zfn:FnScope ["_law_tape_here","_law_many","_law_found","_law_number"] ["_law_tape_here","_law_many"] (Za ZcI):=by
 wtm_at "g"
theorem Zjj:FnScope ["_law_tape_here","_law_some"] ["_law_tape_here","_law_some"] (Za ZcH):=by
 wtm_at "g"
theorem Zba:FnScope ["_law_tape_here","_law_words","_law_found","_law_k"] ["_law_tape_here"] (Za ZcG):=by
 wtm_at "g"
theorem Zhq:FnScope ["_law_tape_here"] ["_law_tape_here"] (Za Zbc):=by
 wtm_at "g"
theorem Zbm:FnScope ["_law_tape_here","_law_found","_law_time","_law_k","_law_begin"] ["_law_tape_here"] (Za Zbb):=by
 wtm_at "g"
theorem Jm:FnScope ["_law_tape_here","_law_quiet_here","_law_last","_law_begin","_law_end","_law_odd","_law_found","_law_touch","_law_many"] ["_law_tape_here","_law_quiet_here"] (Za Q6):=by
 wtm_at "g"
theorem Zfm:FnScope ["_law_rule_here","_law_borne_here","_law_quiet_here","_law_kinds","e","_law_others"] ["_law_rule_here","_law_borne_here","_law_quiet_here"] (Za Xc):=by
 wtm_at "g"
theorem Zf3:FnScope ["_law_house"] ["_law_house"] (Za Xw):=by
 wtm_at "g"
theorem Zfl:FnScope ["_law_script","_law_cell","_law_tape_here","_law_right","_law_rules","_law_kinds","_law_bad","_law_at","_law_other","_law_asked"] ["_law_script"] (Za Zbn):=by
 wtm_at "g"
structure Txt0 (P:Yx) (w:World) (K:Frag) (mg:Str->Option Value):Prop where
 b_ValueError:mg "ValueError" = none
 b_all:mg "all" = none
 b_bool:mg "bool" = none
 b_enumerate:mg "enumerate" = none
 b_int:mg "int" = none
 b_isinstance:mg "isinstance" = none
 b_len:mg "len" = none
 b_list:mg "list" = none
 b_range:mg "range" = none
 b_set:mg "set" = none
 b_sorted:mg "sorted" = none
 b_str:mg "str" = none
 b_tuple:mg "tuple" = none
 g_LETTERS:JM K mg "LETTERS" (.str [97,98,99,100,101,102,103,104,105,106,107,108,109,110,111,112,113,114,115,116,117,118,119,120,121,122])
 g_LONGEST_WORD:JM K mg "LONGEST_WORD" (.int 8)
 g_WISH_WORDS:JM K mg "WISH_WORDS" (.tup [(.str [97,110,121]),(.str [105,115]),(.str [98,121]),(.str [110,111,116]),(.str [97,110,100]),(.str [111,114])])
 g_GREATEST_NUMBER:JM K mg "GREATEST_NUMBER" (.int 1000000000)
 g_RULE_WORDS:JM K mg "RULE_WORDS" (.tup [(.str [104,101,97,118,121]),(.str [103,114,101,97,116]),(.str [115,109,97,108,108]),(.str [115,111,111,110])])
 g_MOST_RULE_WORDS:JM K mg "MOST_RULE_WORDS" (.int 3)
 g_MOST_BORNE:JM K mg "MOST_BORNE" (.int 4)
 g_MOST_QUIET:JM K mg "MOST_QUIET" (.int 8)
 c_BadRule:mg "BadRule" = some (.ref 140)
 c_House:mg "House" = some (.ref 710)
 c_TooLate:mg "TooLate" = some (.ref 207)
 c_NoText:mg "NoText" = some (.ref 128)
 c_NoNumber:mg "NoNumber" = some (.ref 243)
 c_NoName:mg "NoName" = some (.ref 195)
 c_NoLine:mg "NoLine" = some (.ref 267)
 c_HasName:mg "HasName" = some (.ref 183)
 c_Full:mg "Full" = some (.ref 219)
 c_BadTime:mg "BadTime" = some (.ref 171)
 c_BadOffer:mg "BadOffer" = some (.ref 152)
 c_BadMany:mg "BadMany" = some (.ref 231)
 c_BadBook:mg "BadBook" = some (.ref 255)
 c_MateError:mg "MateError" = some (.ref 108)
 xp_BadRule:XPlain K 140
 na_House_rows:QG K 710 "rows"
 na_House_ends:QG K 710 "ends"
 na_House_lefts:QG K 710 "lefts"
 na_House_offers:QG K 710 "offers"
 na_House_time:QG K 710 "time"
 na_House_quiet:QG K 710 "quiet"
 na_House_borne:QG K 710 "borne"
 na_House_rule:QG K 710 "rule"
 cl_House:Cls K 710
 xk:XKit K
 xg_BadRule:XGet K 140
 xo_BadRule_TooLate:kitOne K (.ref 140) (.ref 207)=some false
 xo_BadRule_ValueError:kitOne K (.ref 140) (.type "ValueError")=some true
 xo_BadRule_BadRule:kitOne K (.ref 140) (.ref 140)=some true
 xt_BadRule_255_231_152_171_219_183_267_195_243_128:PySem.W.kitAny K (.ref 140) (List.map (Y5) [255,231,152,171,219,183,267,195,243,128])=some false
 xm_BadRule_MateError:PySem.W.exmOne K (.ref 140) (.ref 108)=some true
 lam:LamK K
structure Txt1 (P:Yx) (w:World) (K:Frag) (mg:Str->Option Value) (base:Heap) (k:Nat):Prop where
 f_is_long_word:FOk P w K mg base fns gv k "is_long_word" 0
 f_is_word:FOk P w K mg base fns gv k "is_word" 1
 f_is_whole:FOk P w K mg base fns gv k "is_whole" 2
 f_is_number:FOk P w K mg base fns gv k "is_number" 3
 f_is_time:FOk P w K mg base fns gv k "is_time" 4
 f_is_one_of:FOk P w K mg base fns gv k "is_one_of" 5
 f_are_unlike:FOk P w K mg base fns gv k "are_unlike" 6
 f_is_rule:FOk P w K mg base fns gv k "is_rule" 7
 f_are_borne:FOk P w K mg base fns gv k "are_borne" 8
 f_row_of:FOk P w K mg base fns gv k "row_of" 9
 f_sets_of:FOk P w K mg base fns gv k "sets_of" 10
 f_by_numbers:FOk P w K mg base fns gv k "by_numbers" 11
 f_rest_paper:FOk P w K mg base fns gv k "rest_paper" 12
 f_is_quiet_time:FOk P w K mg base fns gv k "is_quiet_time" 13
 f_are_quiet:FOk P w K mg base fns gv k "are_quiet" 14
 f_House___init__:IOk P w K mg base fns gv k 710 ["rule","borne","quiet","time","offers","lefts","ends","rows"] 15
 f_House_now:MOk P w K mg base fns gv k 710 "now" 16
 f_House_row:MOk P w K mg base fns gv k 710 "row" 17
 f_House_meetings:MOk P w K mg base fns gv k 710 "meetings" 18
 f_House_waiters:MOk P w K mg base fns gv k 710 "waiters" 19
 f_House_rest:MOk P w K mg base fns gv k 710 "rest" 20
 f_House_book:MOk P w K mg base fns gv k 710 "book" 21
 f_Lcell_at:FOk P w K mg base fns gv k "_law_cell_at" 22
 f_Ltape:FOk P w K mg base fns gv k "_law_tape" 23
 f_Ldraw:FOk P w K mg base fns gv k "_law_draw" 24
 f_Lpick:FOk P w K mg base fns gv k "_law_pick" 25
 f_Lrule:FOk P w K mg base fns gv k "_law_rule" 26
 f_Lborne:FOk P w K mg base fns gv k "_law_borne" 27
 f_Lquiet:FOk P w K mg base fns gv k "_law_quiet" 28
 f_Lbad_quiet:FOk P w K mg base fns gv k "_law_bad_quiet" 29
 f_Lword:FOk P w K mg base fns gv k "_law_word" 30
 f_Lbegins:FOk P w K mg base fns gv k "_law_begins" 31
 f_law:FOk P w K mg base fns gv k "law" 32
noncomputable abbrev PsF(ns:List Str)(x:Str)(st:Stmt)(n:Nat)(b:S):Prop:=∀{P:Yx}{w:World}{K:Frag}{mg:Str->Option Value}{base:Heap}{k:Nat}{f:Addr}{cdv:Value}{A:Around}{outer:List Wb}{s:Shared}{H:Hp}{E:XK},Txt0 P w K mg->Txt1 P w K mg base k->Room k (A.deeper (envOfC x (Za st) s.heap.objs.size f cdv))->∀{xe:Value->Shared->Prop}{pn:List (Addr×Obj)}{xr:XR},Go (asX (cxOf (CXF P w) P w K mg base ns x (Za st) f cdv A outer s H E) xe pn) xr->Bd (asX (cxOf (CXF P w) P w K mg base ns x (Za st) f cdv A outer s H E) xe pn) (Zv st) (tS K (ZV fns gv k) gv xr n b)
section
variable{P:Yx}{w:World}{K:Frag}{mg:Str->Option Value}{base:Heap}{k:Nat}{f:Addr}{cdv:Value}{A:Around}{outer:List Wb}{s:Shared}{H:Hp}{E:XK}
theorem Zbp:PsF ["text"] "is_long_word" Qv 1 Qe:=by
 wtm_at "jhbyCD0z1420003mkyC4";exact(ZaT rfl rfl T0.g_WISH_WORDS (by decide));wtm_at "mkI:0;1";refine Ju (N':=["sign"]) ?_ ?_;wtm_at "0Ennv4owF";exact(ZX 0 (show Gi (["sign"]:List Str)from by decide +kernel));wtm_at "Gx0C4";exact(ZaT rfl rfl T0.g_LETTERS (by decide));wtm_at "mkii2000"
theorem Zga:PsF ["thing"] "is_word" Xr 1 QT:=by
 wtm_at "jhbyW40A0";exact T0.b_str;wtm_at "JyCD0z142000";exact(ZaT rfl rfl T0.g_LONGEST_WORD (by decide));wtm_at "mkI87";exact T1.f_is_long_word;wtm_at "501420"
theorem Zey:PsF ["thing"] "is_whole" J4 1 ZaP:=by
 wtm_at "jhbyW40A0~JI";refine Zln ?_;wtm_at "W40A0";exact T0.b_bool;wtm_at "J"
theorem ZdO:PsF ["thing"] "is_number" Jr 1 Xi:=by
 wtm_at "jhby87";exact T1.f_is_whole;wtm_at "501420I";refine ZlA ?_ ?_ ?_ ?_ ?_;wtm_at "34";exact(ZaT rfl rfl T0.g_GREATEST_NUMBER (by decide));wtm_at "mk"
theorem Zgb:PsF ["thing"] "is_time" Xu 1 ZbT:=by
 wtm_at "jhb87";exact T1.f_is_number;wtm_at "501420"
theorem ZdN:PsF ["thing","texts"] "is_one_of" Jq 2 QV:=by
 wtm_at "jhbyW40A0";exact T0.b_str;wtm_at "JIC4cmk"
theorem ZcO:PsF ["words"] "are_unlike" Q5 1 QD:=by
 wtm_at "jhbC";refine Zgi ?_ ?_ ?_ ?_ ?_ ?_;wtm_at "00z0";exact T0.b_set;wtm_at "1420D0z142000mk"
theorem Zgc:PsF ["thing"] "is_rule" Xv 1 ZbU:=by
 wtm_at "jhB#HPQW40A0$Jo%sD0z142000";exact(ZaT rfl rfl T0.g_MOST_RULE_WORDS (by decide));wtm_at "mkbqpby:0;1";refine Ju (N':=["word"]) ?_ ?_;wtm_at "0Ennv4owF";exact(ZX 0 (show Gi (["word"]:List Str)from by decide +kernel));wtm_at "Gx08";exact lk0;exact T1.f_is_one_of;wtm_at "50141";exact(ZaT rfl rfl T0.g_RULE_WORDS (by decide));wtm_at "200ii2000I87";exact T1.f_are_unlike;wtm_at "501420"
theorem ZdQ:PsF ["thing"] "are_borne" Jt 1 Xj:=by
 wtm_at "jhB#HPQW40A0$Jo%sD0z142000";exact(ZaT rfl rfl T0.g_MOST_BORNE (by decide));wtm_at "mkbqpby:0;1";refine Ju (N':=["kind"]) ?_ ?_;wtm_at "0Ennv4owF";exact(ZX 0 (show Gi (["kind"]:List Str)from by decide +kernel));wtm_at "Gx08";exact lk0;exact T1.f_is_word;wtm_at "501420ii2000I87";exact T1.f_are_unlike;wtm_at "501420"
theorem Zhz(T0:Txt0 P w K mg)(T1:Txt1 P w K mg base k)(hr:Room k (A.deeper (envOfC "row_of" (Za Jp) s.heap.objs.size f cdv)))(hr2:Room (k+1) A)(hcd:codeIn K cdv "row_of" = true){xe:Value->Shared->Prop}{pn:List (Addr×Obj)}{xr:XR}(go:Go (asX (cxOf (CXF P w) P w K mg base ["rule","waiters","by_rule"] "row_of" (Za Jp) f cdv A outer s H E) xe pn) xr):
  Bd (asX (cxOf (CXF P w) P w K mg base ["rule","waiters","by_rule"] "row_of" (Za Jp) f cdv A outer s H E) xe pn) (Zv Jp) (tS K (ZV fns gv k) gv xr 3 Zbi):=by
 wtm_at "hK";exact ZdE.nd;refine ZhJ (q:="row_of") (y:="one") ?_ ?_ ?_ ?_ ?_ ?_ ?_ ?_ ?_ ?_;exact T0.lam;wtm_at "0J[0À";exact(ZjW (by kernel_rfl));wtm_at "0c0b";refine Ju (N':=["number","offer","left"]) ?_ ?_;wtm_at "0EnnvfowFÍGx0]ii"
theorem Zf9:PsF ["borne","waiters","told","kind","givers","takers","bearers","pairs"] "sets_of" Xq 8 ZbS:=by
 wtm_at "jhK";exact Zap.nd;wtm_at "l2*0+v";refine ZhI (N':=["waiter"]) ?_ ?_ ?_ ?_ ?_ ?_ ?_ ?_ ?_;wtm_at "00Ànnvcow";exact(ZX 0 (show Gi (["waiter"]:List Str)from by decide +kernel));wtm_at "i";exact(ZX 3 Zap.nd);wtm_at "i";exact Zfs;wtm_at "b";refine ZeB ?_ ?_ ?_ ?_ ?_;wtm_at "0À1f2000"
theorem ZcN:PsF ["waiters"] "by_numbers" Q4 1 JZ:=by
 wtm_at "jhb";refine Zgj (N':=["number","offer","left"]) ?_ ?_ ?_ ?_ ?_ ?_ ?_;wtm_at "0nnv4owÍi"
theorem ZcM:PsF ["borne","waiters","known","paper","numbers","why"] "rest_paper" Q3 6 JX:=by
 wtm_at "jhKÎ87";exact T1.f_by_numbers;wtm_at "501c20,Î";exact ZcT;wtm_at "*0+v87";exact T1.f_sets_of;wtm_at "50141c200";exact(ZX 4 Jl.nd);wtm_at "i";exact Zfs;wtm_at "br"
theorem Za3:PsF ["thing"] "is_quiet_time" Qm 1 ZS:=by
 wtm_at "jhB#HPQW40A0$Jo%sD0z1420003mkbqpby87";exact T1.f_is_time;wtm_at "501943a20y87";exact T1.f_is_time;wtm_at "501943a20IC943a943amk"
theorem ZdP:PsF ["thing"] "are_quiet" Js 1 QW:=by
 wtm_at "jhB#HPQW40A0$JoHsD0z142000";exact(ZaT rfl rfl T0.g_MOST_QUIET (by decide));wtm_at "mk%PQ:0;1";refine Ju (N':=["one"]) ?_ ?_;wtm_at "0Ennv4owF";exact(ZX 0 (show Gi (["one"]:List Str)from by decide +kernel));wtm_at "Gx08";exact lk0;exact T1.f_is_quiet_time;wtm_at "501420ii2000obqpb:0;1";refine Ju (N':=["at","thing"]) ?_ ?_;wtm_at "0Enn";refine Zgf ?_ ?_ ?_;wtm_at "0<131D0z142000200owF";exact(ZX 0 (show Gi (["at","thing"]:List Str)from by decide +kernel));wtm_at "Gx0C99c643a3a99c4a3amkii2000"
theorem Zat(T0:Txt0 P w K mg)(T1:Txt1 P w K mg base k)(hr:Room k (A.deeper (envOfC "House.__init__" (Za Zi) s.heap.objs.size f cdv))){xe:Value->Shared->Prop}{pn:List (Addr×Obj)}{xr:XR}(go:Go (asX (cxOf (CXF P w) P w K mg base ["self","rule","borne","quiet"] "House.__init__" (Za Zi) f cdv A outer s H E) xe pn) xr):
  Bd (asX (cxOf (CXF P w) P w K mg base ["self","rule","borne","quiet"] "House.__init__" (Za Zi) f cdv A outer s H E) xe pn) (Zv Zi) (tSeq (tIfS (tT K (ZV fns gv k) gv xr ZQ) (tS K (ZV fns gv k) gv xr 4 (.rse 140 [] (.cons (.con (.str [110,111,32,114,117,108,101,44,32,110,111,32,107,105,110,100,115,32,98,111,114,110,101,44,32,111,114,32,110,111,32,113,117,105,101,116,32,116,105,109,101,115])) .nil) .done)) Zje) (tFs K (ZV fns gv k) gv xr Qn)):=by
 wtm_at "hR";refine ps_if ?_ ?_ ?_;wtm_at "#HPQ87";exact T1.f_is_rule;wtm_at "501c20oHPQ87";exact T1.f_are_borne;wtm_at "501f20o%PQ87Á501r20o";refine Zhw ?_ ?_ ?_ ?_ ?_ ?_;wtm_at "7";exact T0.xp_BadRule;exact T0.c_BadRule;wtm_at "00d";exact Zex;wtm_at "RXYc0RXYf0RXYr0RXYS0RXYl20RXYl20RXYl20RXYl20";exact Zex
theorem ZdS:PsF ["self"] "House.now" Qh 1 JD:=by
 wtm_at "jhb-t";exact T0.na_House_time;wtm_at "4"
theorem ZdR:PsF ["self"] "House.row" Qg 1 JC:=by
 wtm_at "jhb87";exact T1.f_row_of;wtm_at "501-t";exact T0.na_House_rule;wtm_at "41Z7tÂ54200"
theorem Zas:PsF ["self"] "House.meetings" Zz 1 Qf:=by
 wtm_at "jhb";refine Ju (N':=["row"]) ?_ ?_;wtm_at "0Ennv-tÏ4owF";exact(ZX 0 (show Gi (["row"]:List Str)from by decide +kernel));wtm_at "x";exact Zhv;wtm_at "Gx0]ii"
theorem Za4:PsF ["self","waiting"] "House.waiters" ZJ 2 Qo:=by
 wtm_at "jh";refine Zft (N':=["number","end"]) ?_ ?_ ?_ ?_ ?_ ?_ ?_;wtm_at "0Enn";refine ZjB ?_ ?_ ?_;wtm_at "0";exact T0.b_enumerate;wtm_at "1";refine PE.tree ?_;wtm_at "-t";exact T0.na_House_ends;wtm_at "420owF";exact(Zfw 0 1 rfl (show Gi (["number","end"]:List Str)from by decide +kernel));wtm_at "x";exact Zhv;wtm_at "Gx0]ii";exact JF.nd;wtm_at "000b";refine Ju (N':=["number"]) ?_ ?_;wtm_at "0EnnvcowF";exact(ZX 0 (show Gi (["number"]:List Str)from by decide +kernel));wtm_at "Gx0]ii"
theorem ZcQ:PsF ["self"] "House.rest" Z5 1 Q9:=by
 wtm_at "jhb87";exact T1.f_rest_paper;wtm_at "501-t";exact T0.na_House_borne;wtm_at "41Z7tÂ54200"
theorem ZcR:PsF ["self"] "House.book" Z6 1 Ja:=by
 wtm_at "jhbÐ0";exact T0.b_list;wtm_at "1-tÏ42000"
theorem Zez:PsF ["_law_script","_law_k"] "_law_cell_at" J5 2 Jj:=by
 wtm_at "jhBscD0z142000mkb94capb3"
theorem Zjv:PsF ["_law_cell"] "_law_tape" ZcF 1 ZbW:=by
 wtm_at "jhb.164Ñ0~1C4633mk20001643132000"
theorem Zjy:PsF ["_law_tape_here","_law_many","_law_found","_law_number"] "_law_draw" ZcI 4 ZbY:=by
 wtm_at "jhBs943a3mkKÃ6943acÒ6943ac43bfpÒ6943a343,Ã6666943a63943a333,Ã66r66r333b666r66r333c"
theorem Zjx:PsF ["_law_tape_here","_law_some"] "_law_pick" ZcH 2 Xk:=by
 wtm_at "jhb9c87u50141D0z1c2000200a"
theorem Zjw:PsF ["_law_tape_here","_law_words","_law_found","_law_k"] "_law_rule" ZcG 4 ZbX:=by
 wtm_at "jhÓ";exact Zba.nd;wtm_at ".1d1d1d1d20000K";exact Zba.nd;wtm_at ".2*0+^0<19l131313131320000087u501413200a20";exact(ZX 3 Zba.nd);wtm_at "i/=f1";refine Zlm ?_ ?_;wtm_at "c187u50141D0z1c20002002020pbÄ0$1f2000"
theorem ZhB:PsF ["_law_tape_here"] "_law_borne" Zbc 1 Zah:=by
 wtm_at "jhb9l1e21e21e1d201e1d1d2001e1d1d1d1d2000020000087u501413200a"
theorem ZhA:PsF ["_law_tape_here","_law_found","_law_time","_law_k","_law_begin"] "_law_quiet" Zbb 5 Zag:=by
 wtm_at "jhÓ_.2K_T3*0+^0<19l187u50141320013187u501413200200087u501413200a20";exact(ZX 3 Zbm.nd);wtm_at "iÔ_66f39l187u501413200187u501416363320020087u501413200aK_66U39l187u501413200187u501416363320020087u501413200a/=c1e1U1f20020pbÄ0$1c2000"
theorem ZcP:PsF ["_law_tape_here","_law_quiet_here","_law_last","_law_begin","_law_end","_law_odd","_law_found","_law_touch","_law_many"] "_law_bad_quiet" Q6 9 QF:=by
 wtm_at "jhKV3*0+vc";exact(Zfw 3 4 rfl Jm.nd);wtm_at "iKVUp>V.1e16f316f32001e16f316f32001e16f31663332001e1T3132001e16f31q200200000/=&1e1S16f320020>VÅ&l1e1d1d2001e16f3201e16f316f316f320001l16f316f32001S131d20000000>VÅ&l1e16f31l16f32020020ÆV.1Ð0";exact T0.b_list;wtm_at "1c20001S1d131q1";exact ZcT;wtm_at "1d16ce187?50141&20020200000000/=@16e187?50141&20020c20Bsce2mkÕVe199cT3a3a1699cT3a3a3200ÆVÅ@l16ce1";exact(vr 7);wtm_at "2016cÇc";exact Zfu;wtm_at "`3016ce1e199cT3a3a1699cT3a3a3200202000/=@16Çc";exact Zfu;wtm_at "`T30e1";refine Zll ?_ ?_ ?_;wtm_at "9cT3aT3";exact(λ_ _=>by with_unfolding_all rfl);wtm_at "2020ppÖVÄ0$1";refine Ju (N':=["_law_k"]) ?_ ?_;wtm_at "0Enn^0<1320owF";exact(ZX 0 (show Gi (["_law_k"]:List Str)from by decide +kernel));wtm_at "Gx0e1634166343200ii2000b87?501416@l1";exact(vr 8);wtm_at "20200"
theorem Zju(T0:Txt0 P w K mg)(T1:Txt1 P w K mg base k)(hr:Room k (A.deeper (envOfC "_law_word" (Za Xc) s.heap.objs.size f cdv)))(hr2:Room (k+1) A)(hcd:codeIn K cdv "_law_word" = true){xe:Value->Shared->Prop}{pn:List (Addr×Obj)}{xr:XR}(go:Go (asX (cxOf (CXF P w) P w K mg base ["_law_rule_here","_law_borne_here","_law_quiet_here","_law_kinds","e","_law_others"] "_law_word" (Za Xc) f cdv A outer s H E) xe pn) xr):
  Bd (asX (cxOf (CXF P w) P w K mg base ["_law_rule_here","_law_borne_here","_law_quiet_here","_law_kinds","e","_law_others"] "_law_word" (Za Xc) f cdv A outer s H E) xe pn) (Zv Xc) (tS K (ZV fns gv k) gv xr 6 ZbV):=by
 wtm_at "h,{S";refine Zjo (D:=108) ?_ ?_ ?_ ?_ ?_ ?_ ?_ ?_ ?_ ?_ ?_ ?_;wtm_at "000{0";exact⟨rfl,rfl⟩;wtm_at "0";exact T0.c_MateError;exact(YG.mpr ⟨T0.xm_BadRule_MateError,(λ_ h=>absurd h YF)⟩);intro xe pn xr go;wtm_at "/Ø7ÙÚ";exact T0.c_House;wtm_at "0141c1f2000p";intro A2 pn2;wtm_at ">{";refine ZjD (as:=[255,231,152,171,219,183,267,195,243,128]) ?_ ?_ ?_ ?_ ?_ ?_ ?_ ?_;wtm_at "U0AL";exact(Qt (v:=.ref 255) rfl T0.c_BadBook rfl);wtm_at "L";exact(Qt (v:=.ref 231) rfl T0.c_BadMany rfl);wtm_at "L";exact(Qt (v:=.ref 152) rfl T0.c_BadOffer rfl);wtm_at "L";exact(Qt (v:=.ref 171) rfl T0.c_BadTime rfl);wtm_at "L";exact(Qt (v:=.ref 219) rfl T0.c_Full rfl);wtm_at "L";exact(Qt (v:=.ref 183) rfl T0.c_HasName rfl);wtm_at "L";exact(Qt (v:=.ref 267) rfl T0.c_NoLine rfl);wtm_at "L";exact(Qt (v:=.ref 195) rfl T0.c_NoName rfl);wtm_at "L";exact(Qt (v:=.ref 243) rfl T0.c_NoNumber rfl);wtm_at "L";exact(Qt (v:=.ref 128) rfl T0.c_NoText rfl);exact pa_cs0;wtm_at "i|}";exact(YG.mpr ⟨⟨T0.xg_BadRule,T0.xt_BadRule_255_231_152_171_219_183_267_195_243_128⟩,(λ_ h=>absurd h YF)⟩);wtm_at ",{e1";refine ZcS (cv:=(.ref 140)) (c:=(.ref 140)) ?_ ?_ ?_ ?_ ?_ ?_ ?_ ?_;wtm_at "U0A";exact(Qt (v:=.ref 140) rfl T0.c_BadRule rfl);wtm_at "È|";exact(YG.mpr ⟨⟨T0.xg_BadRule,T0.xo_BadRule_BadRule⟩,(λ_ h=>absurd h YF)⟩);wtm_at "}1";refine ZcS (cv:=(.ty "ValueError")) (c:=(.type "ValueError")) ?_ ?_ ?_ ?_ ?_ ?_ ?_ ?_;wtm_at "U0A";exact(ZhO (v:=.ty "ValueError") rfl T0.b_ValueError (by decide +kernel) rfl);wtm_at "È|";exact(YG.mpr ⟨⟨T0.xg_BadRule,T0.xo_BadRule_ValueError⟩,(λ_ h=>absurd h YF)⟩);wtm_at "}1";refine pe_orW ?_ ?_;wtm_at "&I";refine ZcS (cv:=(.ref 207)) (c:=(.ref 207)) ?_ ?_ ?_ ?_ ?_ ?_ ?_ ?_;wtm_at "U0A";exact(Qt (v:=.ref 207) rfl T0.c_TooLate rfl);wtm_at "È|}";exact(YG.mpr ⟨⟨T0.xg_BadRule,T0.xo_BadRule_TooLate⟩,(λ_ h=>absurd h YF)⟩);wtm_at "2000pbr"
theorem Zgd:PsF ["_law_house"] "_law_begins" Xw 1 ZbZ:=by
 wtm_at "jhB#HsZ7t";exact T1.f_House_now;wtm_at "54SmkHsZ7t";exact T1.f_House_row;wtm_at "54l2mkHsZ7t";exact T1.f_House_book;wtm_at "54l2mk%sZ7t";exact T1.f_House_meetings;wtm_at "54l2mkbqpbyCZ7tÂ54l2mkI";refine Zly ?_ ?_;wtm_at "Z7t";exact T1.f_House_rest;wtm_at "54k"
theorem Zkx(T0:Txt0 P w K mg)(T1:Txt1 P w K mg base k)(hr:Room k (A.deeper (envOfC "law" (Za Zbn) s.heap.objs.size f cdv)))(hr2:Room (k+1) A)(hcd:codeIn K cdv "law" = true){xe:Value->Shared->Prop}{pn:List (Addr×Obj)}{xr:XR}(go:Go (asX (cxOf (CXF P w) P w K mg base ["_law_script","_law_cell","_law_tape_here","_law_right","_law_rules","_law_kinds","_law_bad","_law_at","_law_other","_law_asked"] "law" (Za Zbn) f cdv A outer s H E) xe pn) xr):
  Bd (asX (cxOf (CXF P w) P w K mg base ["_law_script","_law_cell","_law_tape_here","_law_right","_law_rules","_law_kinds","_law_bad","_law_at","_law_other","_law_asked"] "law" (Za Zbn) f cdv A outer s H E) xe pn) (Zv Zbn) (tS K (ZV fns gv k) gv xr 10 Ze5):=by
 wtm_at "h*0+v6l187";exact T1.f_Lcell_at;wtm_at "50141320020Ç4`30`30";exact(ZX 1 Zfl.nd);wtm_at "iK!87";exact T1.f_Ltape;wtm_at "501c20,!l187";exact T1.f_Lrule;wtm_at "501f20187";exact T1.f_Lborne;wtm_at "501f20187";exact T1.f_Lquiet;wtm_at "501f202000B#Hs87Á5019r3a20qmk%s87";exact T1.f_Lword;wtm_at "5019r3a19r3a19r3a2000SmkbqpBPQ87";exact T1.f_Lbegins;wtm_at "501Ø7ÙÚ";exact T0.c_House;wtm_at "019r3a19r3a19r3a200020obqpÔ!l1e1d1d2001e1d201l1d201S1e1d1d1d1d200001d2000000>!l1e1d1d2001e1d201l1d201S1e1d1d1d1d1d2000001d1e13201e1d20200000000Æ!l187?501f1U200187?501f1&200187";exact T1.f_Lbad_quiet;wtm_at "501f19r3a2002000Bs87Á5019@3a20qmkbqpÕ!87u501f13200Ö!87u501f13200";refine Zft (N':=["_law_k","_law_right","_law_bad","_law_at","_law_other"]) ?_ ?_ ?_ ?_ ?_ ?_ ?_;wtm_at "0Enn^0<1320owF";exact(ZX 0 (show Gi (["_law_k","_law_right","_law_bad","_law_at","_law_other"]:List Str)from by decide +kernel));wtm_at "Gx09l19c4a19f4a200Ñ0~1C4e1r1U200mk2000aii!000Bs87";exact T1.f_Lword;wtm_at "5019É3a19É3a19É3a2000e1q1q1q2000mkbqppbq"
end
noncomputable abbrev FB(K:Frag)(mg:Str->Option Value)(x:Str)(st:Stmt)(ps:List Str):Prop:=∃f fd,Fun K x x st f fd/\mg x=some (.ref f)/\Binds K fd ps []
structure TxtF (K:Frag) (mg:Str->Option Value):Prop where
 f_is_long_word:FB K mg "is_long_word" Qv ["text"]
 f_is_word:FB K mg "is_word" Xr ["thing"]
 f_is_whole:FB K mg "is_whole" J4 ["thing"]
 f_is_number:FB K mg "is_number" Jr ["thing"]
 f_is_time:FB K mg "is_time" Xu ["thing"]
 f_is_one_of:FB K mg "is_one_of" Jq ["thing","texts"]
 f_are_unlike:FB K mg "are_unlike" Q5 ["words"]
 f_is_rule:FB K mg "is_rule" Xv ["thing"]
 f_are_borne:FB K mg "are_borne" Jt ["thing"]
 f_row_of:FB K mg "row_of" Jp ["rule","waiters"]
 f_sets_of:FB K mg "sets_of" Xq ["borne","waiters"]
 f_by_numbers:FB K mg "by_numbers" Q4 ["waiters"]
 f_rest_paper:FB K mg "rest_paper" Q3 ["borne","waiters"]
 f_is_quiet_time:FB K mg "is_quiet_time" Qm ["thing"]
 f_are_quiet:FB K mg "are_quiet" Js ["thing"]
 f_House___init__:∃f fd,Fun K "__init__" "House.__init__" Zi f fd/\Mk K 710 f/\Binds K fd ["self","rule","borne","quiet"] []
 f_House_now:∃f fd,Fun K "now" "House.now" Qh f fd/\Meth K 710 "now" f/\Binds K fd ["self"] []
 f_House_row:∃f fd,Fun K "row" "House.row" Qg f fd/\Meth K 710 "row" f/\Binds K fd ["self"] []
 f_House_meetings:∃f fd,Fun K "meetings" "House.meetings" Zz f fd/\Meth K 710 "meetings" f/\Binds K fd ["self"] []
 f_House_waiters:∃f fd,Fun K "waiters" "House.waiters" ZJ f fd/\Meth K 710 "waiters" f/\Binds K fd ["self"] []
 f_House_rest:∃f fd,Fun K "rest" "House.rest" Z5 f fd/\Meth K 710 "rest" f/\Binds K fd ["self"] []
 f_House_book:∃f fd,Fun K "book" "House.book" Z6 f fd/\Meth K 710 "book" f/\Binds K fd ["self"] []
 f_Lcell_at:FB K mg "_law_cell_at" J5 ["_law_script","_law_k"]
 f_Ltape:FB K mg "_law_tape" ZcF ["_law_cell"]
 f_Ldraw:FB K mg "_law_draw" ZcI ["_law_tape_here","_law_many"]
 f_Lpick:FB K mg "_law_pick" ZcH ["_law_tape_here","_law_some"]
 f_Lrule:FB K mg "_law_rule" ZcG ["_law_tape_here"]
 f_Lborne:FB K mg "_law_borne" Zbc ["_law_tape_here"]
 f_Lquiet:FB K mg "_law_quiet" Zbb ["_law_tape_here"]
 f_Lbad_quiet:FB K mg "_law_bad_quiet" Q6 ["_law_tape_here","_law_quiet_here"]
 f_Lword:FB K mg "_law_word" Xc ["_law_rule_here","_law_borne_here","_law_quiet_here"]
 f_Lbegins:FB K mg "_law_begins" Xw ["_law_house"]
 f_law:FB K mg "law" Zbn ["_law_script"]
theorem Zh1{P:Yx}{w:World}{K:Frag}{mg:Str->Option Value}{base:Heap}{k:Nat}(T0:Txt0 P w K mg)(TF:TxtF K mg)(ih:Txt1 P w K mg base k):FOk P w K mg base fns gv (k+1) "row_of" 9:=by
 obtain⟨f,fd,F,m,b⟩:=TF.f_row_of;wtm_at "Ê";refine Zc7 (fi:=9) (np:=2) (n:=3) (body:=Zbi) (cell:=false) F ZdE ?_ ?_ ?_ ?_;wtm_at "000Ë";refine Zhz ?_ ?_ ?_ ?_ ?_ ?_;wtm_at "MNÌ5[O"
theorem Zaz{P:Yx}{w:World}{K:Frag}{mg:Str->Option Value}{base:Heap}{k:Nat}(T0:Txt0 P w K mg)(TF:TxtF K mg)(ih:Txt1 P w K mg base k):IOk P w K mg base fns gv (k+1) 710 ["rule","borne","quiet","time","offers","lefts","ends","rows"] 15:=by
 obtain⟨f,fd,F,m,b⟩:=TF.f_House___init__;wtm_at "(";refine Zl3 (n:=4) (ec:=ZQ) (sa:=(.rse 140 [] (.cons (.con (.str [110,111,32,114,117,108,101,44,32,110,111,32,107,105,110,100,115,32,98,111,114,110,101,44,32,111,114,32,110,111,32,113,117,105,101,116,32,116,105,109,101,115])) .nil) .done)) (fes:=Qn) F Zar ?_ ?_ ?_ ?_ ?_ ?_ ?_ ?_ ?_;wtm_at "000tJi";exact(YG.mpr ⟨T0.na_House_rule,(YG.mpr ⟨T0.na_House_borne,(YG.mpr ⟨T0.na_House_quiet,(YG.mpr ⟨T0.na_House_time,(YG.mpr ⟨T0.na_House_offers,(YG.mpr ⟨T0.na_House_lefts,(YG.mpr ⟨T0.na_House_ends,(YG.mpr ⟨T0.na_House_rows,(λ_ h=>absurd h YF)⟩)⟩)⟩)⟩)⟩)⟩)⟩)⟩);exact rse_no;wtm_at ")";refine Zat ?_ ?_ ?_ ?_;wtm_at "MN5O"
theorem ZdZ{P:Yx}{w:World}{K:Frag}{mg:Str->Option Value}{base:Heap}{k:Nat}(T0:Txt0 P w K mg)(TF:TxtF K mg)(ih:Txt1 P w K mg base k):MOk P w K mg base fns gv (k+1) 710 "now" 16:=by
 obtain⟨f,fd,F,m,b⟩:=TF.f_House_now;wtm_at "(";refine ZbJ (fi:=16) (np:=1) (n:=1) (body:=JD) (cell:=false) F ZdK ?_ ?_ ?_ ?_;wtm_at "000)";refine ZdS ?_ ?_ ?_ ?_;wtm_at "MN5O"
theorem ZdY{P:Yx}{w:World}{K:Frag}{mg:Str->Option Value}{base:Heap}{k:Nat}(T0:Txt0 P w K mg)(TF:TxtF K mg)(ih:Txt1 P w K mg base k):MOk P w K mg base fns gv (k+1) 710 "row" 17:=by
 obtain⟨f,fd,F,m,b⟩:=TF.f_House_row;wtm_at "(";refine ZbJ (fi:=17) (np:=1) (n:=1) (body:=JC) (cell:=false) F ZdJ ?_ ?_ ?_ ?_;wtm_at "000)";refine ZdR ?_ ?_ ?_ ?_;wtm_at "MN5O"
theorem Zay{P:Yx}{w:World}{K:Frag}{mg:Str->Option Value}{base:Heap}{k:Nat}(T0:Txt0 P w K mg)(TF:TxtF K mg)(ih:Txt1 P w K mg base k):MOk P w K mg base fns gv (k+1) 710 "meetings" 18:=by
 obtain⟨f,fd,F,m,b⟩:=TF.f_House_meetings;wtm_at "(";refine ZbJ (fi:=18) (np:=1) (n:=1) (body:=Qf) (cell:=false) F Zaq ?_ ?_ ?_ ?_;wtm_at "000)";refine Zas ?_ ?_ ?_ ?_;wtm_at "MN5O"
theorem Za5{P:Yx}{w:World}{K:Frag}{mg:Str->Option Value}{base:Heap}{k:Nat}(T0:Txt0 P w K mg)(TF:TxtF K mg)(ih:Txt1 P w K mg base k):MOk P w K mg base fns gv (k+1) 710 "waiters" 19:=by
 obtain⟨f,fd,F,m,b⟩:=TF.f_House_waiters;wtm_at "(";refine ZbJ (fi:=19) (np:=1) (n:=2) (body:=Qo) (cell:=false) F JF ?_ ?_ ?_ ?_;wtm_at "000)";refine Za4 ?_ ?_ ?_ ?_;wtm_at "MN5O"
theorem ZcV{P:Yx}{w:World}{K:Frag}{mg:Str->Option Value}{base:Heap}{k:Nat}(T0:Txt0 P w K mg)(TF:TxtF K mg)(ih:Txt1 P w K mg base k):MOk P w K mg base fns gv (k+1) 710 "rest" 20:=by
 obtain⟨f,fd,F,m,b⟩:=TF.f_House_rest;wtm_at "(";refine ZbJ (fi:=20) (np:=1) (n:=1) (body:=Q9) (cell:=false) F ZcD ?_ ?_ ?_ ?_;wtm_at "000)";refine ZcQ ?_ ?_ ?_ ?_;wtm_at "MN5O"
theorem ZcW{P:Yx}{w:World}{K:Frag}{mg:Str->Option Value}{base:Heap}{k:Nat}(T0:Txt0 P w K mg)(TF:TxtF K mg)(ih:Txt1 P w K mg base k):MOk P w K mg base fns gv (k+1) 710 "book" 21:=by
 obtain⟨f,fd,F,m,b⟩:=TF.f_House_book;wtm_at "(";refine ZbJ (fi:=21) (np:=1) (n:=1) (body:=Ja) (cell:=false) F ZcE ?_ ?_ ?_ ?_;wtm_at "000)";refine ZcR ?_ ?_ ?_ ?_;wtm_at "MN5O"
theorem ZjN{P:Yx}{w:World}{K:Frag}{mg:Str->Option Value}{base:Heap}{k:Nat}(T0:Txt0 P w K mg)(TF:TxtF K mg)(ih:Txt1 P w K mg base k):FOk P w K mg base fns gv (k+1) "_law_word" 30:=by
 obtain⟨f,fd,F,m,b⟩:=TF.f_Lword;wtm_at "Ê";refine Zc7 (fi:=30) (np:=3) (n:=6) (body:=ZbV) (cell:=false) F Zfm ?_ ?_ ?_ ?_;wtm_at "000Ë";refine Zju ?_ ?_ ?_ ?_ ?_ ?_;wtm_at "MNÌ5[O"
theorem ok_law{P:Yx}{w:World}{K:Frag}{mg:Str->Option Value}{base:Heap}{k:Nat}(T0:Txt0 P w K mg)(TF:TxtF K mg)(ih:Txt1 P w K mg base k):FOk P w K mg base fns gv (k+1) "law" 32:=by
 obtain⟨f,fd,F,m,b⟩:=TF.f_law;wtm_at "Ê";refine Zc7 (fi:=32) (np:=1) (n:=10) (body:=Ze5) (cell:=false) F Zfl ?_ ?_ ?_ ?_;wtm_at "000Ë";refine Zkx ?_ ?_ ?_ ?_ ?_ ?_;wtm_at "MNÌ5[O"
theorem QL{x:Str}{st:Stmt}{N ps:List Str}{fi np n:Nat}{b:S}{cell:Bool}(sc:FnScope N ps (Za st))(p:PsF N x st n b)(hd:fns[fi]?=some ⟨np,n,b,cell⟩)(hps:np=ps.length)(hn:N.length=n){P:Yx}{w:World}{K:Frag}{mg:Str->Option Value}{base:Heap}{k:Nat}(T0:Txt0 P w K mg)(ih:Txt1 P w K mg base k)(F:FB K mg x st ps):FOk P w K mg base fns gv (k+1) x fi:=by
 obtain⟨f,fd,F,m,bb⟩:=F;exact⟨f,fd,_,m,F.kp,bb,ZbJ F sc hd hps hn λ_ _ _ _ _ _ hr _ _ _ go=>p T0 ih hr go⟩
theorem Qy{x:Str}{st:Stmt}{ps:List Str}{i:Nat}{P:Yx}{w:World}{K:Frag}{mg:Str->Option Value}{base:Heap}(F:FB K mg x st ps):FOk P w K mg base fns gv 0 x i:=
 let⟨_,_,F,m,b⟩:=F
 ⟨_,_,_,m,F.kp,b,Xg⟩
theorem ZkO{P:Yx}{w:World}{K:Frag}{mg:Str->Option Value}{base:Heap}(T0:Txt0 P w K mg)(TF:TxtF K mg):∀k:Nat,Txt1 P w K mg base k
 |0=>⟨Qy TF.f_is_long_word,Qy TF.f_is_word,Qy TF.f_is_whole,Qy TF.f_is_number,Qy TF.f_is_time,Qy TF.f_is_one_of,Qy TF.f_are_unlike,Qy TF.f_is_rule,Qy TF.f_are_borne,Qy TF.f_row_of,Qy TF.f_sets_of,Qy TF.f_by_numbers,Qy TF.f_rest_paper,Qy TF.f_is_quiet_time,Qy TF.f_are_quiet,(let⟨_,_,F,m,b⟩:=TF.f_House___init__;⟨_,_,_,m,b,Zl4⟩),(let⟨_,_,F,m,b⟩:=TF.f_House_now;⟨_,_,_,m,b,Xg⟩),(let⟨_,_,F,m,b⟩:=TF.f_House_row;⟨_,_,_,m,b,Xg⟩),(let⟨_,_,F,m,b⟩:=TF.f_House_meetings;⟨_,_,_,m,b,Xg⟩),(let⟨_,_,F,m,b⟩:=TF.f_House_waiters;⟨_,_,_,m,b,Xg⟩),(let⟨_,_,F,m,b⟩:=TF.f_House_rest;⟨_,_,_,m,b,Xg⟩),(let⟨_,_,F,m,b⟩:=TF.f_House_book;⟨_,_,_,m,b,Xg⟩),Qy TF.f_Lcell_at,Qy TF.f_Ltape,Qy TF.f_Ldraw,Qy TF.f_Lpick,Qy TF.f_Lrule,Qy TF.f_Lborne,Qy TF.f_Lquiet,Qy TF.f_Lbad_quiet,Qy TF.f_Lword,Qy TF.f_Lbegins,Qy TF.f_law⟩
 |k+1 =>
  have ih:=ZkO T0 TF k
  ⟨QL Zbl Zbp rfl rfl rfl T0 ih TF.f_is_long_word,QL Zf0 Zga rfl rfl rfl T0 ih TF.f_is_word,QL Zes Zey rfl rfl rfl T0 ih TF.f_is_whole,QL ZdG ZdO rfl rfl rfl T0 ih TF.f_is_number,QL Zf1 Zgb rfl rfl rfl T0 ih TF.f_is_time,QL ZdF ZdN rfl rfl rfl T0 ih TF.f_is_one_of,QL ZcC ZcO rfl rfl rfl T0 ih TF.f_are_unlike,QL Zf2 Zgc rfl rfl rfl T0 ih TF.f_is_rule,QL ZdI ZdQ rfl rfl rfl T0 ih TF.f_are_borne,Zh1 T0 TF ih,QL Zap Zf9 rfl rfl rfl T0 ih TF.f_sets_of,QL ZcB ZcN rfl rfl rfl T0 ih TF.f_by_numbers,QL Jl ZcM rfl rfl rfl T0 ih TF.f_rest_paper,QL Za2 Za3 rfl rfl rfl T0 ih TF.f_is_quiet_time,QL ZdH ZdP rfl rfl rfl T0 ih TF.f_are_quiet,Zaz T0 TF ih,ZdZ T0 TF ih,ZdY T0 TF ih,Zay T0 TF ih,Za5 T0 TF ih,ZcV T0 TF ih,ZcW T0 TF ih,QL Zet Zez rfl rfl rfl T0 ih TF.f_Lcell_at,QL Zji Zjv rfl rfl rfl T0 ih TF.f_Ltape,QL Zfn Zjy rfl rfl rfl T0 ih TF.f_Ldraw,QL Zjj Zjx rfl rfl rfl T0 ih TF.f_Lpick,QL Zba Zjw rfl rfl rfl T0 ih TF.f_Lrule,QL Zhq ZhB rfl rfl rfl T0 ih TF.f_Lborne,QL Zbm ZhA rfl rfl rfl T0 ih TF.f_Lquiet,QL Jm ZcP rfl rfl rfl T0 ih TF.f_Lbad_quiet,ZjN T0 TF ih,QL Zf3 Zgd rfl rfl rfl T0 ih TF.f_Lbegins,ok_law T0 TF ih⟩
end My
namespace My
open PySem PySem.Spec PyProof.Rows L2 Mi
theorem us_1{α:Type}{P:List α->Prop}{us:List α}(hl:us.length=1)(h:∀x0:α,P [x0]):P us:=by
 rcases us with _|⟨x0,us⟩
 ·simp at hl
 rcases us with _|⟨y,us⟩
 ·exact h x0
 ·simp at hl
theorem us_2{α:Type}{P:List α->Prop}{us:List α}(hl:us.length=2)(h:∀x0 x1:α,P [x0,x1]):P us:=by
 rcases us with _|⟨x0,us⟩
 ·simp at hl
 rcases us with _|⟨x1,us⟩
 ·simp at hl
 rcases us with _|⟨y,us⟩
 ·exact h x0 x1
 ·simp at hl
theorem us_3{α:Type}{P:List α->Prop}{us:List α}(hl:us.length=3)(h:∀x0 x1 x2:α,P [x0,x1,x2]):P us:=by
 rcases us with _|⟨x0,us⟩
 ·simp at hl
 rcases us with _|⟨x1,us⟩
 ·simp at hl
 rcases us with _|⟨x2,us⟩
 ·simp at hl
 rcases us with _|⟨y,us⟩
 ·exact h x0 x1 x2
 ·simp at hl
theorem us_4{α:Type}{P:List α->Prop}{us:List α}(hl:us.length=4)(h:∀x0 x1 x2 x3:α,P [x0,x1,x2,x3]):P us:=by
 rcases us with _|⟨x0,us⟩
 ·simp at hl
 rcases us with _|⟨x1,us⟩
 ·simp at hl
 rcases us with _|⟨x2,us⟩
 ·simp at hl
 rcases us with _|⟨x3,us⟩
 ·simp at hl
 rcases us with _|⟨y,us⟩
 ·exact h x0 x1 x2 x3
 ·simp at hl
noncomputable abbrev FE(K:Frag)(x:Str)(st:Stmt):Prop:=∃(f:Addr) (oc kV dc pm cd ct:Value) (od an:Option Addr) (sl:Array (Option Value)),nsIn K Yr x=some (some (.ref f))/\K.lookup f=some ⟨oc,od,.func (fnOf x x (Qk st) (Zv st) (Za st) .none kV dc pm an cd ct),sl⟩/\codeIn K cd x=true
theorem QB{K:Frag}{tbs:List Addr}(tT:∀P∈tbs,K.lookup P=some (tabObj #[])){h:Heap}{mg:Str->Option Value}{x:Str}{st:Stmt}{ps:List Str}(X:K.In h)(G:h.Ns Yr mg)(e:FE K x st)(hb:∀(kV doc pm:Value) (an:Option Addr) (cdv ct:Value) (us:List Value),us.length=ps.length->Uk (fnOf x x (Qk st) (Zv st) (Za st) .none kV doc pm an cdv ct) ⟨us,[]⟩=pure (ps.zip us)):FB (Zh tbs K) mg x st ps:=by
 obtain⟨f,oc,kV,dc,pm,cd,ct,od,an,sl,a,l,c⟩:=e
 have F:=X3 (st:=st) (Jg tT l (λz=>by cases z)) (Jy tT c) (Jx tT l)
 exact⟨_,_,F,mg_of X G a,F.binds (ps:=ps) hb⟩
theorem fe_in{K:Frag}{x:Str}{st:Stmt}{f:Addr}{oc kV dc pm cd ct:Value}{od an:Option Addr}{sl:Array (Option Value)}(a:nsIn K Yr x=some (some (.ref f)))(l:K.lookup f=some ⟨oc,od,.func (fnOf x x (Qk st) (Zv st) (Za st) .none kV dc pm an cd ct),sl⟩)(c:codeIn K cd x=true):FE K x st:=
 ⟨_,_,_,_,_,_,_,_,_,_,a,l,c⟩
theorem bd_1{fd:W5}{ps:List Str}(h:∀x0:Value,Uk fd ⟨[x0],[]⟩=pure (UV ps [x0]))(us:List Value)(hl:us.length=1):Uk fd ⟨us,[]⟩=pure (UV ps us):=us_1 (P:=λus=>Uk fd ⟨us,[]⟩=pure (UV ps us)) hl h
theorem bd_2{fd:W5}{ps:List Str}(h:∀x0 x1:Value,Uk fd ⟨[x0,x1],[]⟩=pure (UV ps [x0,x1]))(us:List Value)(hl:us.length=2):Uk fd ⟨us,[]⟩=pure (UV ps us):=us_2 (P:=λus=>Uk fd ⟨us,[]⟩=pure (UV ps us)) hl h
theorem bd_3{fd:W5}{ps:List Str}(h:∀x0 x1 x2:Value,Uk fd ⟨[x0,x1,x2],[]⟩=pure (UV ps [x0,x1,x2]))(us:List Value)(hl:us.length=3):Uk fd ⟨us,[]⟩=pure (UV ps us):=us_3 (P:=λus=>Uk fd ⟨us,[]⟩=pure (UV ps us)) hl h
theorem bd_4{fd:W5}{ps:List Str}(h:∀x0 x1 x2 x3:Value,Uk fd ⟨[x0,x1,x2,x3],[]⟩=pure (UV ps [x0,x1,x2,x3]))(us:List Value)(hl:us.length=4):Uk fd ⟨us,[]⟩=pure (UV ps us):=us_4 (P:=λus=>Uk fd ⟨us,[]⟩=pure (UV ps us)) hl h
theorem all_mk{l:YbK}{w:World}{K:Frag}{h:Heap}{mg:Str->Option Value}{fa:Addr}(tT:∀P∈([458,478]:List Addr),K.lookup P=some (tabObj #[]))(tB:lamB ([458,478]:List Addr) K=true)(X:K.In h)(G:h.Ns Yr mg)(hfa:mg "law" = some (.ref fa)){f15:Addr}{od15 an15:Option Addr}{sl15:Array (Option Value)}{oc15 kV15 dc15 pm15 cd15 ct15:Value}{f16:Addr}{od16 an16:Option Addr}{sl16:Array (Option Value)}{oc16 kV16 dc16 pm16 cd16 ct16:Value}{f17:Addr}{od17 an17:Option Addr}{sl17:Array (Option Value)}{oc17 kV17 dc17 pm17 cd17 ct17:Value}{f18:Addr}{od18 an18:Option Addr}{sl18:Array (Option Value)}{oc18 kV18 dc18 pm18 cd18 ct18:Value}{f19:Addr}{od19 an19:Option Addr}{sl19:Array (Option Value)}{oc19 kV19 dc19 pm19 cd19 ct19:Value}{f20:Addr}{od20 an20:Option Addr}{sl20:Array (Option Value)}{oc20 kV20 dc20 pm20 cd20 ct20:Value}{f21:Addr}{od21 an21:Option Addr}{sl21:Array (Option Value)}{oc21 kV21 dc21 pm21 cd21 ct21:Value}(h0:FE K "is_long_word" Qv)(h1:FE K "is_word" Xr)(h2:FE K "is_whole" J4)(h3:FE K "is_number" Jr)(h4:FE K "is_time" Xu)(h5:FE K "is_one_of" Jq)(h6:FE K "are_unlike" Q5)(h7:FE K "is_rule" Xv)(h8:FE K "are_borne" Jt)(h9:FE K "row_of" Jp)(h10:FE K "sets_of" Xq)(h11:FE K "by_numbers" Q4)(h12:FE K "rest_paper" Q3)(h13:FE K "is_quiet_time" Qm)(h14:FE K "are_quiet" Js)(ak15:findIn K (.ref 710) "__init__" = some (some (.ref f15)))(a15:findIn (Zh ([458,478]:List Addr) K) (.ref 710) "__init__" = some (some (.ref f15)))(i15:isFn (Zh ([458,478]:List Addr) K) (.ref f15)=true)(l15:K.lookup f15=some ⟨oc15,od15,.func (fnOf "__init__" "House.__init__" (Qk Zi) (Zv Zi) (Za Zi) .none kV15 dc15 pm15 an15 cd15 ct15),sl15⟩)(c15:codeIn K cd15 "House.__init__" = true)(mk15:makesIn (Zh ([458,478]:List Addr) K) 710=true)(mp15:keepIn (Zh ([458,478]:List Addr) K) (.ref 710)=true)(ak16:findIn K (.ref 710) "now" = some (some (.ref f16)))(a16:findIn (Zh ([458,478]:List Addr) K) (.ref 710) "now" = some (some (.ref f16)))(i16:isFn (Zh ([458,478]:List Addr) K) (.ref f16)=true)(l16:K.lookup f16=some ⟨oc16,od16,.func (fnOf "now" "House.now" (Qk Qh) (Zv Qh) (Za Qh) .none kV16 dc16 pm16 an16 cd16 ct16),sl16⟩)(c16:codeIn K cd16 "House.now" = true)(ak17:findIn K (.ref 710) "row" = some (some (.ref f17)))(a17:findIn (Zh ([458,478]:List Addr) K) (.ref 710) "row" = some (some (.ref f17)))(i17:isFn (Zh ([458,478]:List Addr) K) (.ref f17)=true)(l17:K.lookup f17=some ⟨oc17,od17,.func (fnOf "row" "House.row" (Qk Qg) (Zv Qg) (Za Qg) .none kV17 dc17 pm17 an17 cd17 ct17),sl17⟩)(c17:codeIn K cd17 "House.row" = true)(ak18:findIn K (.ref 710) "meetings" = some (some (.ref f18)))(a18:findIn (Zh ([458,478]:List Addr) K) (.ref 710) "meetings" = some (some (.ref f18)))(i18:isFn (Zh ([458,478]:List Addr) K) (.ref f18)=true)(l18:K.lookup f18=some ⟨oc18,od18,.func (fnOf "meetings" "House.meetings" (Qk Zz) (Zv Zz) (Za Zz) .none kV18 dc18 pm18 an18 cd18 ct18),sl18⟩)(c18:codeIn K cd18 "House.meetings" = true)(ak19:findIn K (.ref 710) "waiters" = some (some (.ref f19)))(a19:findIn (Zh ([458,478]:List Addr) K) (.ref 710) "waiters" = some (some (.ref f19)))(i19:isFn (Zh ([458,478]:List Addr) K) (.ref f19)=true)(l19:K.lookup f19=some ⟨oc19,od19,.func (fnOf "waiters" "House.waiters" (Qk ZJ) (Zv ZJ) (Za ZJ) .none kV19 dc19 pm19 an19 cd19 ct19),sl19⟩)(c19:codeIn K cd19 "House.waiters" = true)(ak20:findIn K (.ref 710) "rest" = some (some (.ref f20)))(a20:findIn (Zh ([458,478]:List Addr) K) (.ref 710) "rest" = some (some (.ref f20)))(i20:isFn (Zh ([458,478]:List Addr) K) (.ref f20)=true)(l20:K.lookup f20=some ⟨oc20,od20,.func (fnOf "rest" "House.rest" (Qk Z5) (Zv Z5) (Za Z5) .none kV20 dc20 pm20 an20 cd20 ct20),sl20⟩)(c20:codeIn K cd20 "House.rest" = true)(ak21:findIn K (.ref 710) "book" = some (some (.ref f21)))(a21:findIn (Zh ([458,478]:List Addr) K) (.ref 710) "book" = some (some (.ref f21)))(i21:isFn (Zh ([458,478]:List Addr) K) (.ref f21)=true)(l21:K.lookup f21=some ⟨oc21,od21,.func (fnOf "book" "House.book" (Qk Z6) (Zv Z6) (Za Z6) .none kV21 dc21 pm21 an21 cd21 ct21),sl21⟩)(c21:codeIn K cd21 "House.book" = true)(h22:FE K "_law_cell_at" J5)(h23:FE K "_law_tape" ZcF)(h24:FE K "_law_draw" ZcI)(h25:FE K "_law_pick" ZcH)(h26:FE K "_law_rule" ZcG)(h27:FE K "_law_borne" Zbc)(h28:FE K "_law_quiet" Zbb)(h29:FE K "_law_bad_quiet" Q6)(h30:FE K "_law_word" Xc)(h31:FE K "_law_begins" Xw)(h32:FE K "law" Zbn){t0:Tok}(gv0:nsIn K Yr "LETTERS" = some (some (.str "abcdefghijklmnopqrstuvwxyz" t0))){t1:Tok}(gv1:nsIn K Yr "LONGEST_WORD" = some (some (.int 8 t1))){ga2:Addr}{its2:Array Value}{gn2:Nat}{gsl2:Array (Option Value)}(gv2:nsIn K Yr "WISH_WORDS" = some (some (.ref ga2)))(gl2:K.lookup ga2=some ⟨.type "tuple",none,.seq its2 gn2,gsl2⟩)(gz2:its2.size<=YC)(gs2:StrsV [[97,110,121],[105,115],[98,121],[110,111,116],[97,110,100],[111,114]] its2.toList){t3:Tok}(gv3:nsIn K Yr "GREATEST_NUMBER" = some (some (.int 1000000000 t3))){ga4:Addr}{its4:Array Value}{gn4:Nat}{gsl4:Array (Option Value)}(gv4:nsIn K Yr "RULE_WORDS" = some (some (.ref ga4)))(gl4:K.lookup ga4=some ⟨.type "tuple",none,.seq its4 gn4,gsl4⟩)(gz4:its4.size<=YC)(gs4:StrsV [[104,101,97,118,121],[103,114,101,97,116],[115,109,97,108,108],[115,111,111,110]] its4.toList){t5:Tok}(gv5:nsIn K Yr "MOST_RULE_WORDS" = some (some (.int 3 t5))){t6:Tok}(gv6:nsIn K Yr "MOST_BORNE" = some (some (.int 4 t6))){t7:Tok}(gv7:nsIn K Yr "MOST_QUIET" = some (some (.int 8 t7)))(z0:nsIn K Yr "ValueError" = some none)(z1:nsIn K Yr "all" = some none)(z2:nsIn K Yr "bool" = some none)(z3:nsIn K Yr "enumerate" = some none)(z4:nsIn K Yr "int" = some none)(z5:nsIn K Yr "isinstance" = some none)(z6:nsIn K Yr "len" = some none)(z7:nsIn K Yr "list" = some none)(z8:nsIn K Yr "range" = some none)(z9:nsIn K Yr "set" = some none)(z10:nsIn K Yr "sorted" = some none)(z11:nsIn K Yr "str" = some none)(z12:nsIn K Yr "tuple" = some none)(cx0:nsIn K Yr "BadRule" = some (some (.ref 140)))(cx1:nsIn K Yr "House" = some (some (.ref 710)))(cx2:nsIn K Yr "TooLate" = some (some (.ref 207)))(cx3:nsIn K Yr "NoText" = some (some (.ref 128)))(cx4:nsIn K Yr "NoNumber" = some (some (.ref 243)))(cx5:nsIn K Yr "NoName" = some (some (.ref 195)))(cx6:nsIn K Yr "NoLine" = some (some (.ref 267)))(cx7:nsIn K Yr "HasName" = some (some (.ref 183)))(cx8:nsIn K Yr "Full" = some (some (.ref 219)))(cx9:nsIn K Yr "BadTime" = some (some (.ref 171)))(cx10:nsIn K Yr "BadOffer" = some (some (.ref 152)))(cx11:nsIn K Yr "BadMany" = some (some (.ref 231)))(cx12:nsIn K Yr "BadBook" = some (some (.ref 255)))(cx13:nsIn K Yr "MateError" = some (some (.ref 108)))(q0a:xcIn (Zh ([458,478]:List Addr) K) 140=true)(q0b:keepIn (Zh ([458,478]:List Addr) K) (.ref 140)=true)(q0c:PySem.W.excIn (Zh ([458,478]:List Addr) K) 140 bmV "ValueError.__new__" = true)(q1a:findIn (Zh ([458,478]:List Addr) K) (.ref 710) "rows" = some none)(q2a:findIn (Zh ([458,478]:List Addr) K) (.ref 710) "ends" = some none)(q3a:findIn (Zh ([458,478]:List Addr) K) (.ref 710) "lefts" = some none)(q4a:findIn (Zh ([458,478]:List Addr) K) (.ref 710) "offers" = some none)(q5a:findIn (Zh ([458,478]:List Addr) K) (.ref 710) "time" = some none)(q6a:findIn (Zh ([458,478]:List Addr) K) (.ref 710) "quiet" = some none)(q7a:findIn (Zh ([458,478]:List Addr) K) (.ref 710) "borne" = some none)(q8a:findIn (Zh ([458,478]:List Addr) K) (.ref 710) "rule" = some none)(q9a:YbD (Zh ([458,478]:List Addr) K) 710 Yb8=true)(q9b:YaX (Zh ([458,478]:List Addr) K) 710=true)(q9c:Yb7 (Zh ([458,478]:List Addr) K) 710=true)(q9d:findIn (Zh ([458,478]:List Addr) K) (.ref 710) "__setattr__" = some (some (.builtin "object.__setattr__")))(q10a:Ybe (Zh ([458,478]:List Addr) K) (.builtin "object.__class__") "__get__" = some (some (.builtin "getset_descriptor.__get__")))(q10b:PySem.W.takesIn (Zh ([458,478]:List Addr) K) (.builtin "object.__class__")=some true)(q11a:findIn (Zh ([458,478]:List Addr) K) (.ref 140) "__getattribute__" = some (some (.builtin "BaseException.__getattribute__")))(q11b:findIn (Zh ([458,478]:List Addr) K) (.ref 140) "__getattr__" = some none)(q11c:mroIn (Zh ([458,478]:List Addr) K) 140 (.type "BaseException")=some true)(q11d:YaX (Zh ([458,478]:List Addr) K) 140=true)(q11e:findIn (Zh ([458,478]:List Addr) K) (.ref 140) "__class__" = some (some (.builtin "object.__class__")))(q11f:mroIn (Zh ([458,478]:List Addr) K) 140 (.type "object")=some true)(q12:kitOne (Zh ([458,478]:List Addr) K) (.ref 140) (.ref 207)=some false)(q13:kitOne (Zh ([458,478]:List Addr) K) (.ref 140) (.type "ValueError")=some true)(q14:kitOne (Zh ([458,478]:List Addr) K) (.ref 140) (.ref 140)=some true)(q15:PySem.W.kitAny (Zh ([458,478]:List Addr) K) (.ref 140) (List.map (Y5) [255,231,152,171,219,183,267,195,243,128])=some false)(q16:PySem.W.exmOne (Zh ([458,478]:List Addr) K) (.ref 140) (.ref 108)=some true): ∃fd:W5,(∀(s:Shared) (v:Value),Ybo s fd ⟨[v],[]⟩ [("_law_script",v)])/\∀base:Heap,(Zh ([458,478]:List Addr) K).In base->base.Ns Yr mg->FnOk l.prog w (Zh ([458,478]:List Addr) K) mg base (CXF l.prog w) 31 fa fd ["_law_script"] (spF (Zh ([458,478]:List Addr) K) fns gv 31 32):=by
 have F15:=X3 (st:=Zi) (Jg tT l15 (λz=>by cases z)) (Jy tT c15) (Jx tT l15)
 have b15:=F15.binds (ps:=["self","rule","borne","quiet"]) λ_ _ _ _ _ _ us hl=>us_4 (us:=us) (P:=λus=>Uk _ ⟨us,[]⟩=pure (UV _ us)) hl λ_ _ _ _=>rfl
 have F16:=X3 (st:=Qh) (Jg tT l16 (λz=>by cases z)) (Jy tT c16) (Jx tT l16)
 have b16:=F16.binds (ps:=["self"]) λ_ _ _ _ _ _ us hl=>us_1 (us:=us) (P:=λus=>Uk _ ⟨us,[]⟩=pure (UV _ us)) hl λ_=>rfl
 have F17:=X3 (st:=Qg) (Jg tT l17 (λz=>by cases z)) (Jy tT c17) (Jx tT l17)
 have b17:=F17.binds (ps:=["self"]) λ_ _ _ _ _ _ us hl=>us_1 (us:=us) (P:=λus=>Uk _ ⟨us,[]⟩=pure (UV _ us)) hl λ_=>rfl
 have F18:=X3 (st:=Zz) (Jg tT l18 (λz=>by cases z)) (Jy tT c18) (Jx tT l18)
 have b18:=F18.binds (ps:=["self"]) λ_ _ _ _ _ _ us hl=>us_1 (us:=us) (P:=λus=>Uk _ ⟨us,[]⟩=pure (UV _ us)) hl λ_=>rfl
 have F19:=X3 (st:=ZJ) (Jg tT l19 (λz=>by cases z)) (Jy tT c19) (Jx tT l19)
 have b19:=F19.binds (ps:=["self"]) λ_ _ _ _ _ _ us hl=>us_1 (us:=us) (P:=λus=>Uk _ ⟨us,[]⟩=pure (UV _ us)) hl λ_=>rfl
 have F20:=X3 (st:=Z5) (Jg tT l20 (λz=>by cases z)) (Jy tT c20) (Jx tT l20)
 have b20:=F20.binds (ps:=["self"]) λ_ _ _ _ _ _ us hl=>us_1 (us:=us) (P:=λus=>Uk _ ⟨us,[]⟩=pure (UV _ us)) hl λ_=>rfl
 have F21:=X3 (st:=Z6) (Jg tT l21 (λz=>by cases z)) (Jy tT c21) (Jx tT l21)
 have b21:=F21.binds (ps:=["self"]) λ_ _ _ _ _ _ us hl=>us_1 (us:=us) (P:=λus=>Uk _ ⟨us,[]⟩=pure (UV _ us)) hl λ_=>rfl
 have T0:Txt0 l.prog w (Zh ([458,478]:List Addr) K) mg:=⟨U5 X G z0,U5 X G z1,U5 X G z2,U5 X G z3,U5 X G z4,U5 X G z5,U5 X G z6,U5 X G z7,U5 X G z8,U5 X G z9,U5 X G z10,U5 X G z11,U5 X G z12,Zj2 (mg_of X G gv0) (by decide +kernel),XS (mg_of X G gv1),Zd7 (mg_of X G gv2) (Jg tT gl2 (λz=>by cases z)) gz2 gs2,XS (mg_of X G gv3),Zd7 (mg_of X G gv4) (Jg tT gl4 (λz=>by cases z)) gz4 gs4,XS (mg_of X G gv5),XS (mg_of X G gv6),XS (mg_of X G gv7),mg_of X G cx0,mg_of X G cx1,mg_of X G cx2,mg_of X G cx3,mg_of X G cx4,mg_of X G cx5,mg_of X G cx6,mg_of X G cx7,mg_of X G cx8,mg_of X G cx9,mg_of X G cx10,mg_of X G cx11,mg_of X G cx12,mg_of X G cx13,⟨q0a,q0b,q0c⟩,q1a,q2a,q3a,q4a,q5a,q6a,q7a,q8a,⟨q9a,q9b,q9c,q9d⟩,⟨q10a,q10b⟩,⟨q11a,q11b,q11c,q11d,q11e,q11f⟩,q12,q13,q14,q15,q16,ZkE tT tB⟩
 have TF:TxtF (Zh ([458,478]:List Addr) K) mg:=⟨QB tT X G h0 λ_ _ _ _ _ _ us hl=>bd_1 (λ_=>rfl) us hl,QB tT X G h1 λ_ _ _ _ _ _ us hl=>bd_1 (λ_=>rfl) us hl,QB tT X G h2 λ_ _ _ _ _ _ us hl=>bd_1 (λ_=>rfl) us hl,QB tT X G h3 λ_ _ _ _ _ _ us hl=>bd_1 (λ_=>rfl) us hl,QB tT X G h4 λ_ _ _ _ _ _ us hl=>bd_1 (λ_=>rfl) us hl,QB tT X G h5 λ_ _ _ _ _ _ us hl=>bd_2 (λ_ _=>rfl) us hl,QB tT X G h6 λ_ _ _ _ _ _ us hl=>bd_1 (λ_=>rfl) us hl,QB tT X G h7 λ_ _ _ _ _ _ us hl=>bd_1 (λ_=>rfl) us hl,QB tT X G h8 λ_ _ _ _ _ _ us hl=>bd_1 (λ_=>rfl) us hl,QB tT X G h9 λ_ _ _ _ _ _ us hl=>bd_2 (λ_ _=>rfl) us hl,QB tT X G h10 λ_ _ _ _ _ _ us hl=>bd_2 (λ_ _=>rfl) us hl,QB tT X G h11 λ_ _ _ _ _ _ us hl=>bd_1 (λ_=>rfl) us hl,QB tT X G h12 λ_ _ _ _ _ _ us hl=>bd_2 (λ_ _=>rfl) us hl,QB tT X G h13 λ_ _ _ _ _ _ us hl=>bd_1 (λ_=>rfl) us hl,QB tT X G h14 λ_ _ _ _ _ _ us hl=>bd_1 (λ_=>rfl) us hl,⟨_,_,F15,⟨mk15,a15,i15,mp15⟩,b15⟩,⟨_,_,F16,⟨a16,i16,F16.kp⟩,b16⟩,⟨_,_,F17,⟨a17,i17,F17.kp⟩,b17⟩,⟨_,_,F18,⟨a18,i18,F18.kp⟩,b18⟩,⟨_,_,F19,⟨a19,i19,F19.kp⟩,b19⟩,⟨_,_,F20,⟨a20,i20,F20.kp⟩,b20⟩,⟨_,_,F21,⟨a21,i21,F21.kp⟩,b21⟩,QB tT X G h22 λ_ _ _ _ _ _ us hl=>bd_2 (λ_ _=>rfl) us hl,QB tT X G h23 λ_ _ _ _ _ _ us hl=>bd_1 (λ_=>rfl) us hl,QB tT X G h24 λ_ _ _ _ _ _ us hl=>bd_2 (λ_ _=>rfl) us hl,QB tT X G h25 λ_ _ _ _ _ _ us hl=>bd_2 (λ_ _=>rfl) us hl,QB tT X G h26 λ_ _ _ _ _ _ us hl=>bd_1 (λ_=>rfl) us hl,QB tT X G h27 λ_ _ _ _ _ _ us hl=>bd_1 (λ_=>rfl) us hl,QB tT X G h28 λ_ _ _ _ _ _ us hl=>bd_1 (λ_=>rfl) us hl,QB tT X G h29 λ_ _ _ _ _ _ us hl=>bd_2 (λ_ _=>rfl) us hl,QB tT X G h30 λ_ _ _ _ _ _ us hl=>bd_3 (λ_ _ _=>rfl) us hl,QB tT X G h31 λ_ _ _ _ _ _ us hl=>bd_1 (λ_=>rfl) us hl,QB tT X G h32 λ_ _ _ _ _ _ us hl=>bd_1 (λ_=>rfl) us hl⟩
 obtain⟨f32,oc32,kV32,dc32,pm32,cd32,ct32,od32,an32,sl32,a32,l32,c32⟩:=h32
 have e:=hfa.symm.trans (mg_of X G a32)
 cases e
 have F32:=X3 (st:=Zbn) (Jg tT l32 (λz=>by cases z)) (Jy tT c32) (Jx tT l32)
 refine⟨fnOf "law" "law" (Qk Zbn) (Zv Zbn) (Za Zbn) .none kV32 dc32 pm32 an32 cd32 ct32,λs v=>.of_eq rfl,λbase _ _=>?_⟩
 refine Zc7 (fi:=32) (np:=1) (n:=10) (body:=Ze5) (cell:=false) F32 Zfl ?_ ?_ ?_ ?_
 exact rfl
 exact rfl
 exact rfl
 intro _ hcd _ _ _ _ _ hr _ _ _ go
 refine Zkx ?_ ?_ ?_ ?_ ?_ ?_
 exact T0
 exact ZkO T0 TF 30
 exact hr.deeper _
 exact hr
 exact hcd
 exact go
theorem walkX{l:YbK}{q:Yx}{loose:List Str}{XP:(Str->Option Value)->Heap->Prop}{d:DefRec}{K:Params->Frag}{as:List Addr}{n t:Nat}(hn:l.most=some 63)(hdf:d.params.defaults=[])(he:∀P,as=(K P).map (·.1))(T:∀(w:World) P,P∈([458,478]:List Addr)->(K w.params).lookup P=some (tabObj #[]))(C:∀(w:World) P,P∈([458,478]:List Addr)->∃c,Ya7 (K w.params) c P=true)(B:∀w:World,lamB ([458,478]:List Addr) (K w.params)=true)(F:∀(w:World) (mg:Str->Option Value) (fa:Addr) (h:Heap),(K w.params).In h->h.Ns Yr mg->mg d.name=some (.ref fa) ->
   ∃fd:W5,(∀(s:Shared) (u:Value),Ybo s fd ⟨[u],[]⟩ [("_law_script",u)])/\∀base:Heap,(Zh ([458,478]:List Addr) (K w.params)).In base->base.Ns Yr mg->FnOk l.prog w (Zh ([458,478]:List Addr) (K w.params)) mg base (CXF l.prog w) 31 fa fd ["_law_script"] (spF (Zh ([458,478]:List Addr) (K w.params)) fns gv 31 32)):
  PySem.W.WalkX q loose XP (PySem.W.X.obsZ as) (PySem.W.X.valZ K n t) l.row.toRowW d [] (λf vs=>GD f vs):=by
 intro w s₀ s₁ mg mb G y fa o pm cd doc dV kV ho hd hcd hD hmg hg args vals as' L
 exact Mi.walk_ofT (n:=63) (k:=31) (x:="_law_script") (CX:=λw=>CXF l.prog w) (sp:=λw=>spF (Zh ([458,478]:List Addr) (K w.params)) fns gv 31 32) (YP:=λw h=>(K w.params).In h) hn (by decide) hdf ⟨rfl,by decide,by decide⟩ (λ_ _ h=>h) T C B F (λ_ _ a ns hl hO hS=>law_sp hO hS (law_true ns hl)) (λ_ _ _ _ _ z=>by obtain⟨_,_,_,_,_,_,h⟩:=z;exact h) w s₀ s₁ mg mb G (PySem.W.InK.keeps w _ _ (PySem.W.X.z_facts he y).2.1 (PySem.W.Laid.keeps L)) fa o pm cd doc dV kV ho hd hcd hD hmg hg args vals as'
end My
set_option Elab.async false
namespace PySem.W.Fast
def tw11468644927889961424:=()
def tw7274058910590114199:=()
def tw9182336318379667717:=()
def tw12765957619964372128:=()
def tw18236696669715940225:=()
def tw12882518911469803316:=()
def tw9011406412842696743:=()
def tw7054286727643042776:=()
def tw5154200224897043707:=()
def tw3003623677125902423:=()
def tw6954445874448397897:=()
def tw6578711576209636408:=()
def tw5622524839095371356:=()
def tw5004054405949854499:=()
def tw17931174503899128533:=()
def tw7819190887831219716:=()
def tw9307904387084805388:=()
def tw12083788862777073095:=()
def tw151716902157300947:=()
def tw783817610996477522:=()
def tw7344278986217183697:=()
def tw4264993919022818727:=()
def tw18228665823069067341:=()
def tw14162513201668876743:=()
def tw12846799869728390489:=()
def tw17064339424324012049:=()
def tw16709586551156270308:=()
def tw7358560245372053343:=()
def tw9961531846548273896:=()
def tw7514765304342811638:=()
def tw4708225037015367672:=()
def tw7815227918911681350:=()
def tw4798969606514109872:=()
def tw10486867927774813612:=()
def tw17654489911085504728:=()
def tw10460327009763745203:=()
def tw2851867217990454942:=()
def tw15424106710066151167:=()
def tw5804974101529624914:=()
def tw14319776284697707890:=()
def tw8558395027267843939:=()
def tw17726860918425934275:=()
def tw3966122756840891274:=()
def tw2884752037119538008:=()
def tw13504112705889116001:=()
def tw12302566898632762715:=()
def tw14900449445302025757:=()
def tw12723227059754135759:=()
def tw6418878249310913361:=()
def tw613909765241590933:=()
def tw14675363440812695615:=()
def tw14016784772053148476:=()
def tw773126103135340569:=()
def tw11051407314047600845:=()
def tw17525181993976154127:=()
def tw14141904859642199565:=()
def tw4267794714499910869:=()
def tw18363626765446146954:=()
def tw10493478350398053606:=()
def tw13895924411936041187:=()
def tw15095414561696581090:=()
def tw12511386205705940139:=()
def tw5862631778102026168:=()
def tw2640486539766872106:=()
def tw5408995345858186637:=()
def tw1439584255713004021:=()
def tw440754785876137436:=()
def tw9056413585669336920:=()
def tw9419544760426841451:=()
def tw12249825800839513561:=()
def tw10062223575484443438:=()
def tw4930096813962412384:=()
def tw13218266806275486374:=()
def tw6080302699072527:=()
def tw788906069213591141:=()
def tw10147187043040990706:=()
def tw16114370522122489987:=()
def tw7661229560403657649:=()
def tw16851255199580878195:=()
def tw13179061993935584087:=()
def tw10983985534719571965:=()
def tw11381679341623379152:=()
def tw16580836219891419243:=()
def tw1665188999014557826:=()
def tw9324365976390456239:=()
def tw6397618887846742536:=()
def tw4327005592429769323:=()
def tw18398921281934891854:=()
def tw5629024490431976572:=()
def tw4020662077532508646:=()
def tw5331951182092940201:=()
def tw14966933099288665172:=()
def tw758610983918160716:=()
def tw1743594458716155998:=()
def tw16486100882478938030:=()
def tw1097892625315046627:=()
def tw17345785391355519395:=()
def tw1338611301605600178:=()
def tw5190593992854370031:=()
def tw9634126004900647281:=()
def tw18068989250149277106:=()
def tw16420169561049529685:=()
def tw13219752105412306075:=()
def tw309655109839713887:=()
def tw10356607135871307237:=()
def tw4480602527576326580:=()
def tw9027854684723322719:=()
def tw11646331886025128531:=()
def tw13531697870826274801:=()
def tw16482564225961355677:=()
def tw1009755940097909759:=()
def tw4050803351596413743:=()
def tw1643525214347853389:=()
def tw9388469284932900355:=()
def tw2627614853228569960:=()
def tw17893015256427193566:=()
def tw3214840919946527586:=()
def tw4301763703271226027:=()
def tw6353562329275782308:=()
def tw10227793258649814659:=()
def tw10427253582017052403:=()
def tw12158560115810978777:=()
def tw4885949377623662200:=()
def tw2162666410507314549:=()
def tw5688259383989124446:=()
def tw5156128612939521392:=()
def tw6313712331755402405:=()
def tw18054895125400453205:=()
def tw8155002030719740312:=()
def tw8101890677621598789:=()
def tw3318286468142907174:=()
def tw7884654557083350786:=()
def tw2355114237172204125:=()
def tw3461688333991418367:=()
def tw3656542655455302088:=()
def tw15629340112213764285:=()
def tw10546773952760063213:=()
def tw13448124873648082103:=()
def tw6831531617577572728:=()
def tw9234975665826834988:=()
def tw16875430589488503545:=()
def tw1374191470002838278:=()
def tw16796474119162374444:=()
def tw12211305664473230871:=()
def tw18335542150248579812:=()
def tw99533235322626306:=()
def tw5769619619913560214:=()
def tw9227644633865219665:=()
def tw6671765824716525556:=()
def tw15856031533356597349:=()
def tw13850837746929454972:=()
def tw7009151828636882816:=()
def tw2554157664279007896:=()
def tw10184296749386026783:=()
def tw941075081528962284:=()
def tw12016678532251448986:=()
def tw11042900108095807725:=()
def tw15573344399545576014:=()
def tw17784834876566633731:=()
def tw249192993789960224:=()
def tw4282985130772083596:=()
def tw5574494196120327432:=()
def tw12516742401641676593:=()
def tw11262856855408283234:=()
def tw5494215905024156355:=()
def tw12271759875734230336:=()
def tw1279083893806991346:=()
def tw5665266843916648811:=()
def tw11221924095585021748:=()
def tw13361245705077871102:=()
def tw1077784171769003204:=()
def tw13658372738239351967:=()
def tw12991907817610416656:=()
def tw17622384978611051381:=()
def tw14912344853305204204:=()
def tw1241267592704178251:=()
def tw2676780823151230868:=()
def tw14937994155516417843:=()
def tw14642384013537311319:=()
def tw2327718384688647639:=()
def tw16269499153124339728:=()
def tw7358941102231215883:=()
def tw4520580404485828304:=()
def tw14566554279952790268:=()
def tw5603651814281686921:=()
def tw6038025028116815085:=()
def tw4406276442367999413:=()
def tw16044295262974118437:=()
def tw17021864904926138539:=()
def tw7204940522571328132:=()
def tw11785079842383531873:=()
def tw12053063674233900680:=()
def tw9844810008603891978:=()
def tw8004559025126246467:=()
def tw17725499361654071111:=()
def tw13654041976162094213:=()
def tw10583707900289166455:=()
def tw9425623580518836397:=()
def tw18429381973544331171:=()
def tw14067655176490986999:=()
def tw3831234707140011513:=()
def tw11093316454212740868:=()
def tw5916391618204233745:=()
def tw13882518327176510026:=()
def tw5313266452484780683:=()
def tw16952831649640051333:=()
def tw4365592955852876316:=()
def tw8937759887914153863:=()
def tw895614993569964321:=()
def tw12929372160888213822:=()
def tw5243255880836727305:=()
def tw15197331479514218303:=()
def tw14181464600166328684:=()
def tw7347478106447269485:=()
def tw16409161070458559643:=()
def tw15570512453543401949:=()
def tw255684926199967778:=()
def tw11921929914943702981:=()
def tw5704472066710495076:=()
def tw4395035173070204522:=()
def tw16488787085167416912:=()
def tw9107276587684844425:=()
def tw4947212477347592971:=()
def tw2795452588059994970:=()
def tw4034351377110585239:=()
def tw18172635679928864531:=()
def tw2854397816301515810:=()
def tw18036758667771743500:=()
def tw16145245117351987950:=()
def tw1245970967593776066:=()
def tw16016771760074540747:=()
def tw11271108511202487460:=()
def tw13262755241906157539:=()
def tw13635731818125397520:=()
def tw4113153937200469733:=()
def tw12358136368179443122:=()
def tw8082678765761715655:=()
def tw8580124287382741467:=()
def tw8406120962895073535:=()
def tw8598663489078966001:=()
def tw9843897571328098775:=()
def tw16006171067482896144:=()
def tw10907220955445088549:=()
def tw16064817019310262997:=()
def tw5187679385040697961:=()
def tw7177136363306072346:=()
def tw633192067463063149:=()
def tw11163697122074320150:=()
def tw1276619001235577721:=()
def tw637946806481518366:=()
def tw361333783360175601:=()
def tw16495384970364405742:=()
def tw7103835102745200311:=()
def tw16579183813747899711:=()
def tw2262436756341335143:=()
def tw11135495172921937519:=()
def tw10848117552332634927:=()
def tw6416007671482854465:=()
def tw17511563541682819599:=()
def tw10772709574378643614:=()
def tw481787089791377841:=()
def tw17578434853791320987:=()
def tw12805417223173465945:=()
def tw7833129521572137803:=()
def tw6034044881652200045:=()
def tw18307492750091689609:=()
def tw16105741663365757989:=()
def tw4978382533229801207:=()
def tw7842838561964605289:=()
def tw16302361673152872651:=()
def tw5499666911038150818:=()
def tw2268269228789940098:=()
def tw5957498007537921583:=()
def tw6681607117126379554:=()
def tw14115251792453544341:=()
def tw12379902882470778804:=()
def tw10356826853608470842:=()
def tw3962687660449874704:=()
def tw8082631578041595892:=()
def tw1531372459292541227:=()
def tw2348431097227285299:=()
def tw8118683071496299968:=()
def tw484390657465273536:=()
def tw9855374067834471757:=()
def tw2658012087173211904:=()
def tw3433590695471559950:=()
def tw15490649132860854925:=()
def tw8483214392397008769:=()
def tw11034139883163525825:=()
def tw11937520324956251344:=()
def tw16389794606445922344:=()
def tw5784360968426781937:=()
def tw2798642860610786936:=()
def tw13351171415006706330:=()
def tw3869358625796274790:=()
def tw4743450958087908802:=()
def tw5358480788973929807:=()
def tw11658192205288806033:=()
def tw10258665733588005606:=()
def tw16974793934570984926:=()
def tw8332404910299271974:=()
def tw7982611513593218501:=()
def tw705436706075018378:=()
def tw11111894783677580637:=()
def tw11232968878171015876:=()
def tw2834247821603092783:=()
def tw14212744702119860608:=()
def tw6310466426875943463:=()
def tw7106457879242747975:=()
def tw10497700176078583762:=()
def tw979494650703111462:=()
def tw4741999184400105914:=()
def tw14613683695863118882:=()
def tw17592991183298581980:=()
def tw4957635253281156077:=()
def tw11215143471706953525:=()
def tw5784848227575814654:=()
def tw7980343719371825597:=()
def tw2080252654542656721:=()
def tw16811411488275360727:=()
def tw9380934342309801949:=()
def tw5602078526614675025:=()
def tw14455952467291132048:=()
def tw16439002603471443746:=()
def tw10109905424807867456:=()
def tw8559754702062145092:=()
def tw4657014557513615553:=()
def tw15097533204151329307:=()
def tw4962399573238040713:=()
def tw238383043286868209:=()
def tw4023721005008594321:=()
def tw10602442408257772183:=()
def tw15643790493859720331:=()
def tw11273794604771946813:=()
def tw6274401114512699282:=()
def tw11030396119720961910:=()
def tw6112229974766509319:=()
def tw10377895324645994698:=()
def tw1220217638569559431:=()
def tw3154319937046457133:=()
def tw5751183935540784822:=()
def tw12630325507059396378:=()
def tw9294613282957242401:=()
def tw6449349608072906236:=()
def tw1276900411630157456:=()
def tw14055965355380541898:=()
def tw5973660005953516492:=()
def tw5991179990425260924:=()
def tw5814443626713817358:=()
def tw11979351426217484287:=()
def tw11205123186980074024:=()
def tw16458073678684845914:=()
def tw3056316579022942252:=()
def tw11967752366569835353:=()
def tw7691021227358444676:=()
def tw10186699544115136223:=()
def tw7346340765228046044:=()
def tw14747796758540528266:=()
def tw4122701910108589309:=()
def tw6929750423292504984:=()
def tw2916225085469128337:=()
def tw13227305709337768837:=()
def tw6462511264108708915:=()
def tw9001188934507956309:=()
def tw11562861895777467760:=()
def tw7881317192107609884:=()
def tw11162520875519659440:=()
def tw9125205780696295029:=()
def tw8660505217533533760:=()
def tw2797091621621386944:=()
def tw5877680402167692386:=()
def tw3239450497632114603:=()
def tw574157019829874028:=()
def tw10799735850539201978:=()
def tw11702920300962297150:=()
def tw8632574893125160582:=()
def tw12782997554125386719:=()
def tw5755879914566275270:=()
def tw5521695755641378521:=()
def tw16711839573455907001:=()
def tw5112588703651199217:=()
def tw14683076022253424510:=()
def tw1216498190405656082:=()
def tw5540090439576859222:=()
def tw14273043697194792665:=()
def tw1325187056403420029:=()
def tw16193904256478790007:=()
def tw12453347828227281305:=()
def tw9053588224375830241:=()
def tw17002600935372797226:=()
def tw9401299482762134132:=()
def tw3931782079087654793:=()
def tw110147474307190887:=()
def tw3387878452690073313:=()
def tw8050397642219935916:=()
def tw5769410043785736935:=()
def tw15656605332682041377:=()
def tw17258896797236225317:=()
def tw10178710905913852365:=()
end PySem.W.Fast
noncomputable def PySem.W.Fast.tw4409931557069767519:PySem.Program:=PySem.Challenge.pw_matepoint_k51_houses_that_are_none
theorem PySem.W.Fast.te4409931557069767519:PySem.Challenge.pw_matepoint_k51_houses_that_are_none=PySem.W.Fast.tw4409931557069767519:=rfl
open PySem PySem.W PyProof.Rows
set_option maxRecDepth 100000 in
set_option maxHeartbeats 0 in
theorem PySem.Challenge.cw_matepoint_k51_houses_that_are_none_holds : PySem.Challenge.rw_matepoint_k51_houses_that_are_none.Holds := by
 w_on;o_law;z_head;(case hw=>w_witness2)
 k_fill
 refine My.walkX (l:=PySem.Challenge.rw_matepoint_k51_houses_that_are_none) rfl rfl (λ_=>rfl) ?T ?C ?B ?F
 case T=>exact λw=>(YG.mpr ⟨by k_is,(YG.mpr ⟨by k_is,(λ_ h=>absurd h YF)⟩)⟩)
 case C=>exact λw=>(YG.mpr ⟨⟨460,by kernel_rfl⟩,(YG.mpr ⟨⟨480,by kernel_rfl⟩,(λ_ h=>absurd h YF)⟩)⟩)
 case B=>exact λw=>by kernel_rfl
 case F =>
  intro w mg fa h KX G hmg
  refine' My.all_mk ?tT ?tB KX G hmg ?h0 ?h1 ?h2 ?h3 ?h4 ?h5 ?h6 ?h7 ?h8 ?h9 ?h10 ?h11 ?h12 ?h13 ?h14 ?ak15 ?a15 ?i15 ?l15 ?c15 ?mk15 ?mp15 ?ak16 ?a16 ?i16 ?l16 ?c16 ?ak17 ?a17 ?i17 ?l17 ?c17 ?ak18 ?a18 ?i18 ?l18 ?c18 ?ak19 ?a19 ?i19 ?l19 ?c19 ?ak20 ?a20 ?i20 ?l20 ?c20 ?ak21 ?a21 ?i21 ?l21 ?c21 ?h22 ?h23 ?h24 ?h25 ?h26 ?h27 ?h28 ?h29 ?h30 ?h31 ?h32 ?gv0 ?gv1 ?gv2 ?gl2 ?gz2 ?gs2 ?gv3 ?gv4 ?gl4 ?gz4 ?gs4 ?gv5 ?gv6 ?gv7 ?z0 ?z1 ?z2 ?z3 ?z4 ?z5 ?z6 ?z7 ?z8 ?z9 ?z10 ?z11 ?z12 ?cx0 ?cx1 ?cx2 ?cx3 ?cx4 ?cx5 ?cx6 ?cx7 ?cx8 ?cx9 ?cx10 ?cx11 ?cx12 ?cx13 ?q0a ?q0b ?q0c ?q1a ?q2a ?q3a ?q4a ?q5a ?q6a ?q7a ?q8a ?q9a ?q9b ?q9c ?q9d ?q10a ?q10b ?q11a ?q11b ?q11c ?q11d ?q11e ?q11f ?q12 ?q13 ?q14 ?q15 ?q16
  (case h0|h1|h2|h3|h4|h5|h6|h7|h8|h9|h10|h11|h12|h13|h14|h22|h23|h24|h25|h26|h27|h28|h29|h30|h31|h32=>refine' My.fe_in ?a ?l ?c;(case a=>k_is);(case l=>k_is);(case c=>k_is))
  (case tT=>exact(YG.mpr ⟨by k_is,(YG.mpr ⟨by k_is,(λ_ h=>absurd h YF)⟩)⟩))
  (case tB=>kernel_rfl)
  (case ak15=>k_is)
  (case a15=>kernel_rfl)
  (case i15=>kernel_rfl)
  (case l15|c15=>k_is)
  (case mk15=>kernel_rfl)
  (case mp15=>kernel_rfl)
  (case ak16=>k_is)
  (case a16=>kernel_rfl)
  (case i16=>kernel_rfl)
  (case l16|c16|ak17=>k_is)
  (case a17=>kernel_rfl)
  (case i17=>kernel_rfl)
  (case l17|c17|ak18=>k_is)
  (case a18=>kernel_rfl)
  (case i18=>kernel_rfl)
  (case l18|c18|ak19=>k_is)
  (case a19=>kernel_rfl)
  (case i19=>kernel_rfl)
  (case l19|c19|ak20=>k_is)
  (case a20=>kernel_rfl)
  (case i20=>kernel_rfl)
  (case l20|c20|ak21=>k_is)
  (case a21=>kernel_rfl)
  (case i21=>kernel_rfl)
  (case l21|c21|gv0|gv1|gv2|gl2=>k_is)
  (case gz2=>decide)
  (case gs2=>exact(.cons (by decide +kernel) (.cons (by decide +kernel) (.cons (by decide +kernel) (.cons (by decide +kernel) (.cons (by decide +kernel) (.cons (by decide +kernel) .nil)))))))
  (case gv3|gv4|gl4=>k_is)
  (case gz4=>decide)
  (case gs4=>exact(.cons (by decide +kernel) (.cons (by decide +kernel) (.cons (by decide +kernel) (.cons (by decide +kernel) .nil)))))
  (case gv5|gv6|gv7|z0|z1|z2|z3|z4|z5|z6|z7|z8|z9|z10|z11|z12|cx0|cx1|cx2|cx3|cx4|cx5|cx6|cx7|cx8|cx9|cx10|cx11|cx12|cx13=>k_is)
  (case q0a=>kernel_rfl)
  (case q0b=>kernel_rfl)
  (case q0c=>kernel_rfl)
  (case q1a=>kernel_rfl)
  (case q2a=>kernel_rfl)
  (case q3a=>kernel_rfl)
  (case q4a=>kernel_rfl)
  (case q5a=>kernel_rfl)
  (case q6a=>kernel_rfl)
  (case q7a=>kernel_rfl)
  (case q8a=>kernel_rfl)
  (case q9a=>kernel_rfl)
  (case q9b=>kernel_rfl)
  (case q9c=>kernel_rfl)
  (case q9d=>kernel_rfl)
  (case q10a=>kernel_rfl)
  (case q10b=>kernel_rfl)
  (case q11a=>kernel_rfl)
  (case q11b=>kernel_rfl)
  (case q11c=>kernel_rfl)
  (case q11d=>kernel_rfl)
  (case q11e=>kernel_rfl)
  (case q11f=>kernel_rfl)
  (case q12=>kernel_rfl)
  (case q13=>kernel_rfl)
  (case q14=>kernel_rfl)
  (case q15=>kernel_rfl)
  (case q16=>kernel_rfl)
end
